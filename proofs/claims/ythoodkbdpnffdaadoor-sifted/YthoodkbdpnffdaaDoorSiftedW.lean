/-
  Own work: 'Sifted' answers true, whatever its arguments (a walk over the contracts of the calls).
-/
import Derived.Test.YthoodkbdpnffdaaDoorSwappedW
namespace Go.Proofs.YthoodkbdpnffdaaDoor
open Go.RowKit
open Cho (U64 Tab full col Nd Red Dg DgOk)

/-- A store like another, by this order. -/
def Lk (st0 st : St) (ord : List Nat) : Prop := ∃ d, Cho.Same st0.n st0.dg d ∧ st = st0.take d ∧ d.ord = ord
theorem lk_self {st : St} (hi : Inv st) (hc : Clean st) : Lk st st st.ord := ⟨st.dg, same_dg hi hc, rfl, rfl⟩
theorem Lk.swp {st0 st : St} {ord : List Nat} (h : Lk st0 st ord) {k : Nat} (hk : k + 1 < st0.n) : Lk st0 (st.swp k) (Cho.swp ord k) := by
  obtain ⟨d, hs, rfl, rfl⟩ := h
  exact ⟨d.move k (k + 1), hs.trans (Cho.move_same hs.ok (by omega) hk), rfl, Cho.mv_swp d.ord k⟩
theorem Lk.len {st0 st : St} {ord : List Nat} (h : Lk st0 st ord) : st.ns.length = Cho.cnt' st0.n st0.dg.tabs ord := by
  obtain ⟨d, hs, rfl, rfl⟩ := h
  exact hs.few
theorem Lk.n {st0 st : St} {ord : List Nat} (h : Lk st0 st ord) : st.n = st0.n ∧ st.room = st0.room := by
  obtain ⟨d, _, rfl, _⟩ := h; exact ⟨rfl, rfl⟩
/-- What sifting leaves. -/
structure Sfd (n : Nat) (ts : List Nat) (st1 st2 : St) : Prop where
  n' : st2.n = n
  room : st2.room = 4000
  ordl : st2.ord.length = n
  tabs : ∀ i f, ts[i]? = some f → st2.live (i + 1) ∧ st2.tab (i + 1) = f
  few : st2.ns.length ≤ st1.ns.length
  lk : Lk st2 st2 st2.ord
  cnt : st2.ns.length = Cho.cnt' n st2.dg.tabs st2.ord
  idle : st2.ord = st1.ord → ∀ k, k + 1 < n → st2.ns.length ≤ Cho.cnt' n st2.dg.tabs (Cho.swp st2.ord k)
theorem sfd {n : Nat} {ts : List Nat} {st1 : St} (hi : Inv st1) (hc : Clean st1) (hn : st1.n = n) (hr : st1.room = 4000) (ht : ∀ i f, ts[i]? = some f → st1.live (i + 1) ∧ st1.tab (i + 1) = f) : Sfd n ts st1 st1.sifted := by
  subst hn
  obtain ⟨hs, hle, hmv⟩ := Cho.sift_ok hi.dg
  have tk := taken hi hc hs
  have hcnt := Cho.DgOk.count (d := st1.sifted.dg) tk.inv.dg tk.cl.full
  refine ⟨rfl, hr, hs.ok.o.len, fun i f hf => ?_, sifted_few hi hc, lk_self tk.inv tk.cl, hcnt, fun e k hk => ?_⟩
  · obtain ⟨a, b⟩ := ht i f hf
    exact ⟨a, by rw [← b]; exact tk.tab _ a⟩
  · have h1 := hmv k (k + 1) (by omega) hk
    rw [Cho.mv_swp] at h1
    have et : st1.sifted.dg.tabs = st1.dg.tabs := hs.tabs
    rw [et, e]
    exact h1

set_option maxRecDepth 100000 in
set_option maxHeartbeats 4000000 in
theorem sifted_walk (raw : Int) (cap cap2 : Nat) (ao ao2 : Option Addr) (l : List Nat) (steps : List Int) (w : World) (hc : Cols w) (hl : SlU w ao l) (hu : ∀ t ∈ l, U64 t) (hll : l.length ≤ 9223372036854775807) (hst : SlI w ao2 steps) (h1 : -9223372036854775808 ≤ raw) (h2 : raw ≤ 9223372036854775807) :
    Calls Tryd.prog 10 #[.int .i64 raw, .slice ao l.length cap, .slice ao2 steps.length cap2] w fun e w' => e = .returned (.bool true) ∧ Below w.heap.size w w' := by
  have HL : Hid (SlU w ao l) := hl
  have HU : Hid (∀ t ∈ l, U64 t) := hu
  have HC : Hid (Cols w) := hc
  have HST : Hid (SlI w ao2 steps) := hst
  have hpos := cols_pos hc
  clear hl hu hc hst
  go_enter Tryd.func10, Tryd.ntmps10
  go_wp2_with fail
  refine (vars_calls raw _ h1 h2).mono ?_
  rintro e w1 ⟨⟨n, hn1, hn6, rfl⟩, rfl⟩
  go_wp2_with fail
  refine (filled_calls n cap ao l _ hn1 hn6 HC.out HL.out HU.out hll).mono ?_
  rintro e w2 ⟨s, hs', rfl, f2, o2⟩
  obtain ⟨ah, caph, rfl⟩ := owns_slice o2
  have hlen := tabsOf_len n l
  have hle20 : (tabsOf n l).length ≤ 20 := by rw [hlen]; omega
  have hlel : (tabsOf n l).length ≤ l.length := by rw [hlen]; omega
  have hmk := mk_hv f2 (by omega)
  have F2 : Hid (Hv w1.heap.size w1 w2 s (stOf n 4000 (tabsOf n l))) := hmk.1
  have HOF : Hid (Of n 4000 (tabsOf n l) (stOf n 4000 (tabsOf n l))) := hmk.2
  have O2 : Hid (w2.ownsRow w1.heap.size 30 1 (.slice ah (tabsOf n l).length caph) (tabsOf n l).length (hv ((List.range (tabsOf n l).length).map (· + 1)))) := o2
  have HTS : Hid (∀ j (h : j < l.length), j < 20 → (tabsOf n l)[j]? = some (cutT l[j] n)) := fun j h h20 => tabsOf_get n l j h h20
  have hs2 := f2.size
  have hb12 := f2.bel.size
  have K2 : Hid (Calls Tryd.prog 24 #[.int .i64 n, .slice ao l.length cap] w2 fun e w' => ∃ t hv', e = .returned (.tuple #[.pointer (some ⟨t, 0, none⟩), hv', .bool true]) ∧ Hv w1.heap.size w1 w' t (stOf n 4000 (tabsOf n l)) ∧ Below w2.heap.size w2 w' ∧ w2.heap.size ≤ t) := by
    have hsl2 : SlU w2 ao l := fun i hi => by
      obtain ⟨g, o, e, hg, hcell⟩ := HL.out i hi
      exact ⟨g, o, e, by omega, (f2.bel.cell (p := ⟨g, o + i, none⟩) hg).trans hcell⟩
    refine (filled_calls n cap ao l w2 hn1 hn6 f2.cols hsl2 HU.out hll).mono ?_
    rintro e w' ⟨t, hv', rfl, f3, _⟩
    obtain ⟨a, _⟩ := mk_hv f3 (by omega)
    exact ⟨t, hv', rfl, ⟨Nat.le_trans hb12 a.lo, f2.bel.trans (a.bel.mono hb12), a.has, a.cl⟩, a.bel, a.lo⟩
  clear f2 o2 HC hmk hlen
  generalize tabsOf n l = ts at *
  generalize hS0 : stOf n 4000 ts = st0 at *
  clear hS0
  have HTI : Hid (∀ st' : St, (∀ i f, ts[i]? = some f → st'.live (i + 1) ∧ st'.tab (i + 1) = f) → ∀ i (_ : i < ts.length) (h2 : i < l.length), st'.live (i + 1) ∧ st'.tab (i + 1) = cutT l[i] n) := by
    intro st' hh i hi h2
    exact hh i _ (HTS.out i h2 (by omega))
  generalize hM : ts.length = m at *
  have HM : Hid (ts.length = m) := hM
  clear hM
  go_wp2_with fail
  refine K2.out.mono ?_
  rintro e w3 ⟨t, hv3, rfl, t3, b3, hst3⟩
  have F3 : Hid (Hv w1.heap.size w1 w3 s st0) := F2.out.below b3
  have T3 : Hid (Hv w1.heap.size w1 w3 t st0) := t3
  have O3 : Hid (w3.ownsRow w1.heap.size 30 1 (.slice ah m caph) m (hv ((List.range m).map (· + 1)))) := row_below O2.out b3
  have hne : s ≠ t := by omega
  have KS : Hid (Calls Tryd.prog 34 #[.pointer (some ⟨s, 0, none⟩), .int .i64 n, .slice ao2 steps.length cap2] w3 fun e w' => e = .returned (.bool true) ∧ Hv w1.heap.size w1 w' s (st0.swps (lvls n steps)) ∧ w3.grownBy w' (some s)) := swaps_calls s n cap2 w1 w3 ao2 steps st0 F3.out HOF.out.n' HOF.out.room' HST.out
  clear b3 t3 K2 F2 O2
  go_wp2_with fail
  refine KS.out.mono ?_
  rintro e w4 ⟨rfl, f4, g4⟩
  have F4 : Hid (Hv w1.heap.size w1 w4 s (st0.swps (lvls n steps))) := f4
  have T4 : Hid (Hv w1.heap.size w1 w4 t st0) := T3.out.beside F3.out (Ne.symm hne) hpos g4
  have O4 : Hid (w4.ownsRow w1.heap.size 30 1 (.slice ah m caph) m (hv ((List.range m).map (· + 1)))) := rowk O3.out g4 F3.out.blk (by decide)
  have KT : Hid (Calls Tryd.prog 34 #[.pointer (some ⟨t, 0, none⟩), .int .i64 n, .slice ao2 steps.length cap2] w4 fun e w' => e = .returned (.bool true) ∧ Hv w1.heap.size w1 w' t (st0.swps (lvls n steps)) ∧ w4.grownBy w' (some t)) := swaps_calls t n cap2 w1 w4 ao2 steps st0 T4.out HOF.out.n' HOF.out.room' HST.out
  clear f4 g4 F3 T3 O3 KS
  go_wp2_with fail
  refine KT.out.mono ?_
  rintro e w5 ⟨rfl, t5, g5⟩
  have F5 : Hid (Hv w1.heap.size w1 w5 s (st0.swps (lvls n steps))) := F4.out.beside T4.out hne hpos g5
  have T5 : Hid (Hv w1.heap.size w1 w5 t (st0.swps (lvls n steps))) := t5
  have O5 : Hid (w5.ownsRow w1.heap.size 30 1 (.slice ah m caph) m (hv ((List.range m).map (· + 1)))) := rowk O4.out g5 T4.out.blk (by decide)
  have S1 := swd_swps HOF.out (lvls n steps) lvls_lt
  clear t5 g5 F4 T4 O4 KT
  generalize st0.swps (lvls n steps) = st1 at *
  have HS1 : Hid (st1.n = n ∧ st1.room = 4000 ∧ ∀ i f, ts[i]? = some f → st1.live (i + 1) ∧ st1.tab (i + 1) = f) := ⟨S1.n', S1.room, S1.tabs⟩
  have HOL : Hid (st1.ord.length = n) := by show st1.ord.length = n; rw [F5.out.has.inv.len, S1.n']
  have SF : Hid (Sfd n ts st1 st1.sifted) := sfd F5.out.has.inv F5.out.cl S1.n' S1.room S1.tabs
  clear S1
  have hfew1 := F5.out.has.few
  have KO : Hid (∀ (q : Nat) (W : World) (st : St), Hv w1.heap.size w1 W q st → st.ord.length = n → Calls Tryd.prog 36 #[.pointer (some ⟨q, 0, none⟩)] W fun e w' => ∃ g cap, e = .returned (.slice (some ⟨g, 0, none⟩) n cap) ∧ Below W.heap.size W w' ∧ w'.ownsRow 0 3 1 (.slice (some ⟨g, 0, none⟩) n cap) st.ord.length (lv st.ord)) := by
    intro q W st hq ho
    have := sorder_calls q st W hq.has
    rw [ho] at this
    refine this.mono ?_
    rintro e w' ⟨g, cap, rfl, l⟩
    exact ⟨g, cap, rfl, l.bel, owns_low l.row (Nat.zero_le _)⟩
  have KSM : Hid (∀ (W : World) (g cap g' cap' : Nat) (a b : List Nat), a.length = n → b.length = n → W.ownsRow 0 3 1 (.slice (some ⟨g, 0, none⟩) n cap) a.length (lv a) → W.ownsRow 0 3 1 (.slice (some ⟨g', 0, none⟩) n cap') b.length (lv b) → Calls Tryd.prog 35 #[.slice (some ⟨g, 0, none⟩) n cap, .slice (some ⟨g', 0, none⟩) n cap'] W fun e w' => e = .returned (.bool (decide (a = b))) ∧ Below W.heap.size W w') := by
    intro W g cap g' cap' a b ha hb h1 h2
    refine (ksame_calls _ _ a b W (rowA_of h1 ha.symm (by omega)) (rowA_of h2 hb.symm (by omega))).mono ?_
    rintro e w' ⟨rfl, q, rfl⟩
    exact ⟨rfl, below_drewN (Below.refl _ _) q⟩
  go_wp2_with fail
  refine (KO.out s w5 st1 F5.out HOL.out).mono ?_
  rintro e w6 ⟨gb, cb, rfl, b6, r6⟩
  have F6 : Hid (Hv w1.heap.size w1 w6 s st1) := F5.out.below b6
  have T6 : Hid (Hv w1.heap.size w1 w6 t st1) := T5.out.below b6
  have O6 : Hid (w6.ownsRow w1.heap.size 30 1 (.slice ah m caph) m (hv ((List.range m).map (· + 1)))) := row_below O5.out b6
  have R6 : Hid (w6.ownsRow 0 3 1 (.slice (some ⟨gb, 0, none⟩) n cb) st1.ord.length (lv st1.ord)) := r6
  clear b6 r6 F5 T5 O5
  go_wp2_with fail
  refine (KO.out t w6 st1 T6.out HOL.out).mono ?_
  rintro e w7 ⟨g7, c7, rfl, b7, r7⟩
  have F7 : Hid (Hv w1.heap.size w1 w7 s st1) := F6.out.below b7
  have T7 : Hid (Hv w1.heap.size w1 w7 t st1) := T6.out.below b7
  have O7 : Hid (w7.ownsRow w1.heap.size 30 1 (.slice ah m caph) m (hv ((List.range m).map (· + 1)))) := row_below O6.out b7
  have R7 : Hid (w7.ownsRow 0 3 1 (.slice (some ⟨gb, 0, none⟩) n cb) st1.ord.length (lv st1.ord)) := row_below R6.out b7
  have Q7 : Hid (w7.ownsRow 0 3 1 (.slice (some ⟨g7, 0, none⟩) n c7) st1.ord.length (lv st1.ord)) := r7
  clear b7 r7 F6 T6 O6 R6
  go_wp2_with fail
  refine (KSM.out w7 gb cb g7 c7 st1.ord st1.ord HOL.out HOL.out R7.out Q7.out).mono ?_
  rintro e w8 ⟨rfl, b8⟩
  have F8 : Hid (Hv w1.heap.size w1 w8 s st1) := F7.out.below b8
  have T8 : Hid (Hv w1.heap.size w1 w8 t st1) := T7.out.below b8
  have O8 : Hid (w8.ownsRow w1.heap.size 30 1 (.slice ah m caph) m (hv ((List.range m).map (· + 1)))) := row_below O7.out b8
  have R8 : Hid (w8.ownsRow 0 3 1 (.slice (some ⟨gb, 0, none⟩) n cb) st1.ord.length (lv st1.ord)) := row_below R7.out b8
  clear b8 F7 T7 O7 R7 Q7
  go_wp2_with fail
  refine (used_calls s st1 w8 F8.out.has.lies).mono ?_
  rintro e w9 ⟨rfl, rfl⟩
  go_wp2_with fail
  refine (used_calls t st1 w9 T8.out.has.lies).mono ?_
  rintro e w10 ⟨rfl, rfl⟩
  go_wp2_with fail
  refine (hv_sift F8.out).mono ?_
  rintro e w11 ⟨rfl, f11, g11⟩
  have F11 : Hid (Hv w1.heap.size w1 w11 s st1.sifted) := f11
  have T11 : Hid (Hv w1.heap.size w1 w11 t st1) := T8.out.beside F8.out (Ne.symm hne) hpos g11
  have O11 : Hid (w11.ownsRow w1.heap.size 30 1 (.slice ah m caph) m (hv ((List.range m).map (· + 1)))) := rowk O8.out g11 F8.out.blk (by decide)
  have R11 : Hid (w11.ownsRow 0 3 1 (.slice (some ⟨gb, 0, none⟩) n cb) st1.ord.length (lv st1.ord)) := rowk R8.out g11 F8.out.blk (by decide)
  clear f11 g11 F8 T8 O8 R8
  go_wp2_with fail
  refine (hv_sift T11.out).mono ?_
  rintro e w12 ⟨rfl, t12, g12⟩
  have F12 : Hid (Hv w1.heap.size w1 w12 s st1.sifted) := F11.out.beside T11.out hne hpos g12
  have T12 : Hid (Hv w1.heap.size w1 w12 t st1.sifted) := t12
  have O12 : Hid (w12.ownsRow w1.heap.size 30 1 (.slice ah m caph) m (hv ((List.range m).map (· + 1)))) := rowk O11.out g12 T11.out.blk (by decide)
  have R12 : Hid (w12.ownsRow 0 3 1 (.slice (some ⟨gb, 0, none⟩) n cb) st1.ord.length (lv st1.ord)) := rowk R11.out g12 T11.out.blk (by decide)
  clear t12 g12 F11 T11 O11 R11
  generalize st1.sifted = st2 at *
  have hle21 := SF.out.few
  go_wp2_with fail
  refine (used_calls s st2 w12 F12.out.has.lies).mono ?_
  rintro e w13 ⟨rfl, rfl⟩
  go_wp2_with fail
  refine (KO.out s w13 st2 F12.out SF.out.ordl).mono ?_
  rintro e w14 ⟨g14, c14, rfl, b14, r14⟩
  have F14 : Hid (Hv w1.heap.size w1 w14 s st2) := F12.out.below b14
  have T14 : Hid (Hv w1.heap.size w1 w14 t st2) := T12.out.below b14
  have O14 : Hid (w14.ownsRow w1.heap.size 30 1 (.slice ah m caph) m (hv ((List.range m).map (· + 1)))) := row_below O12.out b14
  have R14 : Hid (w14.ownsRow 0 3 1 (.slice (some ⟨gb, 0, none⟩) n cb) st1.ord.length (lv st1.ord)) := row_below R12.out b14
  have Q14 : Hid (w14.ownsRow 0 3 1 (.slice (some ⟨g14, 0, none⟩) n c14) st2.ord.length (lv st2.ord)) := r14
  clear b14 r14 F12 T12 O12 R12
  go_wp2_with fail
  refine (KO.out t w14 st2 T14.out SF.out.ordl).mono ?_
  rintro e w15 ⟨g15, c15, rfl, b15, r15⟩
  have F15 : Hid (Hv w1.heap.size w1 w15 s st2) := F14.out.below b15
  have O15 : Hid (w15.ownsRow w1.heap.size 30 1 (.slice ah m caph) m (hv ((List.range m).map (· + 1)))) := row_below O14.out b15
  have R15 : Hid (w15.ownsRow 0 3 1 (.slice (some ⟨gb, 0, none⟩) n cb) st1.ord.length (lv st1.ord)) := row_below R14.out b15
  have Q15 : Hid (w15.ownsRow 0 3 1 (.slice (some ⟨g14, 0, none⟩) n c14) st2.ord.length (lv st2.ord)) := row_below Q14.out b15
  have P15 : Hid (w15.ownsRow 0 3 1 (.slice (some ⟨g15, 0, none⟩) n c15) st2.ord.length (lv st2.ord)) := r15
  clear b15 r15 F14 T14 O14 R14 Q14
  go_wp2_with fail
  refine (KSM.out w15 g14 c14 g15 c15 st2.ord st2.ord SF.out.ordl SF.out.ordl Q15.out P15.out).mono ?_
  rintro e w16 ⟨rfl, b16⟩
  have F16 : Hid (Hv w1.heap.size w1 w16 s st2) := F15.out.below b16
  have O16 : Hid (w16.ownsRow w1.heap.size 30 1 (.slice ah m caph) m (hv ((List.range m).map (· + 1)))) := row_below O15.out b16
  have R16 : Hid (w16.ownsRow 0 3 1 (.slice (some ⟨gb, 0, none⟩) n cb) st1.ord.length (lv st1.ord)) := row_below R15.out b16
  clear b16 F15 O15 R15 Q15 P15
  have KTB : Hid (Calls Tryd.prog 37 #[.pointer (some ⟨s, 0, none⟩), .int .i64 n, .slice ah m caph, .slice ao l.length cap] w16 fun e w' => e = .returned (.bool true) ∧ Below w16.heap.size w16 w') := tables_calls _ s n m caph cap w1 w16 ah ao l _ F16.out SF.out.n' O16.out HL.out HU.out hlel hle20 (HTI.out _ SF.out.tabs)
  go_wp2_with fail
  refine KTB.out.mono ?_
  rintro e w17 ⟨rfl, b17⟩
  have F17 : Hid (Hv w1.heap.size w1 w17 s st2) := F16.out.below b17
  have R17 : Hid (w17.ownsRow 0 3 1 (.slice (some ⟨gb, 0, none⟩) n cb) st1.ord.length (lv st1.ord)) := row_below R16.out b17
  clear b17 F16 O16 R16 KTB
  have hnl : ¬ ((st1.ns.length : Int) < (st2.ns.length : Int)) := by omega
  have hfew2 := F17.out.has.few
  go_wp2_with fail
  refine (KO.out s w17 st2 F17.out SF.out.ordl).mono ?_
  rintro e w18 ⟨g18, c18, rfl, b18, r18⟩
  have F18 : Hid (Hv w1.heap.size w1 w18 s st2) := F17.out.below b18
  have R18 : Hid (w18.ownsRow 0 3 1 (.slice (some ⟨gb, 0, none⟩) n cb) st1.ord.length (lv st1.ord)) := row_below R17.out b18
  have Q18 : Hid (w18.ownsRow 0 3 1 (.slice (some ⟨g18, 0, none⟩) n c18) st2.ord.length (lv st2.ord)) := r18
  clear b18 r18 F17 R17
  go_wp2_with fail
  refine (KSM.out w18 g18 c18 gb cb st2.ord st1.ord SF.out.ordl HOL.out Q18.out R18.out).mono ?_
  rintro e w19 ⟨rfl, b19⟩
  have F19 : Hid (Hv w1.heap.size w1 w19 s st2) := F18.out.below b19
  clear b19 F18 R18 Q18
  by_cases hid : st2.ord = st1.ord
  · have hdt : decide (st2.ord = st1.ord) = true := decide_eq_true hid
    have HID : Hid (∀ k, k + 1 < n → st2.ns.length ≤ Cho.cnt' n st2.dg.tabs (Cho.swp st2.ord k)) := SF.out.idle hid
    rw [hdt]
    clear hid hdt
    go_wp2_with fail
    go_loopw [18, 24] (fun _ x wr => ∃ k : Nat, k < n ∧ x = .int .i64 k ∧ ∃ st', Hid (Hv w1.heap.size w1 wr s st') ∧ Hid (Lk st2 st' st2.ord)) (fun _ x _ => n - (intOf x).toNat)
    case atStart => exact ⟨0, by omega, rfl, st2, F19, SF.out.lk⟩
    case round =>
      obtain ⟨k, hk, rfl, st', FR, LR⟩ := hrel
      clear F19
      by_cases hkn : k + 1 < n
      · have hkn' : (k : Int) + 1 < (n : Int) := by omega
        have hn2 := SF.out.n'
        have hr2 := SF.out.room
        have hln := LR.out.n
        have L1 : Hid (Lk st2 (st'.swp k) (Cho.swp st2.ord k)) := LR.out.swp (by rw [hn2]; exact hkn)
        have L2 : Hid (Lk st2 ((st'.swp k).swp k) st2.ord) := by
          have := L1.out.swp (k := k) (by rw [hn2]; exact hkn)
          rw [Cho.swp_swp _ _ (by rw [SF.out.ordl]; exact hkn)] at this
          exact this
        have KS : Hid (Calls Tryd.prog 38 #[.pointer (some ⟨s, 0, none⟩), .int .i64 (k : Nat)] wr fun e w' => e = .returned (.int .i64 0) ∧ Hv w1.heap.size w1 w' s (st'.swp k) ∧ wr.grownBy w' (some s)) := hv_swap FR.out (by rw [hln.1, hn2]; exact hkn) (by rw [hln.2, hr2])
        have hle1 : st2.ns.length ≤ (st'.swp k).ns.length := by rw [L1.out.len, hn2]; exact HID.out k hkn
        have heq2 : ((st'.swp k).swp k).ns.length = st2.ns.length := by rw [L2.out.len, SF.out.cnt, hn2]
        have HEQ : Hid (((st'.swp k).swp k).ns.length = st2.ns.length) := heq2
        have hln1 := L1.out.n
        have HN3 : Hid ((st'.swp k).n = n ∧ (st'.swp k).room = 4000) := ⟨by rw [hln1.1, hn2], by rw [hln1.2, hr2]⟩
        clear heq2 FR LR L1 hln hln1 hn2 hr2
        generalize st'.swp k = st3 at *
        go_wp2_with fail
        refine KS.out.mono ?_
        rintro e w20 ⟨rfl, f20, _⟩
        have F20 : Hid (Hv w1.heap.size w1 w20 s st3) := f20
        have hf3 := f20.has.few
        have KS2 : Hid (Calls Tryd.prog 38 #[.pointer (some ⟨s, 0, none⟩), .int .i64 (k : Nat)] w20 fun e w' => e = .returned (.int .i64 0) ∧ Hv w1.heap.size w1 w' s (st3.swp k) ∧ w20.grownBy w' (some s)) := hv_swap f20 (by rw [HN3.out.1]; exact hkn) HN3.out.2
        clear f20 KS
        have hnl3 : ¬ ((st3.ns.length : Int) < (st2.ns.length : Int)) := by omega
        go_wp2_with fail
        refine (used_calls s st3 w20 F20.out.has.lies).mono ?_
        rintro e w21 ⟨rfl, rfl⟩
        go_wp2_with fail
        refine KS2.out.mono ?_
        rintro e w22 ⟨rfl, f22, _⟩
        have F22 : Hid (Hv w1.heap.size w1 w22 s (st3.swp k)) := f22
        have KU : Hid (Calls Tryd.prog 26 #[.pointer (some ⟨s, 0, none⟩)] w22 fun e w' => e = .returned (.int .i64 (st2.ns.length : Nat)) ∧ w' = w22) := by
          have := used_calls s _ w22 f22.has.lies
          rw [HEQ.out] at this
          exact this
        clear f22 KS2 F20
        go_wp2_with fail
        refine KU.out.mono ?_
        rintro e w23 ⟨rfl, rfl⟩
        go_wp2_with fail
        exact ⟨⟨k + 1, by omega, by go_num, _, F22, L2⟩, by simp [intOf]; omega⟩
      · have hkn' : ¬ ((k : Int) + 1 < (n : Int)) := by omega
        go_wp2_with fail
        go_ret
        exact ⟨rfl, FR.out.bel⟩
  · have hdt : decide (st2.ord = st1.ord) = false := decide_eq_false hid
    rw [hdt]
    clear hid hdt
    go_wp2_with fail
    go_loopw [18, 24] (fun _ x wr => x = .int .i64 0 ∧ wr = w19) (fun _ _ _ => 0)
    case atStart => exact ⟨rfl, rfl⟩
    case round =>
      obtain ⟨rfl, rfl⟩ := hrel
      by_cases h1n : 1 < n
      · go_wp2_with fail
        go_ret
        exact ⟨rfl, F19.out.bel⟩
      · go_wp2_with fail
        go_ret
        exact ⟨rfl, F19.out.bel⟩
end Go.Proofs.YthoodkbdpnffdaaDoor
