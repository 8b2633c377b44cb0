/-
  Own work: 'Swapped' answers true, whatever its arguments (a walk over the contracts of the calls).
-/
import Derived.Test.YthoodkbdpnffdaaDoorTablesW
namespace Go.Proofs.YthoodkbdpnffdaaDoor
open Go.RowKit
open Cho (U64 Tab full col Nd Red Dg DgOk)

theorem row_below {w w' : World} {B sz n : Nat} {e : TypeId} {v : Value} {xs : List Value} (h : w.ownsRow B e sz v n xs) (hb : Below w.heap.size w w') : w'.ownsRow B e sz v n xs := owns_kept h fun g hg => hb.block g (h.lt g hg).2
theorem rowA_of {w : World} {B g n cap : Nat} {l : List Nat} (h : w.ownsRow B 3 1 (.slice (some ⟨g, 0, none⟩) n cap) l.length (lv l)) (hn : n = l.length) (hl : l.length ≤ 1000) : RowA w (.slice (some ⟨g, 0, none⟩) n cap) l := by
  refine ⟨some ⟨g, 0, none⟩, cap, by rw [hn], hl, fun i hi => ⟨g, rfl, ?_⟩⟩
  have := h.cells (g := g) rfl i (.int .i64 (l[i] : Nat)) (by simp [lv, hi])
  rw [Addr.add_mid, Nat.zero_add] at this
  exact this
/-- There and back. -/
theorem swp_back (ks : List Nat) : ∀ ord : List Nat, (∀ k ∈ ks, k + 1 < ord.length) → (ks ++ ks.reverse).foldl Cho.swp ord = ord := by
  induction ks with
  | nil => intro _ _; rfl
  | cons k ks ih =>
    intro ord h
    have e : (k :: ks) ++ (k :: ks).reverse = k :: ((ks ++ ks.reverse) ++ [k]) := by simp
    rw [e]
    simp only [List.foldl_cons, List.foldl_append, List.foldl_nil]
    have := ih (Cho.swp ord k) (fun j hj => by rw [Cho.swp_len]; exact h j (by simp [hj]))
    rw [List.foldl_append] at this
    rw [this]
    exact Cho.swp_swp ord k (h k (by simp))
theorem lvls_lt {n : Nat} {l : List Int} : ∀ k ∈ lvls n l, k + 1 < n := by
  intro k hk
  unfold lvls at hk
  split at hk
  · rename_i h1
    obtain ⟨c, _, rfl⟩ := List.mem_map.1 hk
    have := pkN_lt c (n - 1) (by omega)
    omega
  · simp at hk
theorem swps_app (st : St) (us vs : List Nat) : st.swps (us ++ vs) = (st.swps us).swps vs := by simp [St.swps]
theorem drop_rev (ks : List Nat) (j : Nat) (hj : j < ks.length) : (ks.drop j).reverse = (ks.drop (j + 1)).reverse ++ [ks[j]] := by
  rw [List.drop_eq_getElem_cons hj]; simp
/-- What holds of a store behind some swaps, of which all functions are known. -/
structure Swd (n : Nat) (ts : List Nat) (st0 st : St) (ord : List Nat) : Prop where
  n' : st.n = n
  room : st.room = 4000
  ord' : st.ord = ord
  tabs : ∀ i f, ts[i]? = some f → st.live (i + 1) ∧ st.tab (i + 1) = f
  len : st.ns.length = Cho.cnt' n st0.dg.tabs ord
theorem swd_swps {n : Nat} {ts : List Nat} {st0 : St} (h : Of n 4000 ts st0) (ks : List Nat) (hk : ∀ k ∈ ks, k + 1 < n) : Swd n ts st0 (st0.swps ks) (ks.foldl Cho.swp st0.ord) := by
  have hn := h.n'
  subst hn
  obtain ⟨d, hs, e1, e2⟩ := swps_same h.inv h.cl ks hk
  have ht := taken h.inv h.cl hs
  rw [e1]
  refine ⟨rfl, h.room', e2, fun i f hf => ?_, ?_⟩
  · obtain ⟨hi, rfl⟩ := List.getElem?_eq_some_iff.1 hf
    obtain ⟨a, b⟩ := h.tabs i hi
    exact ⟨a, by rw [ht.tab _ a, b]⟩
  · have := hs.few
    rw [e2] at this
    exact this

set_option maxRecDepth 100000 in
set_option maxHeartbeats 4000000 in
theorem swapped_walk (raw : Int) (cap cap2 : Nat) (ao ao2 : Option Addr) (l : List Nat) (steps : List Int) (w : World) (hc : Cols w) (hl : SlU w ao l) (hu : ∀ t ∈ l, U64 t) (hll : l.length ≤ 9223372036854775807) (hst : SlI w ao2 steps) (h1 : -9223372036854775808 ≤ raw) (h2 : raw ≤ 9223372036854775807) :
    Calls Tryd.prog 9 #[.int .i64 raw, .slice ao l.length cap, .slice ao2 steps.length cap2] w fun e w' => e = .returned (.bool true) ∧ Below w.heap.size w w' := by
  have HL : Hid (SlU w ao l) := hl
  have HU : Hid (∀ t ∈ l, U64 t) := hu
  have HC : Hid (Cols w) := hc
  have HST : Hid (SlI w ao2 steps) := hst
  have hsl := hst.len
  clear hl hu hc hst
  go_enter Tryd.func9, Tryd.ntmps9
  go_wp2_with fail
  refine (vars_calls raw _ h1 h2).mono ?_
  rintro e w1 ⟨⟨n, hn1, hn6, rfl⟩, rfl⟩
  go_wp2_with fail
  refine (filled_calls n cap ao l _ hn1 hn6 HC.out HL.out HU.out hll).mono ?_
  rintro e w2 ⟨s, hs', rfl, f2, o2⟩
  obtain ⟨ah, caph, rfl⟩ := owns_slice o2
  have hlen := tabsOf_len n l
  have hle20 : (tabsOf n l).length ≤ 20 := by rw [hlen]; omega
  have hlel : (tabsOf n l).length ≤ l.length := by rw [hlen]; omega
  have hmk := mk_hv f2 (by omega)
  have F2 : Hid (Hv w1.heap.size w1 w2 s (stOf n 4000 (tabsOf n l))) := hmk.1
  have HOF : Hid (Of n 4000 (tabsOf n l) (stOf n 4000 (tabsOf n l))) := hmk.2
  have O2 : Hid (w2.ownsRow w1.heap.size 30 1 (.slice ah (tabsOf n l).length caph) (tabsOf n l).length (hv ((List.range (tabsOf n l).length).map (· + 1)))) := o2
  have HTS : Hid (∀ j (h : j < l.length), j < 20 → (tabsOf n l)[j]? = some (cutT l[j] n)) := fun j h h20 => tabsOf_get n l j h h20
  clear f2 o2 HC hmk hlen
  generalize tabsOf n l = ts at *
  generalize hS0 : stOf n 4000 ts = st0 at *
  clear hS0
  have HTI : Hid (∀ st' : St, (∀ i f, ts[i]? = some f → st'.live (i + 1) ∧ st'.tab (i + 1) = f) → ∀ i (_ : i < ts.length) (h2 : i < l.length), st'.live (i + 1) ∧ st'.tab (i + 1) = cutT l[i] n) := by
    intro st' hh i hi h2
    exact hh i _ (HTS.out i h2 (by omega))
  generalize hM : ts.length = m at *
  have HM : Hid (ts.length = m) := hM
  clear hM
  have KU : Hid (Calls Tryd.prog 26 #[.pointer (some ⟨s, 0, none⟩)] w2 fun e w' => e = .returned (.int .i64 (st0.ns.length : Nat)) ∧ w' = w2) := used_calls s st0 w2 F2.out.has.lies
  have KO : Hid (Calls Tryd.prog 36 #[.pointer (some ⟨s, 0, none⟩)] w2 fun e w' => ∃ g cap, e = .returned (.slice (some ⟨g, 0, none⟩) st0.ord.length cap) ∧ OwnI w2 w' g st0.ord.length cap st0.ord) := sorder_calls s st0 w2 F2.out.has
  have hfew := F2.out.has.few
  have HOL : Hid (st0.ord.length = n) := by show st0.ord.length = n; rw [HOF.out.inv.len, HOF.out.n']
  go_wp2_with fail
  refine KU.out.mono ?_
  rintro e w3 ⟨rfl, rfl⟩
  go_wp2_with fail
  refine KO.out.mono ?_
  rintro e w3 ⟨go, co, rfl, l3⟩
  rw [HOL.out] at l3 ⊢
  have F3 : Hid (Hv w1.heap.size w1 w3 s st0) := F2.out.below l3.bel
  have O3 : Hid (w3.ownsRow w1.heap.size 30 1 (.slice ah m caph) m (hv ((List.range m).map (· + 1)))) := row_below O2.out l3.bel
  have R3 : Hid (w3.ownsRow 0 3 1 (.slice (some ⟨go, 0, none⟩) n co) st0.ord.length (lv st0.ord)) := owns_low l3.row (Nat.zero_le _)
  have KS : Hid (Calls Tryd.prog 34 #[.pointer (some ⟨s, 0, none⟩), .int .i64 n, .slice ao2 steps.length cap2] w3 fun e w' => e = .returned (.bool true) ∧ Hv w1.heap.size w1 w' s (st0.swps (lvls n steps)) ∧ w3.grownBy w' (some s)) := swaps_calls s n cap2 w1 w3 ao2 steps st0 F3.out HOF.out.n' HOF.out.room' HST.out
  clear l3 F2 O2 KU KO
  go_wp2_with fail
  refine KS.out.mono ?_
  rintro e w4 ⟨rfl, f4, g4⟩
  have F4 : Hid (Hv w1.heap.size w1 w4 s (st0.swps (lvls n steps))) := f4
  have O4 : Hid (w4.ownsRow w1.heap.size 30 1 (.slice ah m caph) m (hv ((List.range m).map (· + 1)))) := rowk O3.out g4 F3.out.blk (by decide)
  have R4 : Hid (w4.ownsRow 0 3 1 (.slice (some ⟨go, 0, none⟩) n co) st0.ord.length (lv st0.ord)) := rowk R3.out g4 F3.out.blk (by decide)
  have S4 := swd_swps HOF.out (lvls n steps) lvls_lt
  have KT : Hid (Calls Tryd.prog 37 #[.pointer (some ⟨s, 0, none⟩), .int .i64 n, .slice ah m caph, .slice ao l.length cap] w4 fun e w' => e = .returned (.bool true) ∧ Below w4.heap.size w4 w') := tables_calls _ s n m caph cap w1 w4 ah ao l _ f4 S4.n' O4.out HL.out HU.out hlel hle20 (HTI.out _ S4.tabs)
  clear f4 g4 F3 O3 R3 KS S4
  go_wp2_with fail
  refine KT.out.mono ?_
  rintro e w5 ⟨rfl, b5⟩
  have F5 : Hid (Hv w1.heap.size w1 w5 s (st0.swps (lvls n steps))) := F4.out.below b5
  have O5 : Hid (w5.ownsRow w1.heap.size 30 1 (.slice ah m caph) m (hv ((List.range m).map (· + 1)))) := row_below O4.out b5
  have R5 : Hid (w5.ownsRow 0 3 1 (.slice (some ⟨go, 0, none⟩) n co) st0.ord.length (lv st0.ord)) := row_below R4.out b5
  clear b5 F4 O4 R4 KT
  have SB : Hid (Swd n ts st0 (st0.swps (lvls n steps ++ (lvls n steps).reverse)) st0.ord) := by
    have := swd_swps HOF.out (lvls n steps ++ (lvls n steps).reverse) (fun k hk => by
      rcases List.mem_append.1 hk with h | h
      · exact lvls_lt k h
      · exact lvls_lt k (List.mem_reverse.1 h))
    rw [swp_back _ _ (fun k hk => by rw [HOL.out]; exact lvls_lt k hk)] at this
    exact this
  have HCN : Hid (st0.ns.length = Cho.cnt' n st0.dg.tabs st0.ord) := by
    have := (HOF.out.inv.dg).count HOF.out.cl.full
    rw [HOF.out.n'] at this
    exact this
  by_cases hn2 : 1 < n
  · have HLL : Hid ((lvls n steps).length = steps.length) := by show (lvls n steps).length = steps.length; unfold lvls; rw [if_pos hn2]; simp
    have HLG : Hid (∀ i (h : i < steps.length), (lvls n steps)[i]? = some (pkN steps[i] (n - 1))) := by
      intro i hi
      unfold lvls
      rw [if_pos hn2]; simp [hi]
    have HSN : Hid (∀ j, (st0.swps (lvls n steps ++ ((lvls n steps).drop j).reverse)).n = n ∧ (st0.swps (lvls n steps ++ ((lvls n steps).drop j).reverse)).room = 4000) := by
      intro j
      have := swd_swps HOF.out (lvls n steps ++ ((lvls n steps).drop j).reverse) (fun k hk => by
        rcases List.mem_append.1 hk with h | h
        · exact lvls_lt k h
        · exact lvls_lt k (List.mem_of_mem_drop (List.mem_reverse.1 h)))
      exact ⟨this.n', this.room⟩
    generalize lvls n steps = ks at *
    go_wp2_with fail
    go_loopw [14] (fun x wr => ∃ j : Nat, j ≤ steps.length ∧ x = .int .i64 ((j : Int) - 1) ∧ Hid (Hv w1.heap.size w1 wr s (st0.swps (ks ++ (ks.drop j).reverse))) ∧ Hid (wr.ownsRow w1.heap.size 30 1 (.slice ah m caph) m (hv ((List.range m).map (· + 1)))) ∧ Hid (wr.ownsRow 0 3 1 (.slice (some ⟨go, 0, none⟩) n co) st0.ord.length (lv st0.ord))) (fun x _ => (intOf x + 1).toNat)
    case atStart =>
      refine ⟨steps.length, Nat.le_refl _, rfl, ?_, O5, R5⟩
      have e : ks ++ (ks.drop steps.length).reverse = ks := by rw [List.drop_eq_nil_of_le (by rw [HLL.out]; omega)]; simp
      rw [e]; exact F5
    case round =>
      obtain ⟨j, hj, rfl, FR, OR, RR⟩ := hrel
      clear F5 O5 R5
      cases j with
      | zero =>
        have FE : Hid (Hv w1.heap.size w1 wr s (st0.swps (ks ++ ks.reverse))) := FR.out
        have KO : Hid (Calls Tryd.prog 36 #[.pointer (some ⟨s, 0, none⟩)] wr fun e w' => ∃ g cap, e = .returned (.slice (some ⟨g, 0, none⟩) n cap) ∧ OwnI wr w' g n cap st0.ord) := by
          have := sorder_calls s _ wr FE.out.has
          rw [SB.out.ord', HOL.out] at this
          exact this
        clear FR
        go_wp2_with fail
        refine KO.out.mono ?_
        rintro e w6 ⟨g6, c6, rfl, l6⟩
        have F6 : Hid (Hv w1.heap.size w1 w6 s (st0.swps (ks ++ ks.reverse))) := FE.out.below l6.bel
        have O6 : Hid (w6.ownsRow w1.heap.size 30 1 (.slice ah m caph) m (hv ((List.range m).map (· + 1)))) := row_below OR.out l6.bel
        have R6 : Hid (w6.ownsRow 0 3 1 (.slice (some ⟨go, 0, none⟩) n co) st0.ord.length (lv st0.ord)) := row_below RR.out l6.bel
        have Q6 : Hid (w6.ownsRow wr.heap.size 3 1 (.slice (some ⟨g6, 0, none⟩) n c6) st0.ord.length (lv st0.ord)) := l6.row
        have KSM : Hid (Calls Tryd.prog 35 #[.slice (some ⟨g6, 0, none⟩) n c6, .slice (some ⟨go, 0, none⟩) n co] w6 fun e w' => e = .returned (.bool (decide (st0.ord = st0.ord))) ∧ ∃ q, w' = w6.drewN q) := ksame_calls _ _ st0.ord st0.ord w6 (rowA_of Q6.out HOL.out.symm (by rw [HOL.out]; omega)) (rowA_of R6.out HOL.out.symm (by rw [HOL.out]; omega))
        clear l6 FE OR RR KO Q6
        go_wp2_with fail
        refine KSM.out.mono ?_
        rintro e w7 ⟨rfl, q7, rfl⟩
        have B7 : Hid (Below w6.heap.size w6 (w6.drewN q7)) := below_drewN (Below.refl _ _) q7
        have F7 : Hid (Hv w1.heap.size w1 (w6.drewN q7) s (st0.swps (ks ++ ks.reverse))) := F6.out.below B7.out
        have KT : Hid (Calls Tryd.prog 37 #[.pointer (some ⟨s, 0, none⟩), .int .i64 n, .slice ah m caph, .slice ao l.length cap] (w6.drewN q7) fun e w' => e = .returned (.bool true) ∧ Below (w6.drewN q7).heap.size (w6.drewN q7) w') := tables_calls _ s n m caph cap w1 _ ah ao l _ F7.out SB.out.n' (row_below O6.out B7.out) HL.out HU.out hlel hle20 (HTI.out _ SB.out.tabs)
        have hdt : decide (st0.ord = st0.ord) = true := by simp
        clear F6 O6 R6 KSM
        generalize w6.drewN q7 = w7 at *
        go_wp2_with fail
        refine KT.out.mono ?_
        rintro e w8 ⟨rfl, b8⟩
        have F8 : Hid (Hv w1.heap.size w1 w8 s (st0.swps (ks ++ ks.reverse))) := F7.out.below b8
        have KU : Hid (Calls Tryd.prog 26 #[.pointer (some ⟨s, 0, none⟩)] w8 fun e w' => e = .returned (.int .i64 (st0.ns.length : Nat)) ∧ w' = w8) := by
          have := used_calls s _ w8 F8.out.has.lies
          rw [SB.out.len, ← HCN.out] at this
          exact this
        clear b8 F7 KT
        go_wp2_with fail
        refine KU.out.mono ?_
        rintro e w9 ⟨rfl, rfl⟩
        go_wp2_with fail
        go_ret
        exact ⟨by simp, F8.out.bel⟩
      | succ j =>
        have hjs : j < steps.length := by omega
        have hjk : j < ks.length := by rw [HLL.out]; exact hjs
        obtain ⟨g, o, rfl, hg, hcell⟩ := HST.out.at' j hjs
        have e1 : wr.cell? ⟨g, o + j, none⟩ = some (.int .i64 steps[j]) := (FR.out.bel.cell (p := ⟨g, o + j, none⟩) hg).trans hcell
        have hbd := HST.out.bd _ (List.getElem_mem hjs)
        have hpk := pkN_lt steps[j] (n - 1) (by omega)
        have hks := HLG.out j hjs
        rw [List.getElem?_eq_getElem hjk] at hks
        have HNX : Hid (st0.swps (ks ++ (ks.drop j).reverse) = (st0.swps (ks ++ (ks.drop (j + 1)).reverse)).swp (pkN steps[j] (n - 1))) := by
          show st0.swps (ks ++ (ks.drop j).reverse) = _
          rw [drop_rev ks j hjk, ← List.append_assoc, swps_snoc]
          simp only [Option.some.injEq] at hks
          rw [hks]
        have KP : Hid (Calls Tryd.prog 13 #[.int .i64 steps[j], .int .i64 ((n : Int) - 1)] wr fun e w' => e = .returned (.int .i64 (pkN steps[j] (n - 1) : Nat)) ∧ w' = wr) := by
          have := kpick_calls steps[j] (n - 1) wr hbd.1 hbd.2 (by omega) (by omega)
          rw [show ((n - 1 : Nat) : Int) = (n : Int) - 1 from by omega] at this
          exact this
        have hsn := HSN.out (j + 1)
        have KS : Hid (Calls Tryd.prog 38 #[.pointer (some ⟨s, 0, none⟩), .int .i64 (pkN steps[j] (n - 1) : Nat)] wr fun e w' => e = .returned (.int .i64 0) ∧ Hv w1.heap.size w1 w' s ((st0.swps (ks ++ (ks.drop (j + 1)).reverse)).swp (pkN steps[j] (n - 1))) ∧ wr.grownBy w' (some s)) := hv_swap FR.out (by rw [hsn.1]; omega) hsn.2
        have ej : (((j + 1 : Nat) : Int) - 1) = (j : Int) := by omega
        rw [ej]
        clear hcell hbd hks hsn ej
        generalize steps[j] = c at *
        generalize pkN c (n - 1) = k at *
        go_wp2_with fail
        refine KP.out.mono ?_
        rintro e w6 ⟨rfl, rfl⟩
        go_wp2_with fail
        refine KS.out.mono ?_
        rintro e w7 ⟨rfl, h7, g7⟩
        have F7 : Hid (Hv w1.heap.size w1 w7 s (st0.swps (ks ++ (ks.drop j).reverse))) := by
          show Hv w1.heap.size w1 w7 s (st0.swps (ks ++ (ks.drop j).reverse))
          rw [HNX.out]; exact h7
        have O7 : Hid (w7.ownsRow w1.heap.size 30 1 (.slice ah m caph) m (hv ((List.range m).map (· + 1)))) := rowk OR.out g7 FR.out.blk (by decide)
        have R7 : Hid (w7.ownsRow 0 3 1 (.slice (some ⟨go, 0, none⟩) n co) st0.ord.length (lv st0.ord)) := rowk RR.out g7 FR.out.blk (by decide)
        clear h7 g7 KS KP FR OR RR
        go_wp2_with fail
        exact ⟨⟨j, by omega, rfl, F7, O7, R7⟩, by simp [intOf]⟩
  · have HKE : Hid (lvls n steps = []) := if_neg hn2
    generalize lvls n steps = ks at *
    have FE0 : Hid (Hv w1.heap.size w1 w5 s (st0.swps (ks ++ ks.reverse))) := by have := F5.out; rw [HKE.out] at this ⊢; exact this
    clear F5
    go_wp2_with fail
    go_loopw [14] (fun x wr => x = .int .i64 ((steps.length : Int) - 1) ∧ wr = w5) (fun _ _ => 0)
    case atStart => exact ⟨rfl, rfl⟩
    case round =>
      obtain ⟨rfl, rfl⟩ := hrel
      have FE : Hid (Hv w1.heap.size w1 wr s (st0.swps (ks ++ ks.reverse))) := FE0
      have OR := O5
      have RR := R5
      clear FE0 O5 R5
      by_cases hs0 : 0 < steps.length
      · have hi0 : 0 ≤ (steps.length : Int) - 1 := by omega
        have KO : Hid (Calls Tryd.prog 36 #[.pointer (some ⟨s, 0, none⟩)] wr fun e w' => ∃ g cap, e = .returned (.slice (some ⟨g, 0, none⟩) n cap) ∧ OwnI wr w' g n cap st0.ord) := by
          have := sorder_calls s _ wr FE.out.has
          rw [SB.out.ord', HOL.out] at this
          exact this
        go_wp2_with fail
        refine KO.out.mono ?_
        rintro e w6 ⟨g6, c6, rfl, l6⟩
        have F6 : Hid (Hv w1.heap.size w1 w6 s (st0.swps (ks ++ ks.reverse))) := FE.out.below l6.bel
        have O6 : Hid (w6.ownsRow w1.heap.size 30 1 (.slice ah m caph) m (hv ((List.range m).map (· + 1)))) := row_below OR.out l6.bel
        have R6 : Hid (w6.ownsRow 0 3 1 (.slice (some ⟨go, 0, none⟩) n co) st0.ord.length (lv st0.ord)) := row_below RR.out l6.bel
        have Q6 : Hid (w6.ownsRow wr.heap.size 3 1 (.slice (some ⟨g6, 0, none⟩) n c6) st0.ord.length (lv st0.ord)) := l6.row
        have KSM : Hid (Calls Tryd.prog 35 #[.slice (some ⟨g6, 0, none⟩) n c6, .slice (some ⟨go, 0, none⟩) n co] w6 fun e w' => e = .returned (.bool (decide (st0.ord = st0.ord))) ∧ ∃ q, w' = w6.drewN q) := ksame_calls _ _ st0.ord st0.ord w6 (rowA_of Q6.out HOL.out.symm (by rw [HOL.out]; omega)) (rowA_of R6.out HOL.out.symm (by rw [HOL.out]; omega))
        clear l6 FE OR RR KO Q6
        go_wp2_with fail
        refine KSM.out.mono ?_
        rintro e w7 ⟨rfl, q7, rfl⟩
        have B7 : Hid (Below w6.heap.size w6 (w6.drewN q7)) := below_drewN (Below.refl _ _) q7
        have F7 : Hid (Hv w1.heap.size w1 (w6.drewN q7) s (st0.swps (ks ++ ks.reverse))) := F6.out.below B7.out
        have KT : Hid (Calls Tryd.prog 37 #[.pointer (some ⟨s, 0, none⟩), .int .i64 n, .slice ah m caph, .slice ao l.length cap] (w6.drewN q7) fun e w' => e = .returned (.bool true) ∧ Below (w6.drewN q7).heap.size (w6.drewN q7) w') := tables_calls _ s n m caph cap w1 _ ah ao l _ F7.out SB.out.n' (row_below O6.out B7.out) HL.out HU.out hlel hle20 (HTI.out _ SB.out.tabs)
        have hdt : decide (st0.ord = st0.ord) = true := by simp
        clear F6 O6 R6 KSM
        generalize w6.drewN q7 = w7 at *
        go_wp2_with fail
        refine KT.out.mono ?_
        rintro e w8 ⟨rfl, b8⟩
        have F8 : Hid (Hv w1.heap.size w1 w8 s (st0.swps (ks ++ ks.reverse))) := F7.out.below b8
        have KU : Hid (Calls Tryd.prog 26 #[.pointer (some ⟨s, 0, none⟩)] w8 fun e w' => e = .returned (.int .i64 (st0.ns.length : Nat)) ∧ w' = w8) := by
          have := used_calls s _ w8 F8.out.has.lies
          rw [SB.out.len, ← HCN.out] at this
          exact this
        clear b8 F7 KT
        go_wp2_with fail
        refine KU.out.mono ?_
        rintro e w9 ⟨rfl, rfl⟩
        go_wp2_with fail
        go_ret
        exact ⟨by simp, F8.out.bel⟩
      · have hi0 : ¬ 0 ≤ (steps.length : Int) - 1 := by omega
        have KO : Hid (Calls Tryd.prog 36 #[.pointer (some ⟨s, 0, none⟩)] wr fun e w' => ∃ g cap, e = .returned (.slice (some ⟨g, 0, none⟩) n cap) ∧ OwnI wr w' g n cap st0.ord) := by
          have := sorder_calls s _ wr FE.out.has
          rw [SB.out.ord', HOL.out] at this
          exact this
        go_wp2_with fail
        refine KO.out.mono ?_
        rintro e w6 ⟨g6, c6, rfl, l6⟩
        have F6 : Hid (Hv w1.heap.size w1 w6 s (st0.swps (ks ++ ks.reverse))) := FE.out.below l6.bel
        have O6 : Hid (w6.ownsRow w1.heap.size 30 1 (.slice ah m caph) m (hv ((List.range m).map (· + 1)))) := row_below OR.out l6.bel
        have R6 : Hid (w6.ownsRow 0 3 1 (.slice (some ⟨go, 0, none⟩) n co) st0.ord.length (lv st0.ord)) := row_below RR.out l6.bel
        have Q6 : Hid (w6.ownsRow wr.heap.size 3 1 (.slice (some ⟨g6, 0, none⟩) n c6) st0.ord.length (lv st0.ord)) := l6.row
        have KSM : Hid (Calls Tryd.prog 35 #[.slice (some ⟨g6, 0, none⟩) n c6, .slice (some ⟨go, 0, none⟩) n co] w6 fun e w' => e = .returned (.bool (decide (st0.ord = st0.ord))) ∧ ∃ q, w' = w6.drewN q) := ksame_calls _ _ st0.ord st0.ord w6 (rowA_of Q6.out HOL.out.symm (by rw [HOL.out]; omega)) (rowA_of R6.out HOL.out.symm (by rw [HOL.out]; omega))
        clear l6 FE OR RR KO Q6
        go_wp2_with fail
        refine KSM.out.mono ?_
        rintro e w7 ⟨rfl, q7, rfl⟩
        have B7 : Hid (Below w6.heap.size w6 (w6.drewN q7)) := below_drewN (Below.refl _ _) q7
        have F7 : Hid (Hv w1.heap.size w1 (w6.drewN q7) s (st0.swps (ks ++ ks.reverse))) := F6.out.below B7.out
        have KT : Hid (Calls Tryd.prog 37 #[.pointer (some ⟨s, 0, none⟩), .int .i64 n, .slice ah m caph, .slice ao l.length cap] (w6.drewN q7) fun e w' => e = .returned (.bool true) ∧ Below (w6.drewN q7).heap.size (w6.drewN q7) w') := tables_calls _ s n m caph cap w1 _ ah ao l _ F7.out SB.out.n' (row_below O6.out B7.out) HL.out HU.out hlel hle20 (HTI.out _ SB.out.tabs)
        have hdt : decide (st0.ord = st0.ord) = true := by simp
        clear F6 O6 R6 KSM
        generalize w6.drewN q7 = w7 at *
        go_wp2_with fail
        refine KT.out.mono ?_
        rintro e w8 ⟨rfl, b8⟩
        have F8 : Hid (Hv w1.heap.size w1 w8 s (st0.swps (ks ++ ks.reverse))) := F7.out.below b8
        have KU : Hid (Calls Tryd.prog 26 #[.pointer (some ⟨s, 0, none⟩)] w8 fun e w' => e = .returned (.int .i64 (st0.ns.length : Nat)) ∧ w' = w8) := by
          have := used_calls s _ w8 F8.out.has.lies
          rw [SB.out.len, ← HCN.out] at this
          exact this
        clear b8 F7 KT
        go_wp2_with fail
        refine KU.out.mono ?_
        rintro e w9 ⟨rfl, rfl⟩
        go_wp2_with fail
        go_ret
        exact ⟨by simp, F8.out.bel⟩
end Go.Proofs.YthoodkbdpnffdaaDoor
