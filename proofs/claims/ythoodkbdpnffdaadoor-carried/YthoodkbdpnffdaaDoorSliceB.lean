/-
  Own work: the small helpers of the statements about orders (walks).
-/
import Derived.Test.YthoodkbdpnffdaaDoorSameK
import Derived.Test.YthoodkbdpnffdaaDoorFilledW
import Derived.Test.YthoodkbdpnffdaaDoorReachW
namespace Go.Proofs.YthoodkbdpnffdaaDoor
open Go.RowKit
open Cho (U64 Tab full col Nd Red Dg DgOk)

/-- Since the world w0, in which there were B blocks: in block s lies the store st, and no node is there in vain. -/
structure Hv (B : Nat) (w0 w : World) (s : Nat) (st : St) : Prop where
  lo : B ≤ s
  bel : Below B w0 w
  has : Has w s st
  cl : Clean st
theorem Hv.blk {B : Nat} {w0 w : World} {s : Nat} {st : St} (h : Hv B w0 w s st) : ∃ cur, w.heap[s]? = some (.cells cur 93 (0, 0)) := by
  obtain ⟨_, _, _, _, hb, _⟩ := h.has.lies.ex; exact ⟨_, hb⟩
theorem Hv.size {B : Nat} {w0 w : World} {s : Nat} {st : St} (h : Hv B w0 w s st) : B ≤ w.heap.size := by
  obtain ⟨_, hb⟩ := h.blk
  have := lt_of_block hb; have := h.lo; omega
theorem Hv.below {B : Nat} {w0 w w' : World} {s : Nat} {st : St} (h : Hv B w0 w s st) (hb : Below w.heap.size w w') : Hv B w0 w' s st := ⟨h.lo, h.bel.trans (hb.mono h.size), h.has.below hb, h.cl⟩
theorem Hv.grown {B : Nat} {w0 w w' : World} {s : Nat} {st : St} (h : Hv B w0 w s st) (hg : w.grownBy w' (some s)) : Below B w0 w' :=
  h.bel.grown hg h.size (fun k hk => by simp at hk; have := h.lo; omega)
/-- Beside a call on another store. -/
theorem Hv.beside {B : Nat} {w0 w w' : World} {s t : Nat} {st su : St} (h : Hv B w0 w s st) (h2 : Hv B w0 w t su) (hne : s ≠ t) (hpos : 0 < B) (hg : w.grownBy w' (some t)) : Hv B w0 w' s st := by
  have hlo := h2.lo
  exact ⟨h.lo, h2.grown hg, ⟨h.has.lies.kept hg (by omega) hne h2.blk, h.has.inv, h.has.few⟩, h.cl⟩
/-- A row that is no store stays. -/
theorem rowk {w w' : World} {B s sz n : Nat} {e : TypeId} {v : Value} {xs : List Value} (h : w.ownsRow B e sz v n xs) (hg : w.grownBy w' (some s)) (hS : ∃ cur, w.heap[s]? = some (.cells cur 93 (0, 0))) (he : e ≠ 93) : w'.ownsRow B e sz v n xs := by
  obtain ⟨cs, hcs⟩ := hS
  refine owns_kept h fun g hgb => hg.block g (h.lt g hgb).2 ?_
  intro e'
  obtain rfl : g = s := by simpa using e'
  obtain ⟨c, hc⟩ := row_kind h hgb
  rw [hcs] at hc; simp at hc; exact he hc.2.symm
theorem mk_hv {B : Nat} {w0 w : World} {s n room : Nat} {ts : List Nat} (h : Mk B w0 w s n room ts) (hk : ts.length ≤ 30) : Hv B w0 w s (stOf n room ts) ∧ Of n room ts (stOf n room ts) := by
  obtain ⟨st, h1, h2⟩ := h.has hk
  have e := h2.eq
  subst e
  exact ⟨⟨h.lo, h.bel, h1, h2.cl⟩, h2⟩

theorem hv_swap {B : Nat} {w0 w : World} {s k : Nat} {st : St} (h : Hv B w0 w s st) (hk : k + 1 < st.n) (hr : st.room = 4000) :
    Calls Tryd.prog 38 #[.pointer (some ⟨s, 0, none⟩), .int .i64 k] w fun e w' => e = .returned (.int .i64 0) ∧ Hv B w0 w' s (st.swp k) ∧ w.grownBy w' (some s) := by
  refine (swap_walk s k st w h.has hk).mono ?_
  rintro e w' ⟨_, h2, hg⟩
  have hs := swp_same h.has.inv hk
  have hf := hs.2.1
  obtain ⟨rfl, h3⟩ := h2 (by rw [hr]; omega)
  have ht := taken h.has.inv h.cl hs.1
  exact ⟨rfl, ⟨h.lo, h.grown hg, ⟨h3, ht.inv, by omega⟩, ht.cl⟩, hg⟩
theorem sifted_few {st : St} (hi : Inv st) (hc : Clean st) : st.sifted.ns.length ≤ st.ns.length := by
  have := (Cho.sift_ok hi.dg).2.1
  rw [← hi.dg.count hc.full] at this
  exact this
theorem hv_sift {B : Nat} {w0 w : World} {s : Nat} {st : St} (h : Hv B w0 w s st) :
    Calls Tryd.prog 39 #[.pointer (some ⟨s, 0, none⟩)] w fun e w' => e = .returned (.int .i64 0) ∧ Hv B w0 w' s st.sifted ∧ w.grownBy w' (some s) := by
  refine (sift_walk s st w h.has).mono ?_
  rintro e w' ⟨rfl, h3, hg⟩
  have ht := taken h.has.inv h.cl (Cho.sift_ok h.has.inv.dg).1
  exact ⟨rfl, ⟨h.lo, h.grown hg, ⟨h3, ht.inv, Nat.le_trans (sifted_few h.has.inv h.cl) h.has.few⟩, ht.cl⟩, hg⟩

/-- Which of n things a number speaks of. -/
def pkN (c : Int) (n : Nat) : Nat := if c < 0 then (-(c + 1).tmod n).toNat else (c % (n : Int)).toNat
theorem pkN_lt (c : Int) (n : Nat) (hn : 0 < n) : pkN c n < n := by
  unfold pkN
  split
  · have hm := tmod_nn (-(c + 1)) n (by omega) (by omega)
    rw [Int.neg_tmod] at hm; omega
  · have h1 := Int.emod_nonneg c (show (n : Int) ≠ 0 by omega)
    have h2 := Int.emod_lt_of_pos c (show (0 : Int) < n by omega)
    omega
set_option maxHeartbeats 400000 in
theorem kpick_calls (c : Int) (n : Nat) (w : World) (h1 : -9223372036854775808 ≤ c) (h2 : c ≤ 9223372036854775807) (hn : 0 < n) (hn2 : n ≤ 1000) :
    Calls Tryd.prog 13 #[.int .i64 c, .int .i64 n] w fun e w' => e = .returned (.int .i64 (pkN c n : Nat)) ∧ w' = w := by
  have hnz : ((n : Int) == 0) = false := by simp; omega
  by_cases hc : c < 0
  · have hm := tmod_nn (-(c + 1)) n (by omega) (by omega)
    rw [Int.neg_tmod] at hm
    have HM : Hid (0 ≤ -(c + 1).tmod n ∧ -(c + 1).tmod n < n) := hm
    have HP : Hid (pkN c n = (-(c + 1).tmod n).toNat) := if_pos hc
    clear hm
    go_enter Tryd.func13, Tryd.ntmps13
    go_wp2
    go_ret
    refine ⟨ret_int ?_, rfl⟩
    rw [HP.out]
    have := HM.out; omega
  · have hm : 0 ≤ c % (n : Int) ∧ c % (n : Int) < n := ⟨Int.emod_nonneg _ (by omega), Int.emod_lt_of_pos _ (by omega)⟩
    have HM : Hid (0 ≤ c % (n : Int) ∧ c % (n : Int) < n) := hm
    have HP : Hid (pkN c n = (c % (n : Int)).toNat) := if_neg hc
    clear hm
    go_enter Tryd.func13, Tryd.ntmps13
    go_wp2
    go_ret
    refine ⟨ret_int ?_, rfl⟩
    rw [HP.out]
    have := HM.out; omega

/-- A slice of numbers that lay there in the world w0. -/
structure SlI (w0 : World) (ao : Option Addr) (l : List Int) : Prop where
  at' : ∀ i (hi : i < l.length), ∃ g o, ao = some ⟨g, o, none⟩ ∧ g < w0.heap.size ∧ w0.cell? ⟨g, o + i, none⟩ = some (.int .i64 l[i])
  bd : ∀ x ∈ l, -9223372036854775808 ≤ x ∧ x ≤ 9223372036854775807
  len : l.length ≤ 9223372036854775807
/-- The levels that they speak of. -/
def lvls (n : Nat) (l : List Int) : List Nat := if 1 < n then l.map fun c => pkN c (n - 1) else []
/-- A store behind some swaps. -/
def St.swps (st : St) (ks : List Nat) : St := ks.foldl St.swp st
theorem swps_snoc (st : St) (ks : List Nat) (k : Nat) : st.swps (ks ++ [k]) = (st.swps ks).swp k := by simp [St.swps]
/-- What swaps leave. -/
theorem swps_same {st : St} (hi : Inv st) (hc : Clean st) : ∀ ks : List Nat, (∀ k ∈ ks, k + 1 < st.n) → ∃ d, Cho.Same st.n st.dg d ∧ st.swps ks = st.take d ∧ d.ord = ks.foldl Cho.swp st.ord := by
  suffices h : ∀ us vs : List Nat, (∀ k ∈ us, k + 1 < st.n) → (∃ d, Cho.Same st.n st.dg d ∧ st.swps vs = st.take d ∧ d.ord = vs.foldl Cho.swp st.ord) → ∃ d, Cho.Same st.n st.dg d ∧ st.swps (vs ++ us) = st.take d ∧ d.ord = (vs ++ us).foldl Cho.swp st.ord by
    intro ks hk
    have := h ks [] hk ⟨st.dg, same_dg hi hc, rfl, rfl⟩
    simpa using this
  intro us
  induction us with
  | nil => intro vs _ h; simpa using h
  | cons u us ih =>
    intro vs hu h
    have e : vs ++ u :: us = (vs ++ [u]) ++ us := by simp
    rw [e]
    apply ih _ (fun k hk => hu k (by simp [hk]))
    obtain ⟨d, hs, e1, e2⟩ := h
    have hun := hu u (by simp)
    refine ⟨d.move u (u + 1), hs.trans (Cho.move_same hs.ok (by omega) hun), ?_, ?_⟩
    · rw [swps_snoc, e1]; rfl
    · show Cho.mv d.ord u (u + 1) = _
      rw [Cho.mv_swp, e2]; simp

set_option maxRecDepth 100000 in
set_option maxHeartbeats 1000000 in
theorem swaps_calls (s n cap : Nat) (w0 w : World) (ao : Option Addr) (l : List Int) (st : St) (h : Hv w0.heap.size w0 w s st) (hn : st.n = n) (hr : st.room = 4000) (hl : SlI w0 ao l) :
    Calls Tryd.prog 34 #[.pointer (some ⟨s, 0, none⟩), .int .i64 n, .slice ao l.length cap] w fun e w' => e = .returned (.bool true) ∧ Hv w0.heap.size w0 w' s (st.swps (lvls n l)) ∧ w.grownBy w' (some s) := by
  subst hn
  have H : Hid (Hv w0.heap.size w0 w s st) := h
  have HL : Hid (SlI w0 ao l) := hl
  have hll := hl.len
  have hn6 := h.has.inv.n6
  have hn1 := h.has.inv.n1
  by_cases h1 : 1 < st.n
  · have HLV : Hid (lvls st.n l = l.map fun c => pkN c (st.n - 1)) := if_pos h1
    have HST : Hid (∀ i, i ≤ l.length → (st.swps ((lvls st.n l).take i)).n = st.n ∧ (st.swps ((lvls st.n l).take i)).room = 4000) := by
      intro i hi
      obtain ⟨d, _, e, _⟩ := swps_same h.has.inv h.cl ((lvls st.n l).take i) (fun k hk => by
        have := List.mem_of_mem_take hk
        rw [HLV.out] at this
        obtain ⟨c, _, rfl⟩ := List.mem_map.1 this
        have := pkN_lt c (st.n - 1) (by omega)
        omega)
      rw [e]; exact ⟨rfl, hr⟩
    have HLN : Hid ((lvls st.n l).length = l.length) := by show (lvls st.n l).length = l.length; rw [HLV.out]; simp
    clear h hl
    go_enter Tryd.func34, Tryd.ntmps34
    go_wp2_with fail
    go_loopw [7] (fun x wr => ∃ i : Nat, i ≤ l.length ∧ x = .int .i64 i ∧ Hid (Hv w0.heap.size w0 wr s (st.swps ((lvls st.n l).take i))) ∧ Hid (w.grownBy wr (some s))) (fun x _ => l.length - (intOf x).toNat)
    case atStart => exact ⟨0, Nat.zero_le _, rfl, H, grown_refl _ _⟩
    case round =>
      obtain ⟨i, hi, rfl, HR, GR⟩ := hrel
      by_cases hlt : i < l.length
      · obtain ⟨g, o, rfl, hg, hcell⟩ := HL.out.at' i hlt
        have e1 : wr.cell? ⟨g, o + i, none⟩ = some (.int .i64 l[i]) := (HR.out.bel.cell (p := ⟨g, o + i, none⟩) hg).trans hcell
        have hbd := HL.out.bd _ (List.getElem_mem hlt)
        have hpk := pkN_lt l[i] (st.n - 1) (by omega)
        have HTK : Hid ((lvls st.n l).take (i + 1) = (lvls st.n l).take i ++ [pkN l[i] (st.n - 1)]) := take_snoc _ _ _ (by rw [HLV.out]; simp [hlt])
        have KP : Hid (Calls Tryd.prog 13 #[.int .i64 l[i], .int .i64 ((st.n : Int) - 1)] wr fun e w' => e = .returned (.int .i64 (pkN l[i] (st.n - 1) : Nat)) ∧ w' = wr) := by
          have := kpick_calls l[i] (st.n - 1) wr hbd.1 hbd.2 (by omega) (by omega)
          rw [show ((st.n - 1 : Nat) : Int) = (st.n : Int) - 1 from by omega] at this
          exact this
        have hsn := HST.out i hi
        have KS : Hid (Calls Tryd.prog 38 #[.pointer (some ⟨s, 0, none⟩), .int .i64 (pkN l[i] (st.n - 1) : Nat)] wr fun e w' => e = .returned (.int .i64 0) ∧ Hv w0.heap.size w0 w' s ((st.swps ((lvls st.n l).take i)).swp (pkN l[i] (st.n - 1))) ∧ wr.grownBy w' (some s)) := hv_swap HR.out (by rw [hsn.1]; omega) hsn.2
        clear hcell hbd
        generalize l[i] = c at *
        generalize pkN c (st.n - 1) = k at *
        go_wp2_with fail
        refine KP.out.mono ?_
        rintro e w1 ⟨rfl, rfl⟩
        go_wp2_with fail
        refine KS.out.mono ?_
        rintro e w2 ⟨rfl, h2, g2⟩
        have H2 : Hid (Hv w0.heap.size w0 w2 s (st.swps ((lvls st.n l).take (i + 1)))) := by
          show Hv w0.heap.size w0 w2 s (st.swps ((lvls st.n l).take (i + 1)))
          rw [HTK.out, swps_snoc]; exact h2
        have G2 : Hid (w.grownBy w2 (some s)) := grown_trans GR.out g2
        clear h2 g2 KS KP
        go_wp2_with fail
        exact ⟨⟨i + 1, hlt, by go_num, H2, G2⟩, by simp [intOf]; omega⟩
      · have HE : Hid ((lvls st.n l).take i = lvls st.n l) := List.take_of_length_le (by rw [HLN.out]; omega)
        have HEND : Hid (Hv w0.heap.size w0 wr s (st.swps (lvls st.n l))) := by have := HR.out; rw [HE.out] at this; exact this
        clear HR
        go_wp2_with fail
        go_ret
        exact ⟨rfl, HEND.out, GR.out⟩
  · have HLV : Hid (lvls st.n l = []) := if_neg h1
    clear h hl
    go_enter Tryd.func34, Tryd.ntmps34
    go_wp2_with fail
    go_loopw [7] (fun x wr => x = .int .i64 0 ∧ wr = w) (fun _ _ => 0)
    case atStart => exact ⟨rfl, rfl⟩
    case round =>
      obtain ⟨rfl, rfl⟩ := hrel
      by_cases hl0 : 0 < l.length
      · go_wp2_with fail
        go_ret
        rw [HLV.out]
        exact ⟨rfl, H.out, grown_refl _ _⟩
      · go_wp2_with fail
        go_ret
        rw [HLV.out]
        exact ⟨rfl, H.out, grown_refl _ _⟩
end Go.Proofs.YthoodkbdpnffdaaDoor

/-
  Own work: what a slice of ints that came in gives the walks.
-/
namespace Go.Proofs.YthoodkbdpnffdaaDoor
open Go.ChangeShapes Go.WideShapes Go.ChangeAt Go.WideMaps Go.WideElems Go.RowKit

theorem slice_i64 {H : Type} {enc : TypeId × Value → H} {W : World} {a1 : Option Addr} {len1 cap1 : Nat} {d : DataW H} {ps : List MemPlace}
    (h : DataW.Trod enc Tryd.prog W 0 (fun _ => true) true 64 (.slice a1 len1 cap1) d ps) :
    ∃ l : List Int, l.length = len1 ∧ SlI W a1 l := by
  obtain ⟨fuel, hf⟩ := h
  rcases open_ints Tryd.underlying64 Tryd.underlying3 (by kernel_rfl) hf with ⟨hcs, _⟩ | ⟨x, l, c, zs, hcs, _, hl, hm, hz, _, hcell, hwz⟩
  · simp [Value.cells] at hcs
    obtain ⟨rfl, rfl, rfl⟩ := hcs
    exact ⟨[], rfl, fun i hi => absurd hi (by simp), by simp, by simp⟩
  · simp [Value.cells] at hcs
    obtain ⟨rfl, rfl, rfl⟩ := hcs
    have hz' : zs.length = cap1 := by simpa using hz
    have hlen : (zs.take len1).length = len1 := by simp; omega
    refine ⟨zs.take len1, hlen, ?_, ?_, by rw [hlen]; unfold maxLen at hm; omega⟩
    · intro i hi
      rw [hlen] at hi
      obtain ⟨b, off, rfl, hc'⟩ := ints_at hcell (by omega)
      have hc := hc' i (by omega)
      have hiz : i < zs.length := by omega
      have eg : zs.getD i 0 = zs[i] := by simp [List.getD, hiz]
      refine ⟨b, off, rfl, World.block_lt_of_cell? W _ hc, ?_⟩
      rw [hc, eg]
      simp
    · intro t ht
      exact i64_bd (hwz t (List.mem_of_mem_take ht))
end Go.Proofs.YthoodkbdpnffdaaDoor
