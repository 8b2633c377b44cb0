/-
  Own work: a store's order, as a list of its own; an order with one variable moved (walks).
-/
import Derived.Test.YthoodkbdpnffdaaDoorInv
import Derived.Test.YthoodkbdpnffdaaDoorKeepA
import Derived.Test.YthoodkbdpnffdaaDoorPlainQ
namespace Go.Proofs.YthoodkbdpnffdaaDoor
open Go.RowKit
open Cho (U64 Tab full col Nd Red)

/-- A row of numbers that was made since the world w. -/
structure OwnI (w wr : World) (g n cap : Nat) (l : List Nat) : Prop where
  bel : Below w.heap.size w wr
  row : wr.ownsRow w.heap.size 3 1 (.slice (some ⟨g, 0, none⟩) n cap) l.length (lv l)
theorem owns_put {w : World} {B : Nat} {e : TypeId} {g n cap i : Nat} {xs : List Value} (h : w.ownsRow B e 1 (.slice (some ⟨g, 0, none⟩) n cap) n xs) (u : Value) : (w.setCell ⟨g, i, none⟩ u).ownsRow B e 1 (.slice (some ⟨g, 0, none⟩) n cap) n (xs.set i u) := by
  obtain ⟨h1, h2⟩ := h
  refine ⟨by simpa using h1, ?_⟩
  rcases h2 with ⟨h2, _⟩ | ⟨g', cap', cur, e1, hB, hg, hn, hm, hs, ht⟩
  · simp at h2
  · simp only [Value.slice.injEq, Option.some.injEq, Addr.mk.injEq, and_true, true_and] at e1
    obtain ⟨rfl, rfl⟩ := e1
    right
    refine ⟨g, cap, cur.setIfInBounds i u, rfl, hB, ?_, hn, hm, by simpa using hs, ?_⟩
    · simp only [World.setCell, Array.getElem?_modify, hg]; simp
    · rw [← ht]
      simp only [Array.toList_setIfInBounds, Nat.mul_one]
      rw [List.take_set]
theorem OwnI.len {w wr : World} {g n cap : Nat} {l : List Nat} (h : OwnI w wr g n cap l) : n = l.length := by
  obtain ⟨_, ⟨e, _⟩ | ⟨g', cap', cur, e1, _⟩⟩ := h.row
  · simp at e
  · simp only [Value.slice.injEq] at e1; exact e1.2.1
theorem OwnI.put {w wr : World} {g n cap : Nat} {l : List Nat} (h : OwnI w wr g n cap l) (i x : Nat) : OwnI w (wr.setCell ⟨g, i, none⟩ (.int .i64 (x : Nat))) g n cap (l.set i x) := by
  obtain rfl := h.len
  refine ⟨h.bel.setCell (h.row.lt g rfl).1 _, ?_⟩
  have := owns_put (i := i) h.row (.int .i64 (x : Nat))
  rw [lv_set] at this
  simpa using this
theorem OwnI.cell {w wr : World} {g n cap : Nat} {l : List Nat} (h : OwnI w wr g n cap l) (i : Nat) (hi : i < l.length) : wr.cell? ⟨g, i, none⟩ = some (.int .i64 (l.getD i 0 : Nat)) := by
  have := h.row.cells (g := g) rfl i (.int .i64 (l.getD i 0 : Nat)) (by simp [lv, List.getD, hi])
  rw [Addr.add_mid, Nat.zero_add] at this
  exact this
theorem OwnI.blk {w wr : World} {g n cap : Nat} {l : List Nat} (h : OwnI w wr g n cap l) : ∃ cur, wr.heap[g]? = some (.cells cur 3 (0, 0)) ∧ w.heap.size ≤ g ∧ n ≤ cap := by
  obtain rfl := h.len
  obtain ⟨_, ⟨e, _⟩ | ⟨g', cap', cur, e1, hB, hg, hn, _⟩⟩ := h.row
  · simp at e
  · simp only [Value.slice.injEq, Option.some.injEq, Addr.mk.injEq, and_true, true_and] at e1
    obtain ⟨rfl, rfl⟩ := e1
    exact ⟨cur, hg, hB, hn⟩
theorem OwnI.below {w wr w1 : World} {g n cap : Nat} {l : List Nat} (h : OwnI w wr g n cap l) (hb : Below wr.heap.size wr w1) : OwnI w w1 g n cap l :=
  ⟨h.bel.trans (hb.mono h.bel.size), owns_kept h.row fun g hg => hb.block g (h.row.lt g hg).2⟩
theorem own_int (W : World) : (W.alloc (.cells #[] 3)).ownsRow W.heap.size 3 1 (.slice (some ⟨W.heap.size, 0, none⟩) 0 0) 0 [] :=
  World.ownsRow_made W #[] 0 (Nat.le_refl _) (by simp) rfl
theorem ord_copy {w w1 : World} {v' : Value} {l : List Nat} {o : Obj} (h0 : 0 < l.length) (hown : w1.ownsRow w.heap.size 3 1 v' (0 + l.length) ([] ++ lv l)) (hg : (w.alloc o).grownBy w1 (some w.heap.size)) :
    ∃ g cap, v' = .slice (some ⟨g, 0, none⟩) l.length cap ∧ OwnI w w1 g l.length cap l := by
  rw [Nat.zero_add, List.nil_append] at hown
  obtain ⟨g, cap, rfl, hB, cur, hcur⟩ := owns_form hown h0
  refine ⟨g, cap, rfl, ?_, hown⟩
  exact ((Below.refl _ w).alloc (Nat.le_refl _) o).grown hg (by simp) (fun k hk => by simp at hk; omega)
theorem ord_src {w : World} {go : Nat} {ord : List Nat} (h : OrdAt w go ord) : ∀ j u, (lv ord)[j]? = some u → w.cell? ((⟨go, 0, none⟩ : Addr).add j) = some u := by
  intro j u hu
  have hj : j < ord.length := by
    apply Classical.byContradiction
    intro hn
    rw [List.getElem?_eq_none (by simp [lv]; omega)] at hu; cases hu
  rw [Addr.add_mid, Nat.zero_add, h j hj]
  simpa [lv, hj] using hu
theorem ord_one (l : List Nat) : ∀ u ∈ lv l, u.oneCell' = true := by
  intro u hu
  obtain ⟨x, _, rfl⟩ := List.mem_map.1 hu
  rfl

set_option maxRecDepth 100000 in
set_option maxHeartbeats 400000 in
theorem dorder_calls (s off go capo : Nat) (ord : List Nat) (w : World) (h0 : w.cell? ⟨s, off, none⟩ = some (.slice (some ⟨go, 0, none⟩) ord.length capo)) (ho : OrdAt w go ord) (hn1 : 1 ≤ ord.length) (hn6 : ord.length ≤ 6) :
    Calls Tryd.prog 64 #[.pointer (some ⟨s, off, none⟩)] w fun e w' => ∃ g cap, e = .returned (.slice (some ⟨g, 0, none⟩) ord.length cap) ∧ OwnI w w' g ord.length cap ord := by
  obtain ⟨i0, hi, hz0, hz1, hz2⟩ := info_parts Tryd.infoInt
  have hs := World.block_lt_of_cell? w _ h0
  simp only at hs
  have hgo : go < w.heap.size := World.block_lt_of_cell? w _ (ho 0 (by omega))
  have h0' : (w.alloc (.cells #[] 3)).cell? ⟨s, off, none⟩ = some (.slice (some ⟨go, 0, none⟩) ord.length capo) := with_al h0
  have HSRC : Hid (∀ j u, (lv ord)[j]? = some u → (w.alloc (.cells #[] 3)).cell? ((⟨go, 0, none⟩ : Addr).add j) = some u) := ord_src (fun i hi => with_al (ho i hi))
  have F1 : Hid (0 + ord.length ≤ maxLen) := by show 0 + ord.length ≤ maxLen; unfold maxLen; omega
  have F2 : Hid ((0 + ord.length) * 8 ≤ 140737488355328) := by show (0 + ord.length) * 8 ≤ 140737488355328; omega
  have F4 : Hid ((lv ord).length = ord.length * 1) := by show (lv ord).length = ord.length * 1; simp [lv]
  clear ho
  go_enter Tryd.func64, Tryd.ntmps64
  go_wp2_with (at_builtin; go_must (refine wpList_append_own _ rfl _ _ 64 rfl w.heap.size 3 i0 _ 1 8 Tryd.underlying64 hi hz0 hz1 hz2 rfl (Nat.succ_pos 0) (.slice (some ⟨w.heap.size, 0, none⟩) 0 0) 0 [] ?e1 (own_int w) ⟨go, 0, none⟩ ord.length capo (lv ord) ?e2 F4.out HSRC.out (ord_one ord) F1.out F2.out (by simp) ?_); (case e1 => rfl); (case e2 => rfl); intro v' w1 hown hgrow _; obtain ⟨g1, cap1, rfl, l1⟩ := ord_copy (by omega) hown hgrow; have L1 : Hid (OwnI w w1 g1 ord.length cap1 ord) := l1; clear hown hgrow l1)
  go_ret
  exact ⟨g1, cap1, rfl, L1.out⟩

set_option maxHeartbeats 400000 in
theorem hasLevel_calls (s off n capo k : Nat) (ao : Option Addr) (w : World) (h0 : w.cell? ⟨s, off, none⟩ = some (.slice ao n capo)) (hk : k < n) :
    Calls Tryd.prog 82 #[.pointer (some ⟨s, off, none⟩), .int .i64 k] w fun e w' => e = .returned (.bool true) ∧ w' = w := by
  have h1 : decide ((0 : Int) ≤ (k : Int)) = true := by simp
  have h2 : decide ((k : Int) < (n : Int)) = true := by simp; omega
  go_enter Tryd.func82, Tryd.ntmps82
  go_wp2_with fail
  go_ret
  exact ⟨rfl, rfl⟩

set_option maxRecDepth 100000 in
set_option maxHeartbeats 1000000 in
theorem dmoved_calls (s off go capo f t : Nat) (ord : List Nat) (w : World) (h0 : w.cell? ⟨s, off, none⟩ = some (.slice (some ⟨go, 0, none⟩) ord.length capo)) (ho : OrdAt w go ord) (hn6 : ord.length ≤ 6) (hf : f < ord.length) (ht : t < ord.length) :
    Calls Tryd.prog 75 #[.pointer (some ⟨s, off, none⟩), .int .i64 f, .int .i64 t] w fun e w' => ∃ g cap, e = .returned (.slice (some ⟨g, 0, none⟩) ord.length cap) ∧ OwnI w w' g ord.length cap (Cho.mv ord f t) := by
  have hs := World.block_lt_of_cell? w _ h0
  simp only at hs
  have HO : Hid (Calls Tryd.prog 64 #[.pointer (some ⟨s, off, none⟩)] w fun e w' => ∃ g cap, e = .returned (.slice (some ⟨g, 0, none⟩) ord.length cap) ∧ OwnI w w' g ord.length cap ord) := dorder_calls s off go capo ord w h0 ho (by omega) hn6
  clear ho
  go_enter Tryd.func75, Tryd.ntmps75
  go_wp2_with fail
  refine HO.out.mono ?_
  rintro e w1 ⟨g, cap, rfl, l1⟩
  have L1 : Hid (OwnI w w1 g ord.length cap ord) := l1
  have h0' : w1.cell? ⟨s, off, none⟩ = some (.slice (some ⟨go, 0, none⟩) ord.length capo) := (l1.bel.cell (p := ⟨s, off, none⟩) hs).trans h0
  have HL : Hid (∀ k, k < ord.length → Calls Tryd.prog 82 #[.pointer (some ⟨s, off, none⟩), .int .i64 (k : Nat)] w1 fun e w' => e = .returned (.bool true) ∧ w' = w1) := fun k hk => hasLevel_calls s off ord.length capo k _ w1 h0' hk
  have efD : ord.getD f 0 = ord[f] := by simp [List.getD, hf]
  have cf := l1.cell f hf
  rw [efD] at cf
  have EFD : Hid (ord.getD f 0 = ord[f]) := efD
  clear efD
  generalize ord[f] = v at *
  clear l1 HO
  go_wp2_with fail
  refine (HL.out f hf).mono ?_
  rintro e w2 ⟨rfl, rfl⟩
  go_wp2_with fail
  refine (HL.out t ht).mono ?_
  rintro e w2 ⟨rfl, rfl⟩
  clear HL h0'
  have hgw := L1.out.blk
  obtain ⟨cur, hcur, hgB, hcap⟩ := hgw
  have hgl := lt_of_block hcur
  clear hcur cur
  go_wp2_with fail
  go_loopw [9] (fun x wr => ∃ j : Nat, j ≤ t - f ∧ x = .int .i64 ((f + j : Nat) : Int) ∧ Hid (OwnI w wr g ord.length cap (Cho.shUp ord f j))) (fun x _ => t - (intOf x).toNat)
  case atStart => exact ⟨0, Nat.zero_le _, rfl, L1⟩
  case round =>
    obtain ⟨j, hj, rfl, LR⟩ := hrel
    clear L1
    by_cases hjt : f + j < t
    · have hlen := Cho.shUp_len ord f j
      have c1 := LR.out.cell (f + j + 1) (by rw [hlen]; omega)
      have c2 := LR.out.cell (f + j) (by rw [hlen]; omega)
      obtain ⟨cur, hcur, _, _⟩ := LR.out.blk
      have fz := frozen_of_block hcur (f + j)
      have hgl2 := lt_of_block hcur
      have NX : Hid (OwnI w (wr.setCell ⟨g, f + j, none⟩ (.int .i64 ((Cho.shUp ord f j).getD (f + j + 1) 0 : Nat))) g ord.length cap (Cho.shUp ord f (j + 1))) := LR.out.put _ _
      clear hcur
      generalize (Cho.shUp ord f j).getD (f + j + 1) 0 = x1 at *
      generalize (Cho.shUp ord f j).getD (f + j) 0 = x2 at *
      go_wp2_with fail
      exact ⟨⟨j + 1, by omega, by go_num, NX⟩, by simp [intOf]; omega⟩
    · have ej : j = t - f := by omega
      subst ej
      clear hjt hj
      have HLU : Hid ((Cho.shUp ord f (t - f)).length = ord.length) := Cho.shUp_len ord f (t - f)
      have HMV : Hid (Cho.mv ord f t = (Cho.shDn (Cho.shUp ord f (t - f)) f (f - t)).set t (ord.getD f 0)) := rfl
      generalize Cho.shUp ord f (t - f) = U at *
      have hnlt : ¬ (f : Int) + ((t - f : Nat) : Int) < (t : Int) := by omega
      go_wp2_with fail
      go_loopw [10] (fun x wr => ∃ j : Nat, j ≤ f - t ∧ x = .int .i64 ((f - j : Nat) : Int) ∧ Hid (OwnI w wr g ord.length cap (Cho.shDn U f j))) (fun x _ => (intOf x).toNat - t)
      case atStart => exact ⟨0, Nat.zero_le _, rfl, LR⟩
      case round =>
        obtain ⟨j, hj, rfl, LR2⟩ := hrel
        clear LR
        obtain ⟨cur, hcur, _, _⟩ := LR2.out.blk
        have hgl2 := lt_of_block hcur
        have hlen : (Cho.shDn U f j).length = ord.length := (Cho.shDn_len U f j).trans HLU.out
        by_cases hjt : t < f - j
        · have c1 := LR2.out.cell (f - j - 1) (by rw [hlen]; omega)
          have c2 := LR2.out.cell (f - j) (by rw [hlen]; omega)
          have fz := frozen_of_block hcur (f - j)
          have NX : Hid (OwnI w (wr.setCell ⟨g, f - j, none⟩ (.int .i64 ((Cho.shDn U f j).getD (f - j - 1) 0 : Nat))) g ord.length cap (Cho.shDn U f (j + 1))) := LR2.out.put _ _
          clear hcur
          generalize (Cho.shDn U f j).getD (f - j - 1) 0 = x1 at *
          generalize (Cho.shDn U f j).getD (f - j) 0 = x2 at *
          generalize hm : f - j = m at *
          have em : (f - (j + 1) : Nat) = m - 1 := by omega
          have EM : Hid (f - (j + 1) = m - 1) := em
          clear em
          go_wp2_with fail
          refine ⟨⟨j + 1, by omega, ?_, NX⟩, by simp [intOf]; omega⟩
          rw [EM.out]; go_num
        · have ej : j = f - t := by omega
          subst ej
          have c2 := LR2.out.cell t (by rw [hlen]; omega)
          have fz := frozen_of_block hcur t
          have NX : Hid (OwnI w (wr.setCell ⟨g, t, none⟩ (.int .i64 (v : Nat))) g ord.length cap (Cho.mv ord f t)) := by
            show OwnI _ _ _ _ _ _
            rw [HMV.out, EFD.out]; exact LR2.out.put _ _
          clear hcur
          generalize (Cho.shDn U f (f - t)).getD t 0 = x2 at *
          go_wp2_with fail
          go_ret
          exact ⟨g, cap, rfl, NX.out⟩
end Go.Proofs.YthoodkbdpnffdaaDoor
