/-
  Own work: the document's answer: New and Release (walks).
-/
import Derived.Test.YthejboamnjcdfaaGreatDoorRefMP
import Derived.Test.YthejboamnjcdfaaGreatDoorNewW
namespace Go.Proofs.YthejboamnjcdfaaGreatDoor
open Go.RowKit
open Cho (U64 Tab full col)

/-- An empty store. -/
def RSt.empty (n room : Nat) : RSt := { n := n, room := room, given := 0, L := [], ord := List.range n }
theorem empty_ok {n room : Nat} (h1 : 1 ≤ n) (h6 : n ≤ 6) (hr : room ≤ 4000) : RefOk (RSt.empty n room) :=
  ⟨h1, h6, hr, by simp [RSt.empty], by simp [RSt.empty], by simp [RSt.empty, RSt.hs], by simp [RSt.empty, RSt.hs], by simp [RSt.empty, RSt.ts], by simp [RSt.empty], by simp [RSt.empty]⟩

/-- While the order is laid. -/
structure RLay (w wr : World) (n room k : Nat) (ov : Value) : Prop where
  blk : wr.heap[w.heap.size]? = some (.cells #[.int .i64 (n : Nat), .int .i64 (room : Nat), .slice none 0 0, .int .u32 0, ov] 65 (0, 0))
  row : wr.ownsRow (w.heap.size + 1) 3 1 ov k (lv (List.range k))
  bel : Below w.heap.size w wr

theorem rlay_mid {w wr w1 : World} {n room k : Nat} {ov : Value} {o : Obj} (h : RLay w wr n room k ov) (hg : (wr.alloc o).grownBy w1 ov.ownBlock) :
    w1.heap[w.heap.size]? = some (.cells #[.int .i64 (n : Nat), .int .i64 (room : Nat), .slice none 0 0, .int .u32 0, ov] 65 (0, 0)) := by
  have hlt := h.row.lt
  have hs := lt_of_block h.blk
  have n0 : some w.heap.size ≠ ov.ownBlock := fun e => by have := (hlt _ e.symm).1; omega
  exact (hg.block _ (by simp; omega) n0).trans ((Below.heap_alloc _ _ _ hs).trans h.blk)
theorem rlay_step {w wr w1 : World} {n room k : Nat} {ov ov' : Value} {o : Obj} (h : RLay w wr n room k ov) (hr : w1.ownsRow (w.heap.size + 1) 3 1 ov' (k + 1) (lv (List.range k) ++ [.int .i64 k])) (hg : (wr.alloc o).grownBy w1 ov.ownBlock) :
    RLay w (w1.setCell ⟨w.heap.size, 4, none⟩ ov') n room (k + 1) ov' := by
  have hlt := h.row.lt
  have hs := lt_of_block h.blk
  have d0 := rlay_mid h hg
  refine ⟨?_, ?_, ?_⟩
  · simp only [World.setCell, Array.getElem?_modify, d0]; simp
  · have e : lv (List.range k) ++ [.int .i64 (k : Int)] = lv (List.range (k + 1)) := by simp [lv, List.range_succ]
    rw [e] at hr
    exact owns_kept hr fun g hgb => block_set_other (by have := (hr.lt g hgb).1; simp; omega)
  · exact ((h.bel.alloc (by omega) o).grown hg (by simp; omega) (fun q hq => by have := (hlt q hq).1; omega)).setCell (by simp) _

set_option maxRecDepth 100000 in
set_option maxHeartbeats 1000000 in
theorem rnew_calls (n room : Nat) (w : World) (h1 : 1 ≤ n) (h6 : n ≤ 6) (hr1 : 1 ≤ room) (hr4 : room ≤ 4000) :
    Calls Tryz.prog 10 #[.int .i64 n, .int .i64 room] w fun e w' => ∃ y ov, e = .returned (.tuple #[.pointer (some ⟨y, 0, none⟩), .int .i64 0]) ∧ RefAt w.heap.size w' y (RSt.empty n room) (.slice none 0 0) ov ∧ Below w.heap.size w w' := by
  obtain ⟨i0, hi, hz0, hz1, hz2⟩ := info_parts Tryz.infoInt
  have HOK : Hid (RefOk (RSt.empty n room)) := empty_ok h1 h6 hr4
  go_enter Tryz.func10, Tryz.ntmps10
  go_wp2_with fail
  go_loopw [7] (fun i wr => ∃ (k : Nat) (ov : Value), k ≤ n ∧ i = .int .i64 k ∧ RLay w wr n room k ov) (fun i _ => n - (intOf i).toNat)
  case atStart => exact ⟨0, .slice none 0 0, Nat.zero_le _, rfl, heap_res _ _, World.ownsRow_nil _ _ _ _, below_alloc _ _⟩
  case round =>
    obtain ⟨k, ov, hk, rfl, hlay⟩ := hrel
    obtain ⟨ao, cap, rfl⟩ := owns_slice hlay.row
    have c4 := cell_of_block hlay.blk 4
    have hsz := lt_of_block hlay.blk
    have HL : Hid (RLay w wr n room k (.slice ao k cap)) := hlay
    have HROW : Hid ((wr.alloc (.cells #[.int .i64 k] 3)).ownsRow (w.heap.size + 1) 3 1 (.slice ao k cap) k (lv (List.range k))) := hlay.row.alloc _
    clear hlay
    by_cases hkn : k < n
    · have F1 : Hid (k + 1 ≤ maxLen) := by show k + 1 ≤ maxLen; unfold maxLen; omega
      have F2 : Hid ((k + 1) * 8 ≤ 140737488355328) := by show (k + 1) * 8 ≤ 140737488355328; omega
      have F3 : Hid (w.heap.size + 1 ≤ (wr.alloc (.cells #[.int .i64 k] 3)).heap.size) := by show w.heap.size + 1 ≤ (wr.alloc (.cells #[.int .i64 k] 3)).heap.size; simp; omega
      go_wp2_with (at_builtin; go_must (refine wpList_append_own _ rfl _ _ 49 rfl (w.heap.size + 1) 3 i0 _ 1 8 Tryz.underlying49 hi hz0 hz1 hz2 rfl (Nat.succ_pos 0) (.slice ao k cap) k (lv (List.range k)) ?e1 HROW.out ⟨wr.heap.size, 0, none⟩ 1 1 [.int .i64 k] ?e2 rfl (one_new wr _ _) ?e3 F1.out F2.out F3.out ?_); (case e1 => rfl); (case e2 => rfl); (case e3 => simp [Value.oneCell']); intro v' w1 hown hgrow _; obtain ⟨ao2, cap2, rfl⟩ := owns_slice hown; have hm := rlay_mid HL.out hgrow; have m0 := cell_of_block hm 4; have mf := frozen_of_block hm 4; have HST : Hid (RLay w (w1.setCell ⟨w.heap.size, 4, none⟩ (.slice ao2 (k + 1) cap2)) n room (k + 1) (.slice ao2 (k + 1) cap2)) := rlay_step HL.out hown hgrow; clear hm hown hgrow)
      exact ⟨⟨k + 1, _, hkn, by go_num, HST.out⟩, by simp [intOf]; omega⟩
    · obtain rfl : k = n := by omega
      go_wp2_with fail
      go_ret2
      refine ⟨w.heap.size, _, rfl, ⟨HL.out.blk, World.ownsRow_nil _ _ _ _, ?_, HOK.out, Nat.le_refl _⟩, HL.out.bel⟩
      have hrow := HL.out.row
      have e : (RSt.empty k room).ord.length = k := by simp [RSt.empty]
      rw [e]
      obtain ⟨h1, h2⟩ := hrow
      refine ⟨h1, h2.imp id ?_⟩
      rintro ⟨g, cap', cur, e1, e2, e3⟩
      exact ⟨g, cap', cur, e1, by omega, e3⟩

theorem rnew_bad (n room : Int) (w : World) (hbad : ¬ (1 ≤ n ∧ n ≤ 6 ∧ 1 ≤ room ∧ room ≤ 4000)) :
    Calls Tryz.prog 10 #[.int .i64 n, .int .i64 room] w fun e w' => e = .returned (.tuple #[.pointer none, .int .i64 1]) ∧ w' = w := by
  have hc : n < 1 ∨ (1 ≤ n ∧ 6 < n) ∨ (1 ≤ n ∧ n ≤ 6 ∧ room < 1) ∨ (1 ≤ n ∧ n ≤ 6 ∧ 1 ≤ room ∧ 4000 < room) := by omega
  clear hbad
  rcases hc with h | ⟨h1, h2⟩ | ⟨h1, h2, h3⟩ | ⟨h1, h2, h3, h4⟩
  all_goals
    go_enter Tryz.func10, Tryz.ntmps10
    go_wp2_with fail
    go_ret2
    exact ⟨rfl, rfl⟩
end Go.Proofs.YthejboamnjcdfaaGreatDoor
