/-
  Own work: 'New' makes an empty store whose order is 0, 1, 2, .. (walks).
-/
import Derived.Test.YthoodkbdpnffdabDoorAddW
import Derived.Test.YthoodkbdpnffdabDoorPlainG
import Derived.Deep.DeepMust
namespace Go.Proofs.YthoodkbdpnffdabDoor
open Go.RowKit
open Cho (U64 Tab full col Nd)

theorem Tryd.infoInt : (Tryd.prog.info? 3).map (fun i => (i.zero, i.size, i.bytes)) = some (some (.int .i64 0), 1, 8) := by kernel_rfl

/-- While the order is laid: the two blocks of the call, the order's row. -/
structure Laying (w wr : World) (k : Nat) (ov : Value) : Prop where
  dia : wr.heap[w.heap.size + 1]? = some (.cells #[ov, .slice none 0 0] 51 (0, 0))
  res : wr.heap[w.heap.size]? = some (.cells #[.slice none 0 0, .slice none 0 0] 51 (0, 0))
  row : wr.ownsRow (w.heap.size + 2) 3 1 ov k (lv (List.range k))
  bel : Below w.heap.size w wr

theorem laying_step {w wr w1 : World} {k : Nat} {ov ov' : Value} {o : Obj} (h : Laying w wr k ov) (hr : w1.ownsRow (w.heap.size + 2) 3 1 ov' (k + 1) (lv (List.range k) ++ [.int .i64 k])) (hg : (wr.alloc o).grownBy w1 ov.ownBlock) :
    Laying w (w1.setCell ⟨w.heap.size + 1, 0, none⟩ ov') (k + 1) ov' := by
  have hlt := h.row.lt
  have hs := lt_of_block h.dia
  have n1 : some (w.heap.size + 1) ≠ ov.ownBlock := fun e => by have := (hlt _ e.symm).1; omega
  have n0 : some w.heap.size ≠ ov.ownBlock := fun e => by have := (hlt _ e.symm).1; omega
  have d1 := (hg.block _ (by simp; omega) n1).trans ((Below.heap_alloc _ _ _ hs).trans h.dia)
  have d0 := (hg.block _ (by simp; omega) n0).trans ((Below.heap_alloc _ _ _ (by omega)).trans h.res)
  refine ⟨?_, ?_, ?_, ?_⟩
  · simp only [World.setCell, Array.getElem?_modify, d1]; simp
  · rw [block_set_other (by simp)]; exact d0
  · have e : lv (List.range k) ++ [.int .i64 (k : Int)] = lv (List.range (k + 1)) := by simp [lv, List.range_succ]
    rw [e] at hr
    exact owns_kept hr fun g hgb => block_set_other (by have := (hr.lt g hgb).1; simp; omega)
  · exact ((h.bel.alloc (by omega) o).grown hg (by simp; omega) (fun q hq => by have := (hlt q hq).1; omega)).setCell (by simp) _

theorem laying_mid {w wr w1 : World} {k : Nat} {ov : Value} {o : Obj} (h : Laying w wr k ov) (hg : (wr.alloc o).grownBy w1 ov.ownBlock) : w1.heap[w.heap.size + 1]? = some (.cells #[ov, .slice none 0 0] 51 (0, 0)) := by
  have hlt := h.row.lt
  have hs := lt_of_block h.dia
  have n1 : some (w.heap.size + 1) ≠ ov.ownBlock := fun e => by have := (hlt _ e.symm).1; omega
  exact (hg.block _ (by simp; omega) n1).trans ((Below.heap_alloc _ _ _ hs).trans h.dia)
theorem one_new (w : World) (v : Value) (T : TypeId) : ∀ j u, [v][j]? = some u → (w.alloc (.cells #[v] T)).cell? ((⟨w.heap.size, 0, none⟩ : Addr).add j) = some u := new_cells w [v] T

set_option maxRecDepth 100000 in
set_option maxHeartbeats 400000 in
theorem dnew_calls (n : Nat) (w : World) (h6 : n ≤ 6) :
    Calls Tryd.prog 23 #[.int .i64 n] w fun e w' => ∃ ov, e = .returned (.agg #[ov, .slice none 0 0]) ∧ w'.ownsRow (w.heap.size + 2) 3 1 ov n (lv (List.range n)) ∧ Below w.heap.size w w' := by
  obtain ⟨i0, hi, hz0, hz1, hz2⟩ := info_parts Tryd.infoInt
  go_enter Tryd.func23, Tryd.ntmps23
  go_wp2
  go_loopw [4] (fun i wr => ∃ (k : Nat) (ov : Value), k ≤ n ∧ i = .int .i64 k ∧ Laying w wr k ov) (fun i _ => n - (intOf i).toNat)
  case atStart =>
    refine ⟨0, .slice none 0 0, Nat.zero_le _, rfl, ⟨?_, ?_, ?_, ?_⟩⟩
    · rw [show w.heap.size + 1 = (w.alloc (.cells #[.slice none 0 0, .slice none 0 0] 51)).heap.size from by simp]
      exact heap_res _ _
    · exact (Below.heap_alloc _ _ _ (by simp)).trans (heap_res _ _)
    · exact World.ownsRow_nil _ _ _ _
    · exact ((Below.refl _ _).alloc (Nat.le_refl _) _).alloc (by simp) _
  case round =>
    obtain ⟨k, ov, hk, rfl, hlay⟩ := hrel
    obtain ⟨ao, cap, rfl⟩ := owns_slice hlay.row
    have c0 := cell_of_block hlay.dia 0
    have c1 := cell_of_block hlay.dia 1
    have hsz := lt_of_block hlay.dia
    have HL : Hid (Laying w wr k (.slice ao k cap)) := hlay
    have HROW : Hid ((wr.alloc (.cells #[.int .i64 k] 3)).ownsRow (w.heap.size + 2) 3 1 (.slice ao k cap) k (lv (List.range k))) := hlay.row.alloc _
    clear hlay
    by_cases hkn : k < n
    · have F1 : Hid (k + 1 ≤ maxLen) := by show k + 1 ≤ maxLen; unfold maxLen; omega
      have F2 : Hid ((k + 1) * 8 ≤ 140737488355328) := by show (k + 1) * 8 ≤ 140737488355328; omega
      have F3 : Hid (w.heap.size + 2 ≤ (wr.alloc (.cells #[.int .i64 k] 3)).heap.size) := by show w.heap.size + 2 ≤ (wr.alloc (.cells #[.int .i64 k] 3)).heap.size; simp; omega
      go_wp2_with (at_builtin; go_must (refine wpList_append_own _ rfl (.tmp 16) (.tmp 18) 48 rfl (w.heap.size + 2) 3 i0 _ 1 8 Tryd.underlying48 hi hz0 hz1 hz2 rfl (Nat.succ_pos 0) (.slice ao k cap) k (lv (List.range k)) ?e1 HROW.out ⟨wr.heap.size, 0, none⟩ 1 1 [.int .i64 k] ?e2 rfl (one_new wr _ _) ?e3 F1.out F2.out F3.out ?_); (case e1 => rfl); (case e2 => rfl); (case e3 => simp [Value.oneCell']); intro v' w1 hown hgrow _; obtain ⟨ao2, cap2, rfl⟩ := owns_slice hown; have hm := laying_mid HL.out hgrow; have m0 := cell_of_block hm 0; have mf := frozen_of_block hm 0; have HST : Hid (Laying w (w1.setCell ⟨w.heap.size + 1, 0, none⟩ (.slice ao2 (k + 1) cap2)) (k + 1) (.slice ao2 (k + 1) cap2)) := laying_step HL.out hown hgrow; clear hm hown hgrow)
      exact ⟨⟨k + 1, _, hkn, by go_num, HST.out⟩, by simp [intOf]; omega⟩
    · obtain rfl : k = n := by omega
      have r0 := cell_of_block HL.out.res 0
      have r1 := cell_of_block HL.out.res 1
      have f0 := frozen_of_block HL.out.res 0
      have f1 := frozen_of_block HL.out.res 1
      go_wp2
      refine bodyPost_ret (v := .agg #[.slice ao k cap, .slice none 0 0]) (by simp [results, Tryd.results23, go_sem, r0, r1]) rfl ⟨_, rfl, ?_, ?_⟩
      · exact owns_kept HL.out.row fun g hg => by
          have := (HL.out.row.lt g hg).1
          rw [block_set_other (by simp; omega), block_set_other (by simp; omega)]
      · exact (HL.out.bel.setCell (Nat.le_refl _) _).setCell (Nat.le_refl _) _

/-- An empty store. -/
def St.empty (n room : Nat) : St := { n := n, room := room, given := 0, hs := List.replicate 30 0, rs := List.replicate 30 0, ord := List.range n, ns := [] }

theorem zero_store (w : World) : (zeroValue 53).run Tryd.prog w = .ok (.agg #[.int .i64 0, .int .i64 0, .int .u32 0, .int .u32 0, .int .u32 0, .int .u32 0, .int .u32 0, .int .u32 0, .int .u32 0, .int .u32 0, .int .u32 0, .int .u32 0, .int .u32 0, .int .u32 0, .int .u32 0, .int .u32 0, .int .u32 0, .int .u32 0, .int .u32 0, .int .u32 0, .int .u32 0, .int .u32 0, .int .u32 0, .int .u32 0, .int .u32 0, .int .u32 0, .int .u32 0, .int .u32 0, .int .u32 0, .int .u32 0, .int .u32 0, .int .u32 0, .int .u32 0, .int .i64 0, .int .i64 0, .int .i64 0, .int .i64 0, .int .i64 0, .int .i64 0, .int .i64 0, .int .i64 0, .int .i64 0, .int .i64 0, .int .i64 0, .int .i64 0, .int .i64 0, .int .i64 0, .int .i64 0, .int .i64 0, .int .i64 0, .int .i64 0, .int .i64 0, .int .i64 0, .int .i64 0, .int .i64 0, .int .i64 0, .int .i64 0, .int .i64 0, .int .i64 0, .int .i64 0, .int .i64 0, .int .i64 0, .int .i64 0, .slice none 0 0, .slice none 0 0]) w := by kernel_rfl

theorem new_end {w w1 : World} {n room go capo : Nat} {cur : Array Value} (hbel : Below w.heap.size w w1) (hrow : w1.ownsRow (w.heap.size + 2) 3 1 (.slice (some ⟨go, 0, none⟩) n capo) n (lv (List.range n)))
    (hcur : w1.heap[go]? = some (.cells cur 3 (0, 0))) (hc : Cols w) (h6 : n ≤ 6) (hr4 : room ≤ 4000) :
    StoreAt (w1.alloc (.cells (cellsOf (St.empty n room) (.slice (some ⟨go, 0, none⟩) n capo) (.slice none 0 0)).toArray 53)) w1.heap.size (St.empty n room) := by
  have h0 := cols_pos hc
  have hs := hbel.size
  have hgo := lt_of_block hcur
  have hcap : n ≤ capo := by
    obtain ⟨_, ⟨he, _⟩ | ⟨g, cap, cu, he, _, _, h, _⟩⟩ := hrow
    · simp at he
    · simp at he; omega
  refine ⟨by omega, ⟨go, capo, .slice none 0 0, 0, ?_, ?_, ⟨cur, (Below.heap_alloc _ _ _ hgo).trans hcur⟩, by simpa [St.empty] using hcap, World.ownsRow_nil _ _ _ _⟩, by simp [St.empty], by simp [St.empty], by simp [St.empty], h6, by simp [St.empty], by simp [St.empty], hr4, ?_⟩
  · rw [show (St.empty n room).ord.length = n from by simp [St.empty]]
    exact heap_res _ _
  · intro i hi
    have hin : i < n := by simpa [St.empty] using hi
    rw [cell_alloc_old hgo]
    have := hrow.cells (g := go) rfl i (.int .i64 i) (by simp [lv, hin])
    rw [Addr.add_mid, Nat.zero_add] at this
    rw [this]
    simp [St.empty]
  · intro i hi
    rw [cell_alloc_old (by omega)]
    exact (hc.below hbel h0) i hi

set_option maxRecDepth 100000 in
set_option maxHeartbeats 1000000 in
theorem new_calls (n room : Nat) (w : World) (h1 : 1 ≤ n) (h6 : n ≤ 6) (hr1 : 1 ≤ room) (hr4 : room ≤ 4000) (hc : Cols w) :
    Calls Tryd.prog 13 #[.int .i64 n, .int .i64 room] w fun e w' => ∃ s, e = .returned (.tuple #[.pointer (some ⟨s, 0, none⟩), .int .i64 0]) ∧ StoreAt w' s (St.empty n room) ∧ w.heap.size ≤ s ∧ Below w.heap.size w w' := by
  go_enter Tryd.func13, Tryd.ntmps13
  go_wp2_with fail
  refine (dnew_calls n _ h6).mono ?_
  rintro e w1 ⟨ov, rfl, hrow, hbel⟩
  obtain ⟨go, capo, rfl, hgB, cur, hcur⟩ := owns_form hrow (by omega)
  have hzs := zero_store
  go_wp2_with fail
  go_ret2
  refine ⟨w1.heap.size, rfl, new_end (room := room) hbel hrow hcur hc h6 hr4, hbel.size, hbel.alloc hbel.size _⟩
end Go.Proofs.YthoodkbdpnffdabDoor
