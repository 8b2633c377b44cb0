/-
  Own work: the program's reader of texts: digits, signs, numbers, links (walks).
-/
import Derived.Test.YthoodkbdpnffdabDoorPutW
import Derived.Deep.RegionHeld3
namespace Go.Proofs.YthoodkbdpnffdabDoor
open Go.RowKit
open Cho (U64 Tab full col decL dgt Nd Red lnk tb itm rend Txt Says isD NumAt)

theorem Tryd.infoTItem : (Tryd.prog.info? 69).map (fun i => (i.zero, i.size, i.bytes)) = some (some (.agg #[.int .i64 0, .int .u64 0]), 2, 16) := by kernel_rfl
/-- A reader lies in block r and has come to place k; these items were read. -/
structure Rdr (w : World) (r : Nat) (bs : List UInt8) (n k : Nat) (v : Value) (ns : List Nd) : Prop where
  blk : w.heap[r]? = some (.cells #[.string ⟨bs.toArray⟩, .int .i64 (k : Nat), .int .i64 (n : Nat), v] 66 (0, 0))
  row : w.ownsRow (r + 1) 69 2 v ns.length (itv n ns)
section
variable {w w' : World} {r n k : Nat} {bs : List UInt8} {v : Value} {ns : List Nd}
theorem Rdr.lt (h : Rdr w r bs n k v ns) : r < w.heap.size := lt_of_block h.blk
theorem Rdr.below (h : Rdr w r bs n k v ns) (hb : Below w.heap.size w w') : Rdr w' r bs n k v ns :=
  ⟨(hb.block r h.lt).trans h.blk, owns_kept h.row fun g hg => hb.block g (h.row.lt g hg).2⟩
theorem Rdr.move (h : Rdr w r bs n k v ns) (k' : Nat) : Rdr (w.setCell ⟨r, 1, none⟩ (.int .i64 (k' : Nat))) r bs n k' v ns := by
  refine ⟨?_, owns_kept h.row fun g hg => block_set_other (by have := (h.row.lt g hg).1; simp; omega)⟩
  simp only [World.setCell, Array.getElem?_modify, h.blk]; simp
theorem Rdr.slice (h : Rdr w r bs n k v ns) : ∃ ao cap, v = .slice ao ns.length cap := by
  obtain ⟨ao, cap, rfl⟩ := owns_slice h.row
  exact ⟨ao, cap, rfl⟩
end
theorem below_low {b : Nat} {w w' : World} (h : Below w.heap.size w w') (hb : b ≤ w.heap.size) : Below b w w' := h.mono hb

section
variable {w : World} {r n k : Nat} {bs : List UInt8} {v : Value} {ns : List Nd}
theorem Rdr.drew2 (h : Rdr w r bs n k v ns) : Rdr w.drew.drew r bs n k v ns := ⟨h.blk, owns_kept h.row fun _ _ => rfl⟩
theorem Rdr.drew1 (h : Rdr w r bs n k v ns) : Rdr w.drew r bs n k v ns := ⟨h.blk, owns_kept h.row fun _ _ => rfl⟩
theorem Rdr.step (h : Rdr w r bs n k v ns) : Rdr (w.setCell ⟨r, 1, none⟩ (.int .i64 ((k : Int) + 1))) r bs n (k + 1) v ns := h.move (k + 1)
theorem low_step (w : World) (r : Nat) (x : Value) : Below r w (w.setCell ⟨r, 1, none⟩ x) := Below.setCell (p := ⟨r, 1, none⟩) (Below.refl r w) (Nat.le_refl r) x
end

set_option maxRecDepth 100000 in
set_option maxHeartbeats 1000000 in
theorem digit_yes (r n k d : Nat) (bs : List UInt8) (v : Value) (ns : List Nd) (w : World) (h : Rdr w r bs n k v ns) (hl : bs.length ≤ 2000) (hd : bs[k]? = some (dgt d)) (h10 : d < 10) :
    Calls Tryd.prog 32 #[.pointer (some ⟨r, 0, none⟩)] w fun e w' => e = .returned (.int .i64 (d : Nat)) ∧ Rdr w' r bs n (k + 1) v ns ∧ Below r w w' := by
  obtain ⟨hk, he⟩ := List.getElem?_eq_some_iff.1 hd
  have hsz : (ByteArray.mk bs.toArray).size = bs.length := txt_size bs
  have hbx : (ByteArray.mk bs.toArray)[k]'(by rw [hsz]; exact hk) = dgt d := by rw [← he]; simp [ByteArray.getElem_eq_getElem_data]
  have hdn := Cho.dgt_toNat h10
  have c0 : w.cell? ⟨r, 0, none⟩ = some (.string ⟨bs.toArray⟩) := cell_of_block h.blk 0
  have c1 : w.cell? ⟨r, 1, none⟩ = some (.int .i64 (k : Nat)) := cell_of_block h.blk 1
  have f1 := frozen_of_block h.blk 1
  have hlt := h.lt
  have H : Hid (Rdr w r bs n k v ns) := h
  clear h hd he
  generalize dgt d = D at *
  go_enter Tryd.func32, Tryd.ntmps32
  go_wp2_with fail
  go_region_held3 (fun w' => w'.cell? ⟨r, 0, none⟩ = some (.string ⟨bs.toArray⟩) ∧ w'.cell? ⟨r, 1, none⟩ = some (.int .i64 (k : Nat))) (first | exact ⟨c0, c1⟩ | go_keep) (fail)
  all_goals
    go_wp2_with fail
    go_region_held3 (fun w' => w'.cell? ⟨r, 0, none⟩ = some (.string ⟨bs.toArray⟩) ∧ w'.cell? ⟨r, 1, none⟩ = some (.int .i64 (k : Nat))) (first | exact ⟨c0, c1⟩ | go_keep) (fail)
  all_goals
    go_wp2_with fail
    go_ret
    exact ⟨ret_int (by omega), H.out.step.drew2, (low_step _ _ _).drew.drew⟩

set_option maxRecDepth 100000 in
set_option maxHeartbeats 1000000 in
theorem digit_no (r n k : Nat) (bs : List UInt8) (v : Value) (ns : List Nd) (w : World) (h : Rdr w r bs n k v ns) (hd : ∀ c, bs[k]? = some c → isD c = false) :
    Calls Tryd.prog 32 #[.pointer (some ⟨r, 0, none⟩)] w fun e w' => e = .returned (.int .i64 (-1)) ∧ Rdr w' r bs n k v ns ∧ Below r w w' := by
  have hsz : (ByteArray.mk bs.toArray).size = bs.length := txt_size bs
  have c0 : w.cell? ⟨r, 0, none⟩ = some (.string ⟨bs.toArray⟩) := cell_of_block h.blk 0
  have c1 : w.cell? ⟨r, 1, none⟩ = some (.int .i64 (k : Nat)) := cell_of_block h.blk 1
  have hlt := h.lt
  have H : Hid (Rdr w r bs n k v ns) := h
  clear h
  by_cases hk : k < bs.length
  · have hbx : (ByteArray.mk bs.toArray)[k]'(by rw [hsz]; exact hk) = bs[k] := by simp [ByteArray.getElem_eq_getElem_data]
    have hno := hd bs[k] (List.getElem?_eq_getElem hk)
    generalize bs[k] = D at *
    have hdn : D.toNat < 48 ∨ 57 < D.toNat := by simp [isD] at hno; omega
    have hD := UInt8.toNat_lt D
    clear hd hno
    generalize hq : D.toNat = q at *
    rcases hdn with h1 | h1
    · go_enter Tryd.func32, Tryd.ntmps32
      go_wp2_with fail
      go_region_held3 (fun w' => w'.cell? ⟨r, 0, none⟩ = some (.string ⟨bs.toArray⟩) ∧ w'.cell? ⟨r, 1, none⟩ = some (.int .i64 (k : Nat))) (first | exact ⟨c0, c1⟩ | go_keep) (fail)
      all_goals
        go_wp2_with fail
        go_region_held3 (fun w' => w'.cell? ⟨r, 0, none⟩ = some (.string ⟨bs.toArray⟩) ∧ w'.cell? ⟨r, 1, none⟩ = some (.int .i64 (k : Nat))) (first | exact ⟨c0, c1⟩ | go_keep) (fail)
      all_goals
        go_wp2_with fail
        go_ret
        exact ⟨rfl, H.out.drew2, (Below.refl _ _).drew.drew⟩
    · have h2 : ¬ q < 48 := by omega
      go_enter Tryd.func32, Tryd.ntmps32
      go_wp2_with fail
      go_region_held3 (fun w' => w'.cell? ⟨r, 0, none⟩ = some (.string ⟨bs.toArray⟩) ∧ w'.cell? ⟨r, 1, none⟩ = some (.int .i64 (k : Nat))) (first | exact ⟨c0, c1⟩ | go_keep) (fail)
      all_goals
        go_wp2_with fail
        go_region_held3 (fun w' => w'.cell? ⟨r, 0, none⟩ = some (.string ⟨bs.toArray⟩) ∧ w'.cell? ⟨r, 1, none⟩ = some (.int .i64 (k : Nat))) (first | exact ⟨c0, c1⟩ | go_keep) (fail)
      all_goals
        go_wp2_with fail
        go_ret
        exact ⟨rfl, H.out.drew2, (Below.refl _ _).drew.drew⟩
  · clear hd
    have hk2 : bs.length ≤ k := by omega
    go_enter Tryd.func32, Tryd.ntmps32
    go_wp2_with fail
    go_region_held3 (fun w' => w'.cell? ⟨r, 0, none⟩ = some (.string ⟨bs.toArray⟩) ∧ w'.cell? ⟨r, 1, none⟩ = some (.int .i64 (k : Nat))) (first | exact ⟨c0, c1⟩ | go_keep) (fail)
    all_goals
      go_wp2_with fail
      go_ret
      exact ⟨rfl, H.out.drew1, (Below.refl _ _).drew⟩

set_option maxRecDepth 100000 in
set_option maxHeartbeats 1000000 in
theorem sign_yes (r n k : Nat) (c : UInt8) (bs : List UInt8) (v : Value) (ns : List Nd) (w : World) (h : Rdr w r bs n k v ns) (hl : bs.length ≤ 2000) (hd : bs[k]? = some c) :
    Calls Tryd.prog 34 #[.pointer (some ⟨r, 0, none⟩), .int .u8 (c.toNat : Nat)] w fun e w' => e = .returned (.bool true) ∧ Rdr w' r bs n (k + 1) v ns ∧ Below r w w' := by
  obtain ⟨hk, he⟩ := List.getElem?_eq_some_iff.1 hd
  have hsz : (ByteArray.mk bs.toArray).size = bs.length := txt_size bs
  have hbx : (ByteArray.mk bs.toArray)[k]'(by rw [hsz]; exact hk) = c := by rw [← he]; simp [ByteArray.getElem_eq_getElem_data]
  have c0 : w.cell? ⟨r, 0, none⟩ = some (.string ⟨bs.toArray⟩) := cell_of_block h.blk 0
  have c1 : w.cell? ⟨r, 1, none⟩ = some (.int .i64 (k : Nat)) := cell_of_block h.blk 1
  have f1 := frozen_of_block h.blk 1
  have hlt := h.lt
  have H : Hid (Rdr w r bs n k v ns) := h
  clear h hd he
  have hg : decide (bs.length ≤ k) = false := by simp; omega
  go_enter Tryd.func34, Tryd.ntmps34
  go_wp2_with fail
  go_region_held3 (fun w' => w'.cell? ⟨r, 0, none⟩ = some (.string ⟨bs.toArray⟩) ∧ w'.cell? ⟨r, 1, none⟩ = some (.int .i64 (k : Nat))) (first | exact ⟨c0, c1⟩ | go_keep) (fail)
  all_goals
    go_wp2_with fail
    go_ret
    exact ⟨rfl, H.out.step.drew1, (low_step _ _ _).drew⟩

set_option maxRecDepth 100000 in
set_option maxHeartbeats 1000000 in
theorem sign_no (r n k : Nat) (c : UInt8) (bs : List UInt8) (v : Value) (ns : List Nd) (w : World) (h : Rdr w r bs n k v ns) (hd : bs[k]? ≠ some c) :
    Calls Tryd.prog 34 #[.pointer (some ⟨r, 0, none⟩), .int .u8 (c.toNat : Nat)] w fun e w' => e = .returned (.bool false) ∧ Rdr w' r bs n k v ns ∧ Below r w w' := by
  have hsz : (ByteArray.mk bs.toArray).size = bs.length := txt_size bs
  have c0 : w.cell? ⟨r, 0, none⟩ = some (.string ⟨bs.toArray⟩) := cell_of_block h.blk 0
  have c1 : w.cell? ⟨r, 1, none⟩ = some (.int .i64 (k : Nat)) := cell_of_block h.blk 1
  have hlt := h.lt
  have H : Hid (Rdr w r bs n k v ns) := h
  clear h
  by_cases hk : k < bs.length
  · have hbx : (ByteArray.mk bs.toArray)[k]'(by rw [hsz]; exact hk) = bs[k] := by simp [ByteArray.getElem_eq_getElem_data]
    have hne : (((bs[k]).toNat : Int) != (c.toNat : Int)) = true := by
      simp
      intro e
      exact hd (by rw [List.getElem?_eq_getElem hk, UInt8.toNat_inj.1 (by omega : bs[k].toNat = c.toNat)])
    clear hd
    generalize bs[k] = D at *
    have hg : decide (bs.length ≤ k) = false := by simp; omega
    go_enter Tryd.func34, Tryd.ntmps34
    go_wp2_with fail
    go_region_held3 (fun w' => w'.cell? ⟨r, 0, none⟩ = some (.string ⟨bs.toArray⟩) ∧ w'.cell? ⟨r, 1, none⟩ = some (.int .i64 (k : Nat))) (first | exact ⟨c0, c1⟩ | go_keep) (fail)
    all_goals
      go_wp2_with fail
      go_ret
      exact ⟨rfl, H.out.drew1, (Below.refl _ _).drew⟩
  · clear hd
    have hg : decide (bs.length ≤ k) = true := by simp; omega
    go_enter Tryd.func34, Tryd.ntmps34
    go_wp2_with fail
    refine wp_region_noPanic ?_
    refine wp_region_held_drew (S := fun w' => w'.cell? ⟨r, 0, none⟩ = some (.string ⟨bs.toArray⟩) ∧ w'.cell? ⟨r, 1, none⟩ = some (.int .i64 (k : Nat))) (by kernel_rfl) ⟨c0, c1⟩ (fun hHeld => ?_)
    refine wpAnyH_take (i := 0) (v := ?_) rfl (by kernel_rfl) (by kernel_rfl) (by kernel_rfl) (fun _ _ _ h => h) (Or.inl ⟨by rfl, ?_⟩) (by assumption) ?_
    rotate_left
    focus (intro w hSw; (try dsimp only at hSw); go_simp; try with_reducible rfl)
    try simp only [Act.put, List.getElem_toArray, List.getElem_cons_zero, List.setIfInBounds_toArray, List.set_cons_zero, List.set_cons_succ]
    refine wpAnyH_take (i := 1) (v := ?_) rfl (by kernel_rfl) (by kernel_rfl) (by kernel_rfl) (fun _ _ _ h => h) (Or.inl ⟨by rfl, ?_⟩) (by assumption) ?_
    rotate_left
    focus (intro w hSw; (try dsimp only at hSw); go_simp; try with_reducible rfl)
    try simp only [Act.put, List.getElem_toArray, List.getElem_cons_zero, List.getElem_cons_succ, List.setIfInBounds_toArray, List.set_cons_zero, List.set_cons_succ]
    refine wpAnyH_take (i := 2) (v := ?_) rfl (by kernel_rfl) (by kernel_rfl) (by kernel_rfl) (fun _ _ _ h => h) (Or.inl ⟨by rfl, ?_⟩) (by assumption) ?_
    rotate_left
    focus (intro w hSw; (try dsimp only at hSw); go_simp; try with_reducible rfl)
    try simp only [Act.put, List.getElem_toArray, List.getElem_cons_zero, List.getElem_cons_succ, List.setIfInBounds_toArray, List.set_cons_zero, List.set_cons_succ]
    refine wpAnyH_take (i := 3) (v := ?_) rfl (by kernel_rfl) (by kernel_rfl) (by kernel_rfl) (fun _ _ _ h => h) (Or.inl ⟨by rfl, ?_⟩) (by assumption) ?_
    rotate_left
    focus (intro w hSw; (try dsimp only at hSw); go_simp; try with_reducible rfl)
    try simp only [Act.put, List.getElem_toArray, List.getElem_cons_zero, List.getElem_cons_succ, List.setIfInBounds_toArray, List.set_cons_zero, List.set_cons_succ]
    refine wpAnyH_take (i := 4) (v := ?_) rfl (by kernel_rfl) (by kernel_rfl) (by kernel_rfl) (fun _ _ _ h => h) (Or.inl ⟨by rfl, ?_⟩) (by assumption) ?_
    rotate_left
    focus (intro w hSw; (try dsimp only at hSw); go_simp; try with_reducible rfl)
    try simp only [Act.put, List.getElem_toArray, List.getElem_cons_zero, List.getElem_cons_succ, List.setIfInBounds_toArray, List.set_cons_zero, List.set_cons_succ]
    refine wpAnyH_take (i := 5) (v := ?_) rfl (by kernel_rfl) (by kernel_rfl) (by kernel_rfl) (fun _ _ _ h => h) (Or.inl ⟨by rfl, ?_⟩) (by assumption) ?_
    rotate_left
    focus (intro w hSw; (try dsimp only at hSw); go_simp; try with_reducible rfl)
    try simp only [Act.put, List.getElem_toArray, List.getElem_cons_zero, List.getElem_cons_succ, List.setIfInBounds_toArray, List.set_cons_zero, List.set_cons_succ]
    refine wpAnyH_take (i := 6) (v := ?_) rfl (by kernel_rfl) (by kernel_rfl) (by kernel_rfl) (fun _ _ _ h => h) (Or.inl ⟨by rfl, ?_⟩) (by assumption) ?_
    rotate_left
    focus (intro w hSw; (try dsimp only at hSw); go_simp; try with_reducible rfl)
    try simp only [Act.put, List.getElem_toArray, List.getElem_cons_zero, List.getElem_cons_succ, List.setIfInBounds_toArray, List.set_cons_zero, List.set_cons_succ]
    refine wpAnyH_take (i := 7) (v := ?_) rfl (by kernel_rfl) (by kernel_rfl) (by kernel_rfl) (fun _ _ _ h => h) (Or.inl ⟨by rfl, ?_⟩) (by assumption) ?_
    rotate_left
    focus (intro w hSw; (try dsimp only at hSw); go_simp; try with_reducible rfl)
    try simp only [Act.put, List.getElem_toArray, List.getElem_cons_zero, List.getElem_cons_succ, List.setIfInBounds_toArray, List.set_cons_zero, List.set_cons_succ]
    refine wpAnyH_take (i := 8) (v := ?_) rfl (by kernel_rfl) (by kernel_rfl) (by kernel_rfl) (fun _ _ _ h => h) (Or.inl ⟨by rfl, ?_⟩) (by assumption) ?_
    rotate_left
    focus (intro w hSw; (try dsimp only at hSw); go_simp; try with_reducible rfl)
    try simp only [Act.put, List.getElem_toArray, List.getElem_cons_zero, List.getElem_cons_succ, List.setIfInBounds_toArray, List.set_cons_zero, List.set_cons_succ]
    refine wpAnyH_take (i := 9) (v := ?_) rfl (by kernel_rfl) (by kernel_rfl) (by kernel_rfl) (fun _ _ _ h => h) (Or.inl ⟨by rfl, ?_⟩) (by assumption) ?_
    rotate_left
    focus (intro w hSw; (try dsimp only at hSw); go_simp; try with_reducible rfl)
    try simp only [Act.put, List.getElem_toArray, List.getElem_cons_zero, List.getElem_cons_succ, List.setIfInBounds_toArray, List.set_cons_zero, List.set_cons_succ]
    refine wpAnyH_take (i := 10) (v := ?_) rfl (by kernel_rfl) (by kernel_rfl) (by kernel_rfl) (fun _ _ _ h => h) (Or.inl ⟨by rfl, ?_⟩) (by assumption) ?_
    rotate_left
    focus (intro w hSw; (try dsimp only at hSw); go_simp; try with_reducible rfl)
    try simp only [Act.put, List.getElem_toArray, List.getElem_cons_zero, List.getElem_cons_succ, List.setIfInBounds_toArray, List.set_cons_zero, List.set_cons_succ]
    refine wpAnyH_take (i := 11) (v := undef) rfl (by kernel_rfl) (by kernel_rfl) (by kernel_rfl) (fun _ _ _ h => h) (Or.inr ⟨by rfl, rfl⟩) (by assumption) ?_
    try simp only [Act.put, List.getElem_toArray, List.getElem_cons_zero, List.getElem_cons_succ, List.setIfInBounds_toArray, List.set_cons_zero, List.set_cons_succ]
    refine wpAnyH_take (i := 12) (v := undef) rfl (by kernel_rfl) (by kernel_rfl) (by kernel_rfl) (fun _ _ _ h => h) (Or.inr ⟨by rfl, rfl⟩) (by assumption) ?_
    try simp only [Act.put, List.getElem_toArray, List.getElem_cons_zero, List.getElem_cons_succ, List.setIfInBounds_toArray, List.set_cons_zero, List.set_cons_succ]
    refine wpAnyH_take (i := 13) (v := undef) rfl (by kernel_rfl) (by kernel_rfl) (by kernel_rfl) (fun _ _ _ h => h) (Or.inr ⟨by rfl, rfl⟩) (by assumption) ?_
    try simp only [Act.put, List.getElem_toArray, List.getElem_cons_zero, List.getElem_cons_succ, List.setIfInBounds_toArray, List.set_cons_zero, List.set_cons_succ]
    refine wpAnyH_take (i := 14) (v := undef) rfl (by kernel_rfl) (by kernel_rfl) (by kernel_rfl) (fun _ _ _ h => h) (Or.inr ⟨by rfl, rfl⟩) (by assumption) ?_
    try simp only [Act.put, List.getElem_toArray, List.getElem_cons_zero, List.getElem_cons_succ, List.setIfInBounds_toArray, List.set_cons_zero, List.set_cons_succ]
    refine wpAnyH_take (i := 15) (v := undef) rfl (by kernel_rfl) (by kernel_rfl) (by kernel_rfl) (fun _ _ _ h => h) (Or.inr ⟨by rfl, rfl⟩) (by assumption) ?_
    try simp only [Act.put, List.getElem_toArray, List.getElem_cons_zero, List.getElem_cons_succ, List.setIfInBounds_toArray, List.set_cons_zero, List.set_cons_succ]
    refine wpAnyH_take (i := 16) (v := undef) rfl (by kernel_rfl) (by kernel_rfl) (by kernel_rfl) (fun _ _ _ h => h) (Or.inr ⟨by rfl, rfl⟩) (by assumption) ?_
    try simp only [Act.put, List.getElem_toArray, List.getElem_cons_zero, List.getElem_cons_succ, List.setIfInBounds_toArray, List.set_cons_zero, List.set_cons_succ]
    refine wpAnyH_take (i := 17) (v := undef) rfl (by kernel_rfl) (by kernel_rfl) (by kernel_rfl) (fun _ _ _ h => h) (Or.inr ⟨by rfl, rfl⟩) (by assumption) ?_
    try simp only [Act.put, List.getElem_toArray, List.getElem_cons_zero, List.getElem_cons_succ, List.setIfInBounds_toArray, List.set_cons_zero, List.set_cons_succ]
    refine wpAnyH_take (i := 18) (v := undef) rfl (by kernel_rfl) (by kernel_rfl) (by kernel_rfl) (fun _ _ _ h => h) (Or.inr ⟨by rfl, rfl⟩) (by assumption) ?_
    try simp only [Act.put, List.getElem_toArray, List.getElem_cons_zero, List.getElem_cons_succ, List.setIfInBounds_toArray, List.set_cons_zero, List.set_cons_succ]
    refine wpAnyH_take (i := 19) (v := undef) rfl (by kernel_rfl) (by kernel_rfl) (by kernel_rfl) (fun _ _ _ h => h) (Or.inr ⟨by rfl, rfl⟩) (by assumption) ?_
    try simp only [Act.put, List.getElem_toArray, List.getElem_cons_zero, List.getElem_cons_succ, List.setIfInBounds_toArray, List.set_cons_zero, List.set_cons_succ]
    refine wpAnyH_take (i := 20) (v := undef) rfl (by kernel_rfl) (by kernel_rfl) (by kernel_rfl) (fun _ _ _ h => h) (Or.inr ⟨by rfl, rfl⟩) (by assumption) ?_
    try simp only [Act.put, List.getElem_toArray, List.getElem_cons_zero, List.getElem_cons_succ, List.setIfInBounds_toArray, List.set_cons_zero, List.set_cons_succ]
    refine wpAnyH_take (i := 21) (v := undef) rfl (by kernel_rfl) (by kernel_rfl) (by kernel_rfl) (fun _ _ _ h => h) (Or.inr ⟨by rfl, rfl⟩) (by assumption) ?_
    try simp only [Act.put, List.getElem_toArray, List.getElem_cons_zero, List.getElem_cons_succ, List.setIfInBounds_toArray, List.set_cons_zero, List.set_cons_succ]
    refine wpAnyH_take (i := 22) (v := ?_) rfl (by kernel_rfl) (by kernel_rfl) (by kernel_rfl) (fun _ _ _ h => h) (Or.inl ⟨by rfl, ?_⟩) (by assumption) ?_
    rotate_left
    focus (intro w hSw; (try dsimp only at hSw); go_simp; try with_reducible rfl)
    try simp only [Act.put, List.getElem_toArray, List.getElem_cons_zero, List.getElem_cons_succ, List.setIfInBounds_toArray, List.set_cons_zero, List.set_cons_succ]
    refine wpAnyH_done (by kernel_rfl) ?_ _
    refine NoPanic.normal ?_
    all_goals
      go_wp2_with fail
      go_ret
      exact ⟨rfl, H.out.drew1, (Below.refl _ _).drew⟩
end Go.Proofs.YthoodkbdpnffdabDoor
