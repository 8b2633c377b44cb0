/-
  Own work: the steps of a script on one pair of stores: questions, Release (walks over contracts).
-/
import Derived.Test.YthoodkbdpnffdabGreatDoorLawB
namespace Go.Proofs.YthoodkbdpnffdabGreatDoor
open Go.RowKit
open Cho (U64 Tab full col Nd Red)

set_option maxRecDepth 100000 in
set_option maxHeartbeats 1000000 in
theorem asks_eval (B : Nat) (p : Pr) (o : SOp) (w : World) (hk : o.kind = 8) (h : PairOk B w p) :
    Calls Tryz.prog 13 #[p.val, o.val] w fun e w' => e = .returned (.bool true) ∧ ∃ p', PStep B w w' p p' := by
  obtain ⟨kind, s, a, b, c, t, on, text⟩ := o
  obtain rfl : kind = 8 := hk
  obtain ⟨x, y, st, r, rv, ov⟩ := p
  have h0 := h.below (laidW_below w ⟨x, y, st, r, rv, ov⟩ ⟨8, s, a, b, c, t, on, text⟩)
  have heq : evalA st.n (oct b) (st.get (hnd a)) = evalA r.n (oct b) (r.get (hnd a)) := by rw [show r.n = st.n from h.sim.n, h.sim.get (hnd a)]
  have SC : Hid (Calls Tryz.prog 32 #[.pointer (some ⟨x, 0, none⟩), .int .u32 (hnd a : Nat), .int .u8 (oct b : Nat)] (laidW w ⟨x, y, st, r, rv, ov⟩ ⟨8, s, a, b, c, t, on, text⟩) fun e w' => e = .returned (.tuple #[.bool (evalA st.n (oct b) (st.get (hnd a))).1, .int .i64 ((evalA st.n (oct b) (st.get (hnd a))).2 : Nat)]) ∧ Below (laidW w ⟨x, y, st, r, rv, ov⟩ ⟨8, s, a, b, c, t, on, text⟩).heap.size (laidW w ⟨x, y, st, r, rv, ov⟩ ⟨8, s, a, b, c, t, on, text⟩) w') := seval_ans x (hnd a) st _ h0.has (oct b) (oct_lt b)
  have RC : Hid (∀ w1, Below (laidW w ⟨x, y, st, r, rv, ov⟩ ⟨8, s, a, b, c, t, on, text⟩).heap.size (laidW w ⟨x, y, st, r, rv, ov⟩ ⟨8, s, a, b, c, t, on, text⟩) w1 → Calls Tryz.prog 33 #[.pointer (some ⟨y, 0, none⟩), .int .u32 (hnd a : Nat), .int .u8 (oct b : Nat)] w1 fun e w' => e = .returned (.tuple #[.bool (evalA st.n (oct b) (st.get (hnd a))).1, .int .i64 ((evalA st.n (oct b) (st.get (hnd a))).2 : Nat)]) ∧ Below w1.heap.size w1 w') := by
    intro w1 hb
    have := reval_ans B y (hnd a) r rv ov w1 (h0.ref.below hb) (oct b) (oct_lt b)
    rw [← heq] at this
    exact this
  have FIN : Hid (∀ w1 w2, Below (laidW w ⟨x, y, st, r, rv, ov⟩ ⟨8, s, a, b, c, t, on, text⟩).heap.size (laidW w ⟨x, y, st, r, rv, ov⟩ ⟨8, s, a, b, c, t, on, text⟩) w1 → Below w1.heap.size w1 w2 → ∃ p', PStep B w w2 ⟨x, y, st, r, rv, ov⟩ p') := fun w1 w2 h1 h2 => ⟨_, PStep.same h (below_trans (below_trans (laidW_below _ _ _) h1) h2)⟩
  have KEEP : Hid (∀ w1, Below (laidW w ⟨x, y, st, r, rv, ov⟩ ⟨8, s, a, b, c, t, on, text⟩).heap.size (laidW w ⟨x, y, st, r, rv, ov⟩ ⟨8, s, a, b, c, t, on, text⟩) w1 → w1.heap[w.heap.size]? = some (.cells (Pr.cells ⟨x, y, st, r, rv, ov⟩) 45 (0, 0)) ∧ w1.heap[w.heap.size + 1]? = some (.cells (SOp.cells ⟨8, s, a, b, c, t, on, text⟩) 33 (0, 0))) := fun w1 hb => laid_below hb
  clear h h0 heq
  generalize (evalA st.n (oct b) (st.get (hnd a))).1 = V1 at *
  generalize (evalA st.n (oct b) (st.get (hnd a))).2 = E1 at *
  unfold Pr.val SOp.val Pr.cells SOp.cells
  go_enter Tryz.func13, Tryz.ntmps13
  go_wp2_with fail
  try simp only [hnd_eq, oct_eq]
  refine SC.out.mono ?_
  rintro e w1 ⟨rfl, hc1⟩
  have HC1 : Hid _ := hc1
  have k1 := (KEEP.out w1 hc1).1
  have k2 := (KEEP.out w1 hc1).2
  have p1 : w1.cell? ⟨w.heap.size, 1, none⟩ = some (.pointer (some ⟨y, 0, none⟩)) := cell_of_block k1 1
  have o3 : w1.cell? ⟨w.heap.size + 1, 3, none⟩ = some (.int .i64 b) := cell_of_block k2 3
  clear hc1 k1 k2
  go_wp2_with fail
  try simp only [oct_eq]
  refine (RC.out w1 HC1.out).mono ?_
  rintro e w2 ⟨rfl, hr2⟩
  have FP : Hid (∃ p', PStep B w w2 ⟨x, y, st, r, rv, ov⟩ p') := FIN.out w1 w2 HC1.out hr2
  clear hr2 o3 p1
  go_wp2_with fail
  refine (num_calls E1 _).mono ?_
  rintro e w3 ⟨rfl, rfl⟩
  go_wp2_with fail
  refine (num_calls E1 _).mono ?_
  rintro e w3 ⟨rfl, rfl⟩
  go_wp2_with fail
  go_ret
  exact ⟨ret_bool (by simp), FP.out⟩

set_option maxRecDepth 100000 in
set_option maxHeartbeats 1000000 in
theorem asks_table (B : Nat) (p : Pr) (o : SOp) (w : World) (hk : o.kind = 9) (h : PairOk B w p) :
    Calls Tryz.prog 13 #[p.val, o.val] w fun e w' => e = .returned (.bool true) ∧ ∃ p', PStep B w w' p p' := by
  obtain ⟨kind, s, a, b, c, t, on, text⟩ := o
  obtain rfl : kind = 9 := hk
  obtain ⟨x, y, st, r, rv, ov⟩ := p
  have h0 := h.below (laidW_below w ⟨x, y, st, r, rv, ov⟩ ⟨9, s, a, b, c, t, on, text⟩)
  have heq : tableA (st.get (hnd a)) = tableA (r.get (hnd a)) := by rw [h.sim.get (hnd a)]
  have SC : Hid (Calls Tryz.prog 34 #[.pointer (some ⟨x, 0, none⟩), .int .u32 (hnd a : Nat)] (laidW w ⟨x, y, st, r, rv, ov⟩ ⟨9, s, a, b, c, t, on, text⟩) fun e w' => e = .returned (.tuple #[.int .u64 ((tableA (st.get (hnd a))).1 : Nat), .int .i64 ((tableA (st.get (hnd a))).2 : Nat)]) ∧ Below (laidW w ⟨x, y, st, r, rv, ov⟩ ⟨9, s, a, b, c, t, on, text⟩).heap.size (laidW w ⟨x, y, st, r, rv, ov⟩ ⟨9, s, a, b, c, t, on, text⟩) w') := stable_ans x (hnd a) st _ h0.has
  have RC : Hid (∀ w1, Below (laidW w ⟨x, y, st, r, rv, ov⟩ ⟨9, s, a, b, c, t, on, text⟩).heap.size (laidW w ⟨x, y, st, r, rv, ov⟩ ⟨9, s, a, b, c, t, on, text⟩) w1 → Calls Tryz.prog 35 #[.pointer (some ⟨y, 0, none⟩), .int .u32 (hnd a : Nat)] w1 fun e w' => e = .returned (.tuple #[.int .u64 ((tableA (st.get (hnd a))).1 : Nat), .int .i64 ((tableA (st.get (hnd a))).2 : Nat)]) ∧ Below w1.heap.size w1 w') := by
    intro w1 hb
    have := rtable_ans B y (hnd a) r rv ov w1 (h0.ref.below hb)
    rw [← heq] at this
    exact this
  have FIN : Hid (∀ w1 w2, Below (laidW w ⟨x, y, st, r, rv, ov⟩ ⟨9, s, a, b, c, t, on, text⟩).heap.size (laidW w ⟨x, y, st, r, rv, ov⟩ ⟨9, s, a, b, c, t, on, text⟩) w1 → Below w1.heap.size w1 w2 → ∃ p', PStep B w w2 ⟨x, y, st, r, rv, ov⟩ p') := fun w1 w2 h1 h2 => ⟨_, PStep.same h (below_trans (below_trans (laidW_below _ _ _) h1) h2)⟩
  have KEEP : Hid (∀ w1, Below (laidW w ⟨x, y, st, r, rv, ov⟩ ⟨9, s, a, b, c, t, on, text⟩).heap.size (laidW w ⟨x, y, st, r, rv, ov⟩ ⟨9, s, a, b, c, t, on, text⟩) w1 → w1.heap[w.heap.size]? = some (.cells (Pr.cells ⟨x, y, st, r, rv, ov⟩) 45 (0, 0)) ∧ w1.heap[w.heap.size + 1]? = some (.cells (SOp.cells ⟨9, s, a, b, c, t, on, text⟩) 33 (0, 0))) := fun w1 hb => laid_below hb
  clear h h0 heq
  generalize (tableA (st.get (hnd a))).1 = V1 at *
  generalize (tableA (st.get (hnd a))).2 = E1 at *
  unfold Pr.val SOp.val Pr.cells SOp.cells
  go_enter Tryz.func13, Tryz.ntmps13
  go_wp2_with fail
  try simp only [hnd_eq]
  refine SC.out.mono ?_
  rintro e w1 ⟨rfl, hc1⟩
  have HC1 : Hid _ := hc1
  have k1 := (KEEP.out w1 hc1).1
  have k2 := (KEEP.out w1 hc1).2
  have p1 : w1.cell? ⟨w.heap.size, 1, none⟩ = some (.pointer (some ⟨y, 0, none⟩)) := cell_of_block k1 1
  have o3 : w1.cell? ⟨w.heap.size + 1, 3, none⟩ = some (.int .i64 b) := cell_of_block k2 3
  clear hc1 k1 k2
  go_wp2_with fail
  try simp only [hnd_eq]
  refine (RC.out w1 HC1.out).mono ?_
  rintro e w2 ⟨rfl, hr2⟩
  have FP : Hid (∃ p', PStep B w w2 ⟨x, y, st, r, rv, ov⟩ p') := FIN.out w1 w2 HC1.out hr2
  clear hr2 o3 p1
  go_wp2_with fail
  refine (num_calls E1 _).mono ?_
  rintro e w3 ⟨rfl, rfl⟩
  go_wp2_with fail
  refine (num_calls E1 _).mono ?_
  rintro e w3 ⟨rfl, rfl⟩
  go_wp2_with fail
  go_ret
  exact ⟨ret_bool (by simp), FP.out⟩

set_option maxRecDepth 100000 in
set_option maxHeartbeats 1000000 in
theorem asks_same (B : Nat) (p : Pr) (o : SOp) (w : World) (hk : o.kind = 10) (h : PairOk B w p) :
    Calls Tryz.prog 13 #[p.val, o.val] w fun e w' => e = .returned (.bool true) ∧ ∃ p', PStep B w w' p p' := by
  obtain ⟨kind, s, a, b, c, t, on, text⟩ := o
  obtain rfl : kind = 10 := hk
  obtain ⟨x, y, st, r, rv, ov⟩ := p
  have h0 := h.below (laidW_below w ⟨x, y, st, r, rv, ov⟩ ⟨10, s, a, b, c, t, on, text⟩)
  have heq : sameA (st.get (hnd a)) (st.get (hnd b)) = sameA (r.get (hnd a)) (r.get (hnd b)) := by rw [h.sim.get (hnd a), h.sim.get (hnd b)]
  have SC : Hid (Calls Tryz.prog 36 #[.pointer (some ⟨x, 0, none⟩), .int .u32 (hnd a : Nat), .int .u32 (hnd b : Nat)] (laidW w ⟨x, y, st, r, rv, ov⟩ ⟨10, s, a, b, c, t, on, text⟩) fun e w' => e = .returned (.tuple #[.bool (sameA (st.get (hnd a)) (st.get (hnd b))).1, .int .i64 ((sameA (st.get (hnd a)) (st.get (hnd b))).2 : Nat)]) ∧ Below (laidW w ⟨x, y, st, r, rv, ov⟩ ⟨10, s, a, b, c, t, on, text⟩).heap.size (laidW w ⟨x, y, st, r, rv, ov⟩ ⟨10, s, a, b, c, t, on, text⟩) w') := ssame_ans x (hnd a) st _ h0.has (hnd b)
  have RC : Hid (∀ w1, Below (laidW w ⟨x, y, st, r, rv, ov⟩ ⟨10, s, a, b, c, t, on, text⟩).heap.size (laidW w ⟨x, y, st, r, rv, ov⟩ ⟨10, s, a, b, c, t, on, text⟩) w1 → Calls Tryz.prog 37 #[.pointer (some ⟨y, 0, none⟩), .int .u32 (hnd a : Nat), .int .u32 (hnd b : Nat)] w1 fun e w' => e = .returned (.tuple #[.bool (sameA (st.get (hnd a)) (st.get (hnd b))).1, .int .i64 ((sameA (st.get (hnd a)) (st.get (hnd b))).2 : Nat)]) ∧ Below w1.heap.size w1 w') := by
    intro w1 hb
    have := rsame_ans B y (hnd a) r rv ov w1 (h0.ref.below hb) (hnd b)
    rw [← heq] at this
    exact this
  have FIN : Hid (∀ w1 w2, Below (laidW w ⟨x, y, st, r, rv, ov⟩ ⟨10, s, a, b, c, t, on, text⟩).heap.size (laidW w ⟨x, y, st, r, rv, ov⟩ ⟨10, s, a, b, c, t, on, text⟩) w1 → Below w1.heap.size w1 w2 → ∃ p', PStep B w w2 ⟨x, y, st, r, rv, ov⟩ p') := fun w1 w2 h1 h2 => ⟨_, PStep.same h (below_trans (below_trans (laidW_below _ _ _) h1) h2)⟩
  have KEEP : Hid (∀ w1, Below (laidW w ⟨x, y, st, r, rv, ov⟩ ⟨10, s, a, b, c, t, on, text⟩).heap.size (laidW w ⟨x, y, st, r, rv, ov⟩ ⟨10, s, a, b, c, t, on, text⟩) w1 → w1.heap[w.heap.size]? = some (.cells (Pr.cells ⟨x, y, st, r, rv, ov⟩) 45 (0, 0)) ∧ w1.heap[w.heap.size + 1]? = some (.cells (SOp.cells ⟨10, s, a, b, c, t, on, text⟩) 33 (0, 0))) := fun w1 hb => laid_below hb
  clear h h0 heq
  generalize (sameA (st.get (hnd a)) (st.get (hnd b))).1 = V1 at *
  generalize (sameA (st.get (hnd a)) (st.get (hnd b))).2 = E1 at *
  unfold Pr.val SOp.val Pr.cells SOp.cells
  go_enter Tryz.func13, Tryz.ntmps13
  go_wp2_with fail
  try simp only [hnd_eq]
  refine SC.out.mono ?_
  rintro e w1 ⟨rfl, hc1⟩
  have HC1 : Hid _ := hc1
  have k1 := (KEEP.out w1 hc1).1
  have k2 := (KEEP.out w1 hc1).2
  have p1 : w1.cell? ⟨w.heap.size, 1, none⟩ = some (.pointer (some ⟨y, 0, none⟩)) := cell_of_block k1 1
  have o3 : w1.cell? ⟨w.heap.size + 1, 3, none⟩ = some (.int .i64 b) := cell_of_block k2 3
  clear hc1 k1 k2
  go_wp2_with fail
  try simp only [hnd_eq]
  refine (RC.out w1 HC1.out).mono ?_
  rintro e w2 ⟨rfl, hr2⟩
  have FP : Hid (∃ p', PStep B w w2 ⟨x, y, st, r, rv, ov⟩ p') := FIN.out w1 w2 HC1.out hr2
  clear hr2 o3 p1
  go_wp2_with fail
  refine (num_calls E1 _).mono ?_
  rintro e w3 ⟨rfl, rfl⟩
  go_wp2_with fail
  refine (num_calls E1 _).mono ?_
  rintro e w3 ⟨rfl, rfl⟩
  go_wp2_with fail
  go_ret
  exact ⟨ret_bool (by simp), FP.out⟩

set_option maxRecDepth 100000 in
set_option maxHeartbeats 1000000 in
theorem asks_support (B : Nat) (p : Pr) (o : SOp) (w : World) (hk : o.kind = 11) (h : PairOk B w p) :
    Calls Tryz.prog 13 #[p.val, o.val] w fun e w' => e = .returned (.bool true) ∧ ∃ p', PStep B w w' p p' := by
  obtain ⟨kind, s, a, b, c, t, on, text⟩ := o
  obtain rfl : kind = 11 := hk
  obtain ⟨x, y, st, r, rv, ov⟩ := p
  have h0 := h.below (laidW_below w ⟨x, y, st, r, rv, ov⟩ ⟨11, s, a, b, c, t, on, text⟩)
  have heq : supA st.n (st.get (hnd a)) = supA r.n (r.get (hnd a)) := by rw [show r.n = st.n from h.sim.n, h.sim.get (hnd a)]
  have SC : Hid (Calls Tryz.prog 38 #[.pointer (some ⟨x, 0, none⟩), .int .u32 (hnd a : Nat)] (laidW w ⟨x, y, st, r, rv, ov⟩ ⟨11, s, a, b, c, t, on, text⟩) fun e w' => e = .returned (.tuple #[.int .u8 ((supA st.n (st.get (hnd a))).1 : Nat), .int .i64 ((supA st.n (st.get (hnd a))).2 : Nat)]) ∧ Below (laidW w ⟨x, y, st, r, rv, ov⟩ ⟨11, s, a, b, c, t, on, text⟩).heap.size (laidW w ⟨x, y, st, r, rv, ov⟩ ⟨11, s, a, b, c, t, on, text⟩) w') := ssupport_ans x (hnd a) st _ h0.has
  have RC : Hid (∀ w1, Below (laidW w ⟨x, y, st, r, rv, ov⟩ ⟨11, s, a, b, c, t, on, text⟩).heap.size (laidW w ⟨x, y, st, r, rv, ov⟩ ⟨11, s, a, b, c, t, on, text⟩) w1 → Calls Tryz.prog 39 #[.pointer (some ⟨y, 0, none⟩), .int .u32 (hnd a : Nat)] w1 fun e w' => e = .returned (.tuple #[.int .u8 ((supA st.n (st.get (hnd a))).1 : Nat), .int .i64 ((supA st.n (st.get (hnd a))).2 : Nat)]) ∧ Below w1.heap.size w1 w') := by
    intro w1 hb
    have := rsupport_ans B y (hnd a) r rv ov w1 (h0.ref.below hb)
    rw [← heq] at this
    exact this
  have FIN : Hid (∀ w1 w2, Below (laidW w ⟨x, y, st, r, rv, ov⟩ ⟨11, s, a, b, c, t, on, text⟩).heap.size (laidW w ⟨x, y, st, r, rv, ov⟩ ⟨11, s, a, b, c, t, on, text⟩) w1 → Below w1.heap.size w1 w2 → ∃ p', PStep B w w2 ⟨x, y, st, r, rv, ov⟩ p') := fun w1 w2 h1 h2 => ⟨_, PStep.same h (below_trans (below_trans (laidW_below _ _ _) h1) h2)⟩
  have KEEP : Hid (∀ w1, Below (laidW w ⟨x, y, st, r, rv, ov⟩ ⟨11, s, a, b, c, t, on, text⟩).heap.size (laidW w ⟨x, y, st, r, rv, ov⟩ ⟨11, s, a, b, c, t, on, text⟩) w1 → w1.heap[w.heap.size]? = some (.cells (Pr.cells ⟨x, y, st, r, rv, ov⟩) 45 (0, 0)) ∧ w1.heap[w.heap.size + 1]? = some (.cells (SOp.cells ⟨11, s, a, b, c, t, on, text⟩) 33 (0, 0))) := fun w1 hb => laid_below hb
  clear h h0 heq
  generalize (supA st.n (st.get (hnd a))).1 = V1 at *
  generalize (supA st.n (st.get (hnd a))).2 = E1 at *
  unfold Pr.val SOp.val Pr.cells SOp.cells
  go_enter Tryz.func13, Tryz.ntmps13
  go_wp2_with fail
  try simp only [hnd_eq]
  refine SC.out.mono ?_
  rintro e w1 ⟨rfl, hc1⟩
  have HC1 : Hid _ := hc1
  have k1 := (KEEP.out w1 hc1).1
  have k2 := (KEEP.out w1 hc1).2
  have p1 : w1.cell? ⟨w.heap.size, 1, none⟩ = some (.pointer (some ⟨y, 0, none⟩)) := cell_of_block k1 1
  have o3 : w1.cell? ⟨w.heap.size + 1, 3, none⟩ = some (.int .i64 b) := cell_of_block k2 3
  clear hc1 k1 k2
  go_wp2_with fail
  try simp only [hnd_eq]
  refine (RC.out w1 HC1.out).mono ?_
  rintro e w2 ⟨rfl, hr2⟩
  have FP : Hid (∃ p', PStep B w w2 ⟨x, y, st, r, rv, ov⟩ p') := FIN.out w1 w2 HC1.out hr2
  clear hr2 o3 p1
  go_wp2_with fail
  refine (num_calls E1 _).mono ?_
  rintro e w3 ⟨rfl, rfl⟩
  go_wp2_with fail
  refine (num_calls E1 _).mono ?_
  rintro e w3 ⟨rfl, rfl⟩
  go_wp2_with fail
  go_ret
  exact ⟨ret_bool (by simp), FP.out⟩

set_option maxRecDepth 100000 in
set_option maxHeartbeats 1000000 in
theorem asks_count (B : Nat) (p : Pr) (o : SOp) (w : World) (hk : o.kind = 12) (h : PairOk B w p) :
    Calls Tryz.prog 13 #[p.val, o.val] w fun e w' => e = .returned (.bool true) ∧ ∃ p', PStep B w w' p p' := by
  obtain ⟨kind, s, a, b, c, t, on, text⟩ := o
  obtain rfl : kind = 12 := hk
  obtain ⟨x, y, st, r, rv, ov⟩ := p
  have h0 := h.below (laidW_below w ⟨x, y, st, r, rv, ov⟩ ⟨12, s, a, b, c, t, on, text⟩)
  have heq : countA (st.get (hnd a)) = countA (r.get (hnd a)) := by rw [h.sim.get (hnd a)]
  have SC : Hid (Calls Tryz.prog 40 #[.pointer (some ⟨x, 0, none⟩), .int .u32 (hnd a : Nat)] (laidW w ⟨x, y, st, r, rv, ov⟩ ⟨12, s, a, b, c, t, on, text⟩) fun e w' => e = .returned (.tuple #[.int .i64 ((countA (st.get (hnd a))).1 : Nat), .int .i64 ((countA (st.get (hnd a))).2 : Nat)]) ∧ Below (laidW w ⟨x, y, st, r, rv, ov⟩ ⟨12, s, a, b, c, t, on, text⟩).heap.size (laidW w ⟨x, y, st, r, rv, ov⟩ ⟨12, s, a, b, c, t, on, text⟩) w') := scount_ans x (hnd a) st _ h0.has
  have RC : Hid (∀ w1, Below (laidW w ⟨x, y, st, r, rv, ov⟩ ⟨12, s, a, b, c, t, on, text⟩).heap.size (laidW w ⟨x, y, st, r, rv, ov⟩ ⟨12, s, a, b, c, t, on, text⟩) w1 → Calls Tryz.prog 41 #[.pointer (some ⟨y, 0, none⟩), .int .u32 (hnd a : Nat)] w1 fun e w' => e = .returned (.tuple #[.int .i64 ((countA (st.get (hnd a))).1 : Nat), .int .i64 ((countA (st.get (hnd a))).2 : Nat)]) ∧ Below w1.heap.size w1 w') := by
    intro w1 hb
    have := rcount_ans B y (hnd a) r rv ov w1 (h0.ref.below hb)
    rw [← heq] at this
    exact this
  have FIN : Hid (∀ w1 w2, Below (laidW w ⟨x, y, st, r, rv, ov⟩ ⟨12, s, a, b, c, t, on, text⟩).heap.size (laidW w ⟨x, y, st, r, rv, ov⟩ ⟨12, s, a, b, c, t, on, text⟩) w1 → Below w1.heap.size w1 w2 → ∃ p', PStep B w w2 ⟨x, y, st, r, rv, ov⟩ p') := fun w1 w2 h1 h2 => ⟨_, PStep.same h (below_trans (below_trans (laidW_below _ _ _) h1) h2)⟩
  have KEEP : Hid (∀ w1, Below (laidW w ⟨x, y, st, r, rv, ov⟩ ⟨12, s, a, b, c, t, on, text⟩).heap.size (laidW w ⟨x, y, st, r, rv, ov⟩ ⟨12, s, a, b, c, t, on, text⟩) w1 → w1.heap[w.heap.size]? = some (.cells (Pr.cells ⟨x, y, st, r, rv, ov⟩) 45 (0, 0)) ∧ w1.heap[w.heap.size + 1]? = some (.cells (SOp.cells ⟨12, s, a, b, c, t, on, text⟩) 33 (0, 0))) := fun w1 hb => laid_below hb
  clear h h0 heq
  generalize (countA (st.get (hnd a))).1 = V1 at *
  generalize (countA (st.get (hnd a))).2 = E1 at *
  unfold Pr.val SOp.val Pr.cells SOp.cells
  go_enter Tryz.func13, Tryz.ntmps13
  go_wp2_with fail
  try simp only [hnd_eq]
  refine SC.out.mono ?_
  rintro e w1 ⟨rfl, hc1⟩
  have HC1 : Hid _ := hc1
  have k1 := (KEEP.out w1 hc1).1
  have k2 := (KEEP.out w1 hc1).2
  have p1 : w1.cell? ⟨w.heap.size, 1, none⟩ = some (.pointer (some ⟨y, 0, none⟩)) := cell_of_block k1 1
  have o3 : w1.cell? ⟨w.heap.size + 1, 3, none⟩ = some (.int .i64 b) := cell_of_block k2 3
  clear hc1 k1 k2
  go_wp2_with fail
  try simp only [hnd_eq]
  refine (RC.out w1 HC1.out).mono ?_
  rintro e w2 ⟨rfl, hr2⟩
  have FP : Hid (∃ p', PStep B w w2 ⟨x, y, st, r, rv, ov⟩ p') := FIN.out w1 w2 HC1.out hr2
  clear hr2 o3 p1
  go_wp2_with fail
  refine (num_calls E1 _).mono ?_
  rintro e w3 ⟨rfl, rfl⟩
  go_wp2_with fail
  refine (num_calls E1 _).mono ?_
  rintro e w3 ⟨rfl, rfl⟩
  go_wp2_with fail
  go_ret
  exact ⟨ret_bool (by simp), FP.out⟩

set_option maxRecDepth 100000 in
set_option maxHeartbeats 1000000 in
theorem asks_one (B : Nat) (p : Pr) (o : SOp) (w : World) (hk : o.kind = 13) (h : PairOk B w p) :
    Calls Tryz.prog 13 #[p.val, o.val] w fun e w' => e = .returned (.bool true) ∧ ∃ p', PStep B w w' p p' := by
  obtain ⟨kind, s, a, b, c, t, on, text⟩ := o
  obtain rfl : kind = 13 := hk
  obtain ⟨x, y, st, r, rv, ov⟩ := p
  have h0 := h.below (laidW_below w ⟨x, y, st, r, rv, ov⟩ ⟨13, s, a, b, c, t, on, text⟩)
  have heq : oneA (st.get (hnd a)) = oneA (r.get (hnd a)) := by rw [h.sim.get (hnd a)]
  have SC : Hid (Calls Tryz.prog 42 #[.pointer (some ⟨x, 0, none⟩), .int .u32 (hnd a : Nat)] (laidW w ⟨x, y, st, r, rv, ov⟩ ⟨13, s, a, b, c, t, on, text⟩) fun e w' => e = .returned (.tuple #[.int .u8 ((oneA (st.get (hnd a))).1 : Nat), .int .i64 ((oneA (st.get (hnd a))).2 : Nat)]) ∧ Below (laidW w ⟨x, y, st, r, rv, ov⟩ ⟨13, s, a, b, c, t, on, text⟩).heap.size (laidW w ⟨x, y, st, r, rv, ov⟩ ⟨13, s, a, b, c, t, on, text⟩) w') := sone_ans x (hnd a) st _ h0.has
  have RC : Hid (∀ w1, Below (laidW w ⟨x, y, st, r, rv, ov⟩ ⟨13, s, a, b, c, t, on, text⟩).heap.size (laidW w ⟨x, y, st, r, rv, ov⟩ ⟨13, s, a, b, c, t, on, text⟩) w1 → Calls Tryz.prog 43 #[.pointer (some ⟨y, 0, none⟩), .int .u32 (hnd a : Nat)] w1 fun e w' => e = .returned (.tuple #[.int .u8 ((oneA (st.get (hnd a))).1 : Nat), .int .i64 ((oneA (st.get (hnd a))).2 : Nat)]) ∧ Below w1.heap.size w1 w') := by
    intro w1 hb
    have := rone_ans B y (hnd a) r rv ov w1 (h0.ref.below hb)
    rw [← heq] at this
    exact this
  have FIN : Hid (∀ w1 w2, Below (laidW w ⟨x, y, st, r, rv, ov⟩ ⟨13, s, a, b, c, t, on, text⟩).heap.size (laidW w ⟨x, y, st, r, rv, ov⟩ ⟨13, s, a, b, c, t, on, text⟩) w1 → Below w1.heap.size w1 w2 → ∃ p', PStep B w w2 ⟨x, y, st, r, rv, ov⟩ p') := fun w1 w2 h1 h2 => ⟨_, PStep.same h (below_trans (below_trans (laidW_below _ _ _) h1) h2)⟩
  have KEEP : Hid (∀ w1, Below (laidW w ⟨x, y, st, r, rv, ov⟩ ⟨13, s, a, b, c, t, on, text⟩).heap.size (laidW w ⟨x, y, st, r, rv, ov⟩ ⟨13, s, a, b, c, t, on, text⟩) w1 → w1.heap[w.heap.size]? = some (.cells (Pr.cells ⟨x, y, st, r, rv, ov⟩) 45 (0, 0)) ∧ w1.heap[w.heap.size + 1]? = some (.cells (SOp.cells ⟨13, s, a, b, c, t, on, text⟩) 33 (0, 0))) := fun w1 hb => laid_below hb
  clear h h0 heq
  generalize (oneA (st.get (hnd a))).1 = V1 at *
  generalize (oneA (st.get (hnd a))).2 = E1 at *
  unfold Pr.val SOp.val Pr.cells SOp.cells
  go_enter Tryz.func13, Tryz.ntmps13
  go_wp2_with fail
  try simp only [hnd_eq]
  refine SC.out.mono ?_
  rintro e w1 ⟨rfl, hc1⟩
  have HC1 : Hid _ := hc1
  have k1 := (KEEP.out w1 hc1).1
  have k2 := (KEEP.out w1 hc1).2
  have p1 : w1.cell? ⟨w.heap.size, 1, none⟩ = some (.pointer (some ⟨y, 0, none⟩)) := cell_of_block k1 1
  have o3 : w1.cell? ⟨w.heap.size + 1, 3, none⟩ = some (.int .i64 b) := cell_of_block k2 3
  clear hc1 k1 k2
  go_wp2_with fail
  try simp only [hnd_eq]
  refine (RC.out w1 HC1.out).mono ?_
  rintro e w2 ⟨rfl, hr2⟩
  have FP : Hid (∃ p', PStep B w w2 ⟨x, y, st, r, rv, ov⟩ p') := FIN.out w1 w2 HC1.out hr2
  clear hr2 o3 p1
  go_wp2_with fail
  refine (num_calls E1 _).mono ?_
  rintro e w3 ⟨rfl, rfl⟩
  go_wp2_with fail
  refine (num_calls E1 _).mono ?_
  rintro e w3 ⟨rfl, rfl⟩
  go_wp2_with fail
  go_ret
  exact ⟨ret_bool (by simp), FP.out⟩

set_option maxRecDepth 100000 in
set_option maxHeartbeats 1000000 in
theorem asks_size (B : Nat) (p : Pr) (o : SOp) (w : World) (hk : o.kind = 14) (h : PairOk B w p) :
    Calls Tryz.prog 13 #[p.val, o.val] w fun e w' => e = .returned (.bool true) ∧ ∃ p', PStep B w w' p p' := by
  obtain ⟨kind, s, a, b, c, t, on, text⟩ := o
  obtain rfl : kind = 14 := hk
  obtain ⟨x, y, st, r, rv, ov⟩ := p
  have h0 := h.below (laidW_below w ⟨x, y, st, r, rv, ov⟩ ⟨14, s, a, b, c, t, on, text⟩)
  have heq : sizeA (fun _ => st.size (hnd a)) (st.get (hnd a)) = sizeA r.size (r.get (hnd a)) := h.sim.sizeA (hnd a)
  have SC : Hid (Calls Tryz.prog 44 #[.pointer (some ⟨x, 0, none⟩), .int .u32 (hnd a : Nat)] (laidW w ⟨x, y, st, r, rv, ov⟩ ⟨14, s, a, b, c, t, on, text⟩) fun e w' => e = .returned (.tuple #[.int .i64 ((sizeA (fun _ => st.size (hnd a)) (st.get (hnd a))).1 : Nat), .int .i64 ((sizeA (fun _ => st.size (hnd a)) (st.get (hnd a))).2 : Nat)]) ∧ Below (laidW w ⟨x, y, st, r, rv, ov⟩ ⟨14, s, a, b, c, t, on, text⟩).heap.size (laidW w ⟨x, y, st, r, rv, ov⟩ ⟨14, s, a, b, c, t, on, text⟩) w') := ssize_ans x (hnd a) st _ h0.has
  have RC : Hid (∀ w1, Below (laidW w ⟨x, y, st, r, rv, ov⟩ ⟨14, s, a, b, c, t, on, text⟩).heap.size (laidW w ⟨x, y, st, r, rv, ov⟩ ⟨14, s, a, b, c, t, on, text⟩) w1 → Calls Tryz.prog 45 #[.pointer (some ⟨y, 0, none⟩), .int .u32 (hnd a : Nat)] w1 fun e w' => e = .returned (.tuple #[.int .i64 ((sizeA (fun _ => st.size (hnd a)) (st.get (hnd a))).1 : Nat), .int .i64 ((sizeA (fun _ => st.size (hnd a)) (st.get (hnd a))).2 : Nat)]) ∧ Below w1.heap.size w1 w') := by
    intro w1 hb
    have := rsize_ans B y (hnd a) r rv ov w1 (h0.ref.below hb)
    rw [← heq] at this
    exact this
  have FIN : Hid (∀ w1 w2, Below (laidW w ⟨x, y, st, r, rv, ov⟩ ⟨14, s, a, b, c, t, on, text⟩).heap.size (laidW w ⟨x, y, st, r, rv, ov⟩ ⟨14, s, a, b, c, t, on, text⟩) w1 → Below w1.heap.size w1 w2 → ∃ p', PStep B w w2 ⟨x, y, st, r, rv, ov⟩ p') := fun w1 w2 h1 h2 => ⟨_, PStep.same h (below_trans (below_trans (laidW_below _ _ _) h1) h2)⟩
  have KEEP : Hid (∀ w1, Below (laidW w ⟨x, y, st, r, rv, ov⟩ ⟨14, s, a, b, c, t, on, text⟩).heap.size (laidW w ⟨x, y, st, r, rv, ov⟩ ⟨14, s, a, b, c, t, on, text⟩) w1 → w1.heap[w.heap.size]? = some (.cells (Pr.cells ⟨x, y, st, r, rv, ov⟩) 45 (0, 0)) ∧ w1.heap[w.heap.size + 1]? = some (.cells (SOp.cells ⟨14, s, a, b, c, t, on, text⟩) 33 (0, 0))) := fun w1 hb => laid_below hb
  clear h h0 heq
  generalize (sizeA (fun _ => st.size (hnd a)) (st.get (hnd a))).1 = V1 at *
  generalize (sizeA (fun _ => st.size (hnd a)) (st.get (hnd a))).2 = E1 at *
  unfold Pr.val SOp.val Pr.cells SOp.cells
  go_enter Tryz.func13, Tryz.ntmps13
  go_wp2_with fail
  try simp only [hnd_eq]
  refine SC.out.mono ?_
  rintro e w1 ⟨rfl, hc1⟩
  have HC1 : Hid _ := hc1
  have k1 := (KEEP.out w1 hc1).1
  have k2 := (KEEP.out w1 hc1).2
  have p1 : w1.cell? ⟨w.heap.size, 1, none⟩ = some (.pointer (some ⟨y, 0, none⟩)) := cell_of_block k1 1
  have o3 : w1.cell? ⟨w.heap.size + 1, 3, none⟩ = some (.int .i64 b) := cell_of_block k2 3
  clear hc1 k1 k2
  go_wp2_with fail
  try simp only [hnd_eq]
  refine (RC.out w1 HC1.out).mono ?_
  rintro e w2 ⟨rfl, hr2⟩
  have FP : Hid (∃ p', PStep B w w2 ⟨x, y, st, r, rv, ov⟩ p') := FIN.out w1 w2 HC1.out hr2
  clear hr2 o3 p1
  go_wp2_with fail
  refine (num_calls E1 _).mono ?_
  rintro e w3 ⟨rfl, rfl⟩
  go_wp2_with fail
  refine (num_calls E1 _).mono ?_
  rintro e w3 ⟨rfl, rfl⟩
  go_wp2_with fail
  go_ret
  exact ⟨ret_bool (by simp), FP.out⟩

set_option maxRecDepth 100000 in
set_option maxHeartbeats 1000000 in
theorem asks_used (B : Nat) (p : Pr) (o : SOp) (w : World) (hk : o.kind = 15) (h : PairOk B w p) :
    Calls Tryz.prog 13 #[p.val, o.val] w fun e w' => e = .returned (.bool true) ∧ ∃ p', PStep B w w' p p' := by
  obtain ⟨kind, s, a, b, c, t, on, text⟩ := o
  obtain rfl : kind = 15 := hk
  obtain ⟨x, y, st, r, rv, ov⟩ := p
  have h0 := h.below (laidW_below w ⟨x, y, st, r, rv, ov⟩ ⟨15, s, a, b, c, t, on, text⟩)
  have heq : st.ns.length = r.used := h.sim.used.symm
  have SC : Hid (Calls Tryz.prog 46 #[.pointer (some ⟨x, 0, none⟩)] (laidW w ⟨x, y, st, r, rv, ov⟩ ⟨15, s, a, b, c, t, on, text⟩) fun e w' => e = .returned (.int .i64 ((st.ns.length) : Nat)) ∧ Below (laidW w ⟨x, y, st, r, rv, ov⟩ ⟨15, s, a, b, c, t, on, text⟩).heap.size (laidW w ⟨x, y, st, r, rv, ov⟩ ⟨15, s, a, b, c, t, on, text⟩) w') := (sused_calls x st _ h0.has.lies).mono fun e w2 ⟨h1, h2⟩ => ⟨h1, h2 ▸ Below.refl _ _⟩
  have RC : Hid (∀ w1, Below (laidW w ⟨x, y, st, r, rv, ov⟩ ⟨15, s, a, b, c, t, on, text⟩).heap.size (laidW w ⟨x, y, st, r, rv, ov⟩ ⟨15, s, a, b, c, t, on, text⟩) w1 → Calls Tryz.prog 47 #[.pointer (some ⟨y, 0, none⟩)] w1 fun e w' => e = .returned (.int .i64 ((st.ns.length) : Nat)) ∧ Below w1.heap.size w1 w') := by
    intro w1 hb
    have := rused_calls B y r rv ov w1 (h0.ref.below hb)
    rw [← heq] at this
    exact this
  have FIN : Hid (∀ w1 w2, Below (laidW w ⟨x, y, st, r, rv, ov⟩ ⟨15, s, a, b, c, t, on, text⟩).heap.size (laidW w ⟨x, y, st, r, rv, ov⟩ ⟨15, s, a, b, c, t, on, text⟩) w1 → Below w1.heap.size w1 w2 → ∃ p', PStep B w w2 ⟨x, y, st, r, rv, ov⟩ p') := fun w1 w2 h1 h2 => ⟨_, PStep.same h (below_trans (below_trans (laidW_below _ _ _) h1) h2)⟩
  have KEEP : Hid (∀ w1, Below (laidW w ⟨x, y, st, r, rv, ov⟩ ⟨15, s, a, b, c, t, on, text⟩).heap.size (laidW w ⟨x, y, st, r, rv, ov⟩ ⟨15, s, a, b, c, t, on, text⟩) w1 → w1.heap[w.heap.size]? = some (.cells (Pr.cells ⟨x, y, st, r, rv, ov⟩) 45 (0, 0)) ∧ w1.heap[w.heap.size + 1]? = some (.cells (SOp.cells ⟨15, s, a, b, c, t, on, text⟩) 33 (0, 0))) := fun w1 hb => laid_below hb
  clear h h0 heq
  generalize (st.ns.length) = V1 at *
  unfold Pr.val SOp.val Pr.cells SOp.cells
  go_enter Tryz.func13, Tryz.ntmps13
  go_wp2_with fail
  try simp only [hnd_eq]
  refine SC.out.mono ?_
  rintro e w1 ⟨rfl, hc1⟩
  have HC1 : Hid _ := hc1
  have k1 := (KEEP.out w1 hc1).1
  have k2 := (KEEP.out w1 hc1).2
  have p1 : w1.cell? ⟨w.heap.size, 1, none⟩ = some (.pointer (some ⟨y, 0, none⟩)) := cell_of_block k1 1
  have o3 : w1.cell? ⟨w.heap.size + 1, 3, none⟩ = some (.int .i64 b) := cell_of_block k2 3
  clear hc1 k1 k2
  go_wp2_with fail
  try simp only [hnd_eq]
  refine (RC.out w1 HC1.out).mono ?_
  rintro e w2 ⟨rfl, hr2⟩
  have FP : Hid (∃ p', PStep B w w2 ⟨x, y, st, r, rv, ov⟩ p') := FIN.out w1 w2 HC1.out hr2
  clear hr2 o3 p1
  go_wp2_with fail
  go_ret
  exact ⟨ret_bool (by simp), FP.out⟩
end Go.Proofs.YthoodkbdpnffdabGreatDoor
