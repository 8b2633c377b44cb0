/-
  Own work: the steps of a script on one pair of stores: those of stage 2 (walks over contracts).
-/
import Derived.Test.YthoodkbdpnffdaaGreatDoorLawA
namespace Go.Proofs.YthoodkbdpnffdaaGreatDoor
open Go.RowKit
open Cho (U64 Tab full col Nd Red)

set_option maxRecDepth 100000 in
set_option maxHeartbeats 1000000 in
theorem fixes_restrict (B : Nat) (p : Pr) (o : SOp) (w : World) (hk : o.kind = 16) (h : PairOk B w p) (hg : p.r.given + 1 < 4294967295) :
    Calls Tryz.prog 16 #[p.val, o.val] w fun e w' => e = .returned (.bool true) ∧ ∃ p', PStep B w w' p p' := by
  obtain ⟨kind, s, a, b, c, t, on, text⟩ := o
  obtain rfl : kind = 16 := hk
  obtain ⟨x, y, st, r, rv, ov⟩ := p
  have h0 := h.below (laidW_below w ⟨x, y, st, r, rv, ov⟩ ⟨16, s, a, b, c, t, on, text⟩)
  have hgs : st.given + 1 < 4294967295 := by rw [← h.sim.given]; exact hg
  have hgr : r.given + 1 < 4294967296 := by have h9 : r.given + 1 < 4294967295 := hg; omega
  have hsim := h.sim.restrict hgs (hnd a) b on
  have SC : Hid (Calls Tryz.prog 50 #[.pointer (some ⟨x, 0, none⟩), .int .u32 (hnd a : Nat), .int .i64 b, .bool on] (laidW w ⟨x, y, st, r, rv, ov⟩ ⟨16, s, a, b, c, t, on, text⟩) fun e w' => e = .returned (.tuple #[.int .u32 ((st.restrict (hnd a) b on).2.1 : Nat), .int .i64 ((st.restrict (hnd a) b on).2.2 : Nat)]) ∧ CStep (laidW w ⟨x, y, st, r, rv, ov⟩ ⟨16, s, a, b, c, t, on, text⟩) w' x (st.restrict (hnd a) b on).1) := restrict_calls x (hnd a) b on st _ h0.has hgs
  have RC : Hid (∀ w1, CStep (laidW w ⟨x, y, st, r, rv, ov⟩ ⟨16, s, a, b, c, t, on, text⟩) w1 x (st.restrict (hnd a) b on).1 → Calls Tryz.prog 51 #[.pointer (some ⟨y, 0, none⟩), .int .u32 (hnd a : Nat), .int .i64 b, .bool on] w1 fun e w' => e = .returned (.tuple #[.int .u32 ((st.restrict (hnd a) b on).2.1 : Nat), .int .i64 ((st.restrict (hnd a) b on).2.2 : Nat)]) ∧ RStep B w1 w' y rv ov (r.restrict (hnd a) b on).1) := by
    intro w1 hc
    have := rrestrict_calls B y (hnd a) b on r rv ov w1 (ref_beside h0 hc) hgr
    rw [← hsim.1] at this
    exact this
  have FIN : Hid (∀ w1 w2, CStep (laidW w ⟨x, y, st, r, rv, ov⟩ ⟨16, s, a, b, c, t, on, text⟩) w1 x (st.restrict (hnd a) b on).1 → RStep B w1 w2 y rv ov (r.restrict (hnd a) b on).1 → ∃ p', PStep B w w2 ⟨x, y, st, r, rv, ov⟩ p') := by
    intro w1 w2 h1 h2
    obtain ⟨p', hp⟩ := pair_step h0 h1 h2 hsim.2 (restrict_given _ _ _ _)
    exact ⟨p', hp.before (laidW_below _ _ _)⟩
  have KEEP : Hid (∀ w1, CStep (laidW w ⟨x, y, st, r, rv, ov⟩ ⟨16, s, a, b, c, t, on, text⟩) w1 x (st.restrict (hnd a) b on).1 → w1.heap[w.heap.size]? = some (.cells (Pr.cells ⟨x, y, st, r, rv, ov⟩) 45 (0, 0)) ∧ w1.heap[w.heap.size + 1]? = some (.cells (SOp.cells ⟨16, s, a, b, c, t, on, text⟩) 33 (0, 0))) := fun w1 hc => laid_keep h hc
  clear h h0 hg hgs hgr hsim
  generalize (st.restrict (hnd a) b on).2.1 = H1 at *
  generalize (st.restrict (hnd a) b on).2.2 = E1 at *
  generalize (st.restrict (hnd a) b on).1 = st' at *
  generalize (r.restrict (hnd a) b on).1 = r' at *
  unfold Pr.val SOp.val Pr.cells SOp.cells
  go_enter Tryz.func16, Tryz.ntmps16
  go_wp2_with fail
  try simp only [hnd_eq]
  refine SC.out.mono ?_
  rintro e w1 ⟨rfl, hc1⟩
  have HC1 : Hid _ := hc1
  have k1 := (KEEP.out w1 hc1).1
  have k2 := (KEEP.out w1 hc1).2
  have p1 : w1.cell? ⟨w.heap.size, 1, none⟩ = some (.pointer (some ⟨y, 0, none⟩)) := cell_of_block k1 1
  have o2 : w1.cell? ⟨w.heap.size + 1, 2, none⟩ = some (.int .i64 a) := cell_of_block k2 2
  have o3 : w1.cell? ⟨w.heap.size + 1, 3, none⟩ = some (.int .i64 b) := cell_of_block k2 3
  have o4 : w1.cell? ⟨w.heap.size + 1, 4, none⟩ = some (.int .i64 c) := cell_of_block k2 4
  have o5 : w1.cell? ⟨w.heap.size + 1, 5, none⟩ = some (.int .u64 (t : Nat)) := cell_of_block k2 5
  have o6 : w1.cell? ⟨w.heap.size + 1, 6, none⟩ = some (.bool on) := cell_of_block k2 6
  clear hc1 k1 k2
  go_wp2_with fail
  try simp only [hnd_eq]
  refine (RC.out w1 HC1.out).mono ?_
  rintro e w2 ⟨rfl, hr2⟩
  have FP : Hid (∃ p', PStep B w w2 ⟨x, y, st, r, rv, ov⟩ p') := FIN.out w1 w2 HC1.out hr2
  clear hr2 o2 o3 o4 o5 o6 p1
  go_wp2_with fail
  refine (handles_calls H1 E1 _).mono ?_
  rintro e w3 ⟨rfl, rfl⟩
  go_wp2_with fail
  go_ret
  exact ⟨rfl, FP.out⟩

set_option maxRecDepth 100000 in
set_option maxHeartbeats 1000000 in
theorem fixes_compose (B : Nat) (p : Pr) (o : SOp) (w : World) (hk : o.kind = 17) (h : PairOk B w p) (hg : p.r.given + 1 < 4294967295) :
    Calls Tryz.prog 16 #[p.val, o.val] w fun e w' => e = .returned (.bool true) ∧ ∃ p', PStep B w w' p p' := by
  obtain ⟨kind, s, a, b, c, t, on, text⟩ := o
  obtain rfl : kind = 17 := hk
  obtain ⟨x, y, st, r, rv, ov⟩ := p
  have h0 := h.below (laidW_below w ⟨x, y, st, r, rv, ov⟩ ⟨17, s, a, b, c, t, on, text⟩)
  have hgs : st.given + 1 < 4294967295 := by rw [← h.sim.given]; exact hg
  have hgr : r.given + 1 < 4294967296 := by have h9 : r.given + 1 < 4294967295 := hg; omega
  have hsim := h.sim.compose hgs (hnd a) b (hnd c)
  have SC : Hid (Calls Tryz.prog 52 #[.pointer (some ⟨x, 0, none⟩), .int .u32 (hnd a : Nat), .int .i64 b, .int .u32 (hnd c : Nat)] (laidW w ⟨x, y, st, r, rv, ov⟩ ⟨17, s, a, b, c, t, on, text⟩) fun e w' => e = .returned (.tuple #[.int .u32 ((st.compose (hnd a) b (hnd c)).2.1 : Nat), .int .i64 ((st.compose (hnd a) b (hnd c)).2.2 : Nat)]) ∧ CStep (laidW w ⟨x, y, st, r, rv, ov⟩ ⟨17, s, a, b, c, t, on, text⟩) w' x (st.compose (hnd a) b (hnd c)).1) := compose_calls x (hnd a) (hnd c) b st _ h0.has hgs
  have RC : Hid (∀ w1, CStep (laidW w ⟨x, y, st, r, rv, ov⟩ ⟨17, s, a, b, c, t, on, text⟩) w1 x (st.compose (hnd a) b (hnd c)).1 → Calls Tryz.prog 53 #[.pointer (some ⟨y, 0, none⟩), .int .u32 (hnd a : Nat), .int .i64 b, .int .u32 (hnd c : Nat)] w1 fun e w' => e = .returned (.tuple #[.int .u32 ((st.compose (hnd a) b (hnd c)).2.1 : Nat), .int .i64 ((st.compose (hnd a) b (hnd c)).2.2 : Nat)]) ∧ RStep B w1 w' y rv ov (r.compose (hnd a) b (hnd c)).1) := by
    intro w1 hc
    have := rcompose_calls B y (hnd a) (hnd c) b r rv ov w1 (ref_beside h0 hc) hgr
    rw [← hsim.1] at this
    exact this
  have FIN : Hid (∀ w1 w2, CStep (laidW w ⟨x, y, st, r, rv, ov⟩ ⟨17, s, a, b, c, t, on, text⟩) w1 x (st.compose (hnd a) b (hnd c)).1 → RStep B w1 w2 y rv ov (r.compose (hnd a) b (hnd c)).1 → ∃ p', PStep B w w2 ⟨x, y, st, r, rv, ov⟩ p') := by
    intro w1 w2 h1 h2
    obtain ⟨p', hp⟩ := pair_step h0 h1 h2 hsim.2 (compose_given _ _ _ _)
    exact ⟨p', hp.before (laidW_below _ _ _)⟩
  have KEEP : Hid (∀ w1, CStep (laidW w ⟨x, y, st, r, rv, ov⟩ ⟨17, s, a, b, c, t, on, text⟩) w1 x (st.compose (hnd a) b (hnd c)).1 → w1.heap[w.heap.size]? = some (.cells (Pr.cells ⟨x, y, st, r, rv, ov⟩) 45 (0, 0)) ∧ w1.heap[w.heap.size + 1]? = some (.cells (SOp.cells ⟨17, s, a, b, c, t, on, text⟩) 33 (0, 0))) := fun w1 hc => laid_keep h hc
  clear h h0 hg hgs hgr hsim
  generalize (st.compose (hnd a) b (hnd c)).2.1 = H1 at *
  generalize (st.compose (hnd a) b (hnd c)).2.2 = E1 at *
  generalize (st.compose (hnd a) b (hnd c)).1 = st' at *
  generalize (r.compose (hnd a) b (hnd c)).1 = r' at *
  unfold Pr.val SOp.val Pr.cells SOp.cells
  go_enter Tryz.func16, Tryz.ntmps16
  go_wp2_with fail
  try simp only [hnd_eq]
  refine SC.out.mono ?_
  rintro e w1 ⟨rfl, hc1⟩
  have HC1 : Hid _ := hc1
  have k1 := (KEEP.out w1 hc1).1
  have k2 := (KEEP.out w1 hc1).2
  have p1 : w1.cell? ⟨w.heap.size, 1, none⟩ = some (.pointer (some ⟨y, 0, none⟩)) := cell_of_block k1 1
  have o2 : w1.cell? ⟨w.heap.size + 1, 2, none⟩ = some (.int .i64 a) := cell_of_block k2 2
  have o3 : w1.cell? ⟨w.heap.size + 1, 3, none⟩ = some (.int .i64 b) := cell_of_block k2 3
  have o4 : w1.cell? ⟨w.heap.size + 1, 4, none⟩ = some (.int .i64 c) := cell_of_block k2 4
  have o5 : w1.cell? ⟨w.heap.size + 1, 5, none⟩ = some (.int .u64 (t : Nat)) := cell_of_block k2 5
  have o6 : w1.cell? ⟨w.heap.size + 1, 6, none⟩ = some (.bool on) := cell_of_block k2 6
  clear hc1 k1 k2
  go_wp2_with fail
  try simp only [hnd_eq]
  refine (RC.out w1 HC1.out).mono ?_
  rintro e w2 ⟨rfl, hr2⟩
  have FP : Hid (∃ p', PStep B w w2 ⟨x, y, st, r, rv, ov⟩ p') := FIN.out w1 w2 HC1.out hr2
  clear hr2 o2 o3 o4 o5 o6 p1
  go_wp2_with fail
  refine (handles_calls H1 E1 _).mono ?_
  rintro e w3 ⟨rfl, rfl⟩
  go_wp2_with fail
  go_ret
  exact ⟨rfl, FP.out⟩

set_option maxRecDepth 100000 in
set_option maxHeartbeats 1000000 in
theorem fixes_quantify (B : Nat) (p : Pr) (o : SOp) (w : World) (hk : o.kind = 18) (h : PairOk B w p) (hg : p.r.given + 1 < 4294967295) :
    Calls Tryz.prog 16 #[p.val, o.val] w fun e w' => e = .returned (.bool true) ∧ ∃ p', PStep B w w' p p' := by
  obtain ⟨kind, s, a, b, c, t, on, text⟩ := o
  obtain rfl : kind = 18 := hk
  obtain ⟨x, y, st, r, rv, ov⟩ := p
  have h0 := h.below (laidW_below w ⟨x, y, st, r, rv, ov⟩ ⟨18, s, a, b, c, t, on, text⟩)
  have hgs : st.given + 1 < 4294967295 := by rw [← h.sim.given]; exact hg
  have hgr : r.given + 1 < 4294967296 := by have h9 : r.given + 1 < 4294967295 := hg; omega
  have hsim := h.sim.quantify hgs (hnd a) (oct b) on
  have SC : Hid (Calls Tryz.prog 54 #[.pointer (some ⟨x, 0, none⟩), .int .u32 (hnd a : Nat), .int .u8 (oct b : Nat), .bool on] (laidW w ⟨x, y, st, r, rv, ov⟩ ⟨18, s, a, b, c, t, on, text⟩) fun e w' => e = .returned (.tuple #[.int .u32 ((st.quantify (hnd a) (oct b) on).2.1 : Nat), .int .i64 ((st.quantify (hnd a) (oct b) on).2.2 : Nat)]) ∧ CStep (laidW w ⟨x, y, st, r, rv, ov⟩ ⟨18, s, a, b, c, t, on, text⟩) w' x (st.quantify (hnd a) (oct b) on).1) := quantify_calls x (hnd a) (oct b) on st _ h0.has hgs (oct_lt b)
  have RC : Hid (∀ w1, CStep (laidW w ⟨x, y, st, r, rv, ov⟩ ⟨18, s, a, b, c, t, on, text⟩) w1 x (st.quantify (hnd a) (oct b) on).1 → Calls Tryz.prog 55 #[.pointer (some ⟨y, 0, none⟩), .int .u32 (hnd a : Nat), .int .u8 (oct b : Nat), .bool on] w1 fun e w' => e = .returned (.tuple #[.int .u32 ((st.quantify (hnd a) (oct b) on).2.1 : Nat), .int .i64 ((st.quantify (hnd a) (oct b) on).2.2 : Nat)]) ∧ RStep B w1 w' y rv ov (r.quantify (hnd a) (oct b) on).1) := by
    intro w1 hc
    have := rquantify_calls B y (hnd a) (oct b) on r rv ov w1 (ref_beside h0 hc) hgr (oct_lt b)
    rw [← hsim.1] at this
    exact this
  have FIN : Hid (∀ w1 w2, CStep (laidW w ⟨x, y, st, r, rv, ov⟩ ⟨18, s, a, b, c, t, on, text⟩) w1 x (st.quantify (hnd a) (oct b) on).1 → RStep B w1 w2 y rv ov (r.quantify (hnd a) (oct b) on).1 → ∃ p', PStep B w w2 ⟨x, y, st, r, rv, ov⟩ p') := by
    intro w1 w2 h1 h2
    obtain ⟨p', hp⟩ := pair_step h0 h1 h2 hsim.2 (quantify_given _ _ _ _)
    exact ⟨p', hp.before (laidW_below _ _ _)⟩
  have KEEP : Hid (∀ w1, CStep (laidW w ⟨x, y, st, r, rv, ov⟩ ⟨18, s, a, b, c, t, on, text⟩) w1 x (st.quantify (hnd a) (oct b) on).1 → w1.heap[w.heap.size]? = some (.cells (Pr.cells ⟨x, y, st, r, rv, ov⟩) 45 (0, 0)) ∧ w1.heap[w.heap.size + 1]? = some (.cells (SOp.cells ⟨18, s, a, b, c, t, on, text⟩) 33 (0, 0))) := fun w1 hc => laid_keep h hc
  clear h h0 hg hgs hgr hsim
  generalize (st.quantify (hnd a) (oct b) on).2.1 = H1 at *
  generalize (st.quantify (hnd a) (oct b) on).2.2 = E1 at *
  generalize (st.quantify (hnd a) (oct b) on).1 = st' at *
  generalize (r.quantify (hnd a) (oct b) on).1 = r' at *
  unfold Pr.val SOp.val Pr.cells SOp.cells
  go_enter Tryz.func16, Tryz.ntmps16
  go_wp2_with fail
  try simp only [hnd_eq, oct_eq]
  refine SC.out.mono ?_
  rintro e w1 ⟨rfl, hc1⟩
  have HC1 : Hid _ := hc1
  have k1 := (KEEP.out w1 hc1).1
  have k2 := (KEEP.out w1 hc1).2
  have p1 : w1.cell? ⟨w.heap.size, 1, none⟩ = some (.pointer (some ⟨y, 0, none⟩)) := cell_of_block k1 1
  have o2 : w1.cell? ⟨w.heap.size + 1, 2, none⟩ = some (.int .i64 a) := cell_of_block k2 2
  have o3 : w1.cell? ⟨w.heap.size + 1, 3, none⟩ = some (.int .i64 b) := cell_of_block k2 3
  have o4 : w1.cell? ⟨w.heap.size + 1, 4, none⟩ = some (.int .i64 c) := cell_of_block k2 4
  have o5 : w1.cell? ⟨w.heap.size + 1, 5, none⟩ = some (.int .u64 (t : Nat)) := cell_of_block k2 5
  have o6 : w1.cell? ⟨w.heap.size + 1, 6, none⟩ = some (.bool on) := cell_of_block k2 6
  clear hc1 k1 k2
  go_wp2_with fail
  try simp only [oct_eq]
  refine (RC.out w1 HC1.out).mono ?_
  rintro e w2 ⟨rfl, hr2⟩
  have FP : Hid (∃ p', PStep B w w2 ⟨x, y, st, r, rv, ov⟩ p') := FIN.out w1 w2 HC1.out hr2
  clear hr2 o2 o3 o4 o5 o6 p1
  go_wp2_with fail
  refine (handles_calls H1 E1 _).mono ?_
  rintro e w3 ⟨rfl, rfl⟩
  go_wp2_with fail
  go_ret
  exact ⟨rfl, FP.out⟩
end Go.Proofs.YthoodkbdpnffdaaGreatDoor
