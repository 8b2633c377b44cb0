/-
  Own work: the steps of a script on one pair of stores (walks over contracts).
-/
import Derived.Test.YthoodkbdpnffdabGreatDoorPairM
namespace Go.Proofs.YthoodkbdpnffdabGreatDoor
open Go.RowKit
open Cho (U64 Tab full col Nd Red)

set_option maxHeartbeats 400000 in
theorem num_calls (e : Nat) (w : World) : Calls Tryz.prog 10 #[.int .i64 e] w fun x w' => x = .returned (.int .i64 e) ∧ w' = w := by
  go_enter Tryz.func10, Tryz.ntmps10
  go_wp2_with fail
  go_ret
  exact ⟨rfl, rfl⟩
set_option maxHeartbeats 400000 in
theorem handles_calls (a e : Nat) (w : World) : Calls Tryz.prog 21 #[.int .u32 a, .int .i64 e, .int .u32 a, .int .i64 e] w fun x w' => x = .returned (.bool true) ∧ w' = w := by
  go_enter Tryz.func21, Tryz.ntmps21
  go_wp2_with fail
  refine (num_calls e _).mono ?_
  rintro x w1 ⟨rfl, rfl⟩
  go_wp2_with fail
  refine (num_calls e _).mono ?_
  rintro x w1 ⟨rfl, rfl⟩
  go_wp2_with fail
  go_ret
  exact ⟨ret_bool (by simp), rfl⟩

/-- A step of a script. -/
structure SOp where
  kind : Int
  s : Int
  a : Int
  b : Int
  c : Int
  t : Nat
  on : Bool
  text : Value
def SOp.cells (o : SOp) : Array Value := #[.int .i64 o.kind, .int .i64 o.s, .int .i64 o.a, .int .i64 o.b, .int .i64 o.c, .int .u64 (o.t : Nat), .bool o.on, o.text]
def SOp.val (o : SOp) : Value := .agg o.cells
def Pr.cells (p : Pr) : Array Value := #[.pointer (some ⟨p.x, 0, none⟩), .pointer (some ⟨p.y, 0, none⟩)]
def Pr.val (p : Pr) : Value := .agg p.cells
/-- A number as a handle, as a place or a set. -/
def hnd (z : Int) : Nat := (z % 4294967296).toNat
theorem hnd_eq (z : Int) : z % 4294967296 = ((hnd z : Nat) : Int) := by unfold hnd; omega
def oct (z : Int) : Nat := (z % 256).toNat
theorem oct_eq (z : Int) : z % 256 = ((oct z : Nat) : Int) := by unfold oct; omega
theorem oct_lt (z : Int) : oct z < 256 := by unfold oct; omega

/-- The world in which the two arguments have been laid. -/
def laidW (w : World) (p : Pr) (o : SOp) : World := (w.alloc (.cells p.cells 45)).alloc (.cells o.cells 33)
theorem laidW_below (w : World) (p : Pr) (o : SOp) : Below w.heap.size w (laidW w p o) := below_trans (below_alloc _ _) (below_alloc _ _)
theorem laidW_p (w : World) (p : Pr) (o : SOp) : (laidW w p o).heap[w.heap.size]? = some (.cells p.cells 45 (0, 0)) :=
  (Below.heap_alloc _ _ _ (by simp)).trans (heap_res _ _)
theorem laidW_o (w : World) (p : Pr) (o : SOp) : (laidW w p o).heap[w.heap.size + 1]? = some (.cells o.cells 33 (0, 0)) := by
  have := heap_res (w.alloc (.cells p.cells 45)) (.cells o.cells 33)
  rw [show (w.alloc (.cells p.cells 45)).heap.size = w.heap.size + 1 from by simp] at this
  exact this
/-- Both arguments are as they were behind a call on the program's store. -/
theorem laid_keep {B : Nat} {w w1 : World} {p : Pr} {o : SOp} {st' : St} (h : PairOk B w p) (hc : CStep (laidW w p o) w1 p.x st') :
    w1.heap[w.heap.size]? = some (.cells p.cells 45 (0, 0)) ∧ w1.heap[w.heap.size + 1]? = some (.cells o.cells 33 (0, 0)) := by
  obtain ⟨c, hx⟩ := (h.below (laidW_below w p o)).blk
  have hp := laidW_p w p o
  have ho := laidW_o w p o
  refine ⟨(hc.gr.block _ (lt_of_block hp) ?_).trans hp, (hc.gr.block _ (lt_of_block ho) ?_).trans ho⟩
  · intro e; exact kind_ne hp hx (by decide) (by simpa using e)
  · intro e; exact kind_ne ho hx (by decide) (by simpa using e)
theorem laid_below {w w1 : World} {p : Pr} {o : SOp} (hb : Below (laidW w p o).heap.size (laidW w p o) w1) :
    w1.heap[w.heap.size]? = some (.cells p.cells 45 (0, 0)) ∧ w1.heap[w.heap.size + 1]? = some (.cells o.cells 33 (0, 0)) :=
  ⟨(hb.block _ (lt_of_block (laidW_p w p o))).trans (laidW_p w p o), (hb.block _ (lt_of_block (laidW_o w p o))).trans (laidW_o w p o)⟩
theorem PStep.before {B : Nat} {w w0 w' : World} {p p' : Pr} (hb : Below w.heap.size w w0) (h : PStep B w0 w' p p') : PStep B w w' p p' :=
  ⟨h.ok, h.x, h.y, fun g hg => (h.rv g hg).imp id (Nat.le_trans hb.size), (Ch.of_below hb).trans h.ch, h.given⟩

set_option maxRecDepth 100000 in
set_option maxHeartbeats 1000000 in
theorem makes_const (B : Nat) (p : Pr) (o : SOp) (w : World) (hk : o.kind = 2) (h : PairOk B w p) (hg : p.r.given + 1 < 4294967295) :
    Calls Tryz.prog 12 #[p.val, o.val] w fun e w' => e = .returned (.bool true) ∧ ∃ p', PStep B w w' p p' := by
  obtain ⟨kind, s, a, b, c, t, on, text⟩ := o
  obtain rfl : kind = 2 := hk
  obtain ⟨x, y, st, r, rv, ov⟩ := p
  have h0 := h.below (laidW_below w ⟨x, y, st, r, rv, ov⟩ ⟨2, s, a, b, c, t, on, text⟩)
  have hgs : st.given + 1 < 4294967295 := by rw [← h.sim.given]; exact hg
  have hgr : r.given + 1 < 4294967296 := by have h9 : r.given + 1 < 4294967295 := hg; omega
  have hsim := h.sim.const hgs on
  have SC : Hid (Calls Tryz.prog 19 #[.pointer (some ⟨x, 0, none⟩), .bool on] (laidW w ⟨x, y, st, r, rv, ov⟩ ⟨2, s, a, b, c, t, on, text⟩) fun e w' => e = .returned (.tuple #[.int .u32 ((st.made (if on then full st.n else 0)).2.1 : Nat), .int .i64 ((st.made (if on then full st.n else 0)).2.2 : Nat)]) ∧ CStep (laidW w ⟨x, y, st, r, rv, ov⟩ ⟨2, s, a, b, c, t, on, text⟩) w' x (st.made (if on then full st.n else 0)).1) := const_calls x on st _ h0.has hgs
  have RC : Hid (∀ w1, CStep (laidW w ⟨x, y, st, r, rv, ov⟩ ⟨2, s, a, b, c, t, on, text⟩) w1 x (st.made (if on then full st.n else 0)).1 → Calls Tryz.prog 20 #[.pointer (some ⟨y, 0, none⟩), .bool on] w1 fun e w' => e = .returned (.tuple #[.int .u32 ((st.made (if on then full st.n else 0)).2.1 : Nat), .int .i64 ((st.made (if on then full st.n else 0)).2.2 : Nat)]) ∧ RStep B w1 w' y rv ov (r.made (if on then full r.n else 0)).1) := by
    intro w1 hc
    have := rconst_calls B y on r rv ov w1 (ref_beside h0 hc) hgr
    rw [← hsim.1] at this
    exact this
  have FIN : Hid (∀ w1 w2, CStep (laidW w ⟨x, y, st, r, rv, ov⟩ ⟨2, s, a, b, c, t, on, text⟩) w1 x (st.made (if on then full st.n else 0)).1 → RStep B w1 w2 y rv ov (r.made (if on then full r.n else 0)).1 → ∃ p', PStep B w w2 ⟨x, y, st, r, rv, ov⟩ p') := by
    intro w1 w2 h1 h2
    obtain ⟨p', hp⟩ := pair_step h0 h1 h2 hsim.2 (made_given _ _)
    exact ⟨p', hp.before (laidW_below _ _ _)⟩
  have KEEP : Hid (∀ w1, CStep (laidW w ⟨x, y, st, r, rv, ov⟩ ⟨2, s, a, b, c, t, on, text⟩) w1 x (st.made (if on then full st.n else 0)).1 → w1.heap[w.heap.size]? = some (.cells (Pr.cells ⟨x, y, st, r, rv, ov⟩) 45 (0, 0)) ∧ w1.heap[w.heap.size + 1]? = some (.cells (SOp.cells ⟨2, s, a, b, c, t, on, text⟩) 33 (0, 0))) := fun w1 hc => laid_keep h hc
  clear h h0 hg hgs hgr hsim
  generalize (st.made (if on then full st.n else 0)).2.1 = H1 at *
  generalize (st.made (if on then full st.n else 0)).2.2 = E1 at *
  generalize (st.made (if on then full st.n else 0)).1 = st' at *
  generalize (r.made (if on then full r.n else 0)).1 = r' at *
  unfold Pr.val SOp.val Pr.cells SOp.cells
  go_enter Tryz.func12, Tryz.ntmps12
  go_wp2_with fail
  try simp only [hnd_eq]
  refine SC.out.mono ?_
  rintro e w1 ⟨rfl, hc1⟩
  have HC1 : Hid _ := hc1
  have k1 := (KEEP.out w1 hc1).1
  have k2 := (KEEP.out w1 hc1).2
  have p1 : w1.cell? ⟨w.heap.size, 1, none⟩ = some (.pointer (some ⟨y, 0, none⟩)) := cell_of_block k1 1
  have o2 : w1.cell? ⟨w.heap.size + 1, 2, none⟩ = some (.int .i64 a) := cell_of_block k2 2
  have o3 : w1.cell? ⟨w.heap.size + 1, 3, none⟩ = some (.int .i64 b) := cell_of_block k2 3
  have o4 : w1.cell? ⟨w.heap.size + 1, 4, none⟩ = some (.int .i64 c) := cell_of_block k2 4
  have o5 : w1.cell? ⟨w.heap.size + 1, 5, none⟩ = some (.int .u64 (t : Nat)) := cell_of_block k2 5
  have o6 : w1.cell? ⟨w.heap.size + 1, 6, none⟩ = some (.bool on) := cell_of_block k2 6
  clear hc1 k1 k2
  go_wp2_with fail
  try simp only [hnd_eq]
  refine (RC.out w1 HC1.out).mono ?_
  rintro e w2 ⟨rfl, hr2⟩
  have FP : Hid (∃ p', PStep B w w2 ⟨x, y, st, r, rv, ov⟩ p') := FIN.out w1 w2 HC1.out hr2
  clear hr2 o2 o3 o4 o5 o6 p1
  go_wp2_with fail
  refine (handles_calls H1 E1 _).mono ?_
  rintro e w3 ⟨rfl, rfl⟩
  go_wp2_with fail
  go_ret
  exact ⟨rfl, FP.out⟩

set_option maxRecDepth 100000 in
set_option maxHeartbeats 1000000 in
theorem makes_var (B : Nat) (p : Pr) (o : SOp) (w : World) (hk : o.kind = 3) (h : PairOk B w p) (hg : p.r.given + 1 < 4294967295) :
    Calls Tryz.prog 12 #[p.val, o.val] w fun e w' => e = .returned (.bool true) ∧ ∃ p', PStep B w w' p p' := by
  obtain ⟨kind, s, a, b, c, t, on, text⟩ := o
  obtain rfl : kind = 3 := hk
  obtain ⟨x, y, st, r, rv, ov⟩ := p
  have h0 := h.below (laidW_below w ⟨x, y, st, r, rv, ov⟩ ⟨3, s, a, b, c, t, on, text⟩)
  have hgs : st.given + 1 < 4294967295 := by rw [← h.sim.given]; exact hg
  have hgr : r.given + 1 < 4294967296 := by have h9 : r.given + 1 < 4294967295 := hg; omega
  have hsim := h.sim.var hgs a
  have SC : Hid (Calls Tryz.prog 22 #[.pointer (some ⟨x, 0, none⟩), .int .i64 a] (laidW w ⟨x, y, st, r, rv, ov⟩ ⟨3, s, a, b, c, t, on, text⟩) fun e w' => e = .returned (.tuple #[.int .u32 ((st.var a).2.1 : Nat), .int .i64 ((st.var a).2.2 : Nat)]) ∧ CStep (laidW w ⟨x, y, st, r, rv, ov⟩ ⟨3, s, a, b, c, t, on, text⟩) w' x (st.var a).1) := var_calls x a st _ h0.has hgs
  have RC : Hid (∀ w1, CStep (laidW w ⟨x, y, st, r, rv, ov⟩ ⟨3, s, a, b, c, t, on, text⟩) w1 x (st.var a).1 → Calls Tryz.prog 23 #[.pointer (some ⟨y, 0, none⟩), .int .i64 a] w1 fun e w' => e = .returned (.tuple #[.int .u32 ((st.var a).2.1 : Nat), .int .i64 ((st.var a).2.2 : Nat)]) ∧ RStep B w1 w' y rv ov (r.var a).1) := by
    intro w1 hc
    have := rvar_calls B y a r rv ov w1 (ref_beside h0 hc) hgr
    rw [← hsim.1] at this
    exact this
  have FIN : Hid (∀ w1 w2, CStep (laidW w ⟨x, y, st, r, rv, ov⟩ ⟨3, s, a, b, c, t, on, text⟩) w1 x (st.var a).1 → RStep B w1 w2 y rv ov (r.var a).1 → ∃ p', PStep B w w2 ⟨x, y, st, r, rv, ov⟩ p') := by
    intro w1 w2 h1 h2
    obtain ⟨p', hp⟩ := pair_step h0 h1 h2 hsim.2 (var_given _ _)
    exact ⟨p', hp.before (laidW_below _ _ _)⟩
  have KEEP : Hid (∀ w1, CStep (laidW w ⟨x, y, st, r, rv, ov⟩ ⟨3, s, a, b, c, t, on, text⟩) w1 x (st.var a).1 → w1.heap[w.heap.size]? = some (.cells (Pr.cells ⟨x, y, st, r, rv, ov⟩) 45 (0, 0)) ∧ w1.heap[w.heap.size + 1]? = some (.cells (SOp.cells ⟨3, s, a, b, c, t, on, text⟩) 33 (0, 0))) := fun w1 hc => laid_keep h hc
  clear h h0 hg hgs hgr hsim
  generalize (st.var a).2.1 = H1 at *
  generalize (st.var a).2.2 = E1 at *
  generalize (st.var a).1 = st' at *
  generalize (r.var a).1 = r' at *
  unfold Pr.val SOp.val Pr.cells SOp.cells
  go_enter Tryz.func12, Tryz.ntmps12
  go_wp2_with fail
  try simp only [hnd_eq]
  refine SC.out.mono ?_
  rintro e w1 ⟨rfl, hc1⟩
  have HC1 : Hid _ := hc1
  have k1 := (KEEP.out w1 hc1).1
  have k2 := (KEEP.out w1 hc1).2
  have p1 : w1.cell? ⟨w.heap.size, 1, none⟩ = some (.pointer (some ⟨y, 0, none⟩)) := cell_of_block k1 1
  have o2 : w1.cell? ⟨w.heap.size + 1, 2, none⟩ = some (.int .i64 a) := cell_of_block k2 2
  have o3 : w1.cell? ⟨w.heap.size + 1, 3, none⟩ = some (.int .i64 b) := cell_of_block k2 3
  have o4 : w1.cell? ⟨w.heap.size + 1, 4, none⟩ = some (.int .i64 c) := cell_of_block k2 4
  have o5 : w1.cell? ⟨w.heap.size + 1, 5, none⟩ = some (.int .u64 (t : Nat)) := cell_of_block k2 5
  have o6 : w1.cell? ⟨w.heap.size + 1, 6, none⟩ = some (.bool on) := cell_of_block k2 6
  clear hc1 k1 k2
  go_wp2_with fail
  try simp only [hnd_eq]
  refine (RC.out w1 HC1.out).mono ?_
  rintro e w2 ⟨rfl, hr2⟩
  have FP : Hid (∃ p', PStep B w w2 ⟨x, y, st, r, rv, ov⟩ p') := FIN.out w1 w2 HC1.out hr2
  clear hr2 o2 o3 o4 o5 o6 p1
  go_wp2_with fail
  refine (handles_calls H1 E1 _).mono ?_
  rintro e w3 ⟨rfl, rfl⟩
  go_wp2_with fail
  go_ret
  exact ⟨rfl, FP.out⟩

set_option maxRecDepth 100000 in
set_option maxHeartbeats 1000000 in
theorem makes_make (B : Nat) (p : Pr) (o : SOp) (w : World) (hk : o.kind = 4) (h : PairOk B w p) (hg : p.r.given + 1 < 4294967295) :
    Calls Tryz.prog 12 #[p.val, o.val] w fun e w' => e = .returned (.bool true) ∧ ∃ p', PStep B w w' p p' := by
  obtain ⟨kind, s, a, b, c, t, on, text⟩ := o
  obtain rfl : kind = 4 := hk
  obtain ⟨x, y, st, r, rv, ov⟩ := p
  have h0 := h.below (laidW_below w ⟨x, y, st, r, rv, ov⟩ ⟨4, s, a, b, c, t, on, text⟩)
  have hgs : st.given + 1 < 4294967295 := by rw [← h.sim.given]; exact hg
  have hgr : r.given + 1 < 4294967296 := by have h9 : r.given + 1 < 4294967295 := hg; omega
  have hsim := h.sim.make hgs t
  have SC : Hid (Calls Tryz.prog 24 #[.pointer (some ⟨x, 0, none⟩), .int .u64 (t : Nat)] (laidW w ⟨x, y, st, r, rv, ov⟩ ⟨4, s, a, b, c, t, on, text⟩) fun e w' => e = .returned (.tuple #[.int .u32 ((st.make t).2.1 : Nat), .int .i64 ((st.make t).2.2 : Nat)]) ∧ CStep (laidW w ⟨x, y, st, r, rv, ov⟩ ⟨4, s, a, b, c, t, on, text⟩) w' x (st.make t).1) := make_calls x t st _ h0.has hgs
  have RC : Hid (∀ w1, CStep (laidW w ⟨x, y, st, r, rv, ov⟩ ⟨4, s, a, b, c, t, on, text⟩) w1 x (st.make t).1 → Calls Tryz.prog 25 #[.pointer (some ⟨y, 0, none⟩), .int .u64 (t : Nat)] w1 fun e w' => e = .returned (.tuple #[.int .u32 ((st.make t).2.1 : Nat), .int .i64 ((st.make t).2.2 : Nat)]) ∧ RStep B w1 w' y rv ov (r.make t).1) := by
    intro w1 hc
    have := rmake_calls B y t r rv ov w1 (ref_beside h0 hc) hgr
    rw [← hsim.1] at this
    exact this
  have FIN : Hid (∀ w1 w2, CStep (laidW w ⟨x, y, st, r, rv, ov⟩ ⟨4, s, a, b, c, t, on, text⟩) w1 x (st.make t).1 → RStep B w1 w2 y rv ov (r.make t).1 → ∃ p', PStep B w w2 ⟨x, y, st, r, rv, ov⟩ p') := by
    intro w1 w2 h1 h2
    obtain ⟨p', hp⟩ := pair_step h0 h1 h2 hsim.2 (make_given _ _)
    exact ⟨p', hp.before (laidW_below _ _ _)⟩
  have KEEP : Hid (∀ w1, CStep (laidW w ⟨x, y, st, r, rv, ov⟩ ⟨4, s, a, b, c, t, on, text⟩) w1 x (st.make t).1 → w1.heap[w.heap.size]? = some (.cells (Pr.cells ⟨x, y, st, r, rv, ov⟩) 45 (0, 0)) ∧ w1.heap[w.heap.size + 1]? = some (.cells (SOp.cells ⟨4, s, a, b, c, t, on, text⟩) 33 (0, 0))) := fun w1 hc => laid_keep h hc
  clear h h0 hg hgs hgr hsim
  generalize (st.make t).2.1 = H1 at *
  generalize (st.make t).2.2 = E1 at *
  generalize (st.make t).1 = st' at *
  generalize (r.make t).1 = r' at *
  unfold Pr.val SOp.val Pr.cells SOp.cells
  go_enter Tryz.func12, Tryz.ntmps12
  go_wp2_with fail
  try simp only [hnd_eq]
  refine SC.out.mono ?_
  rintro e w1 ⟨rfl, hc1⟩
  have HC1 : Hid _ := hc1
  have k1 := (KEEP.out w1 hc1).1
  have k2 := (KEEP.out w1 hc1).2
  have p1 : w1.cell? ⟨w.heap.size, 1, none⟩ = some (.pointer (some ⟨y, 0, none⟩)) := cell_of_block k1 1
  have o2 : w1.cell? ⟨w.heap.size + 1, 2, none⟩ = some (.int .i64 a) := cell_of_block k2 2
  have o3 : w1.cell? ⟨w.heap.size + 1, 3, none⟩ = some (.int .i64 b) := cell_of_block k2 3
  have o4 : w1.cell? ⟨w.heap.size + 1, 4, none⟩ = some (.int .i64 c) := cell_of_block k2 4
  have o5 : w1.cell? ⟨w.heap.size + 1, 5, none⟩ = some (.int .u64 (t : Nat)) := cell_of_block k2 5
  have o6 : w1.cell? ⟨w.heap.size + 1, 6, none⟩ = some (.bool on) := cell_of_block k2 6
  clear hc1 k1 k2
  go_wp2_with fail
  try simp only [hnd_eq]
  refine (RC.out w1 HC1.out).mono ?_
  rintro e w2 ⟨rfl, hr2⟩
  have FP : Hid (∃ p', PStep B w w2 ⟨x, y, st, r, rv, ov⟩ p') := FIN.out w1 w2 HC1.out hr2
  clear hr2 o2 o3 o4 o5 o6 p1
  go_wp2_with fail
  refine (handles_calls H1 E1 _).mono ?_
  rintro e w3 ⟨rfl, rfl⟩
  go_wp2_with fail
  go_ret
  exact ⟨rfl, FP.out⟩

set_option maxRecDepth 100000 in
set_option maxHeartbeats 1000000 in
theorem makes_apply (B : Nat) (p : Pr) (o : SOp) (w : World) (hk : o.kind = 5) (h : PairOk B w p) (hg : p.r.given + 1 < 4294967295) :
    Calls Tryz.prog 12 #[p.val, o.val] w fun e w' => e = .returned (.bool true) ∧ ∃ p', PStep B w w' p p' := by
  obtain ⟨kind, s, a, b, c, t, on, text⟩ := o
  obtain rfl : kind = 5 := hk
  obtain ⟨x, y, st, r, rv, ov⟩ := p
  have h0 := h.below (laidW_below w ⟨x, y, st, r, rv, ov⟩ ⟨5, s, a, b, c, t, on, text⟩)
  have hgs : st.given + 1 < 4294967295 := by rw [← h.sim.given]; exact hg
  have hgr : r.given + 1 < 4294967296 := by have h9 : r.given + 1 < 4294967295 := hg; omega
  have hsim := h.sim.apply hgs c (hnd a) (hnd b)
  have SC : Hid (Calls Tryz.prog 26 #[.pointer (some ⟨x, 0, none⟩), .int .i64 c, .int .u32 (hnd a : Nat), .int .u32 (hnd b : Nat)] (laidW w ⟨x, y, st, r, rv, ov⟩ ⟨5, s, a, b, c, t, on, text⟩) fun e w' => e = .returned (.tuple #[.int .u32 ((st.apply c (hnd a) (hnd b)).2.1 : Nat), .int .i64 ((st.apply c (hnd a) (hnd b)).2.2 : Nat)]) ∧ CStep (laidW w ⟨x, y, st, r, rv, ov⟩ ⟨5, s, a, b, c, t, on, text⟩) w' x (st.apply c (hnd a) (hnd b)).1) := apply_calls x (hnd a) (hnd b) c st _ h0.has hgs
  have RC : Hid (∀ w1, CStep (laidW w ⟨x, y, st, r, rv, ov⟩ ⟨5, s, a, b, c, t, on, text⟩) w1 x (st.apply c (hnd a) (hnd b)).1 → Calls Tryz.prog 27 #[.pointer (some ⟨y, 0, none⟩), .int .i64 c, .int .u32 (hnd a : Nat), .int .u32 (hnd b : Nat)] w1 fun e w' => e = .returned (.tuple #[.int .u32 ((st.apply c (hnd a) (hnd b)).2.1 : Nat), .int .i64 ((st.apply c (hnd a) (hnd b)).2.2 : Nat)]) ∧ RStep B w1 w' y rv ov (r.apply c (hnd a) (hnd b)).1) := by
    intro w1 hc
    have := rapply_calls B y (hnd a) (hnd b) c r rv ov w1 (ref_beside h0 hc) hgr
    rw [← hsim.1] at this
    exact this
  have FIN : Hid (∀ w1 w2, CStep (laidW w ⟨x, y, st, r, rv, ov⟩ ⟨5, s, a, b, c, t, on, text⟩) w1 x (st.apply c (hnd a) (hnd b)).1 → RStep B w1 w2 y rv ov (r.apply c (hnd a) (hnd b)).1 → ∃ p', PStep B w w2 ⟨x, y, st, r, rv, ov⟩ p') := by
    intro w1 w2 h1 h2
    obtain ⟨p', hp⟩ := pair_step h0 h1 h2 hsim.2 (apply_given _ _ _ _)
    exact ⟨p', hp.before (laidW_below _ _ _)⟩
  have KEEP : Hid (∀ w1, CStep (laidW w ⟨x, y, st, r, rv, ov⟩ ⟨5, s, a, b, c, t, on, text⟩) w1 x (st.apply c (hnd a) (hnd b)).1 → w1.heap[w.heap.size]? = some (.cells (Pr.cells ⟨x, y, st, r, rv, ov⟩) 45 (0, 0)) ∧ w1.heap[w.heap.size + 1]? = some (.cells (SOp.cells ⟨5, s, a, b, c, t, on, text⟩) 33 (0, 0))) := fun w1 hc => laid_keep h hc
  clear h h0 hg hgs hgr hsim
  generalize (st.apply c (hnd a) (hnd b)).2.1 = H1 at *
  generalize (st.apply c (hnd a) (hnd b)).2.2 = E1 at *
  generalize (st.apply c (hnd a) (hnd b)).1 = st' at *
  generalize (r.apply c (hnd a) (hnd b)).1 = r' at *
  unfold Pr.val SOp.val Pr.cells SOp.cells
  go_enter Tryz.func12, Tryz.ntmps12
  go_wp2_with fail
  try simp only [hnd_eq]
  refine SC.out.mono ?_
  rintro e w1 ⟨rfl, hc1⟩
  have HC1 : Hid _ := hc1
  have k1 := (KEEP.out w1 hc1).1
  have k2 := (KEEP.out w1 hc1).2
  have p1 : w1.cell? ⟨w.heap.size, 1, none⟩ = some (.pointer (some ⟨y, 0, none⟩)) := cell_of_block k1 1
  have o2 : w1.cell? ⟨w.heap.size + 1, 2, none⟩ = some (.int .i64 a) := cell_of_block k2 2
  have o3 : w1.cell? ⟨w.heap.size + 1, 3, none⟩ = some (.int .i64 b) := cell_of_block k2 3
  have o4 : w1.cell? ⟨w.heap.size + 1, 4, none⟩ = some (.int .i64 c) := cell_of_block k2 4
  have o5 : w1.cell? ⟨w.heap.size + 1, 5, none⟩ = some (.int .u64 (t : Nat)) := cell_of_block k2 5
  have o6 : w1.cell? ⟨w.heap.size + 1, 6, none⟩ = some (.bool on) := cell_of_block k2 6
  clear hc1 k1 k2
  go_wp2_with fail
  try simp only [hnd_eq]
  refine (RC.out w1 HC1.out).mono ?_
  rintro e w2 ⟨rfl, hr2⟩
  have FP : Hid (∃ p', PStep B w w2 ⟨x, y, st, r, rv, ov⟩ p') := FIN.out w1 w2 HC1.out hr2
  clear hr2 o2 o3 o4 o5 o6 p1
  go_wp2_with fail
  refine (handles_calls H1 E1 _).mono ?_
  rintro e w3 ⟨rfl, rfl⟩
  go_wp2_with fail
  go_ret
  exact ⟨rfl, FP.out⟩

set_option maxRecDepth 100000 in
set_option maxHeartbeats 1000000 in
theorem makes_ite (B : Nat) (p : Pr) (o : SOp) (w : World) (hk : o.kind = 6) (h : PairOk B w p) (hg : p.r.given + 1 < 4294967295) :
    Calls Tryz.prog 12 #[p.val, o.val] w fun e w' => e = .returned (.bool true) ∧ ∃ p', PStep B w w' p p' := by
  obtain ⟨kind, s, a, b, c, t, on, text⟩ := o
  obtain rfl : kind = 6 := hk
  obtain ⟨x, y, st, r, rv, ov⟩ := p
  have h0 := h.below (laidW_below w ⟨x, y, st, r, rv, ov⟩ ⟨6, s, a, b, c, t, on, text⟩)
  have hgs : st.given + 1 < 4294967295 := by rw [← h.sim.given]; exact hg
  have hgr : r.given + 1 < 4294967296 := by have h9 : r.given + 1 < 4294967295 := hg; omega
  have hsim := h.sim.ite hgs (hnd a) (hnd b) (hnd c)
  have SC : Hid (Calls Tryz.prog 28 #[.pointer (some ⟨x, 0, none⟩), .int .u32 (hnd a : Nat), .int .u32 (hnd b : Nat), .int .u32 (hnd c : Nat)] (laidW w ⟨x, y, st, r, rv, ov⟩ ⟨6, s, a, b, c, t, on, text⟩) fun e w' => e = .returned (.tuple #[.int .u32 ((st.ite (hnd a) (hnd b) (hnd c)).2.1 : Nat), .int .i64 ((st.ite (hnd a) (hnd b) (hnd c)).2.2 : Nat)]) ∧ CStep (laidW w ⟨x, y, st, r, rv, ov⟩ ⟨6, s, a, b, c, t, on, text⟩) w' x (st.ite (hnd a) (hnd b) (hnd c)).1) := ite_calls x (hnd a) (hnd b) (hnd c) st _ h0.has hgs
  have RC : Hid (∀ w1, CStep (laidW w ⟨x, y, st, r, rv, ov⟩ ⟨6, s, a, b, c, t, on, text⟩) w1 x (st.ite (hnd a) (hnd b) (hnd c)).1 → Calls Tryz.prog 29 #[.pointer (some ⟨y, 0, none⟩), .int .u32 (hnd a : Nat), .int .u32 (hnd b : Nat), .int .u32 (hnd c : Nat)] w1 fun e w' => e = .returned (.tuple #[.int .u32 ((st.ite (hnd a) (hnd b) (hnd c)).2.1 : Nat), .int .i64 ((st.ite (hnd a) (hnd b) (hnd c)).2.2 : Nat)]) ∧ RStep B w1 w' y rv ov (r.ite (hnd a) (hnd b) (hnd c)).1) := by
    intro w1 hc
    have := rite_calls B y (hnd a) (hnd b) (hnd c) r rv ov w1 (ref_beside h0 hc) hgr
    rw [← hsim.1] at this
    exact this
  have FIN : Hid (∀ w1 w2, CStep (laidW w ⟨x, y, st, r, rv, ov⟩ ⟨6, s, a, b, c, t, on, text⟩) w1 x (st.ite (hnd a) (hnd b) (hnd c)).1 → RStep B w1 w2 y rv ov (r.ite (hnd a) (hnd b) (hnd c)).1 → ∃ p', PStep B w w2 ⟨x, y, st, r, rv, ov⟩ p') := by
    intro w1 w2 h1 h2
    obtain ⟨p', hp⟩ := pair_step h0 h1 h2 hsim.2 (ite_given _ _ _ _)
    exact ⟨p', hp.before (laidW_below _ _ _)⟩
  have KEEP : Hid (∀ w1, CStep (laidW w ⟨x, y, st, r, rv, ov⟩ ⟨6, s, a, b, c, t, on, text⟩) w1 x (st.ite (hnd a) (hnd b) (hnd c)).1 → w1.heap[w.heap.size]? = some (.cells (Pr.cells ⟨x, y, st, r, rv, ov⟩) 45 (0, 0)) ∧ w1.heap[w.heap.size + 1]? = some (.cells (SOp.cells ⟨6, s, a, b, c, t, on, text⟩) 33 (0, 0))) := fun w1 hc => laid_keep h hc
  clear h h0 hg hgs hgr hsim
  generalize (st.ite (hnd a) (hnd b) (hnd c)).2.1 = H1 at *
  generalize (st.ite (hnd a) (hnd b) (hnd c)).2.2 = E1 at *
  generalize (st.ite (hnd a) (hnd b) (hnd c)).1 = st' at *
  generalize (r.ite (hnd a) (hnd b) (hnd c)).1 = r' at *
  unfold Pr.val SOp.val Pr.cells SOp.cells
  go_enter Tryz.func12, Tryz.ntmps12
  go_wp2_with fail
  try simp only [hnd_eq]
  refine SC.out.mono ?_
  rintro e w1 ⟨rfl, hc1⟩
  have HC1 : Hid _ := hc1
  have k1 := (KEEP.out w1 hc1).1
  have k2 := (KEEP.out w1 hc1).2
  have p1 : w1.cell? ⟨w.heap.size, 1, none⟩ = some (.pointer (some ⟨y, 0, none⟩)) := cell_of_block k1 1
  have o2 : w1.cell? ⟨w.heap.size + 1, 2, none⟩ = some (.int .i64 a) := cell_of_block k2 2
  have o3 : w1.cell? ⟨w.heap.size + 1, 3, none⟩ = some (.int .i64 b) := cell_of_block k2 3
  have o4 : w1.cell? ⟨w.heap.size + 1, 4, none⟩ = some (.int .i64 c) := cell_of_block k2 4
  have o5 : w1.cell? ⟨w.heap.size + 1, 5, none⟩ = some (.int .u64 (t : Nat)) := cell_of_block k2 5
  have o6 : w1.cell? ⟨w.heap.size + 1, 6, none⟩ = some (.bool on) := cell_of_block k2 6
  clear hc1 k1 k2
  go_wp2_with fail
  try simp only [hnd_eq]
  refine (RC.out w1 HC1.out).mono ?_
  rintro e w2 ⟨rfl, hr2⟩
  have FP : Hid (∃ p', PStep B w w2 ⟨x, y, st, r, rv, ov⟩ p') := FIN.out w1 w2 HC1.out hr2
  clear hr2 o2 o3 o4 o5 o6 p1
  go_wp2_with fail
  refine (handles_calls H1 E1 _).mono ?_
  rintro e w3 ⟨rfl, rfl⟩
  go_wp2_with fail
  go_ret
  exact ⟨rfl, FP.out⟩
end Go.Proofs.YthoodkbdpnffdabGreatDoor

/-
  Own work: the steps of a script on one pair of stores: those of stage 2 (walks over contracts).
-/
namespace Go.Proofs.YthoodkbdpnffdabGreatDoor
open Go.RowKit
open Cho (U64 Tab full col Nd Red)

set_option maxRecDepth 100000 in
set_option maxHeartbeats 1000000 in
theorem fixes_restrict (B : Nat) (p : Pr) (o : SOp) (w : World) (hk : o.kind = 16) (h : PairOk B w p) (hg : p.r.given + 1 < 4294967295) :
    Calls Tryz.prog 14 #[p.val, o.val] w fun e w' => e = .returned (.bool true) ∧ ∃ p', PStep B w w' p p' := by
  obtain ⟨kind, s, a, b, c, t, on, text⟩ := o
  obtain rfl : kind = 16 := hk
  obtain ⟨x, y, st, r, rv, ov⟩ := p
  have h0 := h.below (laidW_below w ⟨x, y, st, r, rv, ov⟩ ⟨16, s, a, b, c, t, on, text⟩)
  have hgs : st.given + 1 < 4294967295 := by rw [← h.sim.given]; exact hg
  have hgr : r.given + 1 < 4294967296 := by have h9 : r.given + 1 < 4294967295 := hg; omega
  have hsim := h.sim.restrict hgs (hnd a) b on
  have SC : Hid (Calls Tryz.prog 48 #[.pointer (some ⟨x, 0, none⟩), .int .u32 (hnd a : Nat), .int .i64 b, .bool on] (laidW w ⟨x, y, st, r, rv, ov⟩ ⟨16, s, a, b, c, t, on, text⟩) fun e w' => e = .returned (.tuple #[.int .u32 ((st.restrict (hnd a) b on).2.1 : Nat), .int .i64 ((st.restrict (hnd a) b on).2.2 : Nat)]) ∧ CStep (laidW w ⟨x, y, st, r, rv, ov⟩ ⟨16, s, a, b, c, t, on, text⟩) w' x (st.restrict (hnd a) b on).1) := restrict_calls x (hnd a) b on st _ h0.has hgs
  have RC : Hid (∀ w1, CStep (laidW w ⟨x, y, st, r, rv, ov⟩ ⟨16, s, a, b, c, t, on, text⟩) w1 x (st.restrict (hnd a) b on).1 → Calls Tryz.prog 49 #[.pointer (some ⟨y, 0, none⟩), .int .u32 (hnd a : Nat), .int .i64 b, .bool on] w1 fun e w' => e = .returned (.tuple #[.int .u32 ((st.restrict (hnd a) b on).2.1 : Nat), .int .i64 ((st.restrict (hnd a) b on).2.2 : Nat)]) ∧ RStep B w1 w' y rv ov (r.restrict (hnd a) b on).1) := by
    intro w1 hc
    have := rrestrict_calls B y (hnd a) b on r rv ov w1 (ref_beside h0 hc) hgr
    rw [← hsim.1] at this
    exact this
  have FIN : Hid (∀ w1 w2, CStep (laidW w ⟨x, y, st, r, rv, ov⟩ ⟨16, s, a, b, c, t, on, text⟩) w1 x (st.restrict (hnd a) b on).1 → RStep B w1 w2 y rv ov (r.restrict (hnd a) b on).1 → ∃ p', PStep B w w2 ⟨x, y, st, r, rv, ov⟩ p') := by
    intro w1 w2 h1 h2
    obtain ⟨p', hp⟩ := pair_step h0 h1 h2 hsim.2 (restrict_given _ _ _ _)
    exact ⟨p', hp.before (laidW_below _ _ _)⟩
  have KEEP : Hid (∀ w1, CStep (laidW w ⟨x, y, st, r, rv, ov⟩ ⟨16, s, a, b, c, t, on, text⟩) w1 x (st.restrict (hnd a) b on).1 → w1.heap[w.heap.size]? = some (.cells (Pr.cells ⟨x, y, st, r, rv, ov⟩) 45 (0, 0)) ∧ w1.heap[w.heap.size + 1]? = some (.cells (SOp.cells ⟨16, s, a, b, c, t, on, text⟩) 33 (0, 0))) := fun w1 hc => laid_keep h hc
  clear h h0 hg hgs hgr hsim
  generalize (st.restrict (hnd a) b on).2.1 = H1 at *
  generalize (st.restrict (hnd a) b on).2.2 = E1 at *
  generalize (st.restrict (hnd a) b on).1 = st' at *
  generalize (r.restrict (hnd a) b on).1 = r' at *
  unfold Pr.val SOp.val Pr.cells SOp.cells
  go_enter Tryz.func14, Tryz.ntmps14
  go_wp2_with fail
  try simp only [hnd_eq]
  refine SC.out.mono ?_
  rintro e w1 ⟨rfl, hc1⟩
  have HC1 : Hid _ := hc1
  have k1 := (KEEP.out w1 hc1).1
  have k2 := (KEEP.out w1 hc1).2
  have p1 : w1.cell? ⟨w.heap.size, 1, none⟩ = some (.pointer (some ⟨y, 0, none⟩)) := cell_of_block k1 1
  have o2 : w1.cell? ⟨w.heap.size + 1, 2, none⟩ = some (.int .i64 a) := cell_of_block k2 2
  have o3 : w1.cell? ⟨w.heap.size + 1, 3, none⟩ = some (.int .i64 b) := cell_of_block k2 3
  have o4 : w1.cell? ⟨w.heap.size + 1, 4, none⟩ = some (.int .i64 c) := cell_of_block k2 4
  have o5 : w1.cell? ⟨w.heap.size + 1, 5, none⟩ = some (.int .u64 (t : Nat)) := cell_of_block k2 5
  have o6 : w1.cell? ⟨w.heap.size + 1, 6, none⟩ = some (.bool on) := cell_of_block k2 6
  clear hc1 k1 k2
  go_wp2_with fail
  try simp only [hnd_eq]
  refine (RC.out w1 HC1.out).mono ?_
  rintro e w2 ⟨rfl, hr2⟩
  have FP : Hid (∃ p', PStep B w w2 ⟨x, y, st, r, rv, ov⟩ p') := FIN.out w1 w2 HC1.out hr2
  clear hr2 o2 o3 o4 o5 o6 p1
  go_wp2_with fail
  refine (handles_calls H1 E1 _).mono ?_
  rintro e w3 ⟨rfl, rfl⟩
  go_wp2_with fail
  go_ret
  exact ⟨rfl, FP.out⟩

set_option maxRecDepth 100000 in
set_option maxHeartbeats 1000000 in
theorem fixes_compose (B : Nat) (p : Pr) (o : SOp) (w : World) (hk : o.kind = 17) (h : PairOk B w p) (hg : p.r.given + 1 < 4294967295) :
    Calls Tryz.prog 14 #[p.val, o.val] w fun e w' => e = .returned (.bool true) ∧ ∃ p', PStep B w w' p p' := by
  obtain ⟨kind, s, a, b, c, t, on, text⟩ := o
  obtain rfl : kind = 17 := hk
  obtain ⟨x, y, st, r, rv, ov⟩ := p
  have h0 := h.below (laidW_below w ⟨x, y, st, r, rv, ov⟩ ⟨17, s, a, b, c, t, on, text⟩)
  have hgs : st.given + 1 < 4294967295 := by rw [← h.sim.given]; exact hg
  have hgr : r.given + 1 < 4294967296 := by have h9 : r.given + 1 < 4294967295 := hg; omega
  have hsim := h.sim.compose hgs (hnd a) b (hnd c)
  have SC : Hid (Calls Tryz.prog 50 #[.pointer (some ⟨x, 0, none⟩), .int .u32 (hnd a : Nat), .int .i64 b, .int .u32 (hnd c : Nat)] (laidW w ⟨x, y, st, r, rv, ov⟩ ⟨17, s, a, b, c, t, on, text⟩) fun e w' => e = .returned (.tuple #[.int .u32 ((st.compose (hnd a) b (hnd c)).2.1 : Nat), .int .i64 ((st.compose (hnd a) b (hnd c)).2.2 : Nat)]) ∧ CStep (laidW w ⟨x, y, st, r, rv, ov⟩ ⟨17, s, a, b, c, t, on, text⟩) w' x (st.compose (hnd a) b (hnd c)).1) := compose_calls x (hnd a) (hnd c) b st _ h0.has hgs
  have RC : Hid (∀ w1, CStep (laidW w ⟨x, y, st, r, rv, ov⟩ ⟨17, s, a, b, c, t, on, text⟩) w1 x (st.compose (hnd a) b (hnd c)).1 → Calls Tryz.prog 51 #[.pointer (some ⟨y, 0, none⟩), .int .u32 (hnd a : Nat), .int .i64 b, .int .u32 (hnd c : Nat)] w1 fun e w' => e = .returned (.tuple #[.int .u32 ((st.compose (hnd a) b (hnd c)).2.1 : Nat), .int .i64 ((st.compose (hnd a) b (hnd c)).2.2 : Nat)]) ∧ RStep B w1 w' y rv ov (r.compose (hnd a) b (hnd c)).1) := by
    intro w1 hc
    have := rcompose_calls B y (hnd a) (hnd c) b r rv ov w1 (ref_beside h0 hc) hgr
    rw [← hsim.1] at this
    exact this
  have FIN : Hid (∀ w1 w2, CStep (laidW w ⟨x, y, st, r, rv, ov⟩ ⟨17, s, a, b, c, t, on, text⟩) w1 x (st.compose (hnd a) b (hnd c)).1 → RStep B w1 w2 y rv ov (r.compose (hnd a) b (hnd c)).1 → ∃ p', PStep B w w2 ⟨x, y, st, r, rv, ov⟩ p') := by
    intro w1 w2 h1 h2
    obtain ⟨p', hp⟩ := pair_step h0 h1 h2 hsim.2 (compose_given _ _ _ _)
    exact ⟨p', hp.before (laidW_below _ _ _)⟩
  have KEEP : Hid (∀ w1, CStep (laidW w ⟨x, y, st, r, rv, ov⟩ ⟨17, s, a, b, c, t, on, text⟩) w1 x (st.compose (hnd a) b (hnd c)).1 → w1.heap[w.heap.size]? = some (.cells (Pr.cells ⟨x, y, st, r, rv, ov⟩) 45 (0, 0)) ∧ w1.heap[w.heap.size + 1]? = some (.cells (SOp.cells ⟨17, s, a, b, c, t, on, text⟩) 33 (0, 0))) := fun w1 hc => laid_keep h hc
  clear h h0 hg hgs hgr hsim
  generalize (st.compose (hnd a) b (hnd c)).2.1 = H1 at *
  generalize (st.compose (hnd a) b (hnd c)).2.2 = E1 at *
  generalize (st.compose (hnd a) b (hnd c)).1 = st' at *
  generalize (r.compose (hnd a) b (hnd c)).1 = r' at *
  unfold Pr.val SOp.val Pr.cells SOp.cells
  go_enter Tryz.func14, Tryz.ntmps14
  go_wp2_with fail
  try simp only [hnd_eq]
  refine SC.out.mono ?_
  rintro e w1 ⟨rfl, hc1⟩
  have HC1 : Hid _ := hc1
  have k1 := (KEEP.out w1 hc1).1
  have k2 := (KEEP.out w1 hc1).2
  have p1 : w1.cell? ⟨w.heap.size, 1, none⟩ = some (.pointer (some ⟨y, 0, none⟩)) := cell_of_block k1 1
  have o2 : w1.cell? ⟨w.heap.size + 1, 2, none⟩ = some (.int .i64 a) := cell_of_block k2 2
  have o3 : w1.cell? ⟨w.heap.size + 1, 3, none⟩ = some (.int .i64 b) := cell_of_block k2 3
  have o4 : w1.cell? ⟨w.heap.size + 1, 4, none⟩ = some (.int .i64 c) := cell_of_block k2 4
  have o5 : w1.cell? ⟨w.heap.size + 1, 5, none⟩ = some (.int .u64 (t : Nat)) := cell_of_block k2 5
  have o6 : w1.cell? ⟨w.heap.size + 1, 6, none⟩ = some (.bool on) := cell_of_block k2 6
  clear hc1 k1 k2
  go_wp2_with fail
  try simp only [hnd_eq]
  refine (RC.out w1 HC1.out).mono ?_
  rintro e w2 ⟨rfl, hr2⟩
  have FP : Hid (∃ p', PStep B w w2 ⟨x, y, st, r, rv, ov⟩ p') := FIN.out w1 w2 HC1.out hr2
  clear hr2 o2 o3 o4 o5 o6 p1
  go_wp2_with fail
  refine (handles_calls H1 E1 _).mono ?_
  rintro e w3 ⟨rfl, rfl⟩
  go_wp2_with fail
  go_ret
  exact ⟨rfl, FP.out⟩

set_option maxRecDepth 100000 in
set_option maxHeartbeats 1000000 in
theorem fixes_quantify (B : Nat) (p : Pr) (o : SOp) (w : World) (hk : o.kind = 18) (h : PairOk B w p) (hg : p.r.given + 1 < 4294967295) :
    Calls Tryz.prog 14 #[p.val, o.val] w fun e w' => e = .returned (.bool true) ∧ ∃ p', PStep B w w' p p' := by
  obtain ⟨kind, s, a, b, c, t, on, text⟩ := o
  obtain rfl : kind = 18 := hk
  obtain ⟨x, y, st, r, rv, ov⟩ := p
  have h0 := h.below (laidW_below w ⟨x, y, st, r, rv, ov⟩ ⟨18, s, a, b, c, t, on, text⟩)
  have hgs : st.given + 1 < 4294967295 := by rw [← h.sim.given]; exact hg
  have hgr : r.given + 1 < 4294967296 := by have h9 : r.given + 1 < 4294967295 := hg; omega
  have hsim := h.sim.quantify hgs (hnd a) (oct b) on
  have SC : Hid (Calls Tryz.prog 52 #[.pointer (some ⟨x, 0, none⟩), .int .u32 (hnd a : Nat), .int .u8 (oct b : Nat), .bool on] (laidW w ⟨x, y, st, r, rv, ov⟩ ⟨18, s, a, b, c, t, on, text⟩) fun e w' => e = .returned (.tuple #[.int .u32 ((st.quantify (hnd a) (oct b) on).2.1 : Nat), .int .i64 ((st.quantify (hnd a) (oct b) on).2.2 : Nat)]) ∧ CStep (laidW w ⟨x, y, st, r, rv, ov⟩ ⟨18, s, a, b, c, t, on, text⟩) w' x (st.quantify (hnd a) (oct b) on).1) := quantify_calls x (hnd a) (oct b) on st _ h0.has hgs (oct_lt b)
  have RC : Hid (∀ w1, CStep (laidW w ⟨x, y, st, r, rv, ov⟩ ⟨18, s, a, b, c, t, on, text⟩) w1 x (st.quantify (hnd a) (oct b) on).1 → Calls Tryz.prog 53 #[.pointer (some ⟨y, 0, none⟩), .int .u32 (hnd a : Nat), .int .u8 (oct b : Nat), .bool on] w1 fun e w' => e = .returned (.tuple #[.int .u32 ((st.quantify (hnd a) (oct b) on).2.1 : Nat), .int .i64 ((st.quantify (hnd a) (oct b) on).2.2 : Nat)]) ∧ RStep B w1 w' y rv ov (r.quantify (hnd a) (oct b) on).1) := by
    intro w1 hc
    have := rquantify_calls B y (hnd a) (oct b) on r rv ov w1 (ref_beside h0 hc) hgr (oct_lt b)
    rw [← hsim.1] at this
    exact this
  have FIN : Hid (∀ w1 w2, CStep (laidW w ⟨x, y, st, r, rv, ov⟩ ⟨18, s, a, b, c, t, on, text⟩) w1 x (st.quantify (hnd a) (oct b) on).1 → RStep B w1 w2 y rv ov (r.quantify (hnd a) (oct b) on).1 → ∃ p', PStep B w w2 ⟨x, y, st, r, rv, ov⟩ p') := by
    intro w1 w2 h1 h2
    obtain ⟨p', hp⟩ := pair_step h0 h1 h2 hsim.2 (quantify_given _ _ _ _)
    exact ⟨p', hp.before (laidW_below _ _ _)⟩
  have KEEP : Hid (∀ w1, CStep (laidW w ⟨x, y, st, r, rv, ov⟩ ⟨18, s, a, b, c, t, on, text⟩) w1 x (st.quantify (hnd a) (oct b) on).1 → w1.heap[w.heap.size]? = some (.cells (Pr.cells ⟨x, y, st, r, rv, ov⟩) 45 (0, 0)) ∧ w1.heap[w.heap.size + 1]? = some (.cells (SOp.cells ⟨18, s, a, b, c, t, on, text⟩) 33 (0, 0))) := fun w1 hc => laid_keep h hc
  clear h h0 hg hgs hgr hsim
  generalize (st.quantify (hnd a) (oct b) on).2.1 = H1 at *
  generalize (st.quantify (hnd a) (oct b) on).2.2 = E1 at *
  generalize (st.quantify (hnd a) (oct b) on).1 = st' at *
  generalize (r.quantify (hnd a) (oct b) on).1 = r' at *
  unfold Pr.val SOp.val Pr.cells SOp.cells
  go_enter Tryz.func14, Tryz.ntmps14
  go_wp2_with fail
  try simp only [hnd_eq, oct_eq]
  refine SC.out.mono ?_
  rintro e w1 ⟨rfl, hc1⟩
  have HC1 : Hid _ := hc1
  have k1 := (KEEP.out w1 hc1).1
  have k2 := (KEEP.out w1 hc1).2
  have p1 : w1.cell? ⟨w.heap.size, 1, none⟩ = some (.pointer (some ⟨y, 0, none⟩)) := cell_of_block k1 1
  have o2 : w1.cell? ⟨w.heap.size + 1, 2, none⟩ = some (.int .i64 a) := cell_of_block k2 2
  have o3 : w1.cell? ⟨w.heap.size + 1, 3, none⟩ = some (.int .i64 b) := cell_of_block k2 3
  have o4 : w1.cell? ⟨w.heap.size + 1, 4, none⟩ = some (.int .i64 c) := cell_of_block k2 4
  have o5 : w1.cell? ⟨w.heap.size + 1, 5, none⟩ = some (.int .u64 (t : Nat)) := cell_of_block k2 5
  have o6 : w1.cell? ⟨w.heap.size + 1, 6, none⟩ = some (.bool on) := cell_of_block k2 6
  clear hc1 k1 k2
  go_wp2_with fail
  try simp only [oct_eq]
  refine (RC.out w1 HC1.out).mono ?_
  rintro e w2 ⟨rfl, hr2⟩
  have FP : Hid (∃ p', PStep B w w2 ⟨x, y, st, r, rv, ov⟩ p') := FIN.out w1 w2 HC1.out hr2
  clear hr2 o2 o3 o4 o5 o6 p1
  go_wp2_with fail
  refine (handles_calls H1 E1 _).mono ?_
  rintro e w3 ⟨rfl, rfl⟩
  go_wp2_with fail
  go_ret
  exact ⟨rfl, FP.out⟩
end Go.Proofs.YthoodkbdpnffdabGreatDoor
