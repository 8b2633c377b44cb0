/-
  Own work: what a script that came in gives the walks.
-/
import Derived.Test.YthejboamnjcdfaaGreatDoorLaid
import Derived.Test.YthejboamnjcdfaaGreatDoorLawG
import Derived.ChangeOld
import Derived.Deep.Slices
namespace Go.Proofs.YthejboamnjcdfaaGreatDoor
open Go.ChangeShapes Go.WideShapes Go.ChangeAt Go.WideMaps Go.WideElems Go.RowKit
open Cho (U64)

theorem laidOutAll : laidOutB Tryz.prog = true := by kernel_rfl
theorem cellsOp : Tryz.prog.cellsOf 33 = 8 := by kernel_rfl
theorem cellsI : Tryz.prog.cellsOf 3 = 1 := by kernel_rfl
theorem cellsU : Tryz.prog.cellsOf 31 = 1 := by kernel_rfl
theorem cellsB : Tryz.prog.cellsOf 4 = 1 := by kernel_rfl
theorem cellsS : Tryz.prog.cellsOf 9 = 1 := by kernel_rfl

set_option maxRecDepth 100000 in
/-- The eight cells of a step. -/
theorem op_cells {H : Type} {enc : TypeId × Value → H} {W : World} {n : Nat} {cs : List Value} {x : DataW H × List MemPlace} (h : DataW.trod enc Tryz.prog W 0 (fun _ => true) true n 33 cs = some x) :
    ∃ o : SOp, cs = o.cells.toList ∧ -9223372036854775808 ≤ o.s ∧ o.s ≤ 9223372036854775807 := by
  obtain ⟨xs, k, _, _, hlen, hxl, hf⟩ := DataW.trod_struct Tryz.underlying33 h
  rw [cellsOp] at hlen
  match cs, hlen with
  | [c0, c1, c2, c3, c4, c5, c6, c7], _ =>
    have hx : xs.length = 8 := hxl
    have get : ∀ i (hi : i < 8), ∃ y, xs[i]? = some y := fun i hi => ⟨xs[i]'(by omega), List.getElem?_eq_getElem (by omega)⟩
    obtain ⟨y0, e0⟩ := get 0 (by decide)
    obtain ⟨y1, e1⟩ := get 1 (by decide)
    obtain ⟨y2, e2⟩ := get 2 (by decide)
    obtain ⟨y3, e3⟩ := get 3 (by decide)
    obtain ⟨y4, e4⟩ := get 4 (by decide)
    obtain ⟨y5, e5⟩ := get 5 (by decide)
    obtain ⟨y6, e6⟩ := get 6 (by decide)
    have g0 : DataW.trod enc Tryz.prog W 0 (fun _ => true) true k 3 [c0] = xs[0]? := by
      have h9 : DataW.trod enc Tryz.prog W 0 (fun _ => true) true k 3 (([c0, c1, c2, c3, c4, c5, c6, c7].drop 0).take (Tryz.prog.cellsOf 3)) = xs[0]? := hf 0 _ rfl
      rw [cellsI] at h9
      exact h9
    have g1 : DataW.trod enc Tryz.prog W 0 (fun _ => true) true k 3 [c1] = xs[1]? := by
      have h9 : DataW.trod enc Tryz.prog W 0 (fun _ => true) true k 3 (([c0, c1, c2, c3, c4, c5, c6, c7].drop 1).take (Tryz.prog.cellsOf 3)) = xs[1]? := hf 1 _ rfl
      rw [cellsI] at h9
      exact h9
    have g2 : DataW.trod enc Tryz.prog W 0 (fun _ => true) true k 3 [c2] = xs[2]? := by
      have h9 : DataW.trod enc Tryz.prog W 0 (fun _ => true) true k 3 (([c0, c1, c2, c3, c4, c5, c6, c7].drop 2).take (Tryz.prog.cellsOf 3)) = xs[2]? := hf 2 _ rfl
      rw [cellsI] at h9
      exact h9
    have g3 : DataW.trod enc Tryz.prog W 0 (fun _ => true) true k 3 [c3] = xs[3]? := by
      have h9 : DataW.trod enc Tryz.prog W 0 (fun _ => true) true k 3 (([c0, c1, c2, c3, c4, c5, c6, c7].drop 3).take (Tryz.prog.cellsOf 3)) = xs[3]? := hf 3 _ rfl
      rw [cellsI] at h9
      exact h9
    have g4 : DataW.trod enc Tryz.prog W 0 (fun _ => true) true k 3 [c4] = xs[4]? := by
      have h9 : DataW.trod enc Tryz.prog W 0 (fun _ => true) true k 3 (([c0, c1, c2, c3, c4, c5, c6, c7].drop 4).take (Tryz.prog.cellsOf 3)) = xs[4]? := hf 4 _ rfl
      rw [cellsI] at h9
      exact h9
    have g5 : DataW.trod enc Tryz.prog W 0 (fun _ => true) true k 31 [c5] = xs[5]? := by
      have h9 : DataW.trod enc Tryz.prog W 0 (fun _ => true) true k 31 (([c0, c1, c2, c3, c4, c5, c6, c7].drop 5).take (Tryz.prog.cellsOf 31)) = xs[5]? := hf 5 _ rfl
      rw [cellsU] at h9
      exact h9
    have g6 : DataW.trod enc Tryz.prog W 0 (fun _ => true) true k 4 [c6] = xs[6]? := by
      have h9 : DataW.trod enc Tryz.prog W 0 (fun _ => true) true k 4 (([c0, c1, c2, c3, c4, c5, c6, c7].drop 6).take (Tryz.prog.cellsOf 4)) = xs[6]? := hf 6 _ rfl
      rw [cellsB] at h9
      exact h9
    rw [e0] at g0
    rw [e1] at g1
    rw [e2] at g2
    rw [e3] at g3
    rw [e4] at g4
    rw [e5] at g5
    rw [e6] at g6
    obtain ⟨a0, h0, _, w0⟩ := DataW.trod_int Tryz.underlying3 g0
    obtain ⟨a1, h1, _, w1⟩ := DataW.trod_int Tryz.underlying3 g1
    obtain ⟨a2, h2, _, w2⟩ := DataW.trod_int Tryz.underlying3 g2
    obtain ⟨a3, h3, _, w3⟩ := DataW.trod_int Tryz.underlying3 g3
    obtain ⟨a4, h4, _, w4⟩ := DataW.trod_int Tryz.underlying3 g4
    obtain ⟨a5, h5, _, w5⟩ := DataW.trod_int Tryz.underlying31 g5
    obtain ⟨a6, h6, _⟩ := DataW.trod_bool Tryz.underlying4 g6
    obtain ⟨t, e, ut⟩ := u64_bd w5
    have b1 := i64_bd w1
    simp only [List.cons.injEq, and_true] at h0 h1 h2 h3 h4 h5 h6
    refine ⟨⟨a0, a1, a2, a3, a4, t, a6, c7⟩, ?_, b1.1, b1.2⟩
    subst h0 h1 h2 h3 h4 h5 h6 e
    rfl

theorem slice_ops {H : Type} {enc : TypeId × Value → H} {W : World} {a1 : Option Addr} {len1 cap1 : Nat} {d : DataW H} {ps : List MemPlace}
    (h : DataW.Trod enc Tryz.prog W 0 (fun _ => true) true 22 (.slice a1 len1 cap1) d ps) :
    ∃ l : List SOp, l.length = len1 ∧ SlOps W a1 l ∧ (∀ o ∈ l, -9223372036854775808 ≤ o.s ∧ o.s ≤ 9223372036854775807) ∧ len1 ≤ Rows.uptoBulk d := by
  obtain ⟨fuel, hf⟩ := h
  rcases Deep.open_slice Tryz.underlying22 hf with ⟨hcs, _⟩ | ⟨a, len, cap, m, n, D, Pl, hcs, _, hle, _, hm, hx, hel⟩
  · simp [Value.cells] at hcs
    obtain ⟨rfl, rfl, rfl⟩ := hcs
    exact ⟨[], rfl, fun i hi => absurd hi (by simp), by simp, Nat.zero_le _⟩
  · simp [Value.cells] at hcs
    obtain ⟨rfl, rfl, rfl⟩ := hcs
    have hm' : m = cap1 := by simpa using hm
    subst hm'
    rw [cellsOp] at hel
    have each : ∀ i, i < len1 → ∃ o : SOp, W.cells? 0 (a.add (i * 8)) 8 = some o.cells.toList ∧ -9223372036854775808 ≤ o.s ∧ o.s ≤ 9223372036854775807 := by
      intro i hi
      obtain ⟨cs, h1, h2⟩ := hel i (by omega)
      obtain ⟨o, rfl, h3, h4⟩ := op_cells h2
      exact ⟨o, h1, h3, h4⟩
    haveI : Inhabited SOp := ⟨⟨0, 0, 0, 0, 0, 0, false, .bool false⟩⟩
    obtain ⟨f, hfn⟩ := Deep.choose_lt each
    refine ⟨(List.range len1).map f, by simp, ?_, ?_, ?_⟩
    · intro i hi
      have hi' : i < len1 := by simpa using hi
      obtain ⟨_, _, hcell⟩ := World.cells?_some (hfn i hi').1
      obtain ⟨b, off, spot⟩ := a
      have h0 := hcell 0 (by decide)
      obtain ⟨_, _, hcell0⟩ := World.cells?_some (hfn 0 (by omega)).1
      have h00 := hcell0 0 (by decide)
      have hspot : spot = none := by
        have h1 : W.cell? (⟨b, off, spot⟩ : Addr) = (f 0).cells[0]? := by
          rw [Deep.add_add] at h00
          simpa [Addr.add] using h00
        exact World.cell?_spot (h1.trans (show (f 0).cells[0]? = some (Value.int .i64 (f 0).kind) from rfl))
      subst hspot
      have hlt : b < W.heap.size := by
        have := World.block_lt_of_cell? W _ (show W.cell? (((⟨b, off, none⟩ : Addr).add (i * 8)).add 0) = some (Value.int .i64 (f i).kind) from h0)
        simpa [Addr.add_mid] using this
      refine ⟨b, off, rfl, hlt, fun j v hv => ?_⟩
      have e : ((List.range len1).map f)[i] = f i := by simp
      rw [e] at hv
      have hj : j < 8 := by
        obtain ⟨hj, _⟩ := Array.getElem?_eq_some_iff.1 hv
        exact hj
      have := hcell j hj
      rw [Deep.add_add, Addr.add_mid] at this
      rw [Nat.add_assoc, this]
      simpa using hv
    · intro o ho
      obtain ⟨i, hi, rfl⟩ := List.mem_map.1 ho
      exact (hfn i (List.mem_range.1 hi)).2
    · simp only [Prod.mk.injEq] at hx
      rw [hx.1]
      have lenle : ∀ l : List (DataW H), l.length ≤ Rows.uptoBulkAll l := by
        intro l
        induction l with
        | nil => simp [Rows.uptoBulkAll]
        | cons x r ih =>
          have h1 : 1 ≤ Rows.uptoBulk x := by
            cases x with
            | lit l => cases l <;> simp [Rows.uptoBulk]
            | nil => simp [Rows.uptoBulk]
            | ptr d => simp [Rows.uptoBulk]
            | slice elems spare => simp [Rows.uptoBulk]
            | agg parts => simp [Rows.uptoBulk]
            | iface t d => simp [Rows.uptoBulk]
            | map entries => simp [Rows.uptoBulk]
            | held h => simp [Rows.uptoBulk]
          simp only [Rows.uptoBulkAll, List.length_cons]; omega
      have := lenle ((List.range len1).map D)
      simp only [List.length_map, List.length_range] at this
      simp only [Rows.uptoBulk]
      omega
end Go.Proofs.YthejboamnjcdfaaGreatDoor
