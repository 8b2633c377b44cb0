/-
  Own work: what a script that came in gives the walks, its texts with it.
-/
import Derived.Test.YthoodkbdpnffdabGreatDoorOpsA
import Derived.Test.YthoodkbdpnffdabGreatDoorLawV
import Derived.Test.YthoodkbdpnffdabGreatDoorRefZ
import Derived.Lib.ItoaNum
import Derived.Lib.ItoaWalk
import Derived.Lib.Strings
import Derived.Lib.Hide
import Derived.Test.YthoodkbdpnffdabGreatDoorInv
namespace Go.Proofs.YthoodkbdpnffdabGreatDoor
open Go.ChangeShapes Go.WideShapes Go.ChangeAt Go.WideMaps Go.WideElems Go.RowKit
open Cho (U64)

set_option maxRecDepth 100000 in
/-- The eight cells of a step. -/
theorem op_text {H : Type} {enc : TypeId × Value → H} {W : World} {n : Nat} {cs : List Value} {x : DataW H × List MemPlace} (h : DataW.trod enc Tryz.prog W 0 (fun _ => true) true n 33 cs = some x) :
    ∃ o : SOp, cs = o.cells.toList ∧ (-9223372036854775808 ≤ o.s ∧ o.s ≤ 9223372036854775807) ∧ OkText o := by
  obtain ⟨xs, k, _, _, hlen, hxl, hf⟩ := DataW.trod_struct Tryz.underlying33 h
  rw [cellsOp] at hlen
  match cs, hlen with
  | [c0, c1, c2, c3, c4, c5, c6, c7], _ =>
    have hx : xs.length = 8 := hxl
    have get : ∀ i (hi : i < 8), ∃ y, xs[i]? = some y := fun i hi => ⟨xs[i]'(by omega), List.getElem?_eq_getElem (by omega)⟩
    obtain ⟨y0, e0⟩ := get 0 (by decide)
    obtain ⟨y1, e1⟩ := get 1 (by decide)
    obtain ⟨y2, e2⟩ := get 2 (by decide)
    obtain ⟨y3, e3⟩ := get 3 (by decide)
    obtain ⟨y4, e4⟩ := get 4 (by decide)
    obtain ⟨y5, e5⟩ := get 5 (by decide)
    obtain ⟨y6, e6⟩ := get 6 (by decide)
    obtain ⟨y7, e7⟩ := get 7 (by decide)
    have g0 : DataW.trod enc Tryz.prog W 0 (fun _ => true) true k 3 [c0] = xs[0]? := by
      have h9 : DataW.trod enc Tryz.prog W 0 (fun _ => true) true k 3 (([c0, c1, c2, c3, c4, c5, c6, c7].drop 0).take (Tryz.prog.cellsOf 3)) = xs[0]? := hf 0 _ rfl
      rw [cellsI] at h9
      exact h9
    have g1 : DataW.trod enc Tryz.prog W 0 (fun _ => true) true k 3 [c1] = xs[1]? := by
      have h9 : DataW.trod enc Tryz.prog W 0 (fun _ => true) true k 3 (([c0, c1, c2, c3, c4, c5, c6, c7].drop 1).take (Tryz.prog.cellsOf 3)) = xs[1]? := hf 1 _ rfl
      rw [cellsI] at h9
      exact h9
    have g2 : DataW.trod enc Tryz.prog W 0 (fun _ => true) true k 3 [c2] = xs[2]? := by
      have h9 : DataW.trod enc Tryz.prog W 0 (fun _ => true) true k 3 (([c0, c1, c2, c3, c4, c5, c6, c7].drop 2).take (Tryz.prog.cellsOf 3)) = xs[2]? := hf 2 _ rfl
      rw [cellsI] at h9
      exact h9
    have g3 : DataW.trod enc Tryz.prog W 0 (fun _ => true) true k 3 [c3] = xs[3]? := by
      have h9 : DataW.trod enc Tryz.prog W 0 (fun _ => true) true k 3 (([c0, c1, c2, c3, c4, c5, c6, c7].drop 3).take (Tryz.prog.cellsOf 3)) = xs[3]? := hf 3 _ rfl
      rw [cellsI] at h9
      exact h9
    have g4 : DataW.trod enc Tryz.prog W 0 (fun _ => true) true k 3 [c4] = xs[4]? := by
      have h9 : DataW.trod enc Tryz.prog W 0 (fun _ => true) true k 3 (([c0, c1, c2, c3, c4, c5, c6, c7].drop 4).take (Tryz.prog.cellsOf 3)) = xs[4]? := hf 4 _ rfl
      rw [cellsI] at h9
      exact h9
    have g5 : DataW.trod enc Tryz.prog W 0 (fun _ => true) true k 31 [c5] = xs[5]? := by
      have h9 : DataW.trod enc Tryz.prog W 0 (fun _ => true) true k 31 (([c0, c1, c2, c3, c4, c5, c6, c7].drop 5).take (Tryz.prog.cellsOf 31)) = xs[5]? := hf 5 _ rfl
      rw [cellsU] at h9
      exact h9
    have g6 : DataW.trod enc Tryz.prog W 0 (fun _ => true) true k 4 [c6] = xs[6]? := by
      have h9 : DataW.trod enc Tryz.prog W 0 (fun _ => true) true k 4 (([c0, c1, c2, c3, c4, c5, c6, c7].drop 6).take (Tryz.prog.cellsOf 4)) = xs[6]? := hf 6 _ rfl
      rw [cellsB] at h9
      exact h9
    have g7 : DataW.trod enc Tryz.prog W 0 (fun _ => true) true k 9 [c7] = xs[7]? := by
      have h9 : DataW.trod enc Tryz.prog W 0 (fun _ => true) true k 9 (([c0, c1, c2, c3, c4, c5, c6, c7].drop 7).take (Tryz.prog.cellsOf 9)) = xs[7]? := hf 7 _ rfl
      rw [cellsS] at h9
      exact h9
    rw [e0] at g0
    rw [e1] at g1
    rw [e2] at g2
    rw [e3] at g3
    rw [e4] at g4
    rw [e5] at g5
    rw [e6] at g6
    rw [e7] at g7
    obtain ⟨a0, h0, _, w0⟩ := DataW.trod_int Tryz.underlying3 g0
    obtain ⟨a1, h1, _, w1⟩ := DataW.trod_int Tryz.underlying3 g1
    obtain ⟨a2, h2, _, w2⟩ := DataW.trod_int Tryz.underlying3 g2
    obtain ⟨a3, h3, _, w3⟩ := DataW.trod_int Tryz.underlying3 g3
    obtain ⟨a4, h4, _, w4⟩ := DataW.trod_int Tryz.underlying3 g4
    obtain ⟨a5, h5, _, w5⟩ := DataW.trod_int Tryz.underlying31 g5
    obtain ⟨a6, h6, _⟩ := DataW.trod_bool Tryz.underlying4 g6
    obtain ⟨s7, h7, _, z7⟩ := DataW.trod_string Tryz.underlying9 g7
    obtain ⟨t, e, ut⟩ := u64_bd w5
    have b1 := i64_bd w1
    simp only [List.cons.injEq, and_true] at h0 h1 h2 h3 h4 h5 h6 h7
    subst h0 h1 h2 h3 h4 h5 h6 h7 e
    refine ⟨⟨a0, a1, a2, a3, a4, t, a6, .string s7⟩, rfl, b1, s7.data.toList, ?_, ?_⟩
    · show Value.string s7 = .string ⟨s7.data.toList.toArray⟩
      rfl
    · unfold maxLen at z7
      exact Nat.le_trans (Nat.le_of_eq (Array.length_toList)) (by have h9 : s7.data.size ≤ 9223372036854775807 := z7; exact h9)

set_option maxRecDepth 100000 in
theorem slice_texts {H : Type} {enc : TypeId × Value → H} {W : World} {a1 : Option Addr} {len1 cap1 : Nat} {d : DataW H} {ps : List MemPlace}
    (h : DataW.Trod enc Tryz.prog W 0 (fun _ => true) true 22 (.slice a1 len1 cap1) d ps) :
    ∃ l : List SOp, l.length = len1 ∧ SlOps W a1 l ∧ (∀ o ∈ l, (-9223372036854775808 ≤ o.s ∧ o.s ≤ 9223372036854775807) ∧ OkText o) ∧ len1 ≤ Rows.uptoBulk d := by
  obtain ⟨fuel, hf⟩ := h
  rcases Deep.open_slice Tryz.underlying22 hf with ⟨hcs, _⟩ | ⟨a, len, cap, m, n, D, Pl, hcs, _, hle, _, hm, hx, hel⟩
  · simp [Value.cells] at hcs
    obtain ⟨rfl, rfl, rfl⟩ := hcs
    exact ⟨[], rfl, fun i hi => absurd hi (by simp), by simp, Nat.zero_le _⟩
  · simp [Value.cells] at hcs
    obtain ⟨rfl, rfl, rfl⟩ := hcs
    have hm' : m = cap1 := by simpa using hm
    subst hm'
    rw [cellsOp] at hel
    have each : ∀ i, i < len1 → ∃ o : SOp, W.cells? 0 (a.add (i * 8)) 8 = some o.cells.toList ∧ (-9223372036854775808 ≤ o.s ∧ o.s ≤ 9223372036854775807) ∧ OkText o := by
      intro i hi
      obtain ⟨cs, h1, h2⟩ := hel i (by omega)
      obtain ⟨o, rfl, h3, h4⟩ := op_text h2
      exact ⟨o, h1, h3, h4⟩
    haveI : Inhabited SOp := ⟨⟨0, 0, 0, 0, 0, 0, false, .bool false⟩⟩
    obtain ⟨f, hfn⟩ := Deep.choose_lt each
    refine ⟨(List.range len1).map f, by simp, ?_, ?_, ?_⟩
    · intro i hi
      have hi' : i < len1 := by simpa using hi
      obtain ⟨_, _, hcell⟩ := World.cells?_some (hfn i hi').1
      obtain ⟨b, off, spot⟩ := a
      have h0 := hcell 0 (by decide)
      obtain ⟨_, _, hcell0⟩ := World.cells?_some (hfn 0 (by omega)).1
      have h00 := hcell0 0 (by decide)
      have hspot : spot = none := by
        have h1 : W.cell? (⟨b, off, spot⟩ : Addr) = (f 0).cells[0]? := by
          rw [Deep.add_add] at h00
          simpa [Addr.add] using h00
        exact World.cell?_spot (h1.trans (show (f 0).cells[0]? = some (Value.int .i64 (f 0).kind) from rfl))
      subst hspot
      have hlt : b < W.heap.size := by
        have := World.block_lt_of_cell? W _ (show W.cell? (((⟨b, off, none⟩ : Addr).add (i * 8)).add 0) = some (Value.int .i64 (f i).kind) from h0)
        simpa [Addr.add_mid] using this
      refine ⟨b, off, rfl, hlt, fun j v hv => ?_⟩
      have e : ((List.range len1).map f)[i] = f i := by simp
      rw [e] at hv
      have hj : j < 8 := by
        obtain ⟨hj, _⟩ := Array.getElem?_eq_some_iff.1 hv
        exact hj
      have := hcell j hj
      rw [Deep.add_add, Addr.add_mid] at this
      rw [Nat.add_assoc, this]
      simpa using hv
    · intro o ho
      obtain ⟨i, hi, rfl⟩ := List.mem_map.1 ho
      exact (hfn i (List.mem_range.1 hi)).2
    · simp only [Prod.mk.injEq] at hx
      rw [hx.1]
      have lenle : ∀ l : List (DataW H), l.length ≤ Rows.uptoBulkAll l := by
        intro l
        induction l with
        | nil => simp [Rows.uptoBulkAll]
        | cons x r ih =>
          have h1 : 1 ≤ Rows.uptoBulk x := by
            cases x with
            | lit l => cases l <;> simp [Rows.uptoBulk]
            | nil => simp [Rows.uptoBulk]
            | ptr d => simp [Rows.uptoBulk]
            | slice elems spare => simp [Rows.uptoBulk]
            | agg parts => simp [Rows.uptoBulk]
            | iface t d => simp [Rows.uptoBulk]
            | map entries => simp [Rows.uptoBulk]
            | held h => simp [Rows.uptoBulk]
          simp only [Rows.uptoBulkAll, List.length_cons]; omega
      have := lenle ((List.range len1).map D)
      simp only [List.length_map, List.length_range] at this
      simp only [Rows.uptoBulk]
      omega
end Go.Proofs.YthoodkbdpnffdabGreatDoor

/-
  Own work: 'All' answers true, whatever the script, where the program's Export and Import do what they have to (a walk; it wants a seat in which All is stated).
-/
namespace Go.Proofs.YthoodkbdpnffdabGreatDoor
open Go.RowKit
open Cho (U64 Tab full col Nd Red)

set_option maxHeartbeats 400000 in
theorem all_walk (XE : ExpOk) (XI : ImpOk) (cap : Nat) (ao : Option Addr) (l : List SOp) (w : World) (hc : Cols w) (hl : SlOps w ao l) (hll : l.length ≤ 2000000) (hs : ∀ o ∈ l, (-9223372036854775808 ≤ o.s ∧ o.s ≤ 9223372036854775807) ∧ OkText o) :
    Calls Tryz.prog 3 #[.slice ao l.length cap] w fun e w' => e = .returned (.bool true) ∧ Below w.heap.size w w' := by
  have PC : Hid (Calls Tryz.prog 4 #[.slice ao l.length cap, .int .i64 ((24 : Nat) : Int)] w fun e w' => e = .returned (.bool true) ∧ Below w.heap.size w w') := played_texts XE XI 24 cap ao l w hc hl (by omega) hll hs
  clear hc hl hs
  go_enter Tryz.func3, Tryz.ntmps3
  go_wp2_with fail
  refine PC.out.mono ?_
  rintro e w1 ⟨rfl, h1⟩
  have H1 : Hid _ := h1
  clear h1
  go_wp2_with fail
  go_ret
  exact ⟨rfl, H1.out⟩
end Go.Proofs.YthoodkbdpnffdabGreatDoor

/-
  Own work: small numbers as texts: strconv.Itoa below 100 (walks); how a link is written.
-/
namespace Go.Proofs.YthoodkbdpnffdabGreatDoor
open Go.RowKit
open Cho (U64 Tab full col decL dgt Nd Red lnk tb itm rend Txt Says textOf nodesOf)

theorem dec_same (n : Nat) : Lib.decDigits n = decL n := by
  induction n using Nat.strongRecOn with
  | ind n ih =>
    rw [Lib.decDigits, decL]
    by_cases h : n < 10
    · rw [dif_pos h, dif_pos h]; rfl
    · rw [dif_neg h, dif_neg h, ih (n / 10) (by omega)]; rfl
theorem ba_eq (x : ByteArray) (l : List UInt8) (h : x.data.toList = l) : x = ⟨l.toArray⟩ := by
  subst h
  cases x
  simp

set_option maxHeartbeats 2000000 in
set_option maxRecDepth 100000 in
theorem small_calls (i : Nat) (h : i < 100) (w : World) :
    Calls Tryz.prog 139 #[.int .i64 i] w fun e w' => e = .returned (txt (decL i)) ∧ w' = w := by
  go_enter Tryz.func139, Tryz.ntmps139
  go_name_bytes_deep 45 SM hSM
  have eSM : SM = Lib.smalls := by rw [← hSM]; decide +kernel
  subst eSM
  clear hSM
  go_name_bytes_deep 30 DG hDG
  have eDG : DG = Lib.digits36 := by rw [← hDG]; decide +kernel
  subst eDG
  clear hDG
  by_cases h10 : i < 10
  · have hsl : ∀ w, (Instr.slice 9 (.string Lib.digits36) (some (.int .i64 (i : Int))) (some (.int .i64 ((i : Int) + 1))) none).run Tryz.prog w = .ok (.string (Lib.digits36.extract i (i + 1))) w := fun w => by
      rw [run_slice_string w 9 Lib.digits36 .i64 .i64 _ _ Tryz.underlying9 (by omega) (by omega) (by rw [Lib.digits36_size]; omega), show ((i : Int)).toNat = i by omega, show ((i : Int) + 1).toNat = i + 1 by omega]
    go_wp2
    go_ret
    refine ⟨?_, rfl⟩
    show Ending.returned (Value.string (Lib.digits36.extract i (i + 1))) = _
    rw [ba_eq (Lib.digits36.extract i (i + 1)) (Lib.decDigits i) (by rw [Lib.extract_data]; exact Lib.digits36_piece h10), dec_same]
    rfl
  · have hsl : ∀ w, (Instr.slice 9 (.string Lib.smalls) (some (.int .i64 ((i : Int) * 2))) (some (.int .i64 ((i : Int) * 2 + 2))) none).run Tryz.prog w = .ok (.string (Lib.smalls.extract (i * 2) (i * 2 + 2))) w := fun w => by
      rw [run_slice_string w 9 Lib.smalls .i64 .i64 _ _ Tryz.underlying9 (by omega) (by omega) (by rw [Lib.smalls_size]; omega), show ((i : Int) * 2).toNat = i * 2 by omega, show ((i : Int) * 2 + 2).toNat = i * 2 + 2 by omega]
    go_wp2
    go_ret
    refine ⟨?_, rfl⟩
    show Ending.returned (Value.string (Lib.smalls.extract (i * 2) (i * 2 + 2))) = _
    rw [ba_eq (Lib.smalls.extract (i * 2) (i * 2 + 2)) (Lib.decDigits i) (by rw [Lib.extract_data]; exact Lib.smalls_piece h10 h), dec_same]
    rfl

set_option maxHeartbeats 400000 in
theorem format_calls (i : Nat) (h : i < 100) (w : World) :
    Calls Tryz.prog 138 #[.int .i64 i, .int .i64 10] w fun e w' => e = .returned (txt (decL i)) ∧ w' = w := by
  have KS : Hid (Calls Tryz.prog 139 #[.int .i64 i] w fun e w' => e = .returned (txt (decL i)) ∧ w' = w) := small_calls i h w
  unfold txt at *
  generalize decL i = L at *
  go_enter Tryz.func138, Tryz.ntmps138
  go_wp2_with fail
  refine KS.out.mono ?_
  rintro e w1 ⟨rfl, rfl⟩
  go_wp2_with fail
  go_ret
  exact ⟨rfl, rfl⟩
set_option maxHeartbeats 400000 in
theorem itoaI_calls (i : Nat) (h : i < 100) (w : World) :
    Calls Tryz.prog 135 #[.int .i64 i] w fun e w' => e = .returned (txt (decL i)) ∧ w' = w := by
  have KS : Hid (Calls Tryz.prog 138 #[.int .i64 i, .int .i64 10] w fun e w' => e = .returned (txt (decL i)) ∧ w' = w) := format_calls i h w
  unfold txt at *
  generalize decL i = L at *
  go_enter Tryz.func135, Tryz.ntmps135
  go_wp2_with fail
  refine KS.out.mono ?_
  rintro e w1 ⟨rfl, rfl⟩
  go_wp2_with fail
  go_ret
  exact ⟨rfl, rfl⟩
set_option maxHeartbeats 400000 in
theorem itoa_calls (i : Nat) (h : i < 100) (w : World) :
    Calls Tryz.prog 126 #[.int .i64 i] w fun e w' => e = .returned (txt (decL i)) ∧ w' = w := by
  have KS : Hid (Calls Tryz.prog 135 #[.int .i64 i] w fun e w' => e = .returned (txt (decL i)) ∧ w' = w) := itoaI_calls i h w
  unfold txt at *
  generalize decL i = L at *
  go_enter Tryz.func126, Tryz.ntmps126
  go_wp2_with fail
  refine KS.out.mono ?_
  rintro e w1 ⟨rfl, rfl⟩
  go_wp2_with fail
  go_ret
  exact ⟨rfl, rfl⟩
set_option maxHeartbeats 400000 in
theorem number_calls (l : Nat) (h : l < 100) (w : World) :
    Calls Tryz.prog 136 #[.int .i64 ((l + 2 : Nat) : Int)] w fun e w' => e = .returned (.int .i64 (l : Nat)) ∧ w' = w := by
  go_enter Tryz.func136, Tryz.ntmps136
  go_wp2
  go_ret
  exact ⟨ret_int (by omega), rfl⟩
set_option maxHeartbeats 400000 in
theorem linkText_calls (l : Nat) (h : l < 102) (w : World) :
    Calls Tryz.prog 127 #[.int .i64 l] w fun e w' => e = .returned (txt (lnk l)) ∧ w' = w := by
  by_cases h0 : l = 0
  · subst h0
    go_enter Tryz.func127, Tryz.ntmps127
    go_wp2
    go_ret
    exact ⟨rfl, rfl⟩
  · by_cases h1 : l = 1
    · subst h1
      go_enter Tryz.func127, Tryz.ntmps127
      go_wp2
      go_ret
      exact ⟨rfl, rfl⟩
    · obtain ⟨j, rfl⟩ : ∃ j, l = j + 2 := ⟨l - 2, by omega⟩
      have e : lnk (j + 2) = decL j := by simp [lnk]
      rw [e]
      have KN : Hid (Calls Tryz.prog 136 #[.int .i64 ((j + 2 : Nat) : Int)] w fun e w' => e = .returned (.int .i64 (j : Nat)) ∧ w' = w) := number_calls j (by omega) w
      have KI : Hid (Calls Tryz.prog 126 #[.int .i64 j] w fun e w' => e = .returned (txt (decL j)) ∧ w' = w) := itoa_calls j (by omega) w
      unfold txt at *
      generalize decL j = L at *
      have n0 : ((j + 2 : Nat) : Int) ≠ 0 := by omega
      have n1 : ((j + 2 : Nat) : Int) ≠ 1 := by omega
      generalize ((j + 2 : Nat) : Int) = J at *
      go_enter Tryz.func127, Tryz.ntmps127
      go_wp2_with fail
      refine KN.out.mono ?_
      rintro e w1 ⟨rfl, rfl⟩
      go_wp2_with fail
      refine KI.out.mono ?_
      rintro e w2 ⟨rfl, rfl⟩
      go_wp2_with fail
      go_ret
      exact ⟨rfl, rfl⟩
end Go.Proofs.YthoodkbdpnffdabGreatDoor

/-
  Own work: the program writes a text (walks).
-/
namespace Go.Proofs.YthoodkbdpnffdabGreatDoor
open Go.RowKit
open Cho (U64 Tab full col decL dgt Nd Red lnk tb itm rend Txt Says textOf nodesOf linkOf)

theorem own_less {w : World} {B B' : Nat} {e : TypeId} {sz : Nat} {v : Value} {n : Nat} {xs : List Value} (h : w.ownsRow B e sz v n xs) (hb : B' ≤ B) : w.ownsRow B' e sz v n xs := by
  obtain ⟨hlen, h | ⟨g, cap, cur, rfl, h1, h2⟩⟩ := h
  · exact ⟨hlen, .inl h⟩
  · exact ⟨hlen, .inr ⟨g, cap, cur, rfl, by omega, h2⟩⟩
theorem own_node (W : World) : (W.alloc (.cells #[] 153)).ownsRow W.heap.size 153 3 (.slice (some ⟨W.heap.size, 0, none⟩) 0 0) 0 [] :=
  World.ownsRow_made W #[] 0 (Nat.le_refl _) (by simp) rfl

set_option maxRecDepth 100000 in
set_option maxHeartbeats 400000 in
theorem list_calls (s B : Nat) (ns : List Nd) (nv : Value) (w : World) (h1 : w.cell? ⟨s, 1, none⟩ = some nv) (hr : w.ownsRow B 153 3 nv ns.length (flat ns)) (hn1 : 1 ≤ ns.length) (hn : ns.length ≤ 1000) :
    Calls Tryz.prog 125 #[.pointer (some ⟨s, 0, none⟩)] w fun e w' => ∃ v', e = .returned v' ∧ w'.ownsRow w.heap.size 153 3 v' ns.length (flat ns) ∧ Below w.heap.size w w' := by
  obtain ⟨i0, hi, hz0, hz1, hz2⟩ := info_parts Tryz.infoNode
  have hs := World.block_lt_of_cell? w _ h1
  simp only at hs
  obtain ⟨g, cap, rfl, _, _⟩ := owns_form hr (by omega)
  have h1' : (w.alloc (.cells #[] 153)).cell? ⟨s, 1, none⟩ = some (.slice (some ⟨g, 0, none⟩) ns.length cap) := with_al h1
  have HSRC : Hid (∀ j u, (flat ns)[j]? = some u → (w.alloc (.cells #[] 153)).cell? ((⟨g, 0, none⟩ : Addr).add j) = some u) := fun j u hu => (hr.alloc _).cells (g := g) rfl j u hu
  have F1 : Hid (0 + ns.length ≤ maxLen) := by show 0 + ns.length ≤ maxLen; unfold maxLen; omega
  have F2 : Hid ((0 + ns.length) * 24 ≤ 140737488355328) := by show (0 + ns.length) * 24 ≤ 140737488355328; omega
  have F4 : Hid ((flat ns).length = ns.length * 3) := flat_len ns
  clear hr
  go_enter Tryz.func125, Tryz.ntmps125
  go_wp2_with (at_builtin; go_must (refine wpList_append_own _ rfl _ _ 52 rfl w.heap.size 153 i0 _ 3 24 Tryz.underlying52 hi hz0 hz1 hz2 rfl (Nat.succ_pos 2) (.slice (some ⟨w.heap.size, 0, none⟩) 0 0) 0 [] ?e1 (own_node w) ⟨g, 0, none⟩ ns.length cap (flat ns) ?e2 F4.out HSRC.out (flat_one ns) F1.out F2.out (by simp) ?_); (case e1 => rfl); (case e2 => rfl); intro v' w1 hown hgrow _; have HO : Hid (w1.ownsRow w.heap.size 153 3 v' ns.length (flat ns) ∧ Below w.heap.size w w1) := ⟨by rw [Nat.zero_add, List.nil_append] at hown; exact hown, ((Below.refl _ w).alloc (Nat.le_refl _) _).grown hgrow (by simp) (fun k hk => by simp [Value.ownBlock] at hk; omega)⟩; clear hown hgrow)
  go_ret
  exact ⟨_, rfl, HO.out.1, HO.out.2⟩

theorem build_range (n t : Nat) : Cho.build (List.range n) t [] = (nodesOf n t, linkOf n t) := by
  have e : List.range n = List.range' 0 (n - 0) := by rw [List.range_eq_range', Nat.sub_zero]
  rw [e]; rfl
/-- 'With' over a new diagram. -/
theorem with_new (s go capo n t : Nat) (w : World) (hs0 : w.cell? ⟨s, 0, none⟩ = some (.slice (some ⟨go, 0, none⟩) n capo)) (hs1 : w.cell? ⟨s, 1, none⟩ = some (.slice none 0 0)) (hc : Cols w) (ho : OrdAt w go (List.range n)) (h1 : 1 ≤ n) (h6 : n ≤ 6) (ht : U64 t) :
    Calls Tryz.prog 112 #[.pointer (some ⟨s, 0, none⟩), .int .u64 t] w fun e w' => ∃ nv',
      e = .returned (.tuple #[.agg #[.slice (some ⟨go, 0, none⟩) n capo, nv'], .int .i64 (linkOf n t : Nat)]) ∧ w'.ownsRow w.heap.size 153 3 nv' (nodesOf n t).length (flat (nodesOf n t)) ∧ Below w.heap.size w w' := by
  have hgo : go < w.heap.size := World.block_lt_of_cell? w _ (ho 0 (by simp; omega))
  have hs := World.block_lt_of_cell? w _ hs0
  have := with_calls s 0 go capo 0 (List.range n) [] (.slice none 0 0) t w (by rw [List.length_range]; exact hs0) hs1 (World.ownsRow_nil _ _ _ _) hc ho hs hgo (cols_pos hc) (fun v hv => by have := List.mem_range.1 hv; omega) (by simpa using h6) ht (by simp)
  rw [build_range, List.length_range] at this
  exact this
theorem link_zero {n : Nat} (h1 : 1 ≤ n) (h6 : n ≤ 6) : linkOf n 0 = 0 := by
  unfold linkOf; rw [Cho.sup_zero h1 h6 (Nat.zero_le _) (Red.nil _)]
theorem link_full {n : Nat} (h1 : 1 ≤ n) (h6 : n ≤ 6) : linkOf n (full n) = 1 := by
  unfold linkOf; rw [Cho.sup_full h1 h6 (Nat.zero_le _) (Red.nil _)]
theorem nodes_lt {n t k : Nat} (h6 : n ≤ 6) (ht : Tab n t) (hk : k < (nodesOf n t).length) : (nodesOf n t)[k].1 < 10 ∧ (nodesOf n t)[k].2.1 < 102 ∧ (nodesOf n t)[k].2.2 < 102 := by
  have hx := Cho.red_txt (Cho.nodes_blt h6 ht).red
  have hl := Cho.nodes_63 (n := n) (t := t) h6
  have h1 := hx.var k hk
  have h2 := (hx.no k hk).1
  have h3 := (hx.yes k hk).1
  exact ⟨by change (nodesOf n t)[k].1 < n at h1; omega, by change (nodesOf n t)[k].2.1 < k + 2 at h2; omega, by change (nodesOf n t)[k].2.2 < k + 2 at h3; omega⟩
theorem full_ne {n : Nat} : full n ≠ 0 := by
  unfold full
  have : 2 ≤ 2 ^ 2 ^ n := by
    have h := Nat.pow_le_pow_right (n := 2) (by decide) (Nat.two_pow_pos n)
    simpa using h
  omega

set_option maxRecDepth 100000 in
set_option maxHeartbeats 4000000 in
theorem write_calls (n t : Nat) (w : World) (h1 : 1 ≤ n) (h6 : n ≤ 6) (ht : Tab n t) (hc : Cols w) :
    Calls Tryz.prog 110 #[.int .u64 (t : Nat), .int .i64 (n : Nat)] w fun e w' => e = .returned (txt (textOf n t)) ∧ Below w.heap.size w w' := by
  have HC : Hid (Cols w) := hc
  have hU := ht.u64 h6
  have HT : Hid (Tab n t) := ht
  clear hc ht
  go_enter Tryz.func110, Tryz.ntmps110
  go_wp2_with fail
  refine (dnew_calls n _ h6).mono ?_
  rintro e w1 ⟨ov, rfl, hrow, hbel⟩
  obtain ⟨go, capo, rfl, hgB, cur, hcur⟩ := owns_form hrow (by omega)
  have hs1 := hbel.size
  have hgo := lt_of_block hcur
  have HW : Hid (Calls Tryz.prog 112 #[.pointer (some ⟨w1.heap.size, 0, none⟩), .int .u64 t] (w1.alloc (.cells #[.slice (some ⟨go, 0, none⟩) n capo, .slice none 0 0] 54)) fun e w' => ∃ nv',
      e = .returned (.tuple #[.agg #[.slice (some ⟨go, 0, none⟩) n capo, nv'], .int .i64 (linkOf n t : Nat)]) ∧ w'.ownsRow w.heap.size 153 3 nv' (nodesOf n t).length (flat (nodesOf n t)) ∧ Below w.heap.size w w') := by
    have hcol : Cols (w1.alloc (.cells #[.slice (some ⟨go, 0, none⟩) n capo, .slice none 0 0] 54)) := HC.out.below (hbel.alloc (by omega) _) (cols_pos HC.out)
    have hord : OrdAt (w1.alloc (.cells #[.slice (some ⟨go, 0, none⟩) n capo, .slice none 0 0] 54)) go (List.range n) := by
      intro i hi
      have hin : i < n := by simpa using hi
      rw [cell_alloc_old hgo]
      have := hrow.cells (g := go) rfl i (.int .i64 i) (by simp [lv, hin])
      rw [Addr.add_mid, Nat.zero_add] at this
      rw [this]; simp
    refine (with_new w1.heap.size go capo n t _ (cell_of_block (heap_res _ _) 0) (cell_of_block (heap_res _ _) 1) hcol hord h1 h6 hU).mono ?_
    rintro e w2 ⟨nv', rfl, hr, hb⟩
    exact ⟨nv', rfl, own_less hr (by simp; omega), (hbel.alloc (by omega) _).trans (hb.mono (by simp; omega))⟩
  clear hrow hcur hbel
  go_wp2_with fail
  refine HW.out.mono ?_
  rintro e w2 ⟨nv2, rfl, hr2, b2⟩
  obtain ⟨ao2, cap2, rfl⟩ := owns_slice hr2
  have HR2 : Hid (w2.ownsRow w.heap.size 153 3 (.slice ao2 (nodesOf n t).length cap2) (nodesOf n t).length (flat (nodesOf n t))) := hr2
  have B2 : Hid _ := b2
  have hs2 := b2.size
  clear hr2 b2 HW
  by_cases t0 : t = 0
  · have hl : linkOf n t = 0 := by rw [t0]; exact link_zero h1 h6
    have HX : Hid (textOf n t = [48]) := by show textOf n t = [48]; unfold textOf; rw [if_pos t0]
    rw [hl]
    go_wp2_with fail
    go_ret
    rw [HX.out]
    exact ⟨rfl, B2.out.alloc (by omega) _⟩
  · by_cases tf : t = full n
    · have hl : linkOf n t = 1 := by rw [tf]; exact link_full h1 h6
      have HX : Hid (textOf n t = [49]) := by show textOf n t = [49]; unfold textOf; rw [if_neg t0, if_pos tf]
      rw [hl]
      go_wp2_with fail
      go_ret
      rw [HX.out]
      exact ⟨rfl, B2.out.alloc (by omega) _⟩
    · obtain ⟨hne, hl⟩ := Cho.link_last h6 HT.out t0 tf
      have HX : Hid (textOf n t = rend (nodesOf n t)) := by show textOf n t = _; unfold textOf; rw [if_neg t0, if_neg tf]
      have hn1 : 1 ≤ (nodesOf n t).length := List.length_pos_iff.2 hne
      have hn63 : (nodesOf n t).length ≤ 63 := Cho.nodes_63 h6
      have HND : Hid (∀ k (hk : k < (nodesOf n t).length), (nodesOf n t)[k].1 < 10 ∧ (nodesOf n t)[k].2.1 < 102 ∧ (nodesOf n t)[k].2.2 < 102) := fun k hk => nodes_lt h6 HT.out hk
      have HSH : Hid (∀ k, k ≤ (nodesOf n t).length → (rend ((nodesOf n t).take k)).length ≤ 441) := by
        intro k hk
        have h3 := Cho.text_short h6 HT.out
        rw [HX.out] at h3
        have h4 : rend (nodesOf n t) = rend ((nodesOf n t).take k) ++ rend ((nodesOf n t).drop k) := by rw [← Cho.rend_app, List.take_append_drop]
        rw [h4, List.length_append] at h3
        omega
      rw [hl]
      clear hl hne t0 tf
      generalize nodesOf n t = ns at *
      have c1 : ((ns.length + 1 : Nat) : Int) ≠ 0 := by omega
      have c2 : ((ns.length + 1 : Nat) : Int) ≠ 1 := by omega
      generalize ((ns.length + 1 : Nat) : Int) = LK at *
      have KL : Hid (Calls Tryz.prog 125 #[.pointer (some ⟨w2.heap.size, 0, none⟩)] (w2.alloc (.cells #[.slice (some ⟨go, 0, none⟩) n capo, .slice ao2 ns.length cap2] 54)) fun e w' => ∃ v', e = .returned v' ∧ w'.ownsRow w.heap.size 153 3 v' ns.length (flat ns) ∧ Below w.heap.size w w') := by
        refine (list_calls w2.heap.size w.heap.size ns _ _ (cell_of_block (heap_res _ _) 1) (HR2.out.alloc _) hn1 (by omega)).mono ?_
        rintro e w3 ⟨v', rfl, hr, hb⟩
        exact ⟨v', rfl, own_less hr (by simp; omega), (B2.out.alloc (by omega) _).trans (hb.mono (by simp; omega))⟩
      go_wp2_with fail
      refine KL.out.mono ?_
      rintro e w3 ⟨v3, rfl, hr3, b3⟩
      obtain ⟨g3, cap3, rfl, _, _⟩ := owns_form hr3 (by omega)
      have HR3 : Hid (w3.ownsRow w.heap.size 153 3 (.slice (some ⟨g3, 0, none⟩) ns.length cap3) ns.length (flat ns)) := hr3
      have B3 : Hid _ := b3
      clear hr3 b3 KL HR2 B2
      go_wp2_with fail
      go_loopw [8, 28] (fun x8 x28 wr => ∃ k : Nat, k ≤ ns.length ∧ x8 = .string ⟨(rend (ns.take k)).toArray⟩ ∧ x28 = .int .i64 (k : Nat) ∧ Hid (Below w.heap.size w wr) ∧ Hid (wr.ownsRow w.heap.size 153 3 (.slice (some ⟨g3, 0, none⟩) ns.length cap3) ns.length (flat ns))) (fun _ x28 _ => ns.length - (intOf x28).toNat)
      case atStart => exact ⟨0, Nat.zero_le _, rfl, rfl, B3, HR3⟩
      case round =>
        obtain ⟨k, hk, rfl, rfl, BW, RW⟩ := hrel
        by_cases hkl : k < ns.length
        · obtain ⟨ao', cap', e', hblk, hcells⟩ := row_cell RW.out
          simp only [Value.slice.injEq] at e'
          obtain ⟨rfl, _, rfl⟩ := e'
          obtain ⟨g, eg, hgw, hcap, e0, e1, e2⟩ := hcells k hkl
          obtain rfl : g3 = g := by simpa using eg
          obtain ⟨l0, l1, l2⟩ := HND.out k hkl
          have HE : Hid (rend (ns.take (k + 1)) = rend (ns.take k) ++ ((((decL ns[k].1 ++ lnk ns[k].2.1) ++ [44]) ++ lnk ns[k].2.2) ++ [59])) := by
            show rend (ns.take (k + 1)) = _
            rw [List.take_succ_eq_append_getElem hkl, Cho.rend_snoc, Cho.decL_small l0]
            simp [itm]
          have hT := HSH.out k hk
          have hsw := BW.out.size
          clear hcells hblk eg
          generalize ns[k] = q at *
          obtain ⟨q0, q1, q2⟩ := q
          simp only at e0 e1 e2 l0 l1 l2 HE
          have KI : Hid (∀ W, Calls Tryz.prog 126 #[.int .i64 (q0 : Nat)] W fun e w' => e = .returned (.string ⟨(decL q0).toArray⟩) ∧ w' = W) := fun W => itoa_calls q0 (by omega) W
          have K1 : Hid (∀ W, Calls Tryz.prog 127 #[.int .i64 (q1 : Nat)] W fun e w' => e = .returned (.string ⟨(lnk q1).toArray⟩) ∧ w' = W) := fun W => linkText_calls q1 l1 W
          have K2 : Hid (∀ W, Calls Tryz.prog 127 #[.int .i64 (q2 : Nat)] W fun e w' => e = .returned (.string ⟨(lnk q2).toArray⟩) ∧ w' = W) := fun W => linkText_calls q2 l2 W
          have s0 : (decL q0).length ≤ 2 := Cho.decL_two (by omega)
          have s1 := Cho.lnk_len l1
          have s2 := Cho.lnk_len l2
          generalize hTT : rend (ns.take k) = T at *
          generalize decL q0 = D at *
          generalize lnk q1 = L1 at *
          generalize lnk q2 = L2 at *
          clear hTT l0 l1 l2
          have z0 := txt_size T
          have z1 := txt_size D
          have z2 := txt_size L1
          have z3 := txt_size L2
          have a1 := txt_app D L1
          have a2 := txt_app (D ++ L1) [44]
          have a3 := txt_app ((D ++ L1) ++ [44]) L2
          have a4 := txt_app (((D ++ L1) ++ [44]) ++ L2) [59]
          have a5 := txt_app T ((((D ++ L1) ++ [44]) ++ L2) ++ [59])
          go_wp2_with fail
          refine (KI.out _).mono ?_
          rintro e w4 ⟨rfl, rfl⟩
          go_wp2_with fail
          refine (K1.out _).mono ?_
          rintro e w4 ⟨rfl, rfl⟩
          go_wp2_with fail
          refine (K2.out _).mono ?_
          rintro e w4 ⟨rfl, rfl⟩
          go_wp2_with fail
          refine ⟨⟨k + 1, hkl, ?_, by go_num, BW.out.alloc (by omega) _, RW.out.alloc _⟩, by simp [intOf]; omega⟩
          rw [HE.out]
          show Value.string (ByteArray.mk T.toArray ++ (ByteArray.mk (D ++ (L1 ++ [44])).toArray ++ ByteArray.mk L2.toArray ++ ByteArray.mk [59].toArray)) = _
          rw [txt_app, txt_app, txt_app]
          simp only [List.append_assoc]
        · obtain rfl : k = ns.length := by omega
          have HE : Hid (rend (ns.take ns.length) = rend ns) := by show rend (ns.take ns.length) = rend ns; rw [List.take_length]
          go_wp2_with fail
          go_ret
          rw [HX.out, HE.out]
          exact ⟨rfl, BW.out⟩
end Go.Proofs.YthoodkbdpnffdabGreatDoor
