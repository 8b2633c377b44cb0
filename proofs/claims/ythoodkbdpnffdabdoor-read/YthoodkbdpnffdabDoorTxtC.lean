/-
  Own work: small numbers as texts: strconv.Itoa below 100 (walks); how a link is written.
-/
import Derived.Test.YthoodkbdpnffdabDoorTxtA
import Derived.Lib.ItoaNum
import Derived.Lib.ItoaWalk
import Derived.Lib.Strings
import Derived.Lib.Hide
namespace Go.Proofs.YthoodkbdpnffdabDoor
open Go.RowKit
open Cho (U64 Tab full col decL dgt Nd Red lnk tb itm rend Txt Says textOf nodesOf)

theorem dec_same (n : Nat) : Lib.decDigits n = decL n := by
  induction n using Nat.strongRecOn with
  | ind n ih =>
    rw [Lib.decDigits, decL]
    by_cases h : n < 10
    · rw [dif_pos h, dif_pos h]; rfl
    · rw [dif_neg h, dif_neg h, ih (n / 10) (by omega)]; rfl
theorem ba_eq (x : ByteArray) (l : List UInt8) (h : x.data.toList = l) : x = ⟨l.toArray⟩ := by
  subst h
  cases x
  simp

set_option maxHeartbeats 2000000 in
set_option maxRecDepth 100000 in
theorem small_calls (i : Nat) (h : i < 100) (w : World) :
    Calls Tryd.prog 45 #[.int .i64 i] w fun e w' => e = .returned (txt (decL i)) ∧ w' = w := by
  go_enter Tryd.func45, Tryd.ntmps45
  go_name_bytes_deep 45 SM hSM
  have eSM : SM = Lib.smalls := by rw [← hSM]; decide +kernel
  subst eSM
  clear hSM
  go_name_bytes_deep 30 DG hDG
  have eDG : DG = Lib.digits36 := by rw [← hDG]; decide +kernel
  subst eDG
  clear hDG
  by_cases h10 : i < 10
  · have hsl : ∀ w, (Instr.slice 9 (.string Lib.digits36) (some (.int .i64 (i : Int))) (some (.int .i64 ((i : Int) + 1))) none).run Tryd.prog w = .ok (.string (Lib.digits36.extract i (i + 1))) w := fun w => by
      rw [run_slice_string w 9 Lib.digits36 .i64 .i64 _ _ Tryd.underlying9 (by omega) (by omega) (by rw [Lib.digits36_size]; omega), show ((i : Int)).toNat = i by omega, show ((i : Int) + 1).toNat = i + 1 by omega]
    go_wp2
    go_ret
    refine ⟨?_, rfl⟩
    show Ending.returned (Value.string (Lib.digits36.extract i (i + 1))) = _
    rw [ba_eq (Lib.digits36.extract i (i + 1)) (Lib.decDigits i) (by rw [Lib.extract_data]; exact Lib.digits36_piece h10), dec_same]
    rfl
  · have hsl : ∀ w, (Instr.slice 9 (.string Lib.smalls) (some (.int .i64 ((i : Int) * 2))) (some (.int .i64 ((i : Int) * 2 + 2))) none).run Tryd.prog w = .ok (.string (Lib.smalls.extract (i * 2) (i * 2 + 2))) w := fun w => by
      rw [run_slice_string w 9 Lib.smalls .i64 .i64 _ _ Tryd.underlying9 (by omega) (by omega) (by rw [Lib.smalls_size]; omega), show ((i : Int) * 2).toNat = i * 2 by omega, show ((i : Int) * 2 + 2).toNat = i * 2 + 2 by omega]
    go_wp2
    go_ret
    refine ⟨?_, rfl⟩
    show Ending.returned (Value.string (Lib.smalls.extract (i * 2) (i * 2 + 2))) = _
    rw [ba_eq (Lib.smalls.extract (i * 2) (i * 2 + 2)) (Lib.decDigits i) (by rw [Lib.extract_data]; exact Lib.smalls_piece h10 h), dec_same]
    rfl

set_option maxHeartbeats 400000 in
theorem format_calls (i : Nat) (h : i < 100) (w : World) :
    Calls Tryd.prog 44 #[.int .i64 i, .int .i64 10] w fun e w' => e = .returned (txt (decL i)) ∧ w' = w := by
  have KS : Hid (Calls Tryd.prog 45 #[.int .i64 i] w fun e w' => e = .returned (txt (decL i)) ∧ w' = w) := small_calls i h w
  unfold txt at *
  generalize decL i = L at *
  go_enter Tryd.func44, Tryd.ntmps44
  go_wp2_with fail
  refine KS.out.mono ?_
  rintro e w1 ⟨rfl, rfl⟩
  go_wp2_with fail
  go_ret
  exact ⟨rfl, rfl⟩
set_option maxHeartbeats 400000 in
theorem itoaI_calls (i : Nat) (h : i < 100) (w : World) :
    Calls Tryd.prog 38 #[.int .i64 i] w fun e w' => e = .returned (txt (decL i)) ∧ w' = w := by
  have KS : Hid (Calls Tryd.prog 44 #[.int .i64 i, .int .i64 10] w fun e w' => e = .returned (txt (decL i)) ∧ w' = w) := format_calls i h w
  unfold txt at *
  generalize decL i = L at *
  go_enter Tryd.func38, Tryd.ntmps38
  go_wp2_with fail
  refine KS.out.mono ?_
  rintro e w1 ⟨rfl, rfl⟩
  go_wp2_with fail
  go_ret
  exact ⟨rfl, rfl⟩
set_option maxHeartbeats 400000 in
theorem itoa_calls (i : Nat) (h : i < 100) (w : World) :
    Calls Tryd.prog 30 #[.int .i64 i] w fun e w' => e = .returned (txt (decL i)) ∧ w' = w := by
  have KS : Hid (Calls Tryd.prog 38 #[.int .i64 i] w fun e w' => e = .returned (txt (decL i)) ∧ w' = w) := itoaI_calls i h w
  unfold txt at *
  generalize decL i = L at *
  go_enter Tryd.func30, Tryd.ntmps30
  go_wp2_with fail
  refine KS.out.mono ?_
  rintro e w1 ⟨rfl, rfl⟩
  go_wp2_with fail
  go_ret
  exact ⟨rfl, rfl⟩
set_option maxHeartbeats 400000 in
theorem number_calls (l : Nat) (h : l < 100) (w : World) :
    Calls Tryd.prog 39 #[.int .i64 ((l + 2 : Nat) : Int)] w fun e w' => e = .returned (.int .i64 (l : Nat)) ∧ w' = w := by
  go_enter Tryd.func39, Tryd.ntmps39
  go_wp2
  go_ret
  exact ⟨ret_int (by omega), rfl⟩
set_option maxHeartbeats 400000 in
theorem linkText_calls (l : Nat) (h : l < 102) (w : World) :
    Calls Tryd.prog 31 #[.int .i64 l] w fun e w' => e = .returned (txt (lnk l)) ∧ w' = w := by
  by_cases h0 : l = 0
  · subst h0
    go_enter Tryd.func31, Tryd.ntmps31
    go_wp2
    go_ret
    exact ⟨rfl, rfl⟩
  · by_cases h1 : l = 1
    · subst h1
      go_enter Tryd.func31, Tryd.ntmps31
      go_wp2
      go_ret
      exact ⟨rfl, rfl⟩
    · obtain ⟨j, rfl⟩ : ∃ j, l = j + 2 := ⟨l - 2, by omega⟩
      have e : lnk (j + 2) = decL j := by simp [lnk]
      rw [e]
      have KN : Hid (Calls Tryd.prog 39 #[.int .i64 ((j + 2 : Nat) : Int)] w fun e w' => e = .returned (.int .i64 (j : Nat)) ∧ w' = w) := number_calls j (by omega) w
      have KI : Hid (Calls Tryd.prog 30 #[.int .i64 j] w fun e w' => e = .returned (txt (decL j)) ∧ w' = w) := itoa_calls j (by omega) w
      unfold txt at *
      generalize decL j = L at *
      have n0 : ((j + 2 : Nat) : Int) ≠ 0 := by omega
      have n1 : ((j + 2 : Nat) : Int) ≠ 1 := by omega
      generalize ((j + 2 : Nat) : Int) = J at *
      go_enter Tryd.func31, Tryd.ntmps31
      go_wp2_with fail
      refine KN.out.mono ?_
      rintro e w1 ⟨rfl, rfl⟩
      go_wp2_with fail
      refine KI.out.mono ?_
      rintro e w2 ⟨rfl, rfl⟩
      go_wp2_with fail
      go_ret
      exact ⟨rfl, rfl⟩
end Go.Proofs.YthoodkbdpnffdabDoor
