/-
  Own work: what each function of package tables computes, as the plain mathematics has it (walks).
-/
import Derived.Test.YthoodkbdpnffdabDoorProg
import Derived.Test.YthoodkbdpnffdabDoorPlain
import Derived.WalkKit
import Derived.WalkSpells
import Derived.WalkLawsBesides
import Derived.Laws.BitsAllLaws
import Derived.Deep.QuietTactic
import Derived.BigQuiet
namespace Go.Proofs.YthoodkbdpnffdabDoor
open Go.RowKit
open Cho (U64 Tab full col)

theorem ret_int {k : IntKind} {a b : Int} (h : a = b) : Ending.returned (.int k a) = .returned (.int k b) := by rw [h]
theorem val_int {k : IntKind} {a b : Int} (h : a = b) : Value.int k a = .int k b := by rw [h]

theorem or64 {a b : Nat} (ha : U64 a) (hb : U64 b) : bits .or .u64 (a : Int) (b : Int) = ((a ||| b : Nat) : Int) := u64_or_nat a b ha.lt hb.lt
theorem and64 {a b : Nat} (ha : U64 a) (hb : U64 b) : bits .and .u64 (a : Int) (b : Int) = ((a &&& b : Nat) : Int) := u64_and_nat a b ha.lt hb.lt
theorem andNot64 {a b : Nat} (ha : U64 a) (hb : U64 b) : bits .andNot .u64 (a : Int) (b : Int) = ((a &&& (2 ^ 64 - 1 - b) : Nat) : Int) := u64_andNot_nat a b ha.lt hb.lt
theorem wrap_pow (k : Nat) (h : k < 64) : (IntKind.u64.wrap (2 ^ k)).toNat = 2 ^ k := by
  have h1 : (2 : Nat) ^ k < 2 ^ 64 := Nat.pow_lt_pow_right (by decide) h
  rw [IntKind.wrap_u64, show ((2 : Int) ^ k) = ((2 ^ k : Nat) : Int) from by simp]
  rw [show (18446744073709551616 : Int) = ((18446744073709551616 : Nat) : Int) from rfl, ← Int.natCast_emod, Nat.mod_eq_of_lt h1, Int.toNat_natCast]
theorem shl64 (a c : Nat) (hc : c ≤ 64) : IntKind.u64.wrap ((a : Int) * 2 ^ min c 64) = (((a <<< c) % 2 ^ 64 : Nat) : Int) := by
  rw [Nat.min_eq_left hc, IntKind.wrap_u64, Nat.shiftLeft_eq]
  rw [show ((2 : Int) ^ c) = ((2 ^ c : Nat) : Int) from by simp, ← Int.natCast_mul]
  omega

set_option maxHeartbeats 400000 in
theorem full_calls (n : Nat) (w : World) (h6 : n ≤ 6) :
    Calls Tryd.prog 24 #[.int .i64 n] w fun e w' => e = .returned (.int .u64 (full n : Nat)) ∧ w' = w := by
  go_enter Tryd.func24, Tryd.ntmps24
  go_wp2
  go_loop [3, 4] (fun f i => ∃ k : Nat, k ≤ n ∧ i = .int .i64 k ∧ f = .int .u64 (full k : Nat)) (fun _ i => n - (intOf i).toNat)
  case atStart => exact ⟨0, Nat.zero_le _, rfl, rfl⟩
  case round =>
    obtain ⟨k, hk, rfl, rfl⟩ := hrel
    by_cases hlt : k < n
    · go_wp2
      refine ⟨⟨k + 1, hlt, by go_num, val_int ?_⟩, by simp [intOf]; omega⟩
      have hk6 : 2 ^ k ≤ 64 := Cho.two_pow_le k (by omega)
      have e := Cho.full_succ k (by omega)
      rw [wrap_pow k (by omega), shl64 _ _ hk6, or64 (Cho.full_u64 k (by omega)) (Cho.mod_u64 _), e]
    · go_wp2
      go_ret
      exact ⟨ret_int (by rw [show k = n from by omega]), rfl⟩

/-- The table of the variables' columns lies in the program's first variable. -/
def Cols (w : World) : Prop := ∀ i, i < 6 → w.cell? ⟨0, i, none⟩ = some (.int .u64 (col i : Nat))

theorem shr64 (a c : Nat) (hc : c ≤ 64) : (a : Int) / 2 ^ min c 64 = ((a >>> c : Nat) : Int) := by
  rw [Nat.min_eq_left hc, Nat.shiftRight_eq_div_pow]; simp
theorem one_u64 : U64 1 := by show (1 : Nat) < 2 ^ 64; decide
theorem half (r : Nat) : (r : Int) / (2 : Int) = ((r >>> 1 : Nat) : Int) := by rw [Nat.shiftRight_eq_div_pow]; omega
theorem and1 (r : Nat) (h : U64 r) : bits .and .u64 (r : Int) 1 = ((if r.testBit 0 then 1 else 0 : Nat) : Int) := by
  rw [← Cho.testBit0_and]; exact and64 h one_u64
theorem and1_yes (r : Nat) (h : U64 r) (hb : r.testBit 0 = true) : bits .and .u64 (r : Int) 1 = 1 := by rw [and1 r h, hb]; rfl
theorem and1_no (r : Nat) (h : U64 r) (hb : r.testBit 0 = false) : bits .and .u64 (r : Int) 1 = 0 := by rw [and1 r h, hb]; rfl

set_option maxHeartbeats 400000 in
theorem fix_calls (t i : Nat) (b : Bool) (w : World) (hc : Cols w) (ht : U64 t) (h6 : i < 6) :
    Calls Tryd.prog 41 #[.int .u64 t, .int .i64 i, .bool b] w fun e w' => e = .returned (.int .u64 (Cho.fix t i b : Nat)) ∧ w' = w := by
  have hci := hc i h6
  clear hc
  have h2 : 2 ^ i ≤ 64 := Cho.two_pow_le i (by omega)
  have E1 : Hid ((IntKind.u64.wrap (2 ^ i)).toNat = 2 ^ i) := wrap_pow i (by omega)
  have E2 : Hid (bits .andNot .u64 (t : Int) (col i : Nat) = ((t &&& (2 ^ 64 - 1 - col i) : Nat) : Int)) := andNot64 ht (Cho.col_u64 i)
  have E3 : Hid (bits .and .u64 (t : Int) (col i : Nat) = ((t &&& col i : Nat) : Int)) := and64 ht (Cho.col_u64 i)
  cases b
  · go_enter Tryd.func41, Tryd.ntmps41
    go_wp2
    go_ret
    exact ⟨ret_int (by rw [E1.out, E2.out, shl64 _ _ h2, or64 (Cho.and_u64 ht) (Cho.mod_u64 _)]; rfl), rfl⟩
  · go_enter Tryd.func41, Tryd.ntmps41
    go_wp2
    go_ret
    exact ⟨ret_int (by rw [E1.out, E3.out, shr64 _ _ h2, or64 (Cho.and_u64 ht) (Cho.shr_u64 (Cho.and_u64 ht))]; rfl), rfl⟩

theorem not_u64 (x : Nat) : U64 (2 ^ 64 - 1 - x) := by show 2 ^ 64 - 1 - x < 2 ^ 64; omega
theorem zero_u64 : U64 0 := by show (0 : Nat) < 2 ^ 64; decide
theorem or0 {b : Nat} (hb : U64 b) : bits .or .u64 0 (b : Int) = ((0 ||| b : Nat) : Int) := or64 (a := 0) zero_u64 hb

set_option maxHeartbeats 400000 in
theorem variable_calls (i n : Nat) (w : World) (hc : Cols w) (hi : i < 6) (h6 : n ≤ 6) :
    Calls Tryd.prog 18 #[.int .i64 i, .int .i64 n] w fun e w' => e = .returned (.int .u64 (col i &&& full n : Nat)) ∧ ∃ q, w' = w.drewN q := by
  have hci := hc i hi
  clear hc
  have E : Hid (bits .and .u64 (col i : Nat) (full n : Nat) = ((col i &&& full n : Nat) : Int)) := and64 (Cho.col_u64 i) (Cho.full_u64 n h6)
  go_enter Tryd.func18, Tryd.ntmps18
  go_wp2_with fail
  go_quiet ((go_at_call 24; exact Calls.quiet_of_same (full_calls _ _ h6)))
  go_wp2
  go_ret
  exact ⟨ret_int E.out, _, rfl⟩
end Go.Proofs.YthoodkbdpnffdabDoor
