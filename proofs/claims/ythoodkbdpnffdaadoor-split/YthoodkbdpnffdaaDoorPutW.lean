/-
  Own work: what Choose, Put, All and Some of package tables compute (walks).
-/
import Derived.Test.YthoodkbdpnffdaaDoorTabW
import Derived.Test.YthoodkbdpnffdaaDoorPlainL
namespace Go.Proofs.YthoodkbdpnffdaaDoor
open Go.RowKit
open Cho (U64 Tab full col)

set_option maxHeartbeats 400000 in
theorem choose_calls (a b c : Nat) (w : World) (ha : U64 a) (hb : U64 b) (hc : U64 c) :
    Calls Tryd.prog 60 #[.int .u64 a, .int .u64 b, .int .u64 c] w fun e w' => e = .returned (.int .u64 (Cho.chooseT a b c : Nat)) ∧ w' = w := by
  have e1 : Hid (bits .and .u64 (a : Int) (b : Int) = ((a &&& b : Nat) : Int)) := and64 ha hb
  have e2 : Hid (bits .andNot .u64 (c : Int) (a : Int) = ((c &&& (2 ^ 64 - 1 - a) : Nat) : Int)) := andNot64 hc ha
  go_enter Tryd.func60, Tryd.ntmps60
  go_wp2
  go_ret
  exact ⟨ret_int (by rw [e1.out, e2.out, or64 (Cho.and_u64 ha) (Cho.and_u64 hc)]; rfl), rfl⟩

set_option maxHeartbeats 400000 in
theorem put_calls (t i b : Nat) (w : World) (hc : Cols w) (ht : U64 t) (h6 : i < 6) (hb : U64 b) :
    Calls Tryd.prog 61 #[.int .u64 t, .int .i64 i, .int .u64 b] w fun e w' => e = .returned (.int .u64 (Cho.putT t i b : Nat)) ∧ w' = w := by
  have HC : Hid (Cols w) := hc
  clear hc
  go_enter Tryd.func61, Tryd.ntmps61
  go_wp2_with fail
  refine (fix_calls t i true _ HC.out ht h6).mono ?_
  rintro e w1 ⟨rfl, rfl⟩
  go_wp2_with fail
  refine (fix_calls t i false _ HC.out ht h6).mono ?_
  rintro e w2 ⟨rfl, rfl⟩
  go_wp2_with fail
  refine (choose_calls b _ _ _ hb (Cho.fix_u64 t i true ht) (Cho.fix_u64 t i false ht)).mono ?_
  rintro e w3 ⟨rfl, rfl⟩
  go_wp2_with fail
  go_ret
  exact ⟨rfl, rfl⟩

theorem u8bit (x k : Nat) (hx : x < 256) : bits .and .u8 ((x : Int) / 2 ^ k) 1 = if x.testBit k then 1 else 0 := by
  have e : (x : Int) / 2 ^ k = ((x >>> k : Nat) : Int) := by rw [Nat.shiftRight_eq_div_pow]; simp
  have h : x >>> k < 256 := Nat.lt_of_le_of_lt (Nat.shiftRight_le _ _) hx
  rw [e, show (1 : Int) = ((1 : Nat) : Int) from rfl, u8_and_nat _ 1 h (by decide), Cho.testBit0_and, Cho.shr_testBit0]
  split <;> rfl

set_option maxHeartbeats 400000 in
theorem all_calls (t x : Nat) (w : World) (hc : Cols w) (ht : U64 t) (hx : x < 256) :
    Calls Tryd.prog 62 #[.int .u64 t, .int .u8 x] w fun e w' => e = .returned (.int .u64 (Cho.allTo t x 6 : Nat)) ∧ w' = w := by
  have HC : Hid (Cols w) := hc
  clear hc
  go_enter Tryd.func62, Tryd.ntmps62
  go_wp2
  go_loopw [0, 5] (fun y i wr => ∃ k : Nat, k ≤ 6 ∧ i = .int .i64 k ∧ y = .int .u64 (Cho.allTo t x k : Nat) ∧ wr = w) (fun _ i _ => 6 - (intOf i).toNat)
  case atStart => exact ⟨0, Nat.zero_le _, rfl, rfl, rfl⟩
  case round =>
    obtain ⟨k, hk, rfl, rfl, rfl⟩ := hrel
    by_cases hlt : k < 6
    · have hu := Cho.allTo_u64 t x ht k
      have HS : Hid (Cho.allTo t x (k + 1) = if x.testBit k then Cho.fix (Cho.allTo t x k) k true &&& Cho.fix (Cho.allTo t x k) k false else Cho.allTo t x k) := rfl
      generalize Cho.allTo t x k = T at *
      have hb := u8bit x k hx
      cases hx' : x.testBit k
      · rw [hx'] at hb
        simp only [Bool.false_eq_true, if_false] at hb
        go_wp2_with fail
        refine ⟨⟨k + 1, hlt, by go_num, val_int ?_, trivial⟩, by simp [intOf]; omega⟩
        rw [HS.out, hx']; rfl
      · rw [hx'] at hb
        simp only [if_true] at hb
        go_wp2_with fail
        refine (fix_calls T k true _ HC.out hu hlt).mono ?_
        rintro e w1 ⟨rfl, rfl⟩
        go_wp2_with fail
        refine (fix_calls T k false _ HC.out hu hlt).mono ?_
        rintro e w2 ⟨rfl, rfl⟩
        go_wp2_with fail
        refine ⟨⟨k + 1, hlt, by go_num, val_int ?_, trivial⟩, by simp [intOf]; omega⟩
        rw [HS.out, hx', and64 (Cho.fix_u64 _ _ _ hu) (Cho.fix_u64 _ _ _ hu)]; rfl
    · go_wp2_with fail
      go_ret
      exact ⟨ret_int (by rw [show k = 6 from by omega]), rfl⟩

set_option maxHeartbeats 400000 in
theorem some_calls (t x : Nat) (w : World) (hc : Cols w) (ht : U64 t) (hx : x < 256) :
    Calls Tryd.prog 63 #[.int .u64 t, .int .u8 x] w fun e w' => e = .returned (.int .u64 (Cho.someTo t x 6 : Nat)) ∧ w' = w := by
  have HC : Hid (Cols w) := hc
  clear hc
  go_enter Tryd.func63, Tryd.ntmps63
  go_wp2
  go_loopw [0, 5] (fun y i wr => ∃ k : Nat, k ≤ 6 ∧ i = .int .i64 k ∧ y = .int .u64 (Cho.someTo t x k : Nat) ∧ wr = w) (fun _ i _ => 6 - (intOf i).toNat)
  case atStart => exact ⟨0, Nat.zero_le _, rfl, rfl, rfl⟩
  case round =>
    obtain ⟨k, hk, rfl, rfl, rfl⟩ := hrel
    by_cases hlt : k < 6
    · have hu := Cho.someTo_u64 t x ht k
      have HS : Hid (Cho.someTo t x (k + 1) = if x.testBit k then Cho.fix (Cho.someTo t x k) k true ||| Cho.fix (Cho.someTo t x k) k false else Cho.someTo t x k) := rfl
      generalize Cho.someTo t x k = T at *
      have hb := u8bit x k hx
      cases hx' : x.testBit k
      · rw [hx'] at hb
        simp only [Bool.false_eq_true, if_false] at hb
        go_wp2_with fail
        refine ⟨⟨k + 1, hlt, by go_num, val_int ?_, trivial⟩, by simp [intOf]; omega⟩
        rw [HS.out, hx']; rfl
      · rw [hx'] at hb
        simp only [if_true] at hb
        go_wp2_with fail
        refine (fix_calls T k true _ HC.out hu hlt).mono ?_
        rintro e w1 ⟨rfl, rfl⟩
        go_wp2_with fail
        refine (fix_calls T k false _ HC.out hu hlt).mono ?_
        rintro e w2 ⟨rfl, rfl⟩
        go_wp2_with fail
        refine ⟨⟨k + 1, hlt, by go_num, val_int ?_, trivial⟩, by simp [intOf]; omega⟩
        rw [HS.out, hx', or64 (Cho.fix_u64 _ _ _ hu) (Cho.fix_u64 _ _ _ hu)]; rfl
    · go_wp2_with fail
      go_ret
      exact ⟨ret_int (by rw [show k = 6 from by omega]), rfl⟩

end Go.Proofs.YthoodkbdpnffdaaDoor
