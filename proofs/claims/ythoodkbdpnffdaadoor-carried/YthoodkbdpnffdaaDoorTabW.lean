/-
  Own work: what each function of package tables computes, as the plain mathematics has it (walks).
-/
import Derived.Test.YthoodkbdpnffdaaDoorProg
import Derived.Test.YthoodkbdpnffdaaDoorPlain
import Derived.WalkKit
import Derived.WalkSpells
import Derived.WalkLawsBesides
import Derived.Laws.BitsAllLaws
import Derived.Deep.QuietTactic
import Derived.BigQuiet
namespace Go.Proofs.YthoodkbdpnffdaaDoor
open Go.RowKit
open Cho (U64 Tab full col)

theorem ret_int {k : IntKind} {a b : Int} (h : a = b) : Ending.returned (.int k a) = .returned (.int k b) := by rw [h]
theorem val_int {k : IntKind} {a b : Int} (h : a = b) : Value.int k a = .int k b := by rw [h]

theorem or64 {a b : Nat} (ha : U64 a) (hb : U64 b) : bits .or .u64 (a : Int) (b : Int) = ((a ||| b : Nat) : Int) := u64_or_nat a b ha.lt hb.lt
theorem and64 {a b : Nat} (ha : U64 a) (hb : U64 b) : bits .and .u64 (a : Int) (b : Int) = ((a &&& b : Nat) : Int) := u64_and_nat a b ha.lt hb.lt
theorem andNot64 {a b : Nat} (ha : U64 a) (hb : U64 b) : bits .andNot .u64 (a : Int) (b : Int) = ((a &&& (2 ^ 64 - 1 - b) : Nat) : Int) := u64_andNot_nat a b ha.lt hb.lt
theorem wrap_pow (k : Nat) (h : k < 64) : (IntKind.u64.wrap (2 ^ k)).toNat = 2 ^ k := by
  have h1 : (2 : Nat) ^ k < 2 ^ 64 := Nat.pow_lt_pow_right (by decide) h
  rw [IntKind.wrap_u64, show ((2 : Int) ^ k) = ((2 ^ k : Nat) : Int) from by simp]
  rw [show (18446744073709551616 : Int) = ((18446744073709551616 : Nat) : Int) from rfl, ← Int.natCast_emod, Nat.mod_eq_of_lt h1, Int.toNat_natCast]
theorem shl64 (a c : Nat) (hc : c ≤ 64) : IntKind.u64.wrap ((a : Int) * 2 ^ min c 64) = (((a <<< c) % 2 ^ 64 : Nat) : Int) := by
  rw [Nat.min_eq_left hc, IntKind.wrap_u64, Nat.shiftLeft_eq]
  rw [show ((2 : Int) ^ c) = ((2 ^ c : Nat) : Int) from by simp, ← Int.natCast_mul]
  omega

set_option maxHeartbeats 400000 in
theorem full_calls (n : Nat) (w : World) (h6 : n ≤ 6) :
    Calls Tryd.prog 71 #[.int .i64 n] w fun e w' => e = .returned (.int .u64 (full n : Nat)) ∧ w' = w := by
  go_enter Tryd.func71, Tryd.ntmps71
  go_wp2
  go_loop [3, 4] (fun f i => ∃ k : Nat, k ≤ n ∧ i = .int .i64 k ∧ f = .int .u64 (full k : Nat)) (fun _ i => n - (intOf i).toNat)
  case atStart => exact ⟨0, Nat.zero_le _, rfl, rfl⟩
  case round =>
    obtain ⟨k, hk, rfl, rfl⟩ := hrel
    by_cases hlt : k < n
    · go_wp2
      refine ⟨⟨k + 1, hlt, by go_num, val_int ?_⟩, by simp [intOf]; omega⟩
      have hk6 : 2 ^ k ≤ 64 := Cho.two_pow_le k (by omega)
      have e := Cho.full_succ k (by omega)
      rw [wrap_pow k (by omega), shl64 _ _ hk6, or64 (Cho.full_u64 k (by omega)) (Cho.mod_u64 _), e]
    · go_wp2
      go_ret
      exact ⟨ret_int (by rw [show k = n from by omega]), rfl⟩

/-- The table of the variables' columns lies in the program's first variable. -/
def Cols (w : World) : Prop := ∀ i, i < 6 → w.cell? ⟨0, i, none⟩ = some (.int .u64 (col i : Nat))

theorem shr64 (a c : Nat) (hc : c ≤ 64) : (a : Int) / 2 ^ min c 64 = ((a >>> c : Nat) : Int) := by
  rw [Nat.min_eq_left hc, Nat.shiftRight_eq_div_pow]; simp
theorem one_u64 : U64 1 := by show (1 : Nat) < 2 ^ 64; decide
theorem half (r : Nat) : (r : Int) / (2 : Int) = ((r >>> 1 : Nat) : Int) := by rw [Nat.shiftRight_eq_div_pow]; omega
theorem and1 (r : Nat) (h : U64 r) : bits .and .u64 (r : Int) 1 = ((if r.testBit 0 then 1 else 0 : Nat) : Int) := by
  rw [← Cho.testBit0_and]; exact and64 h one_u64
theorem and1_yes (r : Nat) (h : U64 r) (hb : r.testBit 0 = true) : bits .and .u64 (r : Int) 1 = 1 := by rw [and1 r h, hb]; rfl
theorem and1_no (r : Nat) (h : U64 r) (hb : r.testBit 0 = false) : bits .and .u64 (r : Int) 1 = 0 := by rw [and1 r h, hb]; rfl

set_option maxHeartbeats 400000 in
theorem fix_calls (t i : Nat) (b : Bool) (w : World) (hc : Cols w) (ht : U64 t) (h6 : i < 6) :
    Calls Tryd.prog 59 #[.int .u64 t, .int .i64 i, .bool b] w fun e w' => e = .returned (.int .u64 (Cho.fix t i b : Nat)) ∧ w' = w := by
  have hci := hc i h6
  clear hc
  have h2 : 2 ^ i ≤ 64 := Cho.two_pow_le i (by omega)
  have E1 : Hid ((IntKind.u64.wrap (2 ^ i)).toNat = 2 ^ i) := wrap_pow i (by omega)
  have E2 : Hid (bits .andNot .u64 (t : Int) (col i : Nat) = ((t &&& (2 ^ 64 - 1 - col i) : Nat) : Int)) := andNot64 ht (Cho.col_u64 i)
  have E3 : Hid (bits .and .u64 (t : Int) (col i : Nat) = ((t &&& col i : Nat) : Int)) := and64 ht (Cho.col_u64 i)
  cases b
  · go_enter Tryd.func59, Tryd.ntmps59
    go_wp2
    go_ret
    exact ⟨ret_int (by rw [E1.out, E2.out, shl64 _ _ h2, or64 (Cho.and_u64 ht) (Cho.mod_u64 _)]; rfl), rfl⟩
  · go_enter Tryd.func59, Tryd.ntmps59
    go_wp2
    go_ret
    exact ⟨ret_int (by rw [E1.out, E3.out, shr64 _ _ h2, or64 (Cho.and_u64 ht) (Cho.shr_u64 (Cho.and_u64 ht))]; rfl), rfl⟩

set_option maxHeartbeats 400000 in
theorem count_calls (t : Nat) (w : World) (ht : U64 t) :
    Calls Tryd.prog 47 #[.int .u64 t] w fun e w' => e = .returned (.int .i64 (Cho.cnt t 64 : Nat)) ∧ w' = w := by
  go_enter Tryd.func47, Tryd.ntmps47
  go_wp2
  go_loop [3, 4] (fun c r => ∃ k : Nat, k ≤ 64 ∧ c = .int .i64 (Cho.cnt t k : Nat) ∧ r = .int .u64 (t >>> k : Nat)) (fun _ r => (intOf r).toNat)
  case atStart => exact ⟨0, Nat.zero_le _, rfl, rfl⟩
  case round =>
    obtain ⟨k, hk, rfl, rfl⟩ := hrel
    have hu : U64 (t >>> k) := Cho.shr_u64 ht
    have hcl := Cho.cnt_le t k
    by_cases hz : t >>> k = 0
    · have H : Hid (Cho.cnt t k = Cho.cnt t 64) := Cho.cnt_end hz hk
      have hz' : (((t >>> k : Nat) : Int) != 0) = false := by simp [hz]
      clear hz
      generalize t >>> k = r at *
      go_wp2
      go_ret
      exact ⟨ret_int (by rw [H.out]), rfl⟩
    · have hk64 := Cho.shr_nz ht hz
      have hs : Hid (t >>> (k + 1) = (t >>> k) >>> 1) := (Cho.shr_succ t k).symm
      have ht0 := Cho.shr_testBit0 t k
      have H0 : Hid (Cho.cnt t (k + 1) = Cho.cnt t k + if t.testBit k then 1 else 0) := rfl
      rw [← ht0] at H0
      clear ht0
      generalize t >>> k = r at *
      have hz' : ((r : Int) != 0) = true := by simp; omega
      have hm := Cho.shr_lt hz
      cases hb : r.testBit 0
      · have H : Hid (Cho.cnt t (k + 1) = Cho.cnt t k) := H0.out.trans (by rw [hb]; rfl)
        have ha := and1_no r hu hb
        clear hb H0
        go_wp2
        refine ⟨⟨k + 1, hk64, val_int (by rw [H.out]), val_int (by rw [half, hs.out])⟩, ?_⟩
        simp only [intOf]; omega
      · have H : Hid (Cho.cnt t (k + 1) = Cho.cnt t k + 1) := H0.out.trans (by rw [hb]; rfl)
        have ha := and1_yes r hu hb
        clear hb H0
        go_wp2
        refine ⟨⟨k + 1, hk64, val_int (by rw [H.out]; rfl), val_int (by rw [half, hs.out])⟩, ?_⟩
        simp only [intOf]; omega

set_option maxHeartbeats 400000 in
theorem least_none (w : World) :
    Calls Tryd.prog 48 #[.int .u64 (0 : Nat)] w fun e w' => e = .returned (.tuple #[.int .i64 0, .bool false]) ∧ w' = w := by
  go_enter Tryd.func48, Tryd.ntmps48
  go_wp2
  go_ret2
  exact ⟨rfl, rfl⟩

set_option maxHeartbeats 400000 in
theorem least_calls (t : Nat) (w : World) (ht : U64 t) (h0 : t ≠ 0) :
    Calls Tryd.prog 48 #[.int .u64 t] w fun e w' => e = .returned (.tuple #[.int .i64 (Cho.least t 64 : Nat), .bool true]) ∧ w' = w := by
  obtain ⟨p, hp, hpb⟩ := Cho.nz_bit ht h0
  have h0' : ((t : Int) == 0) = false := by simp; omega
  go_enter Tryd.func48, Tryd.ntmps48
  go_wp2
  go_loop [4, 5] (fun c r => ∃ k : Nat, k ≤ p ∧ (∀ q, q < k → t.testBit q = false) ∧ c = .int .i64 k ∧ r = .int .u64 (t >>> k : Nat)) (fun c _ => p - (intOf c).toNat)
  case atStart => exact ⟨0, Nat.zero_le _, fun _ h => absurd h (Nat.not_lt_zero _), rfl, rfl⟩
  case round =>
    obtain ⟨k, hk, hno, rfl, rfl⟩ := hrel
    have hu : U64 (t >>> k) := Cho.shr_u64 ht
    have ht0 := Cho.shr_testBit0 t k
    cases hb : t.testBit k
    · have hkp : k ≠ p := by intro e; rw [e, hpb] at hb; cases hb
      have ha := and1_no _ hu (ht0.trans hb)
      have HN : Hid (∀ q, q < k + 1 → t.testBit q = false) := by
        intro q hq
        by_cases e : q = k
        · rw [e, hb]
        · exact hno q (by omega)
      have hs : Hid (t >>> (k + 1) = (t >>> k) >>> 1) := (Cho.shr_succ t k).symm
      clear hb ht0 hno
      generalize t >>> k = r at *
      have hk64 : k < 64 := by omega
      clear hpb
      go_wp2
      refine ⟨⟨k + 1, by omega, HN.out, by go_num, val_int (by rw [half, hs.out])⟩, ?_⟩
      simp only [intOf]; omega
    · have ha := and1_yes _ hu (ht0.trans hb)
      have HL : Hid (Cho.least t 64 = k) := Cho.least_eq (by omega) hno hb
      clear hb ht0 hno hpb
      generalize t >>> k = r at *
      go_wp2
      go_ret2
      exact ⟨by rw [HL.out]; rfl, rfl⟩

theorem not_u64 (x : Nat) : U64 (2 ^ 64 - 1 - x) := by show 2 ^ 64 - 1 - x < 2 ^ 64; omega
theorem zero_u64 : U64 0 := by show (0 : Nat) < 2 ^ 64; decide
theorem or0 {b : Nat} (hb : U64 b) : bits .or .u64 0 (b : Int) = ((0 ||| b : Nat) : Int) := or64 (a := 0) zero_u64 hb

set_option maxHeartbeats 1000000 in
theorem join_calls (c a b f : Nat) (w : World) (hc : c < 16) (ha : U64 a) (hb : U64 b) (hf : U64 f) :
    Calls Tryd.prog 45 #[.int .i64 c, .int .u64 a, .int .u64 b, .int .u64 f] w fun e w' => e = .returned (.int .u64 (Cho.joinT c a b f : Nat)) ∧ w' = w := by
  have e1 : Hid (bits .or .u64 (a : Int) (b : Int) = ((a ||| b : Nat) : Int)) := or64 ha hb
  have e2 : Hid (bits .andNot .u64 (f : Int) ((a ||| b : Nat) : Int) = ((f &&& (2 ^ 64 - 1 - (a ||| b)) : Nat) : Int)) := andNot64 hf (Cho.or_u64 ha hb)
  have e3 : Hid (bits .andNot .u64 (b : Int) (a : Int) = ((b &&& (2 ^ 64 - 1 - a) : Nat) : Int)) := andNot64 hb ha
  have e4 : Hid (bits .andNot .u64 (a : Int) (b : Int) = ((a &&& (2 ^ 64 - 1 - b) : Nat) : Int)) := andNot64 ha hb
  have e5 : Hid (bits .and .u64 (a : Int) (b : Int) = ((a &&& b : Nat) : Int)) := and64 ha hb
  have t1 : bits .and .i64 (c : Int) 1 = if c.testBit 0 then 1 else 0 := by revert c; decide
  have t2 : bits .and .i64 (c : Int) 2 = if c.testBit 1 then 2 else 0 := by revert c; decide
  have t3 : bits .and .i64 (c : Int) 4 = if c.testBit 2 then 4 else 0 := by revert c; decide
  have t4 : bits .and .i64 (c : Int) 8 = if c.testBit 3 then 8 else 0 := by revert c; decide
  have J : Hid (Cho.joinT c a b f = (((if c.testBit 0 then f &&& (2 ^ 64 - 1 - (a ||| b)) else 0) ||| (if c.testBit 1 then b &&& (2 ^ 64 - 1 - a) else 0)) |||
    (if c.testBit 2 then a &&& (2 ^ 64 - 1 - b) else 0)) ||| (if c.testBit 3 then a &&& b else 0)) := rfl
  generalize c.testBit 0 = b0 at *
  generalize c.testBit 1 = b1 at *
  generalize c.testBit 2 = b2 at *
  generalize c.testBit 3 = b3 at *
  cases b0 <;> cases b1 <;> cases b2 <;> cases b3
  all_goals
    simp only [Bool.false_eq_true, if_false, if_true] at t1 t2 t3 t4
    go_enter Tryd.func45, Tryd.ntmps45
    go_wp2
    go_ret
    refine ⟨ret_int ?_, rfl⟩
    rw [J.out]
    clear t1 t2 t3 t4 J
    have u1 : U64 (f &&& (2 ^ 64 - 1 - (a ||| b))) := Cho.and_u64 hf
    have u2 : U64 (b &&& (2 ^ 64 - 1 - a)) := Cho.and_u64 hb
    have u3 : U64 (a &&& (2 ^ 64 - 1 - b)) := Cho.and_u64 ha
    have u4 : U64 (a &&& b) := Cho.and_u64 ha
    have s1 := e1.out
    have s2 := e2.out
    have s3 := e3.out
    have s4 := e4.out
    have s5 := e5.out
    simp only [s1, s2, s3, s4, s5, Bool.false_eq_true, if_false, if_true, Nat.zero_or, Nat.or_zero, or0, or64, Cho.or_u64, u1, u2, u3, u4]
    first | done | rfl | exact or64 (Cho.or_u64 (Cho.or_u64 u1 u2) u3) u4

set_option maxHeartbeats 400000 in
theorem variable_calls (i n : Nat) (w : World) (hc : Cols w) (hi : i < 6) (h6 : n ≤ 6) :
    Calls Tryd.prog 52 #[.int .i64 i, .int .i64 n] w fun e w' => e = .returned (.int .u64 (col i &&& full n : Nat)) ∧ ∃ q, w' = w.drewN q := by
  have hci := hc i hi
  clear hc
  have E : Hid (bits .and .u64 (col i : Nat) (full n : Nat) = ((col i &&& full n : Nat) : Int)) := and64 (Cho.col_u64 i) (Cho.full_u64 n h6)
  go_enter Tryd.func52, Tryd.ntmps52
  go_wp2_with fail
  go_quiet ((go_at_call 71; exact Calls.quiet_of_same (full_calls _ _ h6)))
  go_wp2
  go_ret
  exact ⟨ret_int E.out, _, rfl⟩
end Go.Proofs.YthoodkbdpnffdaaDoor
