/-
  Own work: the small helpers of the statements (walks).
-/
import Derived.Test.YthoodkbdpnffdaaDoorPubW
namespace Go.Proofs.YthoodkbdpnffdaaDoor
open Go.RowKit
open Cho (U64 Tab full col Nd Red)

theorem tmod_nn (a n : Int) (ha : 0 ≤ a) (hn : 0 < n) : 0 ≤ a.tmod n ∧ a.tmod n < n := by
  rw [Int.tmod_eq_emod_of_nonneg ha]
  exact ⟨Int.emod_nonneg _ (by omega), Int.emod_lt_of_pos _ hn⟩

set_option maxHeartbeats 400000 in
theorem pick_calls (c : Int) (n : Nat) (w : World) (h1 : -9223372036854775808 ≤ c) (h2 : c ≤ 9223372036854775807) (hn : 0 < n) (hn2 : n ≤ 1000) :
    Calls Tryd.prog 13 #[.int .i64 c, .int .i64 n] w fun e w' => (∃ k : Nat, k < n ∧ e = .returned (.int .i64 k)) ∧ w' = w := by
  have hnz : ((n : Int) == 0) = false := by simp; omega
  by_cases hc : c < 0
  · have hm := tmod_nn (-(c + 1)) n (by omega) (by omega)
    rw [Int.neg_tmod] at hm
    have HM : Hid (0 ≤ -(c + 1).tmod n ∧ -(c + 1).tmod n < n) := hm
    clear hm
    go_enter Tryd.func13, Tryd.ntmps13
    go_wp2
    go_ret
    refine ⟨⟨(-(c + 1).tmod n).toNat, by have := HM.out; omega, ret_int ?_⟩, rfl⟩
    have := HM.out; omega
  · have hm : 0 ≤ c % (n : Int) ∧ c % (n : Int) < n := ⟨Int.emod_nonneg _ (by omega), Int.emod_lt_of_pos _ (by omega)⟩
    have HM : Hid (0 ≤ c % (n : Int) ∧ c % (n : Int) < n) := hm
    clear hm
    go_enter Tryd.func13, Tryd.ntmps13
    go_wp2
    go_ret
    refine ⟨⟨(c % (n : Int)).toNat, by have := HM.out; omega, ret_int ?_⟩, rfl⟩
    have := HM.out; omega

theorem wrap64_bd (n : Int) : -9223372036854775808 ≤ wrap64 n ∧ wrap64 n ≤ 9223372036854775807 := by unfold wrap64; omega

set_option maxHeartbeats 400000 in
theorem vars_calls (c : Int) (w : World) (h1 : -9223372036854775808 ≤ c) (h2 : c ≤ 9223372036854775807) :
    Calls Tryd.prog 12 #[.int .i64 c] w fun e w' => (∃ n : Nat, 1 ≤ n ∧ n ≤ 6 ∧ e = .returned (.int .i64 n)) ∧ w' = w := by
  by_cases hc : c = -9223372036854775808
  · subst hc
    go_enter Tryd.func12, Tryd.ntmps12
    go_wp2_with fail
    refine (pick_calls _ 6 _ (wrap64_bd _).1 (wrap64_bd _).2 (by decide) (by decide)).mono ?_
    rintro e w1 ⟨⟨k, hk, rfl⟩, rfl⟩
    go_wp2_with fail
    go_ret
    exact ⟨⟨k + 1, by omega, by omega, ret_int (by omega)⟩, rfl⟩
  · have hb : -9223372036854775808 ≤ c - 1 := by omega
    clear hc
    go_enter Tryd.func12, Tryd.ntmps12
    go_wp2_with fail
    refine (pick_calls _ 6 _ (by omega) (by omega) (by decide) (by decide)).mono ?_
    rintro e w1 ⟨⟨k, hk, rfl⟩, rfl⟩
    go_wp2_with fail
    go_ret
    exact ⟨⟨k + 1, by omega, by omega, ret_int (by omega)⟩, rfl⟩

theorem cut_eq (t k : Nat) (hk : k ≤ 64) : ((t <<< (64 - k)) % 2 ^ 64) >>> (64 - k) = t % 2 ^ k := by
  apply Nat.eq_of_testBit_eq
  intro i
  rw [Nat.testBit_shiftRight, Nat.testBit_mod_two_pow, Nat.testBit_mod_two_pow, Nat.testBit_shiftLeft]
  by_cases h : i < k
  · simp [h]
    intro _; omega
  · simp [h]
    intro; omega

/-- A table cut to the places there are. -/
def cutT (t n : Nat) : Nat := t % 2 ^ 2 ^ n

set_option maxHeartbeats 1000000 in
theorem cut_calls (t n : Nat) (w : World) (ht : U64 t) (hn : n ≤ 6) :
    Calls Tryd.prog 15 #[.int .u64 t, .int .i64 n] w fun e w' => e = .returned (.int .u64 (cutT t n : Nat)) ∧ w' = w := by
  have hx : n = 0 ∨ n = 1 ∨ n = 2 ∨ n = 3 ∨ n = 4 ∨ n = 5 ∨ n = 6 := by omega
  rcases hx with rfl | rfl | rfl | rfl | rfl | rfl | rfl
  all_goals
    go_enter Tryd.func15, Tryd.ntmps15
    go_wp2
    go_ret
    refine ⟨ret_int ?_, rfl⟩
    have h64 := ht.lt
    simp only [cutT, Nat.reducePow]
    first | done | (rw [IntKind.wrap_u64]; omega) | omega

set_option maxHeartbeats 400000 in
theorem store_calls (n : Nat) (w : World) (h1 : 1 ≤ n) (h6 : n ≤ 6) (hc : Cols w) :
    Calls Tryd.prog 14 #[.int .i64 n] w fun e w' => ∃ s, e = .returned (.tuple #[.pointer (some ⟨s, 0, none⟩), .bool true]) ∧ Has w' s (St.empty n 4000) ∧ w.heap.size ≤ s ∧ Below w.heap.size w w' := by
  have HC : Hid (Cols w) := hc
  clear hc
  go_enter Tryd.func14, Tryd.ntmps14
  go_wp2_with fail
  refine (new_calls n 4000 _ h1 h6 (by decide) (by decide) HC.out).mono ?_
  rintro e w1 ⟨s, rfl, hst, hs, hbel⟩
  go_wp2_with fail
  go_ret2
  exact ⟨s, rfl, ⟨hst, inv_empty n 4000 h1 h6, by simp [St.empty]⟩, hs, hbel⟩

set_option maxHeartbeats 400000 in
theorem is_ok (s a t : Nat) (st : St) (w : World) (h : Has w s st) (hl : st.live a) (ht : st.tab a = t) :
    Calls Tryd.prog 18 #[.pointer (some ⟨s, 0, none⟩), .int .u32 a, .int .i64 0, .int .u64 t] w fun e w' => e = .returned (.bool true) ∧ Below w.heap.size w w' := by
  have HT := table_ok s a st w h hl
  rw [ht] at HT
  have H : Hid (Calls Tryd.prog 42 #[.pointer (some ⟨s, 0, none⟩), .int .u32 a] w fun e w' => e = .returned (.tuple #[.int .u64 t, .int .i64 0]) ∧ Below w.heap.size w w') := HT
  clear h HT ht
  go_enter Tryd.func18, Tryd.ntmps18
  go_wp2_with fail
  refine H.out.mono ?_
  rintro e w1 ⟨rfl, b1⟩
  go_wp2_with fail
  go_ret
  exact ⟨by simp, b1⟩
end Go.Proofs.YthoodkbdpnffdaaDoor
