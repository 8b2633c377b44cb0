/-
  Own work: tables made place by place (plain mathematics).
-/
import Derived.Test.YthoodkbdpnffdabDoorPlainL
namespace Cho

/-- The table that says f at the first k places. -/
def bld (f : Nat → Bool) : Nat → Nat
  | 0 => 0
  | k + 1 => if f k then bld f k ||| 2 ^ k else bld f k
theorem bld_testBit (f : Nat → Bool) (k p : Nat) : (bld f k).testBit p = (decide (p < k) && f p) := by
  induction k with
  | zero => simp [bld]
  | succ k ih =>
    simp only [bld]
    by_cases e : p = k
    · subst e
      split
      · rename_i h; rw [Nat.testBit_or, Nat.testBit_two_pow_self]; simp [h]
      · rename_i h; rw [ih]; simp at h; simp [h]
    · have hb : (2 ^ k).testBit p = false := Nat.testBit_two_pow_of_ne (fun h => e h.symm)
      have : (decide (p < k + 1)) = decide (p < k) := by apply decide_eq_decide.2; omega
      split
      · rw [Nat.testBit_or, hb, Bool.or_false, ih, this]
      · rw [ih, this]
theorem bld_lt (f : Nat → Bool) (k : Nat) : bld f k < 2 ^ k := by
  apply Nat.lt_pow_two_of_testBit
  intro i hi
  rw [bld_testBit]; simp; omega
theorem bld_u64 (f : Nat → Bool) (k : Nat) (h : k ≤ 64) : U64 (bld f k) := Nat.lt_of_lt_of_le (bld_lt f k) (Nat.pow_le_pow_right (by decide) h)
theorem bld_tab (f : Nat → Bool) (n : Nat) : Tab n (bld f (2 ^ n)) := bld_lt f _
/-- A table is told by its places. -/
theorem bld_eq {n t : Nat} {f : Nat → Bool} (h : Tab n t) (hf : ∀ p, p < 2 ^ n → f p = t.testBit p) : bld f (2 ^ n) = t := by
  apply Tab.ext (bld_tab f n) h
  intro p hp
  rw [bld_testBit, hf p hp]; simp [hp]
theorem bld_full (n : Nat) : bld (fun _ => true) (2 ^ n) = full n := bld_eq (full_tab n) fun p hp => by rw [full_testBit]; simp [hp]
theorem bld_fix {n t i : Nat} (b : Bool) (h : Tab n t) (hn : n ≤ 6) (hi : i < n) : bld (fun p => t.testBit (put p i b)) (2 ^ n) = fix t i b :=
  bld_eq (fix_tab i b h hn hi) fun p hp => (fix_at i p b h hn hi hp).symm
theorem bld_var {n i : Nat} (hn : n ≤ 6) (hi : i < n) : bld (fun p => p.testBit i) (2 ^ n) = col i &&& full n := by
  have h64 := two_pow_le n hn
  apply bld_eq (Nat.lt_of_le_of_lt Nat.and_le_right (full_tab n))
  intro p hp
  rw [Nat.testBit_and, full_testBit, col_testBit i (by omega) p (by omega)]; simp [hp]
theorem bld_join {n a b : Nat} (c : Nat) (ha : Tab n a) (hb : Tab n b) (hn : n ≤ 6) : bld (fun p => c.testBit (2 * (a.testBit p).toNat + (b.testBit p).toNat)) (2 ^ n) = joinT c a b (full n) :=
  bld_eq (joinT_tab c a b n ha hb) fun p hp => by rw [joinT_testBit c a b n p (ha.u64 hn) (hb.u64 hn) hn hp]; rfl
theorem bld_choose {n a b c : Nat} (ha : Tab n a) (hb : Tab n b) (hc : Tab n c) (hn : n ≤ 6) : bld (fun p => if a.testBit p then b.testBit p else c.testBit p) (2 ^ n) = chooseT a b c := by
  have h64 := two_pow_le n hn
  exact bld_eq (chooseT_tab hb hc) fun p hp => by rw [chooseT_testBit a b c p (ha.u64 hn) (by omega)]
theorem bld_put {n t i b : Nat} (ht : Tab n t) (hb : Tab n b) (hn : n ≤ 6) (hi : i < n) : bld (fun p => t.testBit (put p i (b.testBit p))) (2 ^ n) = putT t i b :=
  bld_eq (putT_tab i b ht hn hi) fun p hp => by rw [putT_testBit i b p ht hb hn hi hp]
end Cho
