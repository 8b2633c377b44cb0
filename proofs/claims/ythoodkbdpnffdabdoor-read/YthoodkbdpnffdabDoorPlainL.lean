/-
  Own work: what Restrict, Compose, Quantify and Ite make of tables (plain mathematics).
-/
import Derived.Test.YthoodkbdpnffdabDoorPlain
namespace Cho

theorem put_put (p i : Nat) (b c : Bool) : put (put p i b) i c = put p i c := by
  apply Nat.eq_of_testBit_eq; intro j
  simp only [put_testBit]
  split <;> rfl
theorem put_self (p i : Nat) : put p i (p.testBit i) = p := by simp [put]
theorem put_ge (p i n : Nat) (b : Bool) (hi : i < n) (hp : 2 ^ n ≤ p) : 2 ^ n ≤ put p i b := by
  apply Classical.byContradiction
  intro h
  have := put_lt (put p i b) i n (p.testBit i) hi (by omega)
  rw [put_put, put_self] at this
  omega
theorem fix_tab {n t : Nat} (i : Nat) (b : Bool) (h : Tab n t) (hn : n ≤ 6) (hi : i < n) : Tab n (fix t i b) := by
  apply Tab.of_hi
  intro p hp
  by_cases h6 : p < 64
  · rw [fix_testBit t i p b (h.u64 hn) (by omega) h6]
    exact h.hi _ (put_ge p i n b hi hp)
  · exact u64_hi (fix_u64 t i b (h.u64 hn)) p (by omega)
theorem fix_at {n t : Nat} (i p : Nat) (b : Bool) (h : Tab n t) (hn : n ≤ 6) (hi : i < n) (hp : p < 2 ^ n) : (fix t i b).testBit p = t.testBit (put p i b) :=
  fix_testBit t i p b (h.u64 hn) (by omega) (by have := two_pow_le n hn; omega)
theorem and_tab {n a b : Nat} (h : Tab n a) : Tab n (a &&& b) := Nat.lt_of_le_of_lt Nat.and_le_left h
theorem or_tab {n a b : Nat} (ha : Tab n a) (hb : Tab n b) : Tab n (a ||| b) := Nat.or_lt_two_pow ha hb

/-- Of b where a says yes, of c elsewhere. -/
def chooseT (a b c : Nat) : Nat := (a &&& b) ||| (c &&& (2 ^ 64 - 1 - a))
theorem chooseT_testBit (a b c p : Nat) (ha : U64 a) (hp : p < 64) : (chooseT a b c).testBit p = if a.testBit p then b.testBit p else c.testBit p := by
  unfold chooseT
  rw [Nat.testBit_or, Nat.testBit_and, Nat.testBit_and, not_testBit _ _ ha]
  cases a.testBit p <;> simp [hp]
theorem chooseT_tab {n a b c : Nat} (hb : Tab n b) (hc : Tab n c) : Tab n (chooseT a b c) :=
  or_tab (Nat.lt_of_le_of_lt Nat.and_le_right hb) (and_tab hc)
theorem chooseT_u64 {a b c : Nat} (ha : U64 a) (hc : U64 c) : U64 (chooseT a b c) := or_u64 (and_u64 ha) (and_u64 hc)

/-- Variable i is what b says. -/
def putT (t i b : Nat) : Nat := chooseT b (fix t i true) (fix t i false)
theorem putT_tab {n t : Nat} (i b : Nat) (h : Tab n t) (hn : n ≤ 6) (hi : i < n) : Tab n (putT t i b) := chooseT_tab (fix_tab i true h hn hi) (fix_tab i false h hn hi)
theorem putT_testBit {n t : Nat} (i b p : Nat) (h : Tab n t) (hb : Tab n b) (hn : n ≤ 6) (hi : i < n) (hp : p < 2 ^ n) : (putT t i b).testBit p = t.testBit (put p i (b.testBit p)) := by
  have h64 := two_pow_le n hn
  unfold putT
  rw [chooseT_testBit _ _ _ _ (hb.u64 hn) (by omega), fix_at i p _ h hn hi hp, fix_at i p _ h hn hi hp]
  cases b.testBit p <;> simp

/-- For all values, and for some values, of the first k variables of a set. -/
def allTo (t set : Nat) : Nat → Nat
  | 0 => t
  | k + 1 => if set.testBit k then fix (allTo t set k) k true &&& fix (allTo t set k) k false else allTo t set k
def someTo (t set : Nat) : Nat → Nat
  | 0 => t
  | k + 1 => if set.testBit k then fix (someTo t set k) k true ||| fix (someTo t set k) k false else someTo t set k
theorem allTo_u64 (t set : Nat) (h : U64 t) (k : Nat) : U64 (allTo t set k) := by
  induction k with
  | zero => exact h
  | succ k ih =>
    simp only [allTo]; split
    · exact and_u64 (fix_u64 _ _ _ ih)
    · exact ih
theorem someTo_u64 (t set : Nat) (h : U64 t) (k : Nat) : U64 (someTo t set k) := by
  induction k with
  | zero => exact h
  | succ k ih =>
    simp only [someTo]; split
    · exact or_u64 (fix_u64 _ _ _ ih) (fix_u64 _ _ _ ih)
    · exact ih
theorem set_bit {n set : Nat} (hs : set < 2 ^ n) {k : Nat} (hb : set.testBit k = true) : k < n := by
  apply Classical.byContradiction
  intro h
  rw [Nat.testBit_lt_two_pow (Nat.lt_of_lt_of_le hs (Nat.pow_le_pow_right (by decide) (by omega)))] at hb
  cases hb
theorem allTo_tab {n t set : Nat} (h : Tab n t) (hn : n ≤ 6) (hs : set < 2 ^ n) (k : Nat) : Tab n (allTo t set k) := by
  induction k with
  | zero => exact h
  | succ k ih =>
    simp only [allTo]; split
    · rename_i hb; exact and_tab (fix_tab _ _ ih hn (set_bit hs hb))
    · exact ih
theorem someTo_tab {n t set : Nat} (h : Tab n t) (hn : n ≤ 6) (hs : set < 2 ^ n) (k : Nat) : Tab n (someTo t set k) := by
  induction k with
  | zero => exact h
  | succ k ih =>
    simp only [someTo]; split
    · rename_i hb; exact or_tab (fix_tab _ _ ih hn (set_bit hs hb)) (fix_tab _ _ ih hn (set_bit hs hb))
    · exact ih
/-- One variable alone. -/
theorem allTo_one (t i : Nat) (k : Nat) : allTo t (2 ^ i) k = if i < k then fix t i true &&& fix t i false else t := by
  induction k with
  | zero => simp [allTo]
  | succ k ih =>
    simp only [allTo]
    rw [ih]
    by_cases e : i = k
    · subst e; simp
    · rw [Nat.testBit_two_pow_of_ne e]
      have : (i < k + 1) = (i < k) := by simp; omega
      simp only [this, Bool.false_eq_true, if_false]
theorem someTo_one (t i : Nat) (k : Nat) : someTo t (2 ^ i) k = if i < k then fix t i true ||| fix t i false else t := by
  induction k with
  | zero => simp [someTo]
  | succ k ih =>
    simp only [someTo]
    rw [ih]
    by_cases e : i = k
    · subst e; simp
    · rw [Nat.testBit_two_pow_of_ne e]
      have : (i < k + 1) = (i < k) := by simp; omega
      simp only [this, Bool.false_eq_true, if_false]

/-- A function out of its two halves, chosen by the variable itself. -/
theorem split_again {n t i : Nat} (h : Tab n t) (hn : n ≤ 6) (hi : i < n) : chooseT (col i &&& full n) (fix t i true) (fix t i false) = t := by
  have h64 := two_pow_le n hn
  apply Tab.ext (chooseT_tab (fix_tab i true h hn hi) (fix_tab i false h hn hi)) h
  intro p hp
  rw [chooseT_testBit _ _ _ _ (and_u64 (col_u64 i)) (by omega), fix_at i p _ h hn hi hp, fix_at i p _ h hn hi hp, Nat.testBit_and, full_testBit, col_testBit i (by omega) p (by omega)]
  simp only [hp, decide_true, Bool.and_true]
  have := put_self p i
  cases hb : p.testBit i <;> rw [hb] at this <;> simp [this]
theorem split_own {n t i : Nat} (h : Tab n t) (hn : n ≤ 6) (hi : i < n) : putT t i (col i &&& full n) = t := split_again h hn hi
theorem split_some {n t i : Nat} (h : Tab n t) (hn : n ≤ 6) (hi : i < n) : someTo t (2 ^ i) 6 = joinT 14 (fix t i false) (fix t i true) (full n) := by
  have h64 := two_pow_le n hn
  have u0 := fix_u64 t i false (h.u64 hn)
  have u1 := fix_u64 t i true (h.u64 hn)
  rw [someTo_one, if_pos (by omega)]
  apply Tab.ext (or_tab (fix_tab i true h hn hi) (fix_tab i false h hn hi)) (joinT_tab _ _ _ n (fix_tab i false h hn hi) (fix_tab i true h hn hi))
  intro p hp
  rw [joinT_testBit _ _ _ n p u0 u1 hn hp, Nat.testBit_or]
  cases (fix t i true).testBit p <;> cases (fix t i false).testBit p <;> decide
theorem split_all {n t i : Nat} (h : Tab n t) (hn : n ≤ 6) (hi : i < n) : allTo t (2 ^ i) 6 = joinT 8 (fix t i false) (fix t i true) (full n) := by
  have h64 := two_pow_le n hn
  have u0 := fix_u64 t i false (h.u64 hn)
  have u1 := fix_u64 t i true (h.u64 hn)
  rw [allTo_one, if_pos (by omega)]
  apply Tab.ext (and_tab (fix_tab i true h hn hi)) (joinT_tab _ _ _ n (fix_tab i false h hn hi) (fix_tab i true h hn hi))
  intro p hp
  rw [joinT_testBit _ _ _ n p u0 u1 hn hp, Nat.testBit_and]
  cases (fix t i true).testBit p <;> cases (fix t i false).testBit p <;> decide
end Cho
