/-
  Own work: the plain mathematics of tables of up to six variables: numbers of 64 bits, their bits, a variable fixed, two tables joined.
-/
namespace Cho

/-- A number of 64 bits. -/
def U64 (t : Nat) : Prop := t < 2 ^ 64
theorem U64.lt {t : Nat} (h : U64 t) : t < 18446744073709551616 := h
theorem U64.mk {t : Nat} (h : t < 18446744073709551616) : U64 t := h

def full (n : Nat) : Nat := 2 ^ 2 ^ n - 1
def col (i : Nat) : Nat := [12297829382473034410, 14757395258967641292, 17361641481138401520, 18374966859414961920, 18446462603027742720, 18446744069414584320].getD i 0
def fixYes (t i : Nat) : Nat := (t &&& col i) ||| ((t &&& col i) >>> 2 ^ i)
def fixNo (t i : Nat) : Nat := (t &&& (2 ^ 64 - 1 - col i)) ||| ((t &&& (2 ^ 64 - 1 - col i)) <<< 2 ^ i) % 2 ^ 64
def fix (t i : Nat) (to : Bool) : Nat := if to then fixYes t i else fixNo t i

theorem two_pow_le (n : Nat) (h : n ≤ 6) : 2 ^ n ≤ 64 := by
  have : (2 : Nat) ^ n ≤ 2 ^ 6 := Nat.pow_le_pow_right (by decide) h
  omega
theorem full_u64 (n : Nat) (h : n ≤ 6) : U64 (full n) := by
  have h2 := two_pow_le n h
  have : (2 : Nat) ^ 2 ^ n ≤ 2 ^ 64 := Nat.pow_le_pow_right (by decide) h2
  have : 0 < (2 : Nat) ^ 2 ^ n := Nat.two_pow_pos _
  unfold U64 full; omega
theorem col_u64 (i : Nat) : U64 (col i) := by
  unfold U64 col
  match i with
  | 0 => decide
  | 1 => decide
  | 2 => decide
  | 3 => decide
  | 4 => decide
  | 5 => decide
  | n + 6 => simp
theorem full_testBit (n p : Nat) : (full n).testBit p = decide (p < 2 ^ n) := by
  unfold full; exact Nat.testBit_two_pow_sub_one _ _
theorem full_succ (k : Nat) (h : k < 6) : full k ||| (full k <<< 2 ^ k) % 2 ^ 64 = full (k + 1) := by
  match k, h with
  | 0, _ => decide
  | 1, _ => decide
  | 2, _ => decide
  | 3, _ => decide
  | 4, _ => decide
  | 5, _ => decide
theorem u64_hi {t : Nat} (h : U64 t) (p : Nat) (hp : 64 ≤ p) : t.testBit p = false :=
  Nat.testBit_lt_two_pow (Nat.lt_of_lt_of_le h (Nat.pow_le_pow_right (by decide) hp))
theorem col_testBit : ∀ i, i < 6 → ∀ p, p < 64 → (col i).testBit p = p.testBit i := by decide
theorem ncol_testBit (i p : Nat) (hp : p < 64) : (2 ^ 64 - 1 - col i).testBit p = !(col i).testBit p := by
  have h := col_u64 i
  have e : 2 ^ 64 - 1 - col i = 2 ^ 64 - (col i + 1) := by omega
  rw [e, Nat.testBit_two_pow_sub_succ h]; simp [hp]

/-- The place p with variable i put to b. -/
def put (p i : Nat) (b : Bool) : Nat := if p.testBit i = b then p else p ^^^ 2 ^ i

theorem put_testBit (p i j : Nat) (b : Bool) : (put p i b).testBit j = if j = i then b else p.testBit j := by
  unfold put
  by_cases h : p.testBit i = b
  · rw [if_pos h]; by_cases hj : j = i
    · subst hj; simp [h]
    · simp [hj]
  · rw [if_neg h, Nat.testBit_xor, Nat.testBit_two_pow]
    by_cases hj : j = i
    · subst hj; cases hb : p.testBit j <;> cases b <;> simp_all
    · have : ¬ i = j := fun e => hj e.symm
      simp [hj, this]

theorem put_lt (p i n : Nat) (b : Bool) (hi : i < n) (hp : p < 2 ^ n) : put p i b < 2 ^ n := by
  unfold put; split
  · exact hp
  · exact Nat.xor_lt_two_pow hp (Nat.pow_lt_pow_right (by decide) hi)

theorem add_bit : ∀ i, i < 6 → ∀ p, p < 64 → p.testBit i = false → p + 2 ^ i = put p i true ∧ (p + 2 ^ i) < 64 ∧ (p + 2 ^ i).testBit i = true := by decide
theorem add_bit' : ∀ i, i < 6 → ∀ p, p < 64 → p.testBit i = true → (p + 2 ^ i < 64 → (p + 2 ^ i).testBit i = false) := by decide
theorem sub_bit : ∀ i, i < 6 → ∀ p, p < 64 → p.testBit i = true → 2 ^ i ≤ p ∧ p - 2 ^ i = put p i false ∧ (p - 2 ^ i).testBit i = false := by decide
theorem sub_bit' : ∀ i, i < 6 → ∀ p, p < 64 → p.testBit i = false → (2 ^ i ≤ p → (p - 2 ^ i).testBit i = true) := by decide

theorem fix_testBit (t i p : Nat) (b : Bool) (ht : U64 t) (hi : i < 6) (hp : p < 64) : (fix t i b).testBit p = t.testBit (put p i b) := by
  cases b
  · simp only [fix, fixNo, Bool.false_eq_true, if_false, Nat.testBit_or, Nat.testBit_and, Nat.testBit_mod_two_pow, Nat.testBit_shiftLeft, ncol_testBit i p hp, col_testBit i hi p hp]
    cases hb : p.testBit i
    · have e : put p i false = p := by simp [put, hb]
      rw [e]
      have := sub_bit' i hi p hp hb
      by_cases hle : 2 ^ i ≤ p
      · have hq : p - 2 ^ i < 64 := Nat.lt_of_le_of_lt (Nat.sub_le _ _) hp
        rw [ncol_testBit i _ hq, col_testBit i hi _ hq, this hle]; simp
      · simp [hle]
    · obtain ⟨h1, h2, h3⟩ := sub_bit i hi p hp hb
      have hq : p - 2 ^ i < 64 := Nat.lt_of_le_of_lt (Nat.sub_le _ _) hp
      rw [ncol_testBit i _ hq, col_testBit i hi _ hq, h3, ← h2]; simp [h1, hp]
  · simp only [fix, fixYes, if_true, Nat.testBit_or, Nat.testBit_and, Nat.testBit_shiftRight, col_testBit i hi p hp]
    cases hb : p.testBit i
    · obtain ⟨h1, h2, h3⟩ := add_bit i hi p hp hb
      rw [Nat.add_comm (2 ^ i) p, col_testBit i hi _ h2, h3, ← h1]; simp
    · have e : put p i true = p := by simp [put, hb]
      rw [e, Nat.add_comm (2 ^ i) p]
      have := add_bit' i hi p hp hb
      by_cases hle : p + 2 ^ i < 64
      · rw [col_testBit i hi _ hle, this hle]; simp
      · rw [u64_hi ht (p + 2 ^ i) (Nat.le_of_not_lt hle)]; simp

theorem or_u64 {a b : Nat} (ha : U64 a) (hb : U64 b) : U64 (a ||| b) := Nat.or_lt_two_pow ha hb
theorem and_u64 {a b : Nat} (ha : U64 a) : U64 (a &&& b) := Nat.lt_of_le_of_lt Nat.and_le_left ha
theorem and_u64' {a b : Nat} (hb : U64 b) : U64 (a &&& b) := Nat.lt_of_le_of_lt Nat.and_le_right hb
theorem shr_u64 {a k : Nat} (ha : U64 a) : U64 (a >>> k) := Nat.lt_of_le_of_lt (Nat.shiftRight_le _ _) ha
theorem mod_u64 (a : Nat) : U64 (a % 2 ^ 64) := Nat.mod_lt _ (by decide)
theorem fix_u64 (t i : Nat) (b : Bool) (ht : U64 t) : U64 (fix t i b) := by
  cases b
  · exact or_u64 (and_u64 ht) (mod_u64 _)
  · exact or_u64 (and_u64 ht) (shr_u64 (and_u64 ht))

/-- What code says of a and b. -/
def joinT (c a b f : Nat) : Nat :=
  (((if c.testBit 0 then f &&& (2 ^ 64 - 1 - (a ||| b)) else 0) ||| (if c.testBit 1 then b &&& (2 ^ 64 - 1 - a) else 0)) |||
    (if c.testBit 2 then a &&& (2 ^ 64 - 1 - b) else 0)) ||| (if c.testBit 3 then a &&& b else 0)
theorem not_testBit (x p : Nat) (h : U64 x) : (2 ^ 64 - 1 - x).testBit p = (decide (p < 64) && !x.testBit p) := by
  have e : 2 ^ 64 - 1 - x = 2 ^ 64 - (x + 1) := by omega
  rw [e, Nat.testBit_two_pow_sub_succ h]
def pick16 (c : Nat) (x y : Bool) : Bool := c.testBit (2 * x.toNat + y.toNat)
theorem joinT_testBit (c a b n p : Nat) (ha : U64 a) (hb : U64 b) (hn : n ≤ 6) (hp : p < 2 ^ n) :
    (joinT c a b (full n)).testBit p = pick16 c (a.testBit p) (b.testBit p) := by
  have h6 := two_pow_le n hn
  have hp6 : p < 64 := by omega
  unfold joinT pick16
  simp only [Nat.testBit_or]
  cases h0 : c.testBit 0 <;> cases h1 : c.testBit 1 <;> cases h2 : c.testBit 2 <;> cases h3 : c.testBit 3 <;>
    simp [Nat.testBit_and, Nat.testBit_or, not_testBit _ _ ha, not_testBit _ _ hb, not_testBit _ _ (or_u64 ha hb), full_testBit, hp, hp6] <;>
    cases a.testBit p <;> cases b.testBit p <;> simp [h0, h1, h2, h3]
theorem joinT_hi (c a b n p : Nat) (hp : 2 ^ n ≤ p) (ha : a.testBit p = false) (hb : b.testBit p = false) :
    (joinT c a b (full n)).testBit p = false := by
  unfold joinT
  simp only [Nat.testBit_or]
  cases h0 : c.testBit 0 <;> cases h1 : c.testBit 1 <;> cases h2 : c.testBit 2 <;> cases h3 : c.testBit 3 <;>
    simp [Nat.testBit_and, full_testBit, ha, hb] <;> omega

/-- A table of n variables. -/
def Tab (n t : Nat) : Prop := t < 2 ^ 2 ^ n
theorem Tab.u64 {n t : Nat} (hn : n ≤ 6) (h : Tab n t) : U64 t :=
  Nat.lt_of_lt_of_le h (Nat.pow_le_pow_right (by decide) (two_pow_le n hn))
theorem Tab.hi {n t : Nat} (h : Tab n t) (p : Nat) (hp : 2 ^ n ≤ p) : t.testBit p = false :=
  Nat.testBit_lt_two_pow (Nat.lt_of_lt_of_le h (Nat.pow_le_pow_right (by decide) hp))
theorem Tab.of_hi {n t : Nat} (h : ∀ p, 2 ^ n ≤ p → t.testBit p = false) : Tab n t :=
  Nat.lt_pow_two_of_testBit t h
theorem Tab.ext {n t u : Nat} (ht : Tab n t) (hu : Tab n u) (h : ∀ p, p < 2 ^ n → t.testBit p = u.testBit p) : t = u := by
  apply Nat.eq_of_testBit_eq; intro p
  by_cases hp : p < 2 ^ n
  · exact h p hp
  · rw [ht.hi p (by omega), hu.hi p (by omega)]
theorem joinT_tab (c a b n : Nat) (ha : Tab n a) (hb : Tab n b) : Tab n (joinT c a b (full n)) :=
  Tab.of_hi fun p hp => joinT_hi c a b n p hp (ha.hi p hp) (hb.hi p hp)
theorem full_tab (n : Nat) : Tab n (full n) := by
  have : 0 < (2 : Nat) ^ 2 ^ n := Nat.two_pow_pos _
  unfold Tab full; omega

/-- At how many of the first k places a table says yes. -/
def cnt (t : Nat) : Nat → Nat
  | 0 => 0
  | k + 1 => cnt t k + if t.testBit k then 1 else 0
theorem cnt_le (t k : Nat) : cnt t k ≤ k := by
  induction k with
  | zero => exact Nat.le_refl _
  | succ k ih => simp only [cnt]; split <;> omega
theorem cnt_high (t k j : Nat) (h : ∀ p, k ≤ p → t.testBit p = false) : cnt t (k + j) = cnt t k := by
  induction j with
  | zero => rfl
  | succ j ih => rw [← Nat.add_assoc]; simp only [cnt]; rw [h (k + j) (by omega), ih]; simp
theorem high_of_shr {t k : Nat} (h : t >>> k = 0) (p : Nat) (hp : k ≤ p) : t.testBit p = false := by
  have := Nat.testBit_shiftRight (x := t) (i := k) (j := p - k)
  rw [h, show k + (p - k) = p from by omega] at this
  rw [← this]; simp
theorem cnt_end {t k : Nat} (h : t >>> k = 0) (hk : k ≤ 64) : cnt t k = cnt t 64 := by
  have := cnt_high t k (64 - k) (high_of_shr h)
  rw [← this, show k + (64 - k) = 64 from by omega]
theorem shr_nz {t k : Nat} (ht : U64 t) (h : t >>> k ≠ 0) : k < 64 := by
  by_cases hk : k < 64
  · exact hk
  · exfalso; apply h
    rw [Nat.shiftRight_eq_div_pow]
    exact Nat.div_eq_of_lt (Nat.lt_of_lt_of_le ht (Nat.pow_le_pow_right (by decide) (by omega)))
theorem shr_succ (t k : Nat) : t >>> k >>> 1 = t >>> (k + 1) := by rw [← Nat.shiftRight_add]
theorem shr_testBit0 (t k : Nat) : (t >>> k).testBit 0 = t.testBit k := by rw [Nat.testBit_shiftRight]; rfl
theorem shr_lt {r : Nat} (h : r ≠ 0) : r >>> 1 < r := by rw [Nat.shiftRight_eq_div_pow]; omega
theorem testBit0_and (r : Nat) : r &&& 1 = if r.testBit 0 then 1 else 0 := by
  rw [Nat.and_one_is_mod, Nat.testBit_zero]; split <;> simp_all <;> omega
/-- The least place at which a table says yes (of the first k; k if there is none). -/
def least (t : Nat) : Nat → Nat
  | 0 => 0
  | k + 1 => if least t k < k then least t k else if t.testBit k then k else k + 1
theorem least_spec (t k : Nat) : least t k ≤ k ∧ (∀ p, p < least t k → t.testBit p = false) ∧ (least t k < k → t.testBit (least t k) = true) := by
  induction k with
  | zero => simp [least]
  | succ k ih =>
    obtain ⟨h1, h2, h3⟩ := ih
    simp only [least]
    split
    · rename_i h; exact ⟨by omega, h2, fun _ => h3 h⟩
    · rename_i h
      have e : least t k = k := by omega
      rw [e] at h2
      split
      · rename_i hb; exact ⟨by omega, h2, fun _ => hb⟩
      · rename_i hb
        refine ⟨by omega, fun p hp => ?_, fun h => by omega⟩
        by_cases hpk : p = k
        · subst hpk; simpa using hb
        · exact h2 p (by omega)
theorem least_eq {t k l : Nat} (hl : l < k) (h1 : ∀ p, p < l → t.testBit p = false) (h2 : t.testBit l = true) : least t k = l := by
  obtain ⟨a, b, c⟩ := least_spec t k
  by_cases h : least t k < l
  · have := c (by omega); rw [h1 _ h] at this; cases this
  · by_cases h' : l < least t k
    · have := b _ h'; rw [h2] at this; cases this
    · omega
theorem nz_bit {t : Nat} (ht : U64 t) (h : t ≠ 0) : ∃ p, p < 64 ∧ t.testBit p = true := by
  obtain ⟨p, hp⟩ := Nat.exists_testBit_of_ne_zero h
  refine ⟨p, ?_, hp⟩
  by_cases h : p < 64
  · exact h
  · rw [u64_hi ht p (by omega)] at hp; cases hp
end Cho
