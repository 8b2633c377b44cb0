/-
  Own work: the plain mathematics of tables of up to six variables: numbers of 64 bits, their bits, a variable fixed, two tables joined.
-/
namespace Cho

/-- A number of 64 bits. -/
def U64 (t : Nat) : Prop := t < 2 ^ 64
theorem U64.lt {t : Nat} (h : U64 t) : t < 18446744073709551616 := h
theorem U64.mk {t : Nat} (h : t < 18446744073709551616) : U64 t := h

def full (n : Nat) : Nat := 2 ^ 2 ^ n - 1
def col (i : Nat) : Nat := [12297829382473034410, 14757395258967641292, 17361641481138401520, 18374966859414961920, 18446462603027742720, 18446744069414584320].getD i 0
def fixYes (t i : Nat) : Nat := (t &&& col i) ||| ((t &&& col i) >>> 2 ^ i)
def fixNo (t i : Nat) : Nat := (t &&& (2 ^ 64 - 1 - col i)) ||| ((t &&& (2 ^ 64 - 1 - col i)) <<< 2 ^ i) % 2 ^ 64
def fix (t i : Nat) (to : Bool) : Nat := if to then fixYes t i else fixNo t i

theorem two_pow_le (n : Nat) (h : n ≤ 6) : 2 ^ n ≤ 64 := by
  have : (2 : Nat) ^ n ≤ 2 ^ 6 := Nat.pow_le_pow_right (by decide) h
  omega
theorem full_u64 (n : Nat) (h : n ≤ 6) : U64 (full n) := by
  have h2 := two_pow_le n h
  have : (2 : Nat) ^ 2 ^ n ≤ 2 ^ 64 := Nat.pow_le_pow_right (by decide) h2
  have : 0 < (2 : Nat) ^ 2 ^ n := Nat.two_pow_pos _
  unfold U64 full; omega
theorem col_u64 (i : Nat) : U64 (col i) := by
  unfold U64 col
  match i with
  | 0 => decide
  | 1 => decide
  | 2 => decide
  | 3 => decide
  | 4 => decide
  | 5 => decide
  | n + 6 => simp
theorem full_testBit (n p : Nat) : (full n).testBit p = decide (p < 2 ^ n) := by
  unfold full; exact Nat.testBit_two_pow_sub_one _ _
theorem full_succ (k : Nat) (h : k < 6) : full k ||| (full k <<< 2 ^ k) % 2 ^ 64 = full (k + 1) := by
  match k, h with
  | 0, _ => decide
  | 1, _ => decide
  | 2, _ => decide
  | 3, _ => decide
  | 4, _ => decide
  | 5, _ => decide
theorem u64_hi {t : Nat} (h : U64 t) (p : Nat) (hp : 64 ≤ p) : t.testBit p = false :=
  Nat.testBit_lt_two_pow (Nat.lt_of_lt_of_le h (Nat.pow_le_pow_right (by decide) hp))
theorem col_testBit : ∀ i, i < 6 → ∀ p, p < 64 → (col i).testBit p = p.testBit i := by decide
theorem ncol_testBit (i p : Nat) (hp : p < 64) : (2 ^ 64 - 1 - col i).testBit p = !(col i).testBit p := by
  have h := col_u64 i
  have e : 2 ^ 64 - 1 - col i = 2 ^ 64 - (col i + 1) := by omega
  rw [e, Nat.testBit_two_pow_sub_succ h]; simp [hp]

/-- The place p with variable i put to b. -/
def put (p i : Nat) (b : Bool) : Nat := if p.testBit i = b then p else p ^^^ 2 ^ i

theorem put_testBit (p i j : Nat) (b : Bool) : (put p i b).testBit j = if j = i then b else p.testBit j := by
  unfold put
  by_cases h : p.testBit i = b
  · rw [if_pos h]; by_cases hj : j = i
    · subst hj; simp [h]
    · simp [hj]
  · rw [if_neg h, Nat.testBit_xor, Nat.testBit_two_pow]
    by_cases hj : j = i
    · subst hj; cases hb : p.testBit j <;> cases b <;> simp_all
    · have : ¬ i = j := fun e => hj e.symm
      simp [hj, this]

theorem put_lt (p i n : Nat) (b : Bool) (hi : i < n) (hp : p < 2 ^ n) : put p i b < 2 ^ n := by
  unfold put; split
  · exact hp
  · exact Nat.xor_lt_two_pow hp (Nat.pow_lt_pow_right (by decide) hi)

theorem add_bit : ∀ i, i < 6 → ∀ p, p < 64 → p.testBit i = false → p + 2 ^ i = put p i true ∧ (p + 2 ^ i) < 64 ∧ (p + 2 ^ i).testBit i = true := by decide
theorem add_bit' : ∀ i, i < 6 → ∀ p, p < 64 → p.testBit i = true → (p + 2 ^ i < 64 → (p + 2 ^ i).testBit i = false) := by decide
theorem sub_bit : ∀ i, i < 6 → ∀ p, p < 64 → p.testBit i = true → 2 ^ i ≤ p ∧ p - 2 ^ i = put p i false ∧ (p - 2 ^ i).testBit i = false := by decide
theorem sub_bit' : ∀ i, i < 6 → ∀ p, p < 64 → p.testBit i = false → (2 ^ i ≤ p → (p - 2 ^ i).testBit i = true) := by decide

theorem fix_testBit (t i p : Nat) (b : Bool) (ht : U64 t) (hi : i < 6) (hp : p < 64) : (fix t i b).testBit p = t.testBit (put p i b) := by
  cases b
  · simp only [fix, fixNo, Bool.false_eq_true, if_false, Nat.testBit_or, Nat.testBit_and, Nat.testBit_mod_two_pow, Nat.testBit_shiftLeft, ncol_testBit i p hp, col_testBit i hi p hp]
    cases hb : p.testBit i
    · have e : put p i false = p := by simp [put, hb]
      rw [e]
      have := sub_bit' i hi p hp hb
      by_cases hle : 2 ^ i ≤ p
      · have hq : p - 2 ^ i < 64 := Nat.lt_of_le_of_lt (Nat.sub_le _ _) hp
        rw [ncol_testBit i _ hq, col_testBit i hi _ hq, this hle]; simp
      · simp [hle]
    · obtain ⟨h1, h2, h3⟩ := sub_bit i hi p hp hb
      have hq : p - 2 ^ i < 64 := Nat.lt_of_le_of_lt (Nat.sub_le _ _) hp
      rw [ncol_testBit i _ hq, col_testBit i hi _ hq, h3, ← h2]; simp [h1, hp]
  · simp only [fix, fixYes, if_true, Nat.testBit_or, Nat.testBit_and, Nat.testBit_shiftRight, col_testBit i hi p hp]
    cases hb : p.testBit i
    · obtain ⟨h1, h2, h3⟩ := add_bit i hi p hp hb
      rw [Nat.add_comm (2 ^ i) p, col_testBit i hi _ h2, h3, ← h1]; simp
    · have e : put p i true = p := by simp [put, hb]
      rw [e, Nat.add_comm (2 ^ i) p]
      have := add_bit' i hi p hp hb
      by_cases hle : p + 2 ^ i < 64
      · rw [col_testBit i hi _ hle, this hle]; simp
      · rw [u64_hi ht (p + 2 ^ i) (Nat.le_of_not_lt hle)]; simp

theorem or_u64 {a b : Nat} (ha : U64 a) (hb : U64 b) : U64 (a ||| b) := Nat.or_lt_two_pow ha hb
theorem and_u64 {a b : Nat} (ha : U64 a) : U64 (a &&& b) := Nat.lt_of_le_of_lt Nat.and_le_left ha
theorem and_u64' {a b : Nat} (hb : U64 b) : U64 (a &&& b) := Nat.lt_of_le_of_lt Nat.and_le_right hb
theorem shr_u64 {a k : Nat} (ha : U64 a) : U64 (a >>> k) := Nat.lt_of_le_of_lt (Nat.shiftRight_le _ _) ha
theorem mod_u64 (a : Nat) : U64 (a % 2 ^ 64) := Nat.mod_lt _ (by decide)
theorem fix_u64 (t i : Nat) (b : Bool) (ht : U64 t) : U64 (fix t i b) := by
  cases b
  · exact or_u64 (and_u64 ht) (mod_u64 _)
  · exact or_u64 (and_u64 ht) (shr_u64 (and_u64 ht))

/-- What code says of a and b. -/
def joinT (c a b f : Nat) : Nat :=
  (((if c.testBit 0 then f &&& (2 ^ 64 - 1 - (a ||| b)) else 0) ||| (if c.testBit 1 then b &&& (2 ^ 64 - 1 - a) else 0)) |||
    (if c.testBit 2 then a &&& (2 ^ 64 - 1 - b) else 0)) ||| (if c.testBit 3 then a &&& b else 0)
theorem not_testBit (x p : Nat) (h : U64 x) : (2 ^ 64 - 1 - x).testBit p = (decide (p < 64) && !x.testBit p) := by
  have e : 2 ^ 64 - 1 - x = 2 ^ 64 - (x + 1) := by omega
  rw [e, Nat.testBit_two_pow_sub_succ h]
def pick16 (c : Nat) (x y : Bool) : Bool := c.testBit (2 * x.toNat + y.toNat)
theorem joinT_testBit (c a b n p : Nat) (ha : U64 a) (hb : U64 b) (hn : n ≤ 6) (hp : p < 2 ^ n) :
    (joinT c a b (full n)).testBit p = pick16 c (a.testBit p) (b.testBit p) := by
  have h6 := two_pow_le n hn
  have hp6 : p < 64 := by omega
  unfold joinT pick16
  simp only [Nat.testBit_or]
  cases h0 : c.testBit 0 <;> cases h1 : c.testBit 1 <;> cases h2 : c.testBit 2 <;> cases h3 : c.testBit 3 <;>
    simp [Nat.testBit_and, Nat.testBit_or, not_testBit _ _ ha, not_testBit _ _ hb, not_testBit _ _ (or_u64 ha hb), full_testBit, hp, hp6] <;>
    cases a.testBit p <;> cases b.testBit p <;> simp [h0, h1, h2, h3]
theorem joinT_hi (c a b n p : Nat) (hp : 2 ^ n ≤ p) (ha : a.testBit p = false) (hb : b.testBit p = false) :
    (joinT c a b (full n)).testBit p = false := by
  unfold joinT
  simp only [Nat.testBit_or]
  cases h0 : c.testBit 0 <;> cases h1 : c.testBit 1 <;> cases h2 : c.testBit 2 <;> cases h3 : c.testBit 3 <;>
    simp [Nat.testBit_and, full_testBit, ha, hb] <;> omega

/-- A table of n variables. -/
def Tab (n t : Nat) : Prop := t < 2 ^ 2 ^ n
theorem Tab.u64 {n t : Nat} (hn : n ≤ 6) (h : Tab n t) : U64 t :=
  Nat.lt_of_lt_of_le h (Nat.pow_le_pow_right (by decide) (two_pow_le n hn))
theorem Tab.hi {n t : Nat} (h : Tab n t) (p : Nat) (hp : 2 ^ n ≤ p) : t.testBit p = false :=
  Nat.testBit_lt_two_pow (Nat.lt_of_lt_of_le h (Nat.pow_le_pow_right (by decide) hp))
theorem Tab.of_hi {n t : Nat} (h : ∀ p, 2 ^ n ≤ p → t.testBit p = false) : Tab n t :=
  Nat.lt_pow_two_of_testBit t h
theorem Tab.ext {n t u : Nat} (ht : Tab n t) (hu : Tab n u) (h : ∀ p, p < 2 ^ n → t.testBit p = u.testBit p) : t = u := by
  apply Nat.eq_of_testBit_eq; intro p
  by_cases hp : p < 2 ^ n
  · exact h p hp
  · rw [ht.hi p (by omega), hu.hi p (by omega)]
theorem joinT_tab (c a b n : Nat) (ha : Tab n a) (hb : Tab n b) : Tab n (joinT c a b (full n)) :=
  Tab.of_hi fun p hp => joinT_hi c a b n p hp (ha.hi p hp) (hb.hi p hp)
theorem full_tab (n : Nat) : Tab n (full n) := by
  have : 0 < (2 : Nat) ^ 2 ^ n := Nat.two_pow_pos _
  unfold Tab full; omega

/-- At how many of the first k places a table says yes. -/
def cnt (t : Nat) : Nat → Nat
  | 0 => 0
  | k + 1 => cnt t k + if t.testBit k then 1 else 0
theorem cnt_le (t k : Nat) : cnt t k ≤ k := by
  induction k with
  | zero => exact Nat.le_refl _
  | succ k ih => simp only [cnt]; split <;> omega
theorem cnt_high (t k j : Nat) (h : ∀ p, k ≤ p → t.testBit p = false) : cnt t (k + j) = cnt t k := by
  induction j with
  | zero => rfl
  | succ j ih => rw [← Nat.add_assoc]; simp only [cnt]; rw [h (k + j) (by omega), ih]; simp
theorem high_of_shr {t k : Nat} (h : t >>> k = 0) (p : Nat) (hp : k ≤ p) : t.testBit p = false := by
  have := Nat.testBit_shiftRight (x := t) (i := k) (j := p - k)
  rw [h, show k + (p - k) = p from by omega] at this
  rw [← this]; simp
theorem cnt_end {t k : Nat} (h : t >>> k = 0) (hk : k ≤ 64) : cnt t k = cnt t 64 := by
  have := cnt_high t k (64 - k) (high_of_shr h)
  rw [← this, show k + (64 - k) = 64 from by omega]
theorem shr_nz {t k : Nat} (ht : U64 t) (h : t >>> k ≠ 0) : k < 64 := by
  by_cases hk : k < 64
  · exact hk
  · exfalso; apply h
    rw [Nat.shiftRight_eq_div_pow]
    exact Nat.div_eq_of_lt (Nat.lt_of_lt_of_le ht (Nat.pow_le_pow_right (by decide) (by omega)))
theorem shr_succ (t k : Nat) : t >>> k >>> 1 = t >>> (k + 1) := by rw [← Nat.shiftRight_add]
theorem shr_testBit0 (t k : Nat) : (t >>> k).testBit 0 = t.testBit k := by rw [Nat.testBit_shiftRight]; rfl
theorem shr_lt {r : Nat} (h : r ≠ 0) : r >>> 1 < r := by rw [Nat.shiftRight_eq_div_pow]; omega
theorem testBit0_and (r : Nat) : r &&& 1 = if r.testBit 0 then 1 else 0 := by
  rw [Nat.and_one_is_mod, Nat.testBit_zero]; split <;> simp_all <;> omega
/-- The least place at which a table says yes (of the first k; k if there is none). -/
def least (t : Nat) : Nat → Nat
  | 0 => 0
  | k + 1 => if least t k < k then least t k else if t.testBit k then k else k + 1
theorem least_spec (t k : Nat) : least t k ≤ k ∧ (∀ p, p < least t k → t.testBit p = false) ∧ (least t k < k → t.testBit (least t k) = true) := by
  induction k with
  | zero => simp [least]
  | succ k ih =>
    obtain ⟨h1, h2, h3⟩ := ih
    simp only [least]
    split
    · rename_i h; exact ⟨by omega, h2, fun _ => h3 h⟩
    · rename_i h
      have e : least t k = k := by omega
      rw [e] at h2
      split
      · rename_i hb; exact ⟨by omega, h2, fun _ => hb⟩
      · rename_i hb
        refine ⟨by omega, fun p hp => ?_, fun h => by omega⟩
        by_cases hpk : p = k
        · subst hpk; simpa using hb
        · exact h2 p (by omega)
theorem least_eq {t k l : Nat} (hl : l < k) (h1 : ∀ p, p < l → t.testBit p = false) (h2 : t.testBit l = true) : least t k = l := by
  obtain ⟨a, b, c⟩ := least_spec t k
  by_cases h : least t k < l
  · have := c (by omega); rw [h1 _ h] at this; cases this
  · by_cases h' : l < least t k
    · have := b _ h'; rw [h2] at this; cases this
    · omega
theorem nz_bit {t : Nat} (ht : U64 t) (h : t ≠ 0) : ∃ p, p < 64 ∧ t.testBit p = true := by
  obtain ⟨p, hp⟩ := Nat.exists_testBit_of_ne_zero h
  refine ⟨p, ?_, hp⟩
  by_cases h : p < 64
  · exact h
  · rw [u64_hi ht p (by omega)] at hp; cases hp
end Cho

/-
  Own work: the plain mathematics of shared nodes: lists of nodes, links, what a link says, how a table's nodes are built.
-/
namespace Cho

/-- A node: its variable, where it goes on for no, where for yes. Link 0 is no, 1 is yes, k + 2 is node k. -/
abbrev Nd := Nat × Nat × Nat

def join (ns : List Nd) (n : Nd) : List Nd × Nat :=
  if n.2.1 = n.2.2 then (ns, n.2.1) else (if n ∈ ns then ns else ns ++ [n], ns.idxOf n + 2)

def build : List Nat → Nat → List Nd → List Nd × Nat
  | [], t, ns => (ns, if t.testBit 0 then 1 else 0)
  | v :: vs, t, ns =>
    join (build vs (fix t v true) (build vs (fix t v false) ns).1).1
      (v, (build vs (fix t v false) ns).2, (build vs (fix t v true) (build vs (fix t v false) ns).1).2)

theorem join_len (ns : List Nd) (n : Nd) : ns.length ≤ (join ns n).1.length ∧ (join ns n).1.length ≤ ns.length + 1 := by
  unfold join
  split
  · exact ⟨Nat.le_refl _, Nat.le_succ _⟩
  · split
    · exact ⟨Nat.le_refl _, Nat.le_succ _⟩
    · simp

theorem idxOf_first {l : List Nd} {n : Nd} {k : Nat} (hk : k < l.length) (e : l[k] = n) (h : ∀ j (hj : j < l.length), j < k → l[j] ≠ n) : l.idxOf n = k := by
  induction l generalizing k with
  | nil => simp at hk
  | cons a l ih =>
    cases k with
    | zero => simp at e; simp [e]
    | succ k =>
      have h0 : a ≠ n := by have := h 0 (by simp) (by omega); simpa using this
      rw [List.idxOf_cons]
      have hb : (a == n) = false := by simpa using h0
      rw [hb]
      have := ih (k := k) (by simpa using hk) (by simpa using e) (fun j hj hjk => by have := h (j + 1) (by simpa using hj) (by omega); simpa using this)
      simp [this]
theorem join_found {ns : List Nd} {v no yes k : Nat} (hn : no ≠ yes) (hk : k < ns.length) (e : ns[k] = (v, no, yes)) (h : ∀ j (hj : j < ns.length), j < k → ns[j] ≠ (v, no, yes)) :
    join ns (v, no, yes) = (ns, k + 2) := by
  have hm : (v, no, yes) ∈ ns := by rw [← e]; exact List.getElem_mem hk
  unfold join
  rw [if_neg hn, if_pos hm, idxOf_first hk e h]
theorem join_new {ns : List Nd} {v no yes : Nat} (hn : no ≠ yes) (h : ∀ j (hj : j < ns.length), ns[j] ≠ (v, no, yes)) :
    join ns (v, no, yes) = (ns ++ [(v, no, yes)], ns.length + 2) := by
  have hm : (v, no, yes) ∉ ns := by
    intro hm
    obtain ⟨j, hj, e⟩ := List.getElem_of_mem hm
    exact h j hj e
  unfold join
  rw [if_neg hn, if_neg hm, List.idxOf_eq_length hm]

theorem build_len (vs : List Nat) : ∀ (t : Nat) (ns : List Nd), ns.length ≤ (build vs t ns).1.length ∧ (build vs t ns).1.length + 1 ≤ ns.length + 2 ^ vs.length := by
  induction vs with
  | nil => intro t ns; simp [build]
  | cons v vs ih =>
    intro t ns
    have h1 := ih (fix t v false) ns
    have h2 := ih (fix t v true) (build vs (fix t v false) ns).1
    have h3 := join_len (build vs (fix t v true) (build vs (fix t v false) ns).1).1 (v, (build vs (fix t v false) ns).2, (build vs (fix t v true) (build vs (fix t v false) ns).1).2)
    have e : 2 ^ (v :: vs).length = 2 * 2 ^ vs.length := by rw [List.length_cons, Nat.pow_succ]; omega
    rw [e]
    simp only [build]
    omega

end Cho

/-
  Own work: what a link says at a place, and the nodes that a table's function gets (plain mathematics).
-/
namespace Cho

/-- Links lead to earlier nodes alone. -/
def Wf (ns : List Nd) : Prop := ∀ k (hk : k < ns.length), ns[k].2.1 < k + 2 ∧ ns[k].2.2 < k + 2

def go (ns : List Nd) (l p : Nat) : Nat :=
  match ns[l - 2]? with
  | none => 0
  | some n => if p.testBit n.1 then n.2.2 else n.2.1
def evF (ns : List Nd) : Nat → Nat → Nat → Bool
  | 0, l, _ => l == 1
  | f + 1, l, p => if l < 2 then l == 1 else evF ns f (go ns l p) p
/-- What link l says at place p. -/
def ev (ns : List Nd) (l p : Nat) : Bool := evF ns l l p

theorem go_lt {ns : List Nd} (h : Wf ns) {l p : Nat} (h2 : 2 ≤ l) (hl : l < ns.length + 2) : go ns l p < l := by
  unfold go
  have hk : l - 2 < ns.length := by omega
  rw [List.getElem?_eq_getElem hk]
  have := h (l - 2) hk
  simp only
  split <;> omega
theorem evF_fuel {ns : List Nd} (h : Wf ns) (p : Nat) : ∀ (l f : Nat), l < ns.length + 2 → l ≤ f → evF ns f l p = evF ns l l p := by
  intro l
  induction l using Nat.strongRecOn with
  | ind l ih =>
    intro f hl hf
    by_cases h2 : l < 2
    · cases f with
      | zero => obtain rfl : l = 0 := by omega
                rfl
      | succ f =>
        cases l with
        | zero => simp [evF]
        | succ l => simp [evF, h2]
    · obtain ⟨f, rfl⟩ : ∃ g, f = g + 1 := ⟨f - 1, by omega⟩
      obtain ⟨l', rfl⟩ : ∃ g, l = g + 1 := ⟨l - 1, by omega⟩
      have hg := go_lt h (p := p) (by omega) hl
      simp only [evF, if_neg h2]
      rw [ih _ hg f (by omega) (by omega), ih _ hg l' (by omega) (by omega)]
theorem ev_0 (ns : List Nd) (p : Nat) : ev ns 0 p = false := rfl
theorem ev_1 (ns : List Nd) (p : Nat) : ev ns 1 p = true := rfl
theorem ev_small (ns : List Nd) (l p : Nat) (h : l < 2) : ev ns l p = (l == 1) := by
  match l, h with
  | 0, _ => rfl
  | 1, _ => rfl
theorem ev_step {ns : List Nd} (h : Wf ns) {l : Nat} (p : Nat) (h2 : 2 ≤ l) (hl : l < ns.length + 2) : ev ns l p = ev ns (go ns l p) p := by
  unfold ev
  obtain ⟨l', rfl⟩ : ∃ g, l = g + 1 := ⟨l - 1, by omega⟩
  have hg := go_lt h (p := p) h2 hl
  conv => lhs; unfold evF
  rw [if_neg (by omega), evF_fuel h p _ l' (by omega) (by omega)]
theorem ev_node {ns : List Nd} (h : Wf ns) {k : Nat} (p : Nat) (hk : k < ns.length) : ev ns (k + 2) p = if p.testBit ns[k].1 then ev ns ns[k].2.2 p else ev ns ns[k].2.1 p := by
  rw [ev_step h p (by omega) (by omega)]
  unfold go
  rw [show k + 2 - 2 = k from by omega, List.getElem?_eq_getElem hk]
  simp only
  split <;> rfl
theorem go_append {ns ms : List Nd} {l p : Nat} (hl : l < ns.length + 2) (h2 : 2 ≤ l) : go (ns ++ ms) l p = go ns l p := by
  unfold go; rw [List.getElem?_append_left (by omega)]
theorem ev_append {ns ms : List Nd} (h : Wf ns) (p : Nat) : ∀ l, l < ns.length + 2 → ev (ns ++ ms) l p = ev ns l p := by
  intro l
  induction l using Nat.strongRecOn with
  | ind l ih =>
    intro hl
    by_cases h2 : l < 2
    · rw [ev_small _ _ _ h2, ev_small _ _ _ h2]
    · have hg := go_lt h (p := p) (by omega) hl
      have e := go_append (ms := ms) (p := p) hl (by omega)
      -- the longer list is well founded as far as l reaches
      unfold ev
      have key : ∀ f l, l < ns.length + 2 → evF (ns ++ ms) f l p = evF ns f l p := by
        intro f
        induction f with
        | zero => intro l _; rfl
        | succ f ihf =>
          intro l hl
          simp only [evF]
          split
          · rfl
          · rename_i h2
            rw [go_append hl (by omega)]
            exact ihf _ (Nat.lt_trans (go_lt h (by omega) hl) hl)
      exact key l l hl
end Cho

/-
  Own work: diagrams that are ordered and reduced: equal functions have equal links; building keeps that and says the table (plain mathematics).
-/
namespace Cho

/-- The level of a link: that of its node's variable; below all levels for no and yes. -/
def top (ord : List Nat) (ns : List Nd) (l : Nat) : Nat := if l < 2 then ord.length else
  match ns[l - 2]? with
  | none => ord.length
  | some n => ord.idxOf n.1

/-- Ordered, reduced, no node twice. -/
structure Red (ord : List Nat) (ns : List Nd) : Prop where
  wf : Wf ns
  nodup : ns.Nodup
  diff : ∀ k (hk : k < ns.length), ns[k].2.1 ≠ ns[k].2.2
  var : ∀ n ∈ ns, n.1 ∈ ord
  low : ∀ k (hk : k < ns.length), ord.idxOf ns[k].1 < top ord ns ns[k].2.1 ∧ ord.idxOf ns[k].1 < top ord ns ns[k].2.2

theorem top_small (ord : List Nat) (ns : List Nd) {l : Nat} (h : l < 2) : top ord ns l = ord.length := if_pos h
theorem top_node (ord : List Nat) (ns : List Nd) {k : Nat} (hk : k < ns.length) : top ord ns (k + 2) = ord.idxOf ns[k].1 := by
  unfold top; rw [if_neg (by omega), show k + 2 - 2 = k from by omega, List.getElem?_eq_getElem hk]
theorem top_append (ord : List Nat) (ns ms : List Nd) {l : Nat} (h : l < ns.length + 2) : top ord (ns ++ ms) l = top ord ns l := by
  unfold top
  split
  · rfl
  · rw [List.getElem?_append_left (by omega)]

theorem Red.nil (ord : List Nat) : Red ord [] := ⟨fun _ h => absurd h (by simp), List.nodup_nil, fun _ h => absurd h (by simp), by simp, fun _ h => absurd h (by simp)⟩

/-- A function hangs on no variable of a level above its link's. -/
theorem ev_indep {ord : List Nat} {ns : List Nd} (h : Red ord ns) (p v : Nat) (b : Bool) : ∀ l, l < ns.length + 2 → ord.idxOf v < top ord ns l → v ∈ ord → ev ns l (put p v b) = ev ns l p := by
  intro l
  induction l using Nat.strongRecOn with
  | ind l ih =>
    intro hl ht hv
    by_cases h2 : l < 2
    · rw [ev_small _ _ _ h2, ev_small _ _ _ h2]
    · obtain ⟨k, rfl⟩ : ∃ k, l = k + 2 := ⟨l - 2, by omega⟩
      have hk : k < ns.length := by omega
      rw [top_node ord ns hk] at ht
      have hw := h.wf k hk
      have hlow := h.low k hk
      have hne : ns[k].1 ≠ v := by intro e; rw [e] at ht; omega
      rw [ev_node h.wf _ hk, ev_node h.wf _ hk, put_testBit, if_neg hne]
      rw [ih _ (by omega) (by omega) (by omega) hv, ih _ (by omega) (by omega) (by omega) hv]

/-- EQUAL FUNCTIONS HAVE EQUAL LINKS. -/
theorem canon {ord : List Nat} {ns : List Nd} (h : Red ord ns) : ∀ m l l', l ≤ m → l' ≤ m → l < ns.length + 2 → l' < ns.length + 2 → (∀ p, ev ns l p = ev ns l' p) → l = l' := by
  intro m
  induction m with
  | zero => intro l l' hm hm' _ _ _; omega
  | succ m ih =>
    intro l l' hm hm' hl hl' he
    -- a node that lies above differs from all that lies below
    have key : ∀ k l' (hk : k < ns.length), l' < ns.length + 2 → k + 2 ≤ m + 1 → (∀ p, ev ns (k + 2) p = ev ns l' p) → ord.idxOf ns[k].1 < top ord ns l' → False := by
      intro k l' hk hl' hm he ht
      have hw := h.wf k hk
      have hlow := h.low k hk
      have hv := h.var ns[k] (List.getElem_mem hk)
      have hd := h.diff k hk
      apply hd
      apply ih _ _ (by omega) (by omega) (by omega) (by omega)
      intro p
      have e0 := he (put p ns[k].1 false)
      have e1 := he (put p ns[k].1 true)
      rw [ev_indep h p _ _ l' hl' ht hv, ev_node h.wf _ hk, put_testBit, if_pos rfl] at e0
      rw [ev_indep h p _ _ l' hl' ht hv, ev_node h.wf _ hk, put_testBit, if_pos rfl] at e1
      simp only [Bool.false_eq_true, if_false] at e0
      simp only [if_true] at e1
      rw [ev_indep h p _ _ _ (by omega) hlow.1 hv] at e0
      rw [ev_indep h p _ _ _ (by omega) hlow.2 hv] at e1
      rw [e0, e1]
    by_cases h2 : l < 2
    · by_cases h2' : l' < 2
      · have := he 0
        rw [ev_small _ _ _ h2, ev_small _ _ _ h2'] at this
        match l, l', h2, h2' with
        | 0, 0, _, _ => rfl
        | 1, 1, _, _ => rfl
        | 0, 1, _, _ => simp at this
        | 1, 0, _, _ => simp at this
      · obtain ⟨k, rfl⟩ : ∃ k, l' = k + 2 := ⟨l' - 2, by omega⟩
        have hk : k < ns.length := by omega
        exact (key k l hk hl (by omega) (fun p => (he p).symm) (by rw [top_small _ _ h2]; exact List.idxOf_lt_length_of_mem (h.var _ (List.getElem_mem hk)))).elim
    · obtain ⟨k, rfl⟩ : ∃ k, l = k + 2 := ⟨l - 2, by omega⟩
      have hk : k < ns.length := by omega
      by_cases h2' : l' < 2
      · exact (key k l' hk hl' (by omega) he (by rw [top_small _ _ h2']; exact List.idxOf_lt_length_of_mem (h.var _ (List.getElem_mem hk)))).elim
      · obtain ⟨k', rfl⟩ : ∃ k, l' = k + 2 := ⟨l' - 2, by omega⟩
        have hk' : k' < ns.length := by omega
        by_cases c1 : ord.idxOf ns[k].1 < ord.idxOf ns[k'].1
        · exact (key k (k' + 2) hk hl' (by omega) he (by rw [top_node _ _ hk']; exact c1)).elim
        · by_cases c2 : ord.idxOf ns[k'].1 < ord.idxOf ns[k].1
          · exact (key k' (k + 2) hk' hl (by omega) (fun p => (he p).symm) (by rw [top_node _ _ hk]; exact c2)).elim
          · have hv := h.var ns[k] (List.getElem_mem hk)
            have hv' := h.var ns[k'] (List.getElem_mem hk')
            have ei : ord.idxOf ns[k].1 = ord.idxOf ns[k'].1 := by omega
            have ev1 : ns[k].1 = ns[k'].1 := by
              have a := List.getElem_idxOf (List.idxOf_lt_length_of_mem hv)
              have b := List.getElem_idxOf (List.idxOf_lt_length_of_mem hv')
              rw [← a, ← b]; simp only [ei]
            have hw := h.wf k hk
            have hw' := h.wf k' hk'
            have hlow := h.low k hk
            have hlow' := h.low k' hk'
            have part : ∀ (b : Bool) (p : Nat), (if b then ev ns ns[k].2.2 p else ev ns ns[k].2.1 p) = (if b then ev ns ns[k'].2.2 p else ev ns ns[k'].2.1 p) := by
              intro b p
              have e := he (put p ns[k].1 b)
              rw [ev_node h.wf _ hk, ev_node h.wf _ hk', ← ev1, put_testBit, if_pos rfl] at e
              rw [ev_indep h p _ _ _ (by omega) hlow.1 hv, ev_indep h p _ _ _ (by omega) hlow.2 hv] at e
              rw [ev_indep h p _ _ ns[k'].2.1 (by omega) (by rw [ev1]; exact hlow'.1) hv, ev_indep h p _ _ ns[k'].2.2 (by omega) (by rw [ev1]; exact hlow'.2) hv] at e
              exact e
            have eno : ns[k].2.1 = ns[k'].2.1 := ih _ _ (by omega) (by omega) (by omega) (by omega) fun p => by simpa using part false p
            have eyes : ns[k].2.2 = ns[k'].2.2 := ih _ _ (by omega) (by omega) (by omega) (by omega) fun p => by simpa using part true p
            have en : ns[k] = ns[k'] := Prod.ext ev1 (Prod.ext eno eyes)
            have := (List.getElem_inj h.nodup).1 en
            omega
end Cho

/-
  Own work: building a table's nodes keeps a diagram ordered and reduced, and its link says the table (plain mathematics).
-/
namespace Cho

/-- What 'join' and 'build' promise: nodes are added behind, the diagram stays reduced, the link is there and at this level or below. -/
structure Grew (ord : List Nat) (ns : List Nd) (lev : Nat) (r : List Nd × Nat) : Prop where
  pre : ∃ ms, r.1 = ns ++ ms
  red : Red ord r.1
  lt : r.2 < r.1.length + 2
  lev : lev ≤ top ord r.1 r.2

theorem join_grew {ord : List Nat} {ns : List Nd} (h : Red ord ns) {v no yes : Nat} (hv : v ∈ ord) (hno : no < ns.length + 2) (hyes : yes < ns.length + 2)
    (ln : ord.idxOf v < top ord ns no) (ly : ord.idxOf v < top ord ns yes) :
    Grew ord ns (ord.idxOf v) (join ns (v, no, yes)) ∧ ∀ p, ev (join ns (v, no, yes)).1 (join ns (v, no, yes)).2 p = if p.testBit v then ev ns yes p else ev ns no p := by
  by_cases e : no = yes
  · subst e
    have ej : join ns (v, no, no) = (ns, no) := by simp [join]
    rw [ej]
    exact ⟨⟨⟨[], by simp⟩, h, hno, by simp only; omega⟩, fun p => by simp⟩
  · by_cases hm : (v, no, yes) ∈ ns
    · have ej : join ns (v, no, yes) = (ns, ns.idxOf (v, no, yes) + 2) := by simp [join, e, hm]
      have hi := List.idxOf_lt_length_of_mem hm
      have hg : ns[ns.idxOf (v, no, yes)] = (v, no, yes) := List.getElem_idxOf hi
      rw [ej]
      refine ⟨⟨⟨[], by simp⟩, h, by simp only; omega, ?_⟩, fun p => ?_⟩
      · simp only; rw [top_node ord ns hi, hg]; exact Nat.le_refl _
      · simp only; rw [ev_node h.wf p hi, hg]
    · have ej : join ns (v, no, yes) = (ns ++ [(v, no, yes)], ns.length + 2) := by simp [join, e, hm, List.idxOf_eq_length hm]
      rw [ej]
      have gl : ∀ k (hk : k < ns.length), (ns ++ [(v, no, yes)])[k]'(by simp; omega) = ns[k] := fun k hk => List.getElem_append_left hk
      have gr : (ns ++ [(v, no, yes)])[ns.length]'(by simp) = (v, no, yes) := by simp
      have wf : Wf (ns ++ [(v, no, yes)]) := by
        intro k hk
        by_cases hkl : k < ns.length
        · rw [gl k hkl]; exact h.wf k hkl
        · obtain rfl : k = ns.length := by simp at hk; omega
          rw [gr]; exact ⟨hno, hyes⟩
      have red : Red ord (ns ++ [(v, no, yes)]) := by
        refine ⟨wf, ?_, ?_, ?_, ?_⟩
        · rw [List.nodup_append]
          exact ⟨h.nodup, by simp, fun a ha b hb => by simp at hb; subst hb; intro e; exact hm (e ▸ ha)⟩
        · intro k hk
          by_cases hkl : k < ns.length
          · rw [gl k hkl]; exact h.diff k hkl
          · obtain rfl : k = ns.length := by simp at hk; omega
            rw [gr]; exact e
        · intro n hn
          rcases List.mem_append.1 hn with hn | hn
          · exact h.var n hn
          · simp at hn; subst hn; exact hv
        · intro k hk
          by_cases hkl : k < ns.length
          · have hw := h.wf k hkl
            rw [gl k hkl, top_append _ _ _ (by omega), top_append _ _ _ (by omega)]; exact h.low k hkl
          · obtain rfl : k = ns.length := by simp at hk; omega
            rw [gr, top_append _ _ _ hno, top_append _ _ _ hyes]; exact ⟨ln, ly⟩
      refine ⟨⟨⟨_, rfl⟩, red, by simp, ?_⟩, fun p => ?_⟩
      · simp only; rw [top_node ord (ns ++ [(v, no, yes)]) (k := ns.length) (by simp), gr]; exact Nat.le_refl _
      · simp only
        rw [ev_node wf p (k := ns.length) (by simp), gr]
        simp only
        rw [ev_append h.wf p no hno, ev_append h.wf p yes hyes]

/-- The place that has p's bits at these variables, and no elsewhere. -/
def mask : List Nat → Nat → Nat
  | [], _ => 0
  | v :: vs, p => put (mask vs p) v (p.testBit v)
theorem mask_testBit (vs : List Nat) (p i : Nat) : (mask vs p).testBit i = (decide (i ∈ vs) && p.testBit i) := by
  induction vs with
  | nil => simp [mask]
  | cons v vs ih =>
    simp only [mask]
    rw [put_testBit, ih]
    by_cases e : i = v
    · subst e; simp
    · simp [e]
theorem mask_lt (vs : List Nat) (p : Nat) (n : Nat) (h : ∀ v ∈ vs, v < n) : mask vs p < 2 ^ n := by
  apply Nat.lt_pow_two_of_testBit
  intro i hi
  rw [mask_testBit]
  have : i ∉ vs := fun hm => by have := h i hm; omega
  simp [this]

theorem build_grew {ord : List Nat} (h6 : ∀ v ∈ ord, v < 6) (nd : ord.Nodup) : ∀ (vs : List Nat) (lev : Nat), ord.drop lev = vs → lev ≤ ord.length → ∀ (t : Nat) (ns : List Nd), U64 t → Red ord ns →
    Grew ord ns lev (build vs t ns) ∧ ∀ p, ev (build vs t ns).1 (build vs t ns).2 p = t.testBit (mask vs p) := by
  intro vs
  induction vs with
  | nil =>
    intro lev _ hle t ns _ h
    simp only [build, mask]
    refine ⟨⟨⟨[], by simp⟩, h, by simp only; split <;> omega, ?_⟩, fun p => ?_⟩
    · simp only
      rw [top_small _ _ (by split <;> omega)]
      exact hle
    · rw [ev_small _ _ _ (by split <;> omega)]
      cases t.testBit 0 <;> rfl
  | cons v vs ih =>
    intro lev hd _ t ns ht h
    have hlt : lev < ord.length := by have := congrArg List.length hd; simp at this; omega
    have hcons := hd.symm.trans (List.drop_eq_getElem_cons hlt)
    have hv : ord[lev] = v := (List.cons.inj hcons).1.symm
    have hd' : ord.drop (lev + 1) = vs := (List.cons.inj hcons).2.symm
    have hvm : v ∈ ord := by rw [← hv]; exact List.getElem_mem hlt
    have hidx : ord.idxOf v = lev := by
      have hi := List.idxOf_lt_length_of_mem hvm
      have hg : ord[ord.idxOf v] = ord[lev] := by rw [List.getElem_idxOf hi, hv]
      exact (List.getElem_inj nd).1 hg
    have hv6 := h6 v hvm
    have hvs : ∀ x ∈ vs, x < 6 := fun x hx => h6 x (by rw [← hd'] at hx; exact List.mem_of_mem_drop hx)
    obtain ⟨g1, e1⟩ := ih (lev + 1) hd' hlt (fix t v false) ns (fix_u64 t v false ht) h
    obtain ⟨g2, e2⟩ := ih (lev + 1) hd' hlt (fix t v true) (build vs (fix t v false) ns).1 (fix_u64 t v true ht) g1.red
    simp only [build]
    generalize build vs (fix t v false) ns = r1 at *
    generalize build vs (fix t v true) r1.1 = r2 at *
    obtain ⟨ms2, hp2⟩ := g2.pre
    have l1 : r1.2 < r2.1.length + 2 := by have := g1.lt; rw [hp2]; simp; omega
    have t1 : top ord r2.1 r1.2 = top ord r1.1 r1.2 := by rw [hp2]; exact top_append _ _ _ g1.lt
    have v1 : ∀ p, ev r2.1 r1.2 p = ev r1.1 r1.2 p := fun p => by rw [hp2]; exact ev_append g1.red.wf p _ g1.lt
    have := g1.lev
    have := g2.lev
    obtain ⟨g3, e3⟩ := join_grew g2.red (v := v) (no := r1.2) (yes := r2.2) hvm l1 g2.lt (by rw [t1]; omega) (by omega)
    refine ⟨⟨?_, g3.red, g3.lt, by have := g3.lev; omega⟩, fun p => ?_⟩
    · obtain ⟨ms1, hp1⟩ := g1.pre
      obtain ⟨ms3, hp3⟩ := g3.pre
      exact ⟨ms1 ++ (ms2 ++ ms3), by rw [hp3, hp2, hp1]; simp⟩
    · rw [e3, v1, e1, e2]
      have hm : mask vs p < 64 := mask_lt vs p 6 hvs
      rw [fix_testBit t v _ _ ht hv6 hm, fix_testBit t v _ _ ht hv6 hm]
      simp only [mask]
      cases p.testBit v <;> rfl
end Cho

/-
  Own work: which links are reached from some links (plain mathematics).
-/
namespace Cho

def marks0 (n : Nat) : List Bool := List.replicate (n + 2) false
def markAll (n : Nat) (ls : List Nat) : List Bool := ls.foldl (fun b l => b.set l true) (marks0 n)
def dstep (ns : List Nd) (i : Nat) (b : List Bool) : List Bool :=
  if b.getD (i + 2) false then (b.set (ns.getD i (0, 0, 0)).2.1 true).set (ns.getD i (0, 0, 0)).2.2 true else b
/-- The marks when the last c nodes have handed theirs on. -/
def dn (ns : List Nd) (b : List Bool) : Nat → List Bool
  | 0 => b
  | c + 1 => dstep ns (ns.length - 1 - c) (dn ns b c)
def reached (ns : List Nd) (ls : List Nat) : List Bool := dn ns (markAll ns.length ls) ns.length

theorem markAll_snoc (n : Nat) (ls : List Nat) (l : Nat) : markAll n (ls ++ [l]) = (markAll n ls).set l true := by simp [markAll]
theorem markAll_len (n : Nat) (ls : List Nat) : (markAll n ls).length = n + 2 := by
  unfold markAll
  suffices h : ∀ b : List Bool, (ls.foldl (fun b l => b.set l true) b).length = b.length by rw [h]; simp [marks0]
  induction ls with
  | nil => intro b; rfl
  | cons l ls ih => intro b; simp only [List.foldl_cons]; rw [ih]; simp
theorem dstep_len (ns : List Nd) (i : Nat) (b : List Bool) : (dstep ns i b).length = b.length := by unfold dstep; split <;> simp
theorem dn_len (ns : List Nd) (b : List Bool) (c : Nat) : (dn ns b c).length = b.length := by
  induction c with
  | zero => rfl
  | succ c ih => simp only [dn]; rw [dstep_len, ih]

/-- l is reached from one of these links. -/
def Reach (ns : List Nd) (ls : List Nat) (l : Nat) : Prop := ∀ S : Nat → Prop, (∀ l ∈ ls, S l) → (∀ k (hk : k < ns.length), S (k + 2) → S ns[k].2.1 ∧ S ns[k].2.2) → S l

theorem getD_set {b : List Bool} {i j : Nat} : (b.set i true).getD j false = (decide (i = j ∧ j < b.length) || b.getD j false) := by
  simp only [List.getD, List.getElem?_set]
  by_cases h : i = j
  · subst h
    by_cases hl : i < b.length
    · simp [hl]
    · simp [hl]
  · simp [h]

theorem markAll_get (n : Nat) (ls : List Nat) (j : Nat) (hj : j < n + 2) : (markAll n ls).getD j false = decide (j ∈ ls) := by
  unfold markAll
  suffices h : ∀ b : List Bool, b.length = n + 2 → (ls.foldl (fun b l => b.set l true) b).getD j false = (decide (j ∈ ls) || b.getD j false) by
    rw [h _ (by simp [marks0])]; simp [marks0, List.getD, hj]
  induction ls with
  | nil => intro b _; simp
  | cons l ls ih =>
    intro b hb
    simp only [List.foldl_cons]
    rw [ih _ (by simp [hb]), getD_set, hb]
    by_cases e : l = j
    · subst e; simp [hj]
    · have e' : ¬ j = l := fun h => e h.symm
      simp [e, e']

theorem reached_iff {ns : List Nd} (hw : Wf ns) (ls : List Nat) (hls : ∀ l ∈ ls, l < ns.length + 2) (j : Nat) (hj : j < ns.length + 2) : (reached ns ls).getD j false = true ↔ Reach ns ls j := by
  have hlen : ∀ c, (dn ns (markAll ns.length ls) c).length = ns.length + 2 := fun c => by rw [dn_len, markAll_len]
  have nodeAt : ∀ i (hi : i < ns.length), ns.getD i (0, 0, 0) = ns[i] := fun i hi => by simp [List.getD, hi]
  -- every mark is one that is reached
  have sound : ∀ c, c ≤ ns.length → ∀ j, j < ns.length + 2 → (dn ns (markAll ns.length ls) c).getD j false = true → Reach ns ls j := by
    intro c
    induction c with
    | zero =>
      intro _ j hj h
      simp only [dn] at h
      rw [markAll_get _ _ _ hj] at h
      exact fun S h1 _ => h1 j (by simpa using h)
    | succ c ih =>
      intro hc j hj h
      simp only [dn, dstep] at h
      split at h
      · rename_i hm
        have hi : ns.length - 1 - c < ns.length := by omega
        have hr := ih (by omega) (ns.length - 1 - c + 2) (by omega) hm
        rw [nodeAt _ hi, getD_set, getD_set] at h
        simp only [Bool.or_eq_true, decide_eq_true_eq] at h
        rcases h with ⟨e, _⟩ | ⟨e, _⟩ | h
        · exact fun S h1 h2 => e ▸ (h2 _ hi (hr S h1 h2)).2
        · exact fun S h1 h2 => e ▸ (h2 _ hi (hr S h1 h2)).1
        · exact ih (by omega) j hj h
      · exact ih (by omega) j hj h
  -- marks stay
  have stay : ∀ c d j, (dn ns (markAll ns.length ls) c).getD j false = true → (dn ns (markAll ns.length ls) (c + d)).getD j false = true := by
    intro c d j h
    induction d with
    | zero => exact h
    | succ d ih =>
      rw [← Nat.add_assoc]
      simp only [dn, dstep]
      split
      · rw [getD_set, getD_set, ih]; simp
      · exact ih
  -- a node hands its mark on when its turn comes, and no later node marks it
  have late : ∀ c d j, c + d ≤ ns.length → ns.length - c + 1 ≤ j → (dn ns (markAll ns.length ls) (c + d)).getD j false = true → (dn ns (markAll ns.length ls) c).getD j false = true := by
    intro c d j
    induction d with
    | zero => intro _ _ h; exact h
    | succ d ih =>
      intro hc hj h
      rw [← Nat.add_assoc] at h
      simp only [dn, dstep] at h
      split at h
      · have hi : ns.length - 1 - (c + d) < ns.length := by omega
        have hwi := hw _ hi
        rw [nodeAt _ hi, getD_set, getD_set] at h
        simp only [Bool.or_eq_true, decide_eq_true_eq] at h
        rcases h with ⟨e, _⟩ | ⟨e, _⟩ | h
        · omega
        · omega
        · exact ih (by omega) hj h
      · exact ih (by omega) hj h
  constructor
  · exact sound _ (Nat.le_refl _) j hj
  · intro h
    apply h (fun l => (reached ns ls).getD l false = true)
    · intro l hl
      have : (dn ns (markAll ns.length ls) (0 + ns.length)).getD l false = true := by
        apply stay 0 ns.length l
        simp only [dn]
        rw [markAll_get _ _ _ (hls l hl)]; simpa using hl
      simpa [reached] using this
    · intro k hk hm
      have hwk := hw k hk
      have h1 := late (ns.length - 1 - k) (k + 1) (k + 2) (by omega) (by omega) (by rw [show ns.length - 1 - k + (k + 1) = ns.length from by omega]; exact hm)
      have hstep : ∀ l, l = ns[k].2.1 ∨ l = ns[k].2.2 → (dn ns (markAll ns.length ls) (ns.length - 1 - k + 1)).getD l false = true := by
        intro l hl
        simp only [dn, dstep]
        have ek : ns.length - 1 - (ns.length - 1 - k) = k := by omega
        rw [ek, if_pos h1, nodeAt k hk, getD_set, getD_set]
        simp only [List.length_set, hlen]
        rcases hl with rfl | rfl
        · simp; omega
        · simp; omega
      have fin : ∀ l, (dn ns (markAll ns.length ls) (ns.length - 1 - k + 1)).getD l false = true → (reached ns ls).getD l false = true := by
        intro l hl
        have := stay (ns.length - 1 - k + 1) k l hl
        rw [show ns.length - 1 - k + 1 + k = ns.length from by omega] at this
        exact this
      exact ⟨fin _ (hstep _ (.inl rfl)), fin _ (hstep _ (.inr rfl))⟩
end Cho

/-
  Own work: what is kept of a diagram when only some links are called for (plain mathematics).
-/
namespace Cho

/-- Where each link leads to among the nodes that are kept, and these, when k nodes have been looked at. -/
def keepTo (ns : List Nd) (R : List Bool) : Nat → List Nat × List Nd
  | 0 => ((List.replicate (ns.length + 2) 0).set 1 1, [])
  | k + 1 =>
    if R.getD (k + 2) false then
      ((keepTo ns R k).1.set (k + 2) (2 + (keepTo ns R k).2.length),
       (keepTo ns R k).2 ++ [((ns.getD k (0, 0, 0)).1, (keepTo ns R k).1.getD (ns.getD k (0, 0, 0)).2.1 0, (keepTo ns R k).1.getD (ns.getD k (0, 0, 0)).2.2 0)])
    else keepTo ns R k

theorem keepTo_len (ns : List Nd) (R : List Bool) (k : Nat) : (keepTo ns R k).1.length = ns.length + 2 := by
  induction k with
  | zero => simp [keepTo]
  | succ k ih => simp only [keepTo]; split <;> simp [ih]
theorem keepTo_few (ns : List Nd) (R : List Bool) (k : Nat) : (keepTo ns R k).2.length ≤ k := by
  induction k with
  | zero => simp [keepTo]
  | succ k ih =>
    simp only [keepTo]; split
    · simp; omega
    · omega
theorem keepTo_bound (ns : List Nd) (R : List Bool) (k : Nat) : ∀ x ∈ (keepTo ns R k).1, x < (keepTo ns R k).2.length + 2 := by
  induction k with
  | zero =>
    intro x hx
    simp only [keepTo] at hx ⊢
    rcases List.mem_or_eq_of_mem_set hx with h | h
    · have := List.eq_of_mem_replicate h; simp; omega
    · simp; omega
  | succ k ih =>
    simp only [keepTo]; split
    · intro x hx
      simp only at hx ⊢
      rcases List.mem_or_eq_of_mem_set hx with h | h
      · have := ih x h; simp; omega
      · simp; omega
    · exact ih
end Cho

/-
  Own work: what is kept says what it said, is reduced as before, and has no node in vain (plain mathematics).
-/
namespace Cho

/-- ks has the marked nodes of ns, in their order; f says where each link leads to there. -/
structure Emb (ns ks : List Nd) (mk : Nat → Prop) (f : Nat → Nat) : Prop where
  f0 : f 0 = 0
  f1 : f 1 = 1
  node : ∀ k (hk : k < ns.length), mk (k + 2) → ∃ j, ∃ hj : j < ks.length, f (k + 2) = j + 2 ∧ ks[j] = (ns[k].1, f ns[k].2.1, f ns[k].2.2)
  onto : ∀ j, j < ks.length → ∃ k, k < ns.length ∧ mk (k + 2) ∧ f (k + 2) = j + 2
  mono : ∀ k k', k < k' → k' < ns.length → mk (k + 2) → mk (k' + 2) → f (k + 2) < f (k' + 2)
  closed : ∀ k (hk : k < ns.length), mk (k + 2) → (ns[k].2.1 < 2 ∨ mk ns[k].2.1) ∧ (ns[k].2.2 < 2 ∨ mk ns[k].2.2)

section
variable {ns ks : List Nd} {mk : Nat → Prop} {f : Nat → Nat} (e : Emb ns ks mk f)
include e
theorem Emb.small {l : Nat} (h : l < 2) : f l = l := by
  match l, h with
  | 0, _ => exact e.f0
  | 1, _ => exact e.f1
theorem Emb.lt {l : Nat} (hl : l < ns.length + 2) (h : l < 2 ∨ mk l) : f l < ks.length + 2 := by
  by_cases h2 : l < 2
  · rw [e.small h2]; omega
  · obtain ⟨k, rfl⟩ : ∃ k, l = k + 2 := ⟨l - 2, by omega⟩
    obtain ⟨j, hj, ej, _⟩ := e.node k (by omega) (h.resolve_left h2)
    omega
theorem Emb.big {k : Nat} (hk : k < ns.length) (h : mk (k + 2)) : 2 ≤ f (k + 2) := by
  obtain ⟨j, hj, ej, _⟩ := e.node k hk h
  omega
/-- Links keep their order. -/
theorem Emb.inc {l l' : Nat} (hl' : l' < ns.length + 2) (hlt : l < l') (h : l < 2 ∨ mk l) (h' : l' < 2 ∨ mk l') : f l < f l' := by
  by_cases h2' : l' < 2
  · rw [e.small h2', e.small (by omega)]; exact hlt
  · obtain ⟨k', rfl⟩ : ∃ k, l' = k + 2 := ⟨l' - 2, by omega⟩
    have hm' := h'.resolve_left h2'
    by_cases h2 : l < 2
    · rw [e.small h2]; have := e.big (by omega) hm'; omega
    · obtain ⟨k, rfl⟩ : ∃ k, l = k + 2 := ⟨l - 2, by omega⟩
      exact e.mono k k' (by omega) (by omega) (h.resolve_left h2) hm'
theorem Emb.inj {l l' : Nat} (hl : l < ns.length + 2) (hl' : l' < ns.length + 2) (h : l < 2 ∨ mk l) (h' : l' < 2 ∨ mk l') (he : f l = f l') : l = l' := by
  by_cases h1 : l < l'
  · have := e.inc hl' h1 h h'; omega
  · by_cases h2 : l' < l
    · have := e.inc hl h2 h' h; omega
    · omega
theorem Emb.wf (hw : Wf ns) : Wf ks := by
  intro j hj
  obtain ⟨k, hk, hm, ek⟩ := e.onto j hj
  obtain ⟨j', hj', ej', hn⟩ := e.node k hk hm
  obtain rfl : j' = j := by omega
  have hwk := hw k hk
  have hc := e.closed k hk hm
  have a := e.inc (l := ns[k].2.1) (l' := k + 2) (by omega) hwk.1 hc.1 (.inr hm)
  have b := e.inc (l := ns[k].2.2) (l' := k + 2) (by omega) hwk.2 hc.2 (.inr hm)
  rw [hn]
  exact ⟨by simp only; omega, by simp only; omega⟩
theorem Emb.top (ord : List Nat) {l : Nat} (hl : l < ns.length + 2) (h : l < 2 ∨ mk l) : top ord ks (f l) = top ord ns l := by
  by_cases h2 : l < 2
  · rw [e.small h2, top_small _ _ h2, top_small _ _ h2]
  · obtain ⟨k, rfl⟩ : ∃ k, l = k + 2 := ⟨l - 2, by omega⟩
    have hk : k < ns.length := by omega
    obtain ⟨j, hj, ej, hn⟩ := e.node k hk (h.resolve_left h2)
    rw [ej, top_node ord ks hj, top_node ord ns hk, hn]
theorem Emb.ev (hw : Wf ns) (p : Nat) : ∀ l, l < ns.length + 2 → (l < 2 ∨ mk l) → ev ks (f l) p = ev ns l p := by
  intro l
  induction l using Nat.strongRecOn with
  | ind l ih =>
    intro hl h
    by_cases h2 : l < 2
    · rw [e.small h2, ev_small _ _ _ h2, ev_small _ _ _ h2]
    · obtain ⟨k, rfl⟩ : ∃ k, l = k + 2 := ⟨l - 2, by omega⟩
      have hk : k < ns.length := by omega
      have hm := h.resolve_left h2
      obtain ⟨j, hj, ej, hn⟩ := e.node k hk hm
      have hwk := hw k hk
      have hc := e.closed k hk hm
      rw [ej, ev_node (e.wf hw) p hj, ev_node hw p hk, hn]
      simp only
      rw [ih _ (by omega) (by omega) hc.1, ih _ (by omega) (by omega) hc.2]
theorem Emb.red {ord : List Nat} (h : Red ord ns) : Red ord ks := by
  have hw := e.wf h.wf
  refine ⟨hw, ?_, ?_, ?_, ?_⟩
  · rw [List.nodup_iff_pairwise_ne, List.pairwise_iff_getElem]
    intro j j' hj hj' hlt heq
    obtain ⟨k, hk, hm, ek⟩ := e.onto j hj
    obtain ⟨k', hk', hm', ek'⟩ := e.onto j' hj'
    obtain ⟨i, hi, ei, hn⟩ := e.node k hk hm
    obtain ⟨i', hi', ei', hn'⟩ := e.node k' hk' hm'
    obtain rfl : i = j := by omega
    obtain rfl : i' = j' := by omega
    rw [hn, hn'] at heq
    simp only [Prod.mk.injEq] at heq
    have hwk := h.wf k hk
    have hwk' := h.wf k' hk'
    have hc := e.closed k hk hm
    have hc' := e.closed k' hk' hm'
    have e1 := e.inj (by omega) (by omega) hc.1 hc'.1 heq.2.1
    have e2 := e.inj (by omega) (by omega) hc.2 hc'.2 heq.2.2
    have en : ns[k] = ns[k'] := Prod.ext heq.1 (Prod.ext e1 e2)
    have := (List.getElem_inj h.nodup).1 en
    subst this
    omega
  · intro j hj
    obtain ⟨k, hk, hm, ek⟩ := e.onto j hj
    obtain ⟨i, hi, ei, hn⟩ := e.node k hk hm
    obtain rfl : i = j := by omega
    rw [hn]
    have hwk := h.wf k hk
    have hc := e.closed k hk hm
    exact fun heq => h.diff k hk (e.inj (by omega) (by omega) hc.1 hc.2 heq)
  · intro n hn0
    obtain ⟨j, hj, rfl⟩ := List.getElem_of_mem hn0
    obtain ⟨k, hk, hm, ek⟩ := e.onto j hj
    obtain ⟨i, hi, ei, hn⟩ := e.node k hk hm
    obtain rfl : i = j := by omega
    rw [hn]
    exact h.var ns[k] (List.getElem_mem hk)
  · intro j hj
    obtain ⟨k, hk, hm, ek⟩ := e.onto j hj
    obtain ⟨i, hi, ei, hn⟩ := e.node k hk hm
    obtain rfl : i = j := by omega
    rw [hn]
    have hwk := h.wf k hk
    have hc := e.closed k hk hm
    simp only
    rw [e.top ord (by omega) hc.1, e.top ord (by omega) hc.2]
    exact h.low k hk
/-- What was reached is reached. -/
theorem Emb.reach {ls : List Nat} (hmk : ∀ l, Reach ns ls l → l < 2 ∨ mk l) {l : Nat} (h : Reach ns ls l) : Reach ks (ls.map f) (f l) := by
  intro S hS hcl
  have := h (fun l => Reach ns ls l ∧ S (f l)) (fun l hl => ⟨fun S' a _ => a l hl, hS _ (List.mem_map_of_mem hl)⟩) (fun k hk hk2 => ?_)
  · exact this.2
  · have hm := (hmk _ hk2.1).resolve_left (by omega)
    obtain ⟨j, hj, ej, hn⟩ := e.node k hk hm
    have hs := hk2.2
    rw [ej] at hs
    have := hcl j hj hs
    rw [hn] at this
    exact ⟨⟨fun S' a b => (b k hk (hk2.1 S' a b)).1, this.1⟩, ⟨fun S' a b => (b k hk (hk2.1 S' a b)).2, this.2⟩⟩
end

def Laid5 (ns : List Nd) (R : List Bool) (n : Nat) (mv : List Nat) (ks : List Nd) : Prop :=
  mv.getD 0 0 = 0 ∧ mv.getD 1 0 = 1 ∧
      (∀ k (hk : k < ns.length), k < n → R.getD (k + 2) false = true → ∃ j, ∃ hj : j < ks.length, mv.getD (k + 2) 0 = j + 2 ∧ ks[j] = (ns[k].1, mv.getD ns[k].2.1 0, mv.getD ns[k].2.2 0)) ∧
      (∀ j, j < ks.length → ∃ k, k < n ∧ R.getD (k + 2) false = true ∧ mv.getD (k + 2) 0 = j + 2) ∧
      (∀ k k', k < k' → k' < n → R.getD (k + 2) false = true → R.getD (k' + 2) false = true → mv.getD (k + 2) 0 < mv.getD (k' + 2) 0)
/-- What is kept is so laid. -/
theorem keepTo_emb (ns : List Nd) (R : List Bool) (hw : Wf ns) (hcl : ∀ k (hk : k < ns.length), R.getD (k + 2) false = true → (ns[k].2.1 < 2 ∨ R.getD ns[k].2.1 false = true) ∧ (ns[k].2.2 < 2 ∨ R.getD ns[k].2.2 false = true)) :
    Emb ns (keepTo ns R ns.length).2 (fun l => R.getD l false = true) (fun l => (keepTo ns R ns.length).1.getD l 0) := by
  have nodeAt : ∀ i (hi : i < ns.length), ns.getD i (0, 0, 0) = ns[i] := fun i hi => by simp [List.getD, hi]
  have getSet : ∀ (l : List Nat) i x j, i < l.length → (l.set i x).getD j 0 = if i = j then x else l.getD j 0 := by
    intro l i x j hi
    simp only [List.getD, List.getElem?_set]
    by_cases h : i = j
    · subst h; simp [hi]
    · simp [h]
  have key : ∀ n, n ≤ ns.length → Laid5 ns R n (keepTo ns R n).1 (keepTo ns R n).2 := by
    intro n
    induction n with
    | zero =>
      intro _
      refine ⟨by simp [keepTo, List.getD], by simp [keepTo, List.getD], fun _ _ h => absurd h (by omega), fun _ h => absurd h (by simp [keepTo]), fun _ _ _ h => absurd h (by omega)⟩
    | succ n ih =>
      intro hn
      obtain ⟨i0, i1, i2, i3, i4⟩ := ih (by omega)
      have hlen := keepTo_len ns R n
      have hnn : n < ns.length := by omega
      have hdef : keepTo ns R (n + 1) = if R.getD (n + 2) false then ((keepTo ns R n).1.set (n + 2) (2 + (keepTo ns R n).2.length), (keepTo ns R n).2 ++ [(ns[n].1, (keepTo ns R n).1.getD ns[n].2.1 0, (keepTo ns R n).1.getD ns[n].2.2 0)]) else keepTo ns R n := by
        rw [← nodeAt n hnn]; rfl
      by_cases hb : R.getD (n + 2) false = true
      · rw [hdef, if_pos hb]
        generalize keepTo ns R n = ST at *
        obtain ⟨mv, ks⟩ := ST
        simp only at *
        have gs : ∀ j, (mv.set (n + 2) (2 + ks.length)).getD j 0 = if n + 2 = j then 2 + ks.length else mv.getD j 0 := fun j => getSet mv _ _ j (by omega)
        refine ⟨by rw [gs, if_neg (by omega)]; exact i0, by rw [gs, if_neg (by omega)]; exact i1, ?_, ?_, ?_⟩
        · intro k hk hkn hm
          have hwk := hw k hk
          rw [gs ns[k].2.1, gs ns[k].2.2, gs (k + 2), if_neg (show ¬ n + 2 = ns[k].2.1 by omega), if_neg (show ¬ n + 2 = ns[k].2.2 by omega)]
          by_cases e : k = n
          · subst e
            exact ⟨ks.length, by simp, by rw [if_pos rfl]; omega, by simp⟩
          · obtain ⟨j, hj, ej, hnd⟩ := i2 k hk (by omega) hm
            exact ⟨j, by simp; omega, by rw [if_neg (by omega)]; exact ej, by rw [List.getElem_append_left hj]; exact hnd⟩
        · intro j hj
          by_cases e : j < ks.length
          · obtain ⟨k, hk, hm, ek⟩ := i3 j e
            exact ⟨k, by omega, hm, by rw [gs, if_neg (by omega)]; exact ek⟩
          · exact ⟨n, by omega, hb, by rw [gs, if_pos rfl]; simp at hj; omega⟩
        · intro k k' hlt hk' hm hm'
          rw [gs, gs, if_neg (by omega)]
          by_cases e : n + 2 = k' + 2
          · rw [if_pos e]
            obtain ⟨j, hj, ej, _⟩ := i2 k (by omega) (by omega) hm
            omega
          · rw [if_neg e]; exact i4 k k' hlt (by omega) hm hm'
      · rw [hdef, if_neg hb]
        refine ⟨i0, i1, ?_, ?_, ?_⟩
        · intro k hk hkn hm
          by_cases e : k = n
          · subst e; exact absurd hm hb
          · exact i2 k hk (by omega) hm
        · intro j hj
          obtain ⟨k, hk, h⟩ := i3 j hj
          exact ⟨k, by omega, h⟩
        · intro k k' hlt hk' hm hm'
          by_cases e : k' = n
          · subst e; exact absurd hm' hb
          · exact i4 k k' hlt (by omega) hm hm'
  obtain ⟨i0, i1, i2, i3, i4⟩ := key ns.length (Nat.le_refl _)
  exact ⟨i0, i1, fun k hk hm => i2 k hk hk hm, i3, i4, hcl⟩

/-- The nodes, the links. -/
def kept (ns : List Nd) (ls : List Nat) : List Nd := (keepTo ns (reached ns ls) ns.length).2
def moved (ns : List Nd) (ls : List Nat) (l : Nat) : Nat := (keepTo ns (reached ns ls) ns.length).1.getD l 0

theorem kept_emb {ns : List Nd} (hw : Wf ns) (ls : List Nat) (hls : ∀ l ∈ ls, l < ns.length + 2) : Emb ns (kept ns ls) (fun l => (reached ns ls).getD l false = true) (moved ns ls) := by
  apply keepTo_emb ns _ hw
  intro k hk hm
  have hwk := hw k hk
  have hr := (reached_iff hw ls hls _ (by omega)).1 hm
  exact ⟨.inr ((reached_iff hw ls hls _ (by omega)).2 fun S a b => (b k hk (hr S a b)).1), .inr ((reached_iff hw ls hls _ (by omega)).2 fun S a b => (b k hk (hr S a b)).2)⟩
theorem kept_mk {ns : List Nd} (hw : Wf ns) (ls : List Nat) (hls : ∀ l ∈ ls, l < ns.length + 2) {l : Nat} (hl : l < ns.length + 2) (h : Reach ns ls l) : (reached ns ls).getD l false = true := (reached_iff hw ls hls l hl).2 h
theorem reach_lt {ns : List Nd} (hw : Wf ns) (ls : List Nat) (hls : ∀ l ∈ ls, l < ns.length + 2) {l : Nat} (h : Reach ns ls l) : l < ns.length + 2 :=
  h (fun l => l < ns.length + 2) hls fun k hk _ => by have := hw k hk; omega
/-- No node is kept in vain. -/
theorem kept_full {ns : List Nd} (hw : Wf ns) (ls : List Nat) (hls : ∀ l ∈ ls, l < ns.length + 2) (j : Nat) (hj : j < (kept ns ls).length) : Reach (kept ns ls) (ls.map (moved ns ls)) (j + 2) := by
  have e := kept_emb hw ls hls
  obtain ⟨k, hk, hm, ek⟩ := e.onto j hj
  have := e.reach (fun l h => .inr (kept_mk hw ls hls (reach_lt hw ls hls h) h)) ((reached_iff hw ls hls _ (by omega)).1 hm)
  rw [ek] at this
  exact this
end Cho

/-
  Own work: every node that is built is a node of the function; how many nodes a function has (plain mathematics).
-/
namespace Cho

theorem reach_self (ns : List Nd) {ls : List Nat} {l : Nat} (h : l ∈ ls) : Reach ns ls l := fun _ a _ => a l h
theorem reach_append {ns ms : List Nd} {ls : List Nat} {l : Nat} (h : Reach ns ls l) : Reach (ns ++ ms) ls l := fun S a b =>
  h S a fun k hk hs => by
    have := b k (by simp; omega) hs
    rw [List.getElem_append_left hk] at this
    exact this
theorem reach_trans {ns : List Nd} {ls ls' : List Nat} {l : Nat} (h : Reach ns ls l) (h' : ∀ m ∈ ls, Reach ns ls' m) : Reach ns ls' l := fun S a b =>
  h S (fun m hm => h' m hm S a b) b
theorem reach_kid {ns : List Nd} {ls : List Nat} {k : Nat} (hk : k < ns.length) (h : Reach ns ls (k + 2)) : Reach ns ls ns[k].2.1 ∧ Reach ns ls ns[k].2.2 :=
  ⟨fun S a b => (b k hk (h S a b)).1, fun S a b => (b k hk (h S a b)).2⟩
theorem reach_one {ns : List Nd} {ls : List Nat} {l : Nat} (h : Reach ns ls l) : ∃ r ∈ ls, Reach ns [r] l :=
  h (fun l => ∃ r ∈ ls, Reach ns [r] l) (fun l hl => ⟨l, hl, reach_self ns (by simp)⟩) fun k hk ⟨r, hr, hk2⟩ => ⟨⟨r, hr, (reach_kid hk hk2).1⟩, ⟨r, hr, (reach_kid hk hk2).2⟩⟩
/-- No and yes lead to no node. -/
theorem reach_big {ns : List Nd} {ls ls' : List Nat} {l : Nat} (h : Reach ns ls l) (hl : 2 ≤ l) (h' : ∀ m ∈ ls, m < 2 ∨ m ∈ ls') : Reach ns ls' l := by
  have := h (fun l => l < 2 ∨ Reach ns ls' l) (fun m hm => (h' m hm).imp id (fun h => reach_self ns h)) fun k hk hk2 => by
    have := reach_kid hk (hk2.resolve_left (by omega))
    exact ⟨.inr this.1, .inr this.2⟩
  exact this.resolve_left (by omega)

/-- Every node that is added is one of the function's. -/
theorem build_full (vs : List Nat) : ∀ (t : Nat) (ns : List Nd), ∃ ms, (build vs t ns).1 = ns ++ ms ∧ ∀ k, ns.length ≤ k → k < (ns ++ ms).length → Reach (ns ++ ms) [(build vs t ns).2] (k + 2) := by
  induction vs with
  | nil => intro t ns; exact ⟨[], by simp [build], fun k h1 h2 => absurd h2 (by simp; omega)⟩
  | cons v vs ih =>
    intro t ns
    obtain ⟨m1, e1, h1⟩ := ih (fix t v false) ns
    obtain ⟨m2, e2, h2⟩ := ih (fix t v true) (build vs (fix t v false) ns).1
    simp only [build]
    generalize build vs (fix t v false) ns = r1 at *
    generalize build vs (fix t v true) r1.1 = r2 at *
    obtain ⟨n1, l1⟩ := r1
    obtain ⟨n2, l2⟩ := r2
    simp only at *
    subst e1 e2
    -- every node beyond ns is reached from one of the two links
    have both : ∀ k, ns.length ≤ k → k < (ns ++ m1 ++ m2).length → Reach (ns ++ m1 ++ m2) [l1, l2] (k + 2) := by
      intro k hk1 hk2
      by_cases h : k < (ns ++ m1).length
      · exact reach_trans (reach_append (h1 k hk1 h)) fun m hm => reach_self _ (by simp at hm; simp [hm])
      · exact reach_trans (h2 k (by omega) hk2) fun m hm => reach_self _ (by simp at hm; simp [hm])
    by_cases e : l1 = l2
    · subst e
      have ej : join (ns ++ m1 ++ m2) (v, l1, l1) = (ns ++ m1 ++ m2, l1) := by simp [join]
      rw [ej]
      refine ⟨m1 ++ m2, by simp, fun k a b => ?_⟩
      rw [← List.append_assoc] at b ⊢
      exact reach_trans (both k a b) fun m hm => reach_self _ (by simp at hm; simp [hm])
    · by_cases hm : (v, l1, l2) ∈ ns ++ m1 ++ m2
      · have ej : join (ns ++ m1 ++ m2) (v, l1, l2) = (ns ++ m1 ++ m2, (ns ++ m1 ++ m2).idxOf (v, l1, l2) + 2) := by unfold join; rw [if_neg e, if_pos hm]
        have hi := List.idxOf_lt_length_of_mem hm
        have hg : (ns ++ m1 ++ m2)[(ns ++ m1 ++ m2).idxOf (v, l1, l2)] = (v, l1, l2) := List.getElem_idxOf hi
        rw [ej]
        refine ⟨m1 ++ m2, by simp, fun k a b => ?_⟩
        rw [← List.append_assoc] at b ⊢
        simp only
        have kid := reach_kid hi (reach_self (ns ++ m1 ++ m2) (ls := [(ns ++ m1 ++ m2).idxOf (v, l1, l2) + 2]) (by simp))
        rw [hg] at kid
        exact reach_trans (both k a b) fun m hm => by
          simp at hm
          rcases hm with rfl | rfl
          · exact kid.1
          · exact kid.2
      · have ej : join (ns ++ m1 ++ m2) (v, l1, l2) = (ns ++ m1 ++ m2 ++ [(v, l1, l2)], (ns ++ m1 ++ m2).length + 2) := by unfold join; rw [if_neg e, if_neg hm, List.idxOf_eq_length hm]
        rw [ej]
        refine ⟨m1 ++ m2 ++ [(v, l1, l2)], by simp, fun k a b => ?_⟩
        have eass : ns ++ (m1 ++ m2 ++ [(v, l1, l2)]) = ns ++ m1 ++ m2 ++ [(v, l1, l2)] := by simp
        rw [eass] at b ⊢
        simp only
        have kid := reach_kid (ns := ns ++ m1 ++ m2 ++ [(v, l1, l2)]) (k := (ns ++ m1 ++ m2).length) (by simp) (reach_self _ (ls := [(ns ++ m1 ++ m2).length + 2]) (by simp))
        have hg : (ns ++ m1 ++ m2 ++ [(v, l1, l2)])[(ns ++ m1 ++ m2).length]'(by simp) = (v, l1, l2) := by simp
        rw [hg] at kid
        by_cases hk : k < (ns ++ m1 ++ m2).length
        · exact reach_trans (reach_append (both k a hk)) fun m hm => by
            simp at hm
            rcases hm with rfl | rfl
            · exact kid.1
            · exact kid.2
        · have ek : k = (ns ++ m1 ++ m2).length := by simp only [List.length_append, List.length_cons, List.length_nil] at b hk ⊢; omega
          rw [ek]
          exact reach_self _ (by simp)

/-- How many of the first k nodes are marked. -/
def cntM (b : List Bool) : Nat → Nat
  | 0 => 0
  | k + 1 => if b.getD (k + 2) false then cntM b k + 1 else cntM b k
theorem cntM_le (b : List Bool) (k : Nat) : cntM b k ≤ k := by
  induction k with
  | zero => simp [cntM]
  | succ k ih => simp only [cntM]; split <;> omega
theorem cntM_all (b : List Bool) (k : Nat) (h : ∀ i, i < k → b.getD (i + 2) false = true) : cntM b k = k := by
  induction k with
  | zero => simp [cntM]
  | succ k ih => simp only [cntM]; rw [if_pos (h k (by omega)), ih fun i hi => h i (by omega)]
theorem cntM_none (b : List Bool) (k : Nat) (h : ∀ i, i < k → b.getD (i + 2) false = false) : cntM b k = 0 := by
  induction k with
  | zero => simp [cntM]
  | succ k ih => simp only [cntM]; rw [if_neg (by rw [h k (by omega)]; simp), ih fun i hi => h i (by omega)]
theorem cntM_one (b : List Bool) (k r : Nat) (hr : r < k) (h : ∀ i, i < k → (b.getD (i + 2) false = true ↔ i = r)) : cntM b k = 1 := by
  induction k with
  | zero => omega
  | succ k ih =>
    simp only [cntM]
    by_cases e : k = r
    · subst e
      rw [if_pos ((h k (by omega)).2 rfl), cntM_none b k fun i hi => by
        have := h i (by omega)
        cases hb : b.getD (i + 2) false
        · rfl
        · have := this.1 hb; omega]
    · rw [if_neg (fun hb => e ((h k (by omega)).1 hb))]
      exact ih (by omega) fun i hi => h i (by omega)
theorem sum_step (bs : List (List Bool)) (k : Nat) : (bs.map (cntM · k)).sum ≤ (bs.map (cntM · (k + 1))).sum := by
  induction bs with
  | nil => simp
  | cons b bs ih =>
    simp only [List.map_cons, List.sum_cons]
    have : cntM b k ≤ cntM b (k + 1) := by rw [cntM]; split <;> omega
    omega
theorem sum_step1 (bs : List (List Bool)) (k : Nat) (h : ∃ b ∈ bs, b.getD (k + 2) false = true) : (bs.map (cntM · k)).sum + 1 ≤ (bs.map (cntM · (k + 1))).sum := by
  induction bs with
  | nil => simp at h
  | cons b bs ih =>
    have hs := sum_step bs k
    simp only [List.map_cons, List.sum_cons]
    by_cases hb : b.getD (k + 2) false = true
    · have : cntM b (k + 1) = cntM b k + 1 := by rw [cntM, if_pos hb]
      omega
    · have : cntM b (k + 1) = cntM b k := by rw [cntM, if_neg hb]
      have := ih (by
        obtain ⟨c, hc, hm⟩ := h
        rcases List.mem_cons.1 hc with rfl | hc
        · exact absurd hm hb
        · exact ⟨c, hc, hm⟩)
      omega
theorem cover (bs : List (List Bool)) (k : Nat) (h : ∀ i, i < k → ∃ b ∈ bs, b.getD (i + 2) false = true) : k ≤ (bs.map (cntM · k)).sum := by
  induction k with
  | zero => omega
  | succ k ih =>
    have := ih fun i hi => h i (by omega)
    have := sum_step1 bs k (h k (by omega))
    omega

/-- How many nodes the function of a link has. -/
def size (ns : List Nd) (l : Nat) : Nat := cntM (reached ns [l]) ns.length
theorem size_le (ns : List Nd) (l : Nat) : size ns l ≤ ns.length := cntM_le _ _
theorem size_all {ns : List Nd} (hw : Wf ns) (l : Nat) (hl : l < ns.length + 2) (h : ∀ k, k < ns.length → Reach ns [l] (k + 2)) : size ns l = ns.length :=
  cntM_all _ _ fun i hi => (reached_iff hw [l] (by simpa using hl) _ (by omega)).2 (h i hi)
theorem size_sum {ns : List Nd} (hw : Wf ns) (ls : List Nat) (hls : ∀ l ∈ ls, l < ns.length + 2) (h : ∀ k, k < ns.length → Reach ns ls (k + 2)) : ns.length ≤ (ls.map (size ns)).sum := by
  have := cover (ls.map fun l => reached ns [l]) ns.length fun i hi => by
    obtain ⟨r, hr, hk⟩ := reach_one (h i hi)
    exact ⟨_, List.mem_map_of_mem hr, (reached_iff hw [r] (by simpa using hls r hr) _ (by omega)).2 hk⟩
  rw [List.map_map] at this
  exact this
end Cho

/-
  Own work: what Restrict, Compose, Quantify and Ite make of tables (plain mathematics).
-/
namespace Cho

theorem put_put (p i : Nat) (b c : Bool) : put (put p i b) i c = put p i c := by
  apply Nat.eq_of_testBit_eq; intro j
  simp only [put_testBit]
  split <;> rfl
theorem put_self (p i : Nat) : put p i (p.testBit i) = p := by simp [put]
theorem put_ge (p i n : Nat) (b : Bool) (hi : i < n) (hp : 2 ^ n ≤ p) : 2 ^ n ≤ put p i b := by
  apply Classical.byContradiction
  intro h
  have := put_lt (put p i b) i n (p.testBit i) hi (by omega)
  rw [put_put, put_self] at this
  omega
theorem fix_tab {n t : Nat} (i : Nat) (b : Bool) (h : Tab n t) (hn : n ≤ 6) (hi : i < n) : Tab n (fix t i b) := by
  apply Tab.of_hi
  intro p hp
  by_cases h6 : p < 64
  · rw [fix_testBit t i p b (h.u64 hn) (by omega) h6]
    exact h.hi _ (put_ge p i n b hi hp)
  · exact u64_hi (fix_u64 t i b (h.u64 hn)) p (by omega)
theorem fix_at {n t : Nat} (i p : Nat) (b : Bool) (h : Tab n t) (hn : n ≤ 6) (hi : i < n) (hp : p < 2 ^ n) : (fix t i b).testBit p = t.testBit (put p i b) :=
  fix_testBit t i p b (h.u64 hn) (by omega) (by have := two_pow_le n hn; omega)
theorem and_tab {n a b : Nat} (h : Tab n a) : Tab n (a &&& b) := Nat.lt_of_le_of_lt Nat.and_le_left h
theorem or_tab {n a b : Nat} (ha : Tab n a) (hb : Tab n b) : Tab n (a ||| b) := Nat.or_lt_two_pow ha hb

/-- Of b where a says yes, of c elsewhere. -/
def chooseT (a b c : Nat) : Nat := (a &&& b) ||| (c &&& (2 ^ 64 - 1 - a))
theorem chooseT_testBit (a b c p : Nat) (ha : U64 a) (hp : p < 64) : (chooseT a b c).testBit p = if a.testBit p then b.testBit p else c.testBit p := by
  unfold chooseT
  rw [Nat.testBit_or, Nat.testBit_and, Nat.testBit_and, not_testBit _ _ ha]
  cases a.testBit p <;> simp [hp]
theorem chooseT_tab {n a b c : Nat} (hb : Tab n b) (hc : Tab n c) : Tab n (chooseT a b c) :=
  or_tab (Nat.lt_of_le_of_lt Nat.and_le_right hb) (and_tab hc)
theorem chooseT_u64 {a b c : Nat} (ha : U64 a) (hc : U64 c) : U64 (chooseT a b c) := or_u64 (and_u64 ha) (and_u64 hc)

/-- Variable i is what b says. -/
def putT (t i b : Nat) : Nat := chooseT b (fix t i true) (fix t i false)
theorem putT_tab {n t : Nat} (i b : Nat) (h : Tab n t) (hn : n ≤ 6) (hi : i < n) : Tab n (putT t i b) := chooseT_tab (fix_tab i true h hn hi) (fix_tab i false h hn hi)
theorem putT_testBit {n t : Nat} (i b p : Nat) (h : Tab n t) (hb : Tab n b) (hn : n ≤ 6) (hi : i < n) (hp : p < 2 ^ n) : (putT t i b).testBit p = t.testBit (put p i (b.testBit p)) := by
  have h64 := two_pow_le n hn
  unfold putT
  rw [chooseT_testBit _ _ _ _ (hb.u64 hn) (by omega), fix_at i p _ h hn hi hp, fix_at i p _ h hn hi hp]
  cases b.testBit p <;> simp

/-- For all values, and for some values, of the first k variables of a set. -/
def allTo (t set : Nat) : Nat → Nat
  | 0 => t
  | k + 1 => if set.testBit k then fix (allTo t set k) k true &&& fix (allTo t set k) k false else allTo t set k
def someTo (t set : Nat) : Nat → Nat
  | 0 => t
  | k + 1 => if set.testBit k then fix (someTo t set k) k true ||| fix (someTo t set k) k false else someTo t set k
theorem allTo_u64 (t set : Nat) (h : U64 t) (k : Nat) : U64 (allTo t set k) := by
  induction k with
  | zero => exact h
  | succ k ih =>
    simp only [allTo]; split
    · exact and_u64 (fix_u64 _ _ _ ih)
    · exact ih
theorem someTo_u64 (t set : Nat) (h : U64 t) (k : Nat) : U64 (someTo t set k) := by
  induction k with
  | zero => exact h
  | succ k ih =>
    simp only [someTo]; split
    · exact or_u64 (fix_u64 _ _ _ ih) (fix_u64 _ _ _ ih)
    · exact ih
theorem set_bit {n set : Nat} (hs : set < 2 ^ n) {k : Nat} (hb : set.testBit k = true) : k < n := by
  apply Classical.byContradiction
  intro h
  rw [Nat.testBit_lt_two_pow (Nat.lt_of_lt_of_le hs (Nat.pow_le_pow_right (by decide) (by omega)))] at hb
  cases hb
theorem allTo_tab {n t set : Nat} (h : Tab n t) (hn : n ≤ 6) (hs : set < 2 ^ n) (k : Nat) : Tab n (allTo t set k) := by
  induction k with
  | zero => exact h
  | succ k ih =>
    simp only [allTo]; split
    · rename_i hb; exact and_tab (fix_tab _ _ ih hn (set_bit hs hb))
    · exact ih
theorem someTo_tab {n t set : Nat} (h : Tab n t) (hn : n ≤ 6) (hs : set < 2 ^ n) (k : Nat) : Tab n (someTo t set k) := by
  induction k with
  | zero => exact h
  | succ k ih =>
    simp only [someTo]; split
    · rename_i hb; exact or_tab (fix_tab _ _ ih hn (set_bit hs hb)) (fix_tab _ _ ih hn (set_bit hs hb))
    · exact ih
/-- One variable alone. -/
theorem allTo_one (t i : Nat) (k : Nat) : allTo t (2 ^ i) k = if i < k then fix t i true &&& fix t i false else t := by
  induction k with
  | zero => simp [allTo]
  | succ k ih =>
    simp only [allTo]
    rw [ih]
    by_cases e : i = k
    · subst e; simp
    · rw [Nat.testBit_two_pow_of_ne e]
      have : (i < k + 1) = (i < k) := by simp; omega
      simp only [this, Bool.false_eq_true, if_false]
theorem someTo_one (t i : Nat) (k : Nat) : someTo t (2 ^ i) k = if i < k then fix t i true ||| fix t i false else t := by
  induction k with
  | zero => simp [someTo]
  | succ k ih =>
    simp only [someTo]
    rw [ih]
    by_cases e : i = k
    · subst e; simp
    · rw [Nat.testBit_two_pow_of_ne e]
      have : (i < k + 1) = (i < k) := by simp; omega
      simp only [this, Bool.false_eq_true, if_false]

/-- A function out of its two halves, chosen by the variable itself. -/
theorem split_again {n t i : Nat} (h : Tab n t) (hn : n ≤ 6) (hi : i < n) : chooseT (col i &&& full n) (fix t i true) (fix t i false) = t := by
  have h64 := two_pow_le n hn
  apply Tab.ext (chooseT_tab (fix_tab i true h hn hi) (fix_tab i false h hn hi)) h
  intro p hp
  rw [chooseT_testBit _ _ _ _ (and_u64 (col_u64 i)) (by omega), fix_at i p _ h hn hi hp, fix_at i p _ h hn hi hp, Nat.testBit_and, full_testBit, col_testBit i (by omega) p (by omega)]
  simp only [hp, decide_true, Bool.and_true]
  have := put_self p i
  cases hb : p.testBit i <;> rw [hb] at this <;> simp [this]
theorem split_own {n t i : Nat} (h : Tab n t) (hn : n ≤ 6) (hi : i < n) : putT t i (col i &&& full n) = t := split_again h hn hi
theorem split_some {n t i : Nat} (h : Tab n t) (hn : n ≤ 6) (hi : i < n) : someTo t (2 ^ i) 6 = joinT 14 (fix t i false) (fix t i true) (full n) := by
  have h64 := two_pow_le n hn
  have u0 := fix_u64 t i false (h.u64 hn)
  have u1 := fix_u64 t i true (h.u64 hn)
  rw [someTo_one, if_pos (by omega)]
  apply Tab.ext (or_tab (fix_tab i true h hn hi) (fix_tab i false h hn hi)) (joinT_tab _ _ _ n (fix_tab i false h hn hi) (fix_tab i true h hn hi))
  intro p hp
  rw [joinT_testBit _ _ _ n p u0 u1 hn hp, Nat.testBit_or]
  cases (fix t i true).testBit p <;> cases (fix t i false).testBit p <;> decide
theorem split_all {n t i : Nat} (h : Tab n t) (hn : n ≤ 6) (hi : i < n) : allTo t (2 ^ i) 6 = joinT 8 (fix t i false) (fix t i true) (full n) := by
  have h64 := two_pow_le n hn
  have u0 := fix_u64 t i false (h.u64 hn)
  have u1 := fix_u64 t i true (h.u64 hn)
  rw [allTo_one, if_pos (by omega)]
  apply Tab.ext (and_tab (fix_tab i true h hn hi)) (joinT_tab _ _ _ n (fix_tab i false h hn hi) (fix_tab i true h hn hi))
  intro p hp
  rw [joinT_testBit _ _ _ n p u0 u1 hn hp, Nat.testBit_and]
  cases (fix t i true).testBit p <;> cases (fix t i false).testBit p <;> decide
end Cho

/-
  Own work: the nodes that the document's answer counts, by fixing variables level by level, are those that are reached in a reduced diagram (plain mathematics).
-/
namespace Cho

def addN (out : List Nat) (a : Nat) : List Nat := if a ∈ out then out else out ++ [a]
theorem mem_addN (out : List Nat) (a x : Nat) : x ∈ addN out a ↔ x ∈ out ∨ x = a := by
  unfold addN; split
  · constructor
    · exact .inl
    · rintro (h | rfl)
      · exact h
      · assumption
  · simp
theorem addN_len (out : List Nat) (a : Nat) : (addN out a).length ≤ out.length + 1 := by
  unfold addN; split <;> simp
/-- What the first k of some functions become when variable i is fixed, each once. -/
def waysTo (l : List Nat) (i : Nat) : Nat → List Nat
  | 0 => []
  | k + 1 => addN (addN (waysTo l i k) (fix (l.getD k 0) i false)) (fix (l.getD k 0) i true)
theorem waysTo_len (l : List Nat) (i k : Nat) : (waysTo l i k).length ≤ 2 * k := by
  induction k with
  | zero => simp [waysTo]
  | succ k ih =>
    simp only [waysTo]
    have h1 := addN_len (addN (waysTo l i k) (fix (l.getD k 0) i false)) (fix (l.getD k 0) i true)
    have h2 := addN_len (waysTo l i k) (fix (l.getD k 0) i false)
    omega
theorem mem_waysTo (l : List Nat) (i x : Nat) (k : Nat) (hk : k ≤ l.length) : x ∈ waysTo l i k ↔ ∃ y ∈ l.take k, ∃ b, x = fix y i b := by
  induction k with
  | zero => simp [waysTo]
  | succ k ih =>
    have hk' : k < l.length := by omega
    simp only [waysTo]
    rw [mem_addN, mem_addN, ih (by omega), List.take_succ_eq_append_getElem hk', show l.getD k 0 = l[k] from by simp [List.getD, hk']]
    constructor
    · rintro ((⟨y, hy, b, rfl⟩ | rfl) | rfl)
      · exact ⟨y, List.mem_append_left _ hy, b, rfl⟩
      · exact ⟨l[k], List.mem_append_right _ (List.mem_cons_self ..), false, rfl⟩
      · exact ⟨l[k], List.mem_append_right _ (List.mem_cons_self ..), true, rfl⟩
    · rintro ⟨y, hy, b, rfl⟩
      simp only [List.mem_append, List.mem_cons, List.not_mem_nil, or_false] at hy
      rcases hy with hy | rfl
      · exact .inl (.inl ⟨y, hy, b, rfl⟩)
      · cases b
        · exact .inl (.inr rfl)
        · exact .inr rfl
theorem mem_ways (l : List Nat) (i x : Nat) : x ∈ waysTo l i l.length ↔ ∃ y ∈ l, ∃ b, x = fix y i b := by
  rw [mem_waysTo l i x _ (Nat.le_refl _), List.take_length]

/-- One function more among the nodes, if it is none that is the same everywhere. -/
def node1 (n : Nat) (out : List Nat) (t : Nat) : List Nat := if t ≠ 0 ∧ t ≠ full n ∧ t ∉ out then out ++ [t] else out
def layTo (n : Nat) (out now : List Nat) : Nat → List Nat
  | 0 => out
  | i + 1 => node1 n (layTo n out now i) (now.getD i 0)
theorem node1_len (n : Nat) (out : List Nat) (t : Nat) : (node1 n out t).length ≤ out.length + 1 := by unfold node1; split <;> simp
theorem layTo_len (n : Nat) (out now : List Nat) (i : Nat) : (layTo n out now i).length ≤ out.length + i := by
  induction i with
  | zero => simp [layTo]
  | succ i ih => simp only [layTo]; have := node1_len n (layTo n out now i) (now.getD i 0); omega
theorem mem_node1 (n : Nat) (out : List Nat) (t x : Nat) : x ∈ node1 n out t ↔ x ∈ out ∨ (x = t ∧ t ≠ 0 ∧ t ≠ full n) := by
  unfold node1; split
  · rename_i h
    simp only [List.mem_append, List.mem_cons, List.not_mem_nil, or_false]
    constructor
    · rintro (h' | rfl)
      · exact .inl h'
      · exact .inr ⟨rfl, h.1, h.2.1⟩
    · rintro (h' | ⟨rfl, _⟩)
      · exact .inl h'
      · exact .inr rfl
  · rename_i h
    constructor
    · exact .inl
    · rintro (h' | ⟨rfl, h1, h2⟩)
      · exact h'
      · apply Classical.byContradiction
        intro h3
        exact h ⟨h1, h2, h3⟩
theorem nodup_snoc {l : List Nat} {a : Nat} (h : l.Nodup) (ha : a ∉ l) : (l ++ [a]).Nodup := by
  rw [List.nodup_append]
  refine ⟨h, by simp, ?_⟩
  intro x hx y hy e
  simp at hy; subst hy; subst e; exact ha hx
theorem node1_nodup (n : Nat) (out : List Nat) (t : Nat) (h : out.Nodup) : (node1 n out t).Nodup := by
  unfold node1; split
  · rename_i h'; exact nodup_snoc h h'.2.2
  · exact h
theorem layTo_nodup (n : Nat) (out now : List Nat) (h : out.Nodup) (i : Nat) : (layTo n out now i).Nodup := by
  induction i with
  | zero => exact h
  | succ i ih => exact node1_nodup _ _ _ ih
theorem mem_layTo (n : Nat) (out now : List Nat) (x : Nat) (i : Nat) (hi : i ≤ now.length) : x ∈ layTo n out now i ↔ x ∈ out ∨ (x ∈ now.take i ∧ x ≠ 0 ∧ x ≠ full n) := by
  induction i with
  | zero => simp [layTo]
  | succ i ih =>
    have hi' : i < now.length := by omega
    simp only [layTo]
    rw [mem_node1, ih (by omega), List.take_succ_eq_append_getElem hi', show now.getD i 0 = now[i] from by simp [List.getD, hi']]
    simp only [List.mem_append, List.mem_cons, List.not_mem_nil, or_false]
    constructor
    · rintro ((h | ⟨h1, h2⟩) | ⟨rfl, h1, h2⟩)
      · exact .inl h
      · exact .inr ⟨.inl h1, h2⟩
      · exact .inr ⟨.inr rfl, h1, h2⟩
    · rintro (h | ⟨h1 | rfl, h2, h3⟩)
      · exact .inl (.inl h)
      · exact .inl (.inr ⟨h1, h2, h3⟩)
      · exact .inr ⟨rfl, h2, h3⟩

/-- The functions of the first k levels fixed. -/
def nowTo (fns ord : List Nat) : Nat → List Nat
  | 0 => fns
  | k + 1 => waysTo (nowTo fns ord k) (ord.getD k 0) (nowTo fns ord k).length
/-- The nodes found at the first k levels. -/
def outTo (n : Nat) (fns ord : List Nat) : Nat → List Nat
  | 0 => []
  | k + 1 => layTo n (outTo n fns ord k) (nowTo fns ord k) (nowTo fns ord k).length
def nodesT (n : Nat) (fns ord : List Nat) : List Nat := outTo n fns ord (n + 1)
theorem nowTo_len (fns ord : List Nat) (k : Nat) : (nowTo fns ord k).length ≤ fns.length * 2 ^ k := by
  induction k with
  | zero => simp [nowTo]
  | succ k ih =>
    simp only [nowTo]
    have := waysTo_len (nowTo fns ord k) (ord.getD k 0) (nowTo fns ord k).length
    rw [Nat.pow_succ, ← Nat.mul_assoc]
    omega
theorem outTo_len (n : Nat) (fns ord : List Nat) (k : Nat) : (outTo n fns ord k).length + fns.length ≤ fns.length * 2 ^ k := by
  induction k with
  | zero => simp [outTo]
  | succ k ih =>
    simp only [outTo]
    have := layTo_len n (outTo n fns ord k) (nowTo fns ord k) (nowTo fns ord k).length
    have := nowTo_len fns ord k
    rw [Nat.pow_succ, ← Nat.mul_assoc]
    omega
theorem outTo_nodup (n : Nat) (fns ord : List Nat) (k : Nat) : (outTo n fns ord k).Nodup := by
  induction k with
  | zero => simp [outTo]
  | succ k ih => exact layTo_nodup _ _ _ ih _
theorem mem_outTo (n : Nat) (fns ord : List Nat) (x : Nat) (k : Nat) : x ∈ outTo n fns ord k ↔ x ≠ 0 ∧ x ≠ full n ∧ ∃ j, j < k ∧ x ∈ nowTo fns ord j := by
  induction k with
  | zero => simp [outTo]
  | succ k ih =>
    simp only [outTo]
    rw [mem_layTo _ _ _ _ _ (Nat.le_refl _), List.take_length, ih]
    constructor
    · rintro (⟨h1, h2, j, hj, h3⟩ | ⟨h1, h2, h3⟩)
      · exact ⟨h1, h2, j, by omega, h3⟩
      · exact ⟨h2, h3, k, by omega, h1⟩
    · rintro ⟨h1, h2, j, hj, h3⟩
      by_cases e : j = k
      · subst e; exact .inr ⟨h3, h1, h2⟩
      · exact .inl ⟨h1, h2, j, by omega, h3⟩
theorem nowTo_tab {n : Nat} {fns ord : List Nat} (hn : n ≤ 6) (hf : ∀ x ∈ fns, Tab n x) (ho : ∀ v ∈ ord, v < n) (k : Nat) (hk : k ≤ ord.length) : ∀ x ∈ nowTo fns ord k, Tab n x := by
  induction k with
  | zero => exact hf
  | succ k ih =>
    intro x hx
    simp only [nowTo] at hx
    obtain ⟨y, hy, b, rfl⟩ := (mem_ways _ _ _).1 hx
    have hk' : k < ord.length := by omega
    rw [show ord.getD k 0 = ord[k] from by simp [List.getD, hk']]
    exact fix_tab _ b (ih (by omega) y hy) hn (ho _ (List.getElem_mem hk'))

/-- A reduced diagram by an order of n variables, and the tables of its links. -/
structure Dia (n : Nat) (ord : List Nat) (ns : List Nd) (T : Nat → Nat) : Prop where
  n6 : n ≤ 6
  red : Red ord ns
  len : ord.length = n
  mem : ∀ v ∈ ord, v < n
  nodup : ord.Nodup
  tab : ∀ l, l < ns.length + 2 → Tab n (T l)
  bit : ∀ l, l < ns.length + 2 → ∀ p, p < 2 ^ n → (T l).testBit p = ev ns l p
  mask : ∀ p l, l < ns.length + 2 → ev ns l p = ev ns l (p % 2 ^ n)
section
variable {n : Nat} {ord : List Nat} {ns : List Nd} {T : Nat → Nat}

theorem Dia.inj (d : Dia n ord ns T) {l l' : Nat} (hl : l < ns.length + 2) (hl' : l' < ns.length + 2) (h : T l = T l') : l = l' := by
  apply canon d.red (max l l') l l' (Nat.le_max_left _ _) (Nat.le_max_right _ _) hl hl'
  intro p
  rw [d.mask p l hl, d.mask p l' hl']
  have hp : p % 2 ^ n < 2 ^ n := Nat.mod_lt _ (Nat.two_pow_pos _)
  rw [← d.bit l hl _ hp, ← d.bit l' hl' _ hp, h]
theorem Dia.zero (d : Dia n ord ns T) : T 0 = 0 := by
  apply Tab.ext (d.tab 0 (by omega)) (show Tab n 0 from Nat.two_pow_pos _)
  intro p hp
  rw [d.bit 0 (by omega) p hp, ev_0]; simp
theorem Dia.one (d : Dia n ord ns T) : T 1 = full n := by
  apply Tab.ext (d.tab 1 (by omega)) (full_tab n)
  intro p hp
  rw [d.bit 1 (by omega) p hp, ev_1, full_testBit]; simp [hp]
theorem Dia.top_le (d : Dia n ord ns T) (l : Nat) : top ord ns l ≤ n := by
  unfold top
  split
  · exact Nat.le_of_eq d.len
  · split
    · exact Nat.le_of_eq d.len
    · rename_i nd _
      have := List.idxOf_le_length (a := nd.1) (l := ord)
      rw [d.len] at this; exact this
theorem idxOf_at {l : List Nat} (h : l.Nodup) {k : Nat} (hk : k < l.length) : l.idxOf l[k] = k := by
  have h1 : l.idxOf l[k] < l.length := List.idxOf_lt_length_iff.2 (List.getElem_mem hk)
  have h2 : l[l.idxOf l[k]] = l[k] := List.getElem_idxOf h1
  exact (List.getElem_inj h).1 h2
/-- Below its level a function stays as it is. -/
theorem Dia.stay (d : Dia n ord ns T) {l k : Nat} (hl : l < ns.length + 2) (hk : k < ord.length) (ht : k < top ord ns l) (b : Bool) : fix (T l) ord[k] b = T l := by
  have hv : ord[k] ∈ ord := List.getElem_mem hk
  have hvn := d.mem _ hv
  apply Tab.ext (fix_tab _ b (d.tab l hl) d.n6 hvn) (d.tab l hl)
  intro p hp
  rw [fix_at _ p b (d.tab l hl) d.n6 hvn hp, d.bit l hl _ (put_lt p _ n b hvn hp), d.bit l hl p hp]
  exact ev_indep d.red p _ b l hl (by rw [idxOf_at d.nodup hk]; exact ht) hv
/-- At its level it becomes what its links say. -/
theorem Dia.down (d : Dia n ord ns T) {j k : Nat} (hj : j < ns.length) (hk : k < ord.length) (ht : top ord ns (j + 2) = k) (b : Bool) : fix (T (j + 2)) ord[k] b = T (if b then ns[j].2.2 else ns[j].2.1) := by
  have hv : ord[k] ∈ ord := List.getElem_mem hk
  have hvn := d.mem _ hv
  have hw := d.red.wf j hj
  have hlow := d.red.low j hj
  have hkid : (if b then ns[j].2.2 else ns[j].2.1) < ns.length + 2 := by split <;> omega
  rw [top_node ord ns hj] at ht
  have hvar : ns[j].1 = ord[k] := by
    have hm := d.red.var ns[j] (List.getElem_mem hj)
    have h1 := List.idxOf_lt_length_iff.2 hm
    have h2 : ord[ord.idxOf ns[j].1] = ns[j].1 := List.getElem_idxOf h1
    rw [← h2]; congr 1
  apply Tab.ext (fix_tab _ b (d.tab _ (by omega)) d.n6 hvn) (d.tab _ hkid)
  intro p hp
  rw [fix_at _ p b (d.tab _ (by omega)) d.n6 hvn hp, d.bit _ (by omega) _ (put_lt p _ n b hvn hp), d.bit _ hkid p hp, ev_node d.red.wf _ hj, hvar, put_testBit, if_pos rfl]
  cases b
  · simp only [Bool.false_eq_true, if_false]
    exact ev_indep d.red p _ _ _ (by omega) (by rw [idxOf_at d.nodup hk]; omega) hv
  · simp only [if_true]
    exact ev_indep d.red p _ _ _ (by omega) (by rw [idxOf_at d.nodup hk]; omega) hv

/-- The links at which one stands when the first k levels have been asked. -/
def Lay (ord : List Nat) (ns : List Nd) (ls : List Nat) : Nat → Nat → Prop
  | 0, l => l ∈ ls
  | k + 1, l => (Lay ord ns ls k l ∧ k < top ord ns l) ∨ ∃ j, ∃ hj : j < ns.length, Lay ord ns ls k (j + 2) ∧ top ord ns (j + 2) = k ∧ (l = ns[j].2.1 ∨ l = ns[j].2.2)
theorem Dia.lay (d : Dia n ord ns T) {ls : List Nat} (hls : ∀ l ∈ ls, l < ns.length + 2) : ∀ k, k ≤ n → ∀ l, Lay ord ns ls k l → l < ns.length + 2 ∧ k ≤ top ord ns l ∧ Reach ns ls l := by
  intro k
  induction k with
  | zero => intro _ l h; exact ⟨hls l h, Nat.zero_le _, reach_self ns h⟩
  | succ k ih =>
    intro hk l h
    rcases h with ⟨h1, h2⟩ | ⟨j, hj, h1, h2, h3⟩
    · have := ih (by omega) l h1
      exact ⟨this.1, h2, this.2.2⟩
    · obtain ⟨a, b, c⟩ := ih (by omega) _ h1
      have hw := d.red.wf j hj
      have hlow := d.red.low j hj
      rw [top_node ord ns hj] at h2
      obtain ⟨r1, r2⟩ := reach_kid hj c
      rcases h3 with rfl | rfl
      · exact ⟨by omega, by omega, r1⟩
      · exact ⟨by omega, by omega, r2⟩
theorem Dia.now (d : Dia n ord ns T) {ls : List Nat} (hls : ∀ l ∈ ls, l < ns.length + 2) : ∀ k, k ≤ n → ∀ x, x ∈ nowTo (ls.map T) ord k ↔ ∃ l, Lay ord ns ls k l ∧ x = T l := by
  intro k
  induction k with
  | zero =>
    intro _ x
    simp only [nowTo, List.mem_map, Lay]
    constructor
    · rintro ⟨l, h, rfl⟩; exact ⟨l, h, rfl⟩
    · rintro ⟨l, h, rfl⟩; exact ⟨l, h, rfl⟩
  | succ k ih =>
    intro hk x
    have hko : k < ord.length := by rw [d.len]; omega
    simp only [nowTo]
    rw [mem_ways, show ord.getD k 0 = ord[k] from by simp [List.getD, hko]]
    constructor
    · rintro ⟨y, hy, b, rfl⟩
      obtain ⟨l, hl, rfl⟩ := (ih (by omega) y).1 hy
      obtain ⟨h1, h2, _⟩ := d.lay hls k (by omega) l hl
      by_cases ht : k < top ord ns l
      · exact ⟨l, .inl ⟨hl, ht⟩, d.stay h1 hko ht b⟩
      · have ht' : top ord ns l = k := by omega
        have h2l : ¬ l < 2 := by intro h; rw [top_small ord ns h, d.len] at ht'; omega
        obtain ⟨j, rfl⟩ : ∃ j, l = j + 2 := ⟨l - 2, by omega⟩
        have hj : j < ns.length := by omega
        refine ⟨_, .inr ⟨j, hj, hl, ht', ?_⟩, d.down hj hko ht' b⟩
        cases b
        · exact .inl rfl
        · exact .inr rfl
    · rintro ⟨l, h, rfl⟩
      rcases h with ⟨h1, h2⟩ | ⟨j, hj, h1, h2, h3⟩
      · exact ⟨T l, (ih (by omega) _).2 ⟨l, h1, rfl⟩, false, (d.stay (d.lay hls k (by omega) l h1).1 hko h2 false).symm⟩
      · refine ⟨T (j + 2), (ih (by omega) _).2 ⟨_, h1, rfl⟩, ?_⟩
        rcases h3 with rfl | rfl
        · exact ⟨false, (d.down hj hko h2 false).symm⟩
        · exact ⟨true, (d.down hj hko h2 true).symm⟩
theorem Dia.lay_stay {ls : List Nat} {k m l : Nat} (h : Lay ord ns ls k l) (hkm : k ≤ m) (hm : m ≤ top ord ns l) : Lay ord ns ls m l := by
  induction m with
  | zero => obtain rfl : k = 0 := by omega
            exact h
  | succ m ih =>
    by_cases e : k = m + 1
    · subst e; exact h
    · exact .inl ⟨ih (by omega) (by omega), by omega⟩
/-- What is reached is passed at some level. -/
theorem Dia.passed (d : Dia n ord ns T) {ls : List Nat} (hls : ∀ l ∈ ls, l < ns.length + 2) {l : Nat} (h : Reach ns ls l) : ∃ k, k ≤ n ∧ Lay ord ns ls k l := by
  apply h (fun l => ∃ k, k ≤ n ∧ Lay ord ns ls k l)
  · intro l hl; exact ⟨0, Nat.zero_le _, hl⟩
  · rintro j hj ⟨k, hk, hl⟩
    obtain ⟨h1, h2, _⟩ := d.lay hls k hk _ hl
    have ht : top ord ns (j + 2) < n := by
      rw [top_node ord ns hj, ← d.len]
      exact List.idxOf_lt_length_iff.2 (d.red.var _ (List.getElem_mem hj))
    have hs := Dia.lay_stay hl h2 (Nat.le_refl _)
    exact ⟨⟨_, ht, .inr ⟨j, hj, hs, rfl, .inl rfl⟩⟩, ⟨_, ht, .inr ⟨j, hj, hs, rfl, .inr rfl⟩⟩⟩
/-- The nodes of some functions are the reached ones. -/
theorem Dia.mem_nodes (d : Dia n ord ns T) {ls : List Nat} (hls : ∀ l ∈ ls, l < ns.length + 2) (x : Nat) : x ∈ nodesT n (ls.map T) ord ↔ ∃ j, j < ns.length ∧ Reach ns ls (j + 2) ∧ x = T (j + 2) := by
  unfold nodesT
  rw [mem_outTo]
  constructor
  · rintro ⟨h1, h2, k, hk, h3⟩
    obtain ⟨l, hl, rfl⟩ := (d.now hls k (by omega) x).1 h3
    obtain ⟨a, _, c⟩ := d.lay hls k (by omega) l hl
    have h0 : l ≠ 0 := by intro e; subst e; exact h1 d.zero
    have h1' : l ≠ 1 := by intro e; subst e; exact h2 d.one
    exact ⟨l - 2, by omega, by rw [show l - 2 + 2 = l from by omega]; exact c, by rw [show l - 2 + 2 = l from by omega]⟩
  · rintro ⟨j, hj, hr, rfl⟩
    obtain ⟨k, hk, hl⟩ := d.passed hls hr
    refine ⟨fun e => ?_, fun e => ?_, k, by omega, (d.now hls k hk _).2 ⟨_, hl, rfl⟩⟩
    · have := d.inj (l := j + 2) (l' := 0) (by omega) (by omega) (by rw [e, d.zero]); omega
    · have := d.inj (l := j + 2) (l' := 1) (by omega) (by omega) (by rw [e, d.one]); omega
theorem cntM_filter (b : List Bool) (k : Nat) : cntM b k = ((List.range k).filter (fun i => b.getD (i + 2) false)).length := by
  induction k with
  | zero => rfl
  | succ k ih =>
    rw [List.range_succ, List.filter_append, List.length_append, ← ih]
    simp only [cntM, List.filter_cons, List.filter_nil]
    cases b.getD (k + 2) false <;> rfl
theorem nodup_map {l : List Nat} (f : Nat → Nat) (h : l.Nodup) (hf : ∀ a ∈ l, ∀ b ∈ l, f a = f b → a = b) : (l.map f).Nodup := by
  induction l with
  | nil => simp
  | cons a l ih =>
    rw [List.nodup_cons] at h
    rw [List.map_cons, List.nodup_cons]
    refine ⟨?_, ih h.2 (fun x hx y hy => hf x (by simp [hx]) y (by simp [hy]))⟩
    intro hm
    obtain ⟨x, hx, e⟩ := List.mem_map.1 hm
    have := hf x (by simp [hx]) a (by simp) e
    subst this; exact h.1 hx
/-- AS MANY AS THE DOCUMENT SAYS. -/
theorem Dia.count (d : Dia n ord ns T) {ls : List Nat} (hls : ∀ l ∈ ls, l < ns.length + 2) : (nodesT n (ls.map T) ord).length = cntM (reached ns ls) ns.length := by
  rw [cntM_filter]
  have e : ((List.range ns.length).filter (fun i => (reached ns ls).getD (i + 2) false)).length = (((List.range ns.length).filter (fun i => (reached ns ls).getD (i + 2) false)).map (fun j => T (j + 2))).length := by rw [List.length_map]
  rw [e]
  apply List.Perm.length_eq
  unfold nodesT
  rw [List.perm_ext_iff_of_nodup (outTo_nodup _ _ _ _)]
  · intro x
    rw [show outTo n (ls.map T) ord (n + 1) = nodesT n (ls.map T) ord from rfl, d.mem_nodes hls]
    simp only [List.mem_map, List.mem_filter, List.mem_range]
    constructor
    · rintro ⟨j, hj, hr, rfl⟩
      exact ⟨j, ⟨hj, (reached_iff d.red.wf ls hls _ (by omega)).2 hr⟩, rfl⟩
    · rintro ⟨j, ⟨hj, hr⟩, rfl⟩
      exact ⟨j, hj, (reached_iff d.red.wf ls hls _ (by omega)).1 hr, rfl⟩
  · apply nodup_map
    · exact List.Pairwise.filter _ List.nodup_range
    · intro a ha b hb e
      simp only [List.mem_filter, List.mem_range] at ha hb
      have := d.inj (l := a + 2) (l' := b + 2) (by omega) (by omega) e
      omega
end
end Cho

/-
  Own work: tables made place by place (plain mathematics).
-/
namespace Cho

/-- The table that says f at the first k places. -/
def bld (f : Nat → Bool) : Nat → Nat
  | 0 => 0
  | k + 1 => if f k then bld f k ||| 2 ^ k else bld f k
theorem bld_testBit (f : Nat → Bool) (k p : Nat) : (bld f k).testBit p = (decide (p < k) && f p) := by
  induction k with
  | zero => simp [bld]
  | succ k ih =>
    simp only [bld]
    by_cases e : p = k
    · subst e
      split
      · rename_i h; rw [Nat.testBit_or, Nat.testBit_two_pow_self]; simp [h]
      · rename_i h; rw [ih]; simp at h; simp [h]
    · have hb : (2 ^ k).testBit p = false := Nat.testBit_two_pow_of_ne (fun h => e h.symm)
      have : (decide (p < k + 1)) = decide (p < k) := by apply decide_eq_decide.2; omega
      split
      · rw [Nat.testBit_or, hb, Bool.or_false, ih, this]
      · rw [ih, this]
theorem bld_lt (f : Nat → Bool) (k : Nat) : bld f k < 2 ^ k := by
  apply Nat.lt_pow_two_of_testBit
  intro i hi
  rw [bld_testBit]; simp; omega
theorem bld_u64 (f : Nat → Bool) (k : Nat) (h : k ≤ 64) : U64 (bld f k) := Nat.lt_of_lt_of_le (bld_lt f k) (Nat.pow_le_pow_right (by decide) h)
theorem bld_tab (f : Nat → Bool) (n : Nat) : Tab n (bld f (2 ^ n)) := bld_lt f _
/-- A table is told by its places. -/
theorem bld_eq {n t : Nat} {f : Nat → Bool} (h : Tab n t) (hf : ∀ p, p < 2 ^ n → f p = t.testBit p) : bld f (2 ^ n) = t := by
  apply Tab.ext (bld_tab f n) h
  intro p hp
  rw [bld_testBit, hf p hp]; simp [hp]
theorem bld_full (n : Nat) : bld (fun _ => true) (2 ^ n) = full n := bld_eq (full_tab n) fun p hp => by rw [full_testBit]; simp [hp]
theorem bld_fix {n t i : Nat} (b : Bool) (h : Tab n t) (hn : n ≤ 6) (hi : i < n) : bld (fun p => t.testBit (put p i b)) (2 ^ n) = fix t i b :=
  bld_eq (fix_tab i b h hn hi) fun p hp => (fix_at i p b h hn hi hp).symm
theorem bld_var {n i : Nat} (hn : n ≤ 6) (hi : i < n) : bld (fun p => p.testBit i) (2 ^ n) = col i &&& full n := by
  have h64 := two_pow_le n hn
  apply bld_eq (Nat.lt_of_le_of_lt Nat.and_le_right (full_tab n))
  intro p hp
  rw [Nat.testBit_and, full_testBit, col_testBit i (by omega) p (by omega)]; simp [hp]
theorem bld_join {n a b : Nat} (c : Nat) (ha : Tab n a) (hb : Tab n b) (hn : n ≤ 6) : bld (fun p => c.testBit (2 * (a.testBit p).toNat + (b.testBit p).toNat)) (2 ^ n) = joinT c a b (full n) :=
  bld_eq (joinT_tab c a b n ha hb) fun p hp => by rw [joinT_testBit c a b n p (ha.u64 hn) (hb.u64 hn) hn hp]; rfl
theorem bld_choose {n a b c : Nat} (ha : Tab n a) (hb : Tab n b) (hc : Tab n c) (hn : n ≤ 6) : bld (fun p => if a.testBit p then b.testBit p else c.testBit p) (2 ^ n) = chooseT a b c := by
  have h64 := two_pow_le n hn
  exact bld_eq (chooseT_tab hb hc) fun p hp => by rw [chooseT_testBit a b c p (ha.u64 hn) (by omega)]
theorem bld_put {n t i b : Nat} (ht : Tab n t) (hb : Tab n b) (hn : n ≤ 6) (hi : i < n) : bld (fun p => t.testBit (put p i (b.testBit p))) (2 ^ n) = putT t i b :=
  bld_eq (putT_tab i b ht hn hi) fun p hp => by rw [putT_testBit i b p ht hb hn hi hp]
end Cho
