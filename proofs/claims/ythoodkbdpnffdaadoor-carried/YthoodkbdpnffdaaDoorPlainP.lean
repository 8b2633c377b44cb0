/-
  Own work: two functions that have as many nodes by every order: whether an odd number of variables are yes, whether all are (plain mathematics).
-/
import Derived.Test.YthoodkbdpnffdaaDoorPlainM
import Derived.Test.YthoodkbdpnffdaaDoorPlainN
namespace Cho

/-- Is an odd number of these variables yes? -/
def xorF : List Nat → Nat → Bool
  | [], _ => false
  | v :: V, p => p.testBit v ^^ xorF V p
/-- Are all of them? -/
def allF : List Nat → Nat → Bool
  | [], _ => true
  | v :: V, p => p.testBit v && allF V p
theorem xorF_put {V : List Nat} {v : Nat} (h : v ∉ V) (p : Nat) (b : Bool) : xorF V (put p v b) = xorF V p := by
  induction V with
  | nil => rfl
  | cons u V ih =>
    simp only [List.mem_cons, not_or] at h
    simp only [xorF]
    rw [put_testBit, if_neg (fun e => h.1 e.symm), ih h.2]
theorem allF_put {V : List Nat} {v : Nat} (h : v ∉ V) (p : Nat) (b : Bool) : allF V (put p v b) = allF V p := by
  induction V with
  | nil => rfl
  | cons u V ih =>
    simp only [List.mem_cons, not_or] at h
    simp only [allF]
    rw [put_testBit, if_neg (fun e => h.1 e.symm), ih h.2]
theorem xorF_zero (V : List Nat) : xorF V 0 = false := by
  induction V with
  | nil => rfl
  | cons v V ih => simp [xorF, ih]
theorem xorF_perm {V U : List Nat} (h : V.Perm U) (p : Nat) : xorF V p = xorF U p := by
  induction h with
  | nil => rfl
  | cons v _ ih => simp only [xorF, ih]
  | swap u v V => simp only [xorF]; rw [← Bool.xor_assoc, ← Bool.xor_assoc, Bool.xor_comm (p.testBit v)]
  | trans _ _ h1 h2 => exact h1.trans h2
theorem allF_iff (V : List Nat) (p : Nat) : allF V p = true ↔ ∀ v ∈ V, p.testBit v = true := by
  induction V with
  | nil => simp [allF]
  | cons v V ih => simp [allF, ih]
/-- Their tables; c: turned round. -/
def xorT (n : Nat) (V : List Nat) (c : Bool) : Nat := bld (fun p => xorF V p ^^ c) (2 ^ n)
def allT (n : Nat) (V : List Nat) : Nat := bld (fun p => allF V p) (2 ^ n)
theorem xorT_tab (n : Nat) (V : List Nat) (c : Bool) : Tab n (xorT n V c) := bld_tab _ n
theorem allT_tab (n : Nat) (V : List Nat) : Tab n (allT n V) := bld_tab _ n
theorem xorT_bit {n p : Nat} (V : List Nat) (c : Bool) (hp : p < 2 ^ n) : (xorT n V c).testBit p = (xorF V p ^^ c) := by unfold xorT; rw [bld_testBit]; simp [hp]
theorem allT_bit {n p : Nat} (V : List Nat) (hp : p < 2 ^ n) : (allT n V).testBit p = allF V p := by unfold allT; rw [bld_testBit]; simp [hp]
theorem xorT_perm {n : Nat} {V U : List Nat} (h : V.Perm U) (c : Bool) : xorT n V c = xorT n U c := by
  apply Tab.ext (xorT_tab n V c) (xorT_tab n U c)
  intro p hp
  rw [xorT_bit V c hp, xorT_bit U c hp, xorF_perm h]
theorem allT_perm {n : Nat} {V U : List Nat} (h : V.Perm U) : allT n V = allT n U := by
  apply Tab.ext (allT_tab n V) (allT_tab n U)
  intro p hp
  rw [allT_bit V hp, allT_bit U hp, Bool.eq_iff_iff, allF_iff, allF_iff]
  exact ⟨fun h1 v hv => h1 v (h.mem_iff.2 hv), fun h1 v hv => h1 v (h.mem_iff.1 hv)⟩
theorem xorT_fix {n v : Nat} {V : List Nat} (hn : n ≤ 6) (hv : v < n) (h : v ∉ V) (c b : Bool) : fix (xorT n (v :: V) c) v b = xorT n V (c ^^ b) := by
  apply Tab.ext (fix_tab v b (xorT_tab n _ c) hn hv) (xorT_tab n V _)
  intro p hp
  rw [fix_at v p b (xorT_tab n _ c) hn hv hp, xorT_bit _ c (put_lt p v n b hv hp), xorT_bit V _ hp]
  simp only [xorF]
  rw [put_testBit, if_pos rfl, xorF_put h]
  cases b <;> cases xorF V p <;> cases c <;> rfl
theorem allT_fix {n v : Nat} {V : List Nat} (hn : n ≤ 6) (hv : v < n) (h : v ∉ V) (b : Bool) : fix (allT n (v :: V)) v b = if b then allT n V else 0 := by
  cases b
  · apply Tab.ext (fix_tab v false (allT_tab n _) hn hv) (show Tab n 0 from Nat.two_pow_pos _)
    intro p hp
    rw [fix_at v p false (allT_tab n _) hn hv hp, allT_bit _ (put_lt p v n false hv hp)]
    simp only [allF]
    rw [put_testBit, if_pos rfl]; simp
  · apply Tab.ext (fix_tab v true (allT_tab n _) hn hv) (allT_tab n V)
    intro p hp
    rw [fix_at v p true (allT_tab n _) hn hv hp, allT_bit _ (put_lt p v n true hv hp)]
    show allF (v :: V) (put p v true) = (allT n V).testBit p
    rw [allT_bit V hp]
    simp only [allF]
    rw [put_testBit, if_pos rfl, allF_put h]; simp
theorem fix_zero (n v : Nat) (hn : n ≤ 6) (hv : v < n) (b : Bool) : fix 0 v b = 0 := by
  have h0 : Tab n 0 := Nat.two_pow_pos _
  apply Tab.ext (fix_tab v b h0 hn hv) h0
  intro p hp
  rw [fix_at v p b h0 hn hv hp]; simp
theorem xorT_nil (n : Nat) (c : Bool) : xorT n [] c = if c then full n else 0 := by
  cases c
  · apply Tab.ext (xorT_tab n [] false) (show Tab n 0 from Nat.two_pow_pos _)
    intro p hp
    rw [xorT_bit _ _ hp]; simp [xorF]
  · rw [if_pos rfl, ← bld_full]
    unfold xorT
    congr 1
theorem allT_nil (n : Nat) : allT n [] = full n := by rw [← bld_full]; rfl

/-- An order, and what is left of it. -/
structure Ord (n : Nat) (ord : List Nat) : Prop where
  n1 : 1 ≤ n
  n6 : n ≤ 6
  len : ord.length = n
  mem : ∀ v ∈ ord, v < n
  nodup : ord.Nodup
section
variable {n : Nat} {ord : List Nat}
theorem Ord.split (o : Ord n ord) {k : Nat} (hk : k < n) : ord.drop k = ord[k]'(by rw [o.len]; exact hk) :: ord.drop (k + 1) ∧ ord[k]'(by rw [o.len]; exact hk) ∉ ord.drop (k + 1) ∧ ord[k]'(by rw [o.len]; exact hk) < n := by
  have hk' : k < ord.length := by rw [o.len]; exact hk
  have e : ord.drop k = ord[k] :: ord.drop (k + 1) := List.drop_eq_getElem_cons hk'
  have hnd : (ord.drop k).Nodup := o.nodup.sublist (List.drop_sublist _ _)
  rw [e, List.nodup_cons] at hnd
  exact ⟨e, hnd.1, o.mem _ (List.getElem_mem hk')⟩
theorem Ord.mem_drop (o : Ord n ord) {k j : Nat} (hk : k < n) (hj : k < j) : ord[k]'(by rw [o.len]; exact hk) ∉ ord.drop j := by
  intro hm
  have : ord.drop j = (ord.drop (k + 1)).drop (j - (k + 1)) := by rw [List.drop_drop]; congr 1; omega
  rw [this] at hm
  exact (o.split hk).2.1 (List.mem_of_mem_drop hm)
theorem Ord.two_lt (o : Ord n ord) {k : Nat} (hk : k < n) : 2 ^ (ord[k]'(by rw [o.len]; exact hk)) < 2 ^ n := Nat.pow_lt_pow_right (by decide) (o.split hk).2.2
theorem Ord.xor_at (o : Ord n ord) {k j : Nat} (hk : k < n) (hj : k ≤ j) : xorF (ord.drop j) (2 ^ (ord[k]'(by rw [o.len]; exact hk))) = decide (j = k) := by
  have hz : ∀ V : List Nat, ord[k]'(by rw [o.len]; exact hk) ∉ V → xorF V (2 ^ (ord[k]'(by rw [o.len]; exact hk))) = false := by
    intro V hV
    induction V with
    | nil => rfl
    | cons v V ih =>
      simp only [List.mem_cons, not_or] at hV
      simp only [xorF, ih hV.2]
      rw [Nat.testBit_two_pow_of_ne (fun e => hV.1 e)]; rfl
  by_cases e : j = k
  · subst e
    rw [(o.split hk).1]
    simp only [xorF, hz _ (o.split hk).2.1, Nat.testBit_two_pow_self]
    simp
  · rw [hz _ (o.mem_drop hk (by omega))]; simp [e]
/-- Different levels, different functions. -/
theorem Ord.xor_inj (o : Ord n ord) {k j : Nat} {c d : Bool} (hk : k < n) (hj : j < n) (h : xorT n (ord.drop k) c = xorT n (ord.drop j) d) : k = j ∧ c = d := by
  have hcd : c = d := by
    have : (xorT n (ord.drop k) c).testBit 0 = (xorT n (ord.drop j) d).testBit 0 := by rw [h]
    rw [xorT_bit _ _ (Nat.two_pow_pos n), xorT_bit _ _ (Nat.two_pow_pos n), xorF_zero, xorF_zero] at this
    simpa using this
  refine ⟨?_, hcd⟩
  subst hcd
  have key : ∀ k j, k < n → j < n → k < j → xorT n (ord.drop k) c ≠ xorT n (ord.drop j) c := by
    intro k j hk hj hkj h
    have : (xorT n (ord.drop k) c).testBit (2 ^ (ord[k]'(by rw [o.len]; exact hk))) = (xorT n (ord.drop j) c).testBit (2 ^ (ord[k]'(by rw [o.len]; exact hk))) := by rw [h]
    rw [xorT_bit _ _ (o.two_lt hk), xorT_bit _ _ (o.two_lt hk), o.xor_at hk (Nat.le_refl _), o.xor_at hk (by omega)] at this
    have e : decide (j = k) = false := by simp; omega
    rw [e] at this
    cases c <;> simp at this
  by_cases e : k < j
  · exact absurd h (key k j hk hj e)
  · by_cases e2 : j < k
    · exact absurd h.symm (key j k hj hk e2)
    · omega
theorem Ord.xor_ne (o : Ord n ord) {k : Nat} {c : Bool} (hk : k < n) : xorT n (ord.drop k) c ≠ 0 ∧ xorT n (ord.drop k) c ≠ full n := by
  have h0 : (xorT n (ord.drop k) c).testBit 0 = c := by rw [xorT_bit _ _ (Nat.two_pow_pos n), xorF_zero]; simp
  have h1 : (xorT n (ord.drop k) c).testBit (2 ^ (ord[k]'(by rw [o.len]; exact hk))) = !c := by
    rw [xorT_bit _ _ (o.two_lt hk), o.xor_at hk (Nat.le_refl _)]; simp
  constructor
  · intro e; rw [e] at h0 h1; simp at h0 h1; rw [h0] at h1; cases h1
  · intro e; rw [e, full_testBit] at h0 h1
    simp [Nat.two_pow_pos] at h0
    rw [h0] at h1
    simp [o.two_lt hk] at h1
theorem Ord.now_xor (o : Ord n ord) : ∀ k, k ≤ n → ∀ x, x ∈ nowTo [xorT n ord false] ord k ↔ x = xorT n (ord.drop k) false ∨ (1 ≤ k ∧ x = xorT n (ord.drop k) true) := by
  intro k
  induction k with
  | zero => intro _ x; simp [nowTo]
  | succ k ih =>
    intro hk x
    have hko : k < ord.length := by rw [o.len]; omega
    obtain ⟨e, hnm, hvn⟩ := o.split (k := k) (by omega)
    simp only [nowTo]
    rw [mem_ways, show ord.getD k 0 = ord[k] from by simp [List.getD, hko]]
    have hf : ∀ c b, fix (xorT n (ord.drop k) c) ord[k] b = xorT n (ord.drop (k + 1)) (c ^^ b) := fun c b => by rw [e]; exact xorT_fix o.n6 hvn hnm c b
    constructor
    · rintro ⟨y, hy, b, rfl⟩
      rcases (ih (by omega) y).1 hy with rfl | ⟨_, rfl⟩
      · rw [hf]; cases b
        · exact .inl rfl
        · exact .inr ⟨by omega, rfl⟩
      · rw [hf]; cases b
        · exact .inr ⟨by omega, rfl⟩
        · exact .inl rfl
    · rintro (rfl | ⟨_, rfl⟩)
      · exact ⟨_, (ih (by omega) _).2 (.inl rfl), false, (hf false false).symm⟩
      · exact ⟨_, (ih (by omega) _).2 (.inl rfl), true, (hf false true).symm⟩
/-- AN ODD NUMBER: 2 n - 1 nodes. -/
theorem Ord.odd (o : Ord n ord) : (nodesT n [xorT n ord false] ord).length = 2 * n - 1 := by
  have hE : (nodesT n [xorT n ord false] ord).Perm (xorT n ord false :: (List.range (n - 1)).flatMap fun j => [xorT n (ord.drop (j + 1)) false, xorT n (ord.drop (j + 1)) true]) := by
    unfold nodesT
    rw [List.perm_ext_iff_of_nodup (outTo_nodup _ _ _ _)]
    · intro x
      rw [mem_outTo]
      simp only [List.mem_cons, List.mem_flatMap, List.mem_range, List.not_mem_nil, or_false]
      constructor
      · rintro ⟨h0, h1, k, hk, hx⟩
        have hkn : k < n := by
          apply Classical.byContradiction
          intro hc
          obtain rfl : k = n := by omega
          have ed : ord.drop k = [] := List.drop_eq_nil_of_le (by rw [o.len]; exact Nat.le_refl _)
          rcases (o.now_xor k (Nat.le_refl _) x).1 hx with rfl | ⟨_, rfl⟩
          · rw [ed, xorT_nil] at h0; exact h0 rfl
          · rw [ed, xorT_nil] at h1; exact h1 rfl
        rcases (o.now_xor k (by omega) x).1 hx with rfl | ⟨hk1, rfl⟩
        · cases k with
          | zero => exact .inl rfl
          | succ k => exact .inr ⟨k, by omega, .inl rfl⟩
        · cases k with
          | zero => omega
          | succ k => exact .inr ⟨k, by omega, .inr rfl⟩
      · rintro (rfl | ⟨j, hj, rfl | rfl⟩)
        · have := o.xor_ne (k := 0) (c := false) (by have := o.n1; omega)
          exact ⟨this.1, this.2, 0, by omega, (o.now_xor 0 (by omega) _).2 (.inl rfl)⟩
        · have := o.xor_ne (k := j + 1) (c := false) (by omega)
          exact ⟨this.1, this.2, j + 1, by omega, (o.now_xor _ (by omega) _).2 (.inl rfl)⟩
        · have := o.xor_ne (k := j + 1) (c := true) (by omega)
          exact ⟨this.1, this.2, j + 1, by omega, (o.now_xor _ (by omega) _).2 (.inr ⟨by omega, rfl⟩)⟩
    · rw [List.nodup_cons]
      constructor
      · intro hm
        obtain ⟨j, hj, hx⟩ := List.mem_flatMap.1 hm
        have hj' := List.mem_range.1 hj
        simp only [List.mem_cons, List.not_mem_nil, or_false] at hx
        have h0 : xorT n ord false = xorT n (ord.drop 0) false := rfl
        rw [h0] at hx
        rcases hx with e | e
        · have := (o.xor_inj (by omega) (by omega) e).1; omega
        · have := (o.xor_inj (by omega) (by omega) e).1; omega
      · have key : ∀ m, m ≤ n - 1 → ((List.range m).flatMap fun j => [xorT n (ord.drop (j + 1)) false, xorT n (ord.drop (j + 1)) true]).Nodup := by
          intro m
          induction m with
          | zero => intro _; simp
          | succ m ih =>
            intro hm
            rw [List.range_succ, List.flatMap_append, List.nodup_append]
            refine ⟨ih (by omega), ?_, ?_⟩
            · simp only [List.flatMap_cons, List.flatMap_nil, List.append_nil, List.nodup_cons, List.mem_cons, List.not_mem_nil, or_false, not_false_eq_true, List.nodup_nil, and_true]
              intro e
              have := (o.xor_inj (by omega) (by omega) e).2; cases this
            · intro x hx y hy e
              subst e
              obtain ⟨j, hj, hx⟩ := List.mem_flatMap.1 hx
              have hj' := List.mem_range.1 hj
              simp only [List.flatMap_cons, List.flatMap_nil, List.append_nil, List.mem_cons, List.not_mem_nil, or_false] at hx hy
              rcases hx with rfl | rfl <;> rcases hy with e | e <;> (have := (o.xor_inj (by omega) (by omega) e).1; omega)
        exact key (n - 1) (Nat.le_refl _)
  rw [hE.length_eq]
  have hl : ∀ m, ((List.range m).flatMap fun j => [xorT n (ord.drop (j + 1)) false, xorT n (ord.drop (j + 1)) true]).length = 2 * m := by
    intro m
    induction m with
    | zero => simp
    | succ m ih => rw [List.range_succ, List.flatMap_append, List.length_append, ih]; simp; omega
  rw [List.length_cons, hl]
  have := o.n1; omega

theorem Ord.all_inj (o : Ord n ord) {k j : Nat} (hk : k < n) (hj : j < n) (h : allT n (ord.drop k) = allT n (ord.drop j)) : k = j := by
  have key : ∀ k j, k < n → j < n → k < j → allT n (ord.drop k) ≠ allT n (ord.drop j) := by
    intro k j hk hj hkj h
    have hko : k < ord.length := by rw [o.len]; exact hk
    have hm := mask_lt (ord.drop j) (2 ^ n - 1) n (fun v hv => o.mem v (List.mem_of_mem_drop hv))
    have hb : ∀ v, v < n → (2 ^ n - 1).testBit v = true := fun v hv => by rw [Nat.testBit_two_pow_sub_one]; simp [hv]
    have : (allT n (ord.drop k)).testBit (mask (ord.drop j) (2 ^ n - 1)) = (allT n (ord.drop j)).testBit (mask (ord.drop j) (2 ^ n - 1)) := by rw [h]
    rw [allT_bit _ hm, allT_bit _ hm] at this
    have h1 : allF (ord.drop j) (mask (ord.drop j) (2 ^ n - 1)) = true := by
      rw [allF_iff]
      intro v hv
      rw [mask_testBit, hb v (o.mem v (List.mem_of_mem_drop hv))]; simp [hv]
    rw [h1, allF_iff] at this
    have hv := this ord[k] (by rw [(o.split hk).1]; exact List.mem_cons_self ..)
    rw [mask_testBit] at hv
    simp [o.mem_drop hk hkj] at hv
  by_cases e : k < j
  · exact absurd h (key k j hk hj e)
  · by_cases e2 : j < k
    · exact absurd h.symm (key j k hj hk e2)
    · omega
theorem Ord.all_ne (o : Ord n ord) {k : Nat} (hk : k < n) : allT n (ord.drop k) ≠ 0 ∧ allT n (ord.drop k) ≠ full n := by
  have h2 : 2 ^ n - 1 < 2 ^ n := by have := Nat.two_pow_pos n; omega
  have h1 : (allT n (ord.drop k)).testBit (2 ^ n - 1) = true := by
    rw [allT_bit _ h2, allF_iff]
    intro v hv
    have := o.mem v (List.mem_of_mem_drop hv)
    rw [Nat.testBit_two_pow_sub_one]; simp [this]
  have h0 : (allT n (ord.drop k)).testBit 0 = false := by
    rw [allT_bit _ (Nat.two_pow_pos n), (o.split hk).1]; simp [allF]
  constructor
  · intro e; rw [e] at h1; simp at h1
  · intro e; rw [e, full_testBit] at h0; simp [Nat.two_pow_pos] at h0
theorem Ord.now_all (o : Ord n ord) : ∀ k, k ≤ n → ∀ x, x ∈ nowTo [allT n ord] ord k ↔ x = allT n (ord.drop k) ∨ (1 ≤ k ∧ x = 0) := by
  intro k
  induction k with
  | zero => intro _ x; simp [nowTo]
  | succ k ih =>
    intro hk x
    have hko : k < ord.length := by rw [o.len]; omega
    obtain ⟨e, hnm, hvn⟩ := o.split (k := k) (by omega)
    simp only [nowTo]
    rw [mem_ways, show ord.getD k 0 = ord[k] from by simp [List.getD, hko]]
    have hf : ∀ b, fix (allT n (ord.drop k)) ord[k] b = if b then allT n (ord.drop (k + 1)) else 0 := fun b => by rw [e]; exact allT_fix o.n6 hvn hnm b
    constructor
    · rintro ⟨y, hy, b, rfl⟩
      rcases (ih (by omega) y).1 hy with rfl | ⟨_, rfl⟩
      · rw [hf]; cases b
        · exact .inr ⟨by omega, rfl⟩
        · exact .inl rfl
      · rw [fix_zero n _ o.n6 hvn]; exact .inr ⟨by omega, rfl⟩
    · rintro (rfl | ⟨_, rfl⟩)
      · exact ⟨_, (ih (by omega) _).2 (.inl rfl), true, (hf true).symm⟩
      · exact ⟨_, (ih (by omega) _).2 (.inl rfl), false, (hf false).symm⟩
/-- ALL: n nodes. -/
theorem Ord.every (o : Ord n ord) : (nodesT n [allT n ord] ord).length = n := by
  have hE : (nodesT n [allT n ord] ord).Perm ((List.range n).map fun j => allT n (ord.drop j)) := by
    unfold nodesT
    rw [List.perm_ext_iff_of_nodup (outTo_nodup _ _ _ _)]
    · intro x
      rw [mem_outTo]
      simp only [List.mem_map, List.mem_range]
      constructor
      · rintro ⟨h0, h1, k, hk, hx⟩
        rcases (o.now_all k (by omega) x).1 hx with rfl | ⟨_, rfl⟩
        · refine ⟨k, ?_, rfl⟩
          apply Classical.byContradiction
          intro hc
          obtain rfl : k = n := by omega
          have ed : ord.drop k = [] := List.drop_eq_nil_of_le (by rw [o.len]; exact Nat.le_refl _)
          rw [ed, allT_nil] at h1; exact h1 rfl
        · exact absurd rfl h0
      · rintro ⟨j, hj, rfl⟩
        have := o.all_ne hj
        exact ⟨this.1, this.2, j, by omega, (o.now_all j (by omega) _).2 (.inl rfl)⟩
    · apply nodup_map
      · exact List.nodup_range
      · intro a ha b hb e
        exact o.all_inj (List.mem_range.1 ha) (List.mem_range.1 hb) e
  rw [hE.length_eq]; simp
end
end Cho
