/-
  Own work: the nodes that the document's answer counts, by fixing variables level by level, are those that are reached in a reduced diagram (plain mathematics).
-/
import Derived.Test.YthoodkbdpnffdabDoorPlainK
import Derived.Test.YthoodkbdpnffdabDoorPlainL
namespace Cho

def addN (out : List Nat) (a : Nat) : List Nat := if a ∈ out then out else out ++ [a]
theorem mem_addN (out : List Nat) (a x : Nat) : x ∈ addN out a ↔ x ∈ out ∨ x = a := by
  unfold addN; split
  · constructor
    · exact .inl
    · rintro (h | rfl)
      · exact h
      · assumption
  · simp
theorem addN_len (out : List Nat) (a : Nat) : (addN out a).length ≤ out.length + 1 := by
  unfold addN; split <;> simp
/-- What the first k of some functions become when variable i is fixed, each once. -/
def waysTo (l : List Nat) (i : Nat) : Nat → List Nat
  | 0 => []
  | k + 1 => addN (addN (waysTo l i k) (fix (l.getD k 0) i false)) (fix (l.getD k 0) i true)
theorem waysTo_len (l : List Nat) (i k : Nat) : (waysTo l i k).length ≤ 2 * k := by
  induction k with
  | zero => simp [waysTo]
  | succ k ih =>
    simp only [waysTo]
    have h1 := addN_len (addN (waysTo l i k) (fix (l.getD k 0) i false)) (fix (l.getD k 0) i true)
    have h2 := addN_len (waysTo l i k) (fix (l.getD k 0) i false)
    omega
theorem mem_waysTo (l : List Nat) (i x : Nat) (k : Nat) (hk : k ≤ l.length) : x ∈ waysTo l i k ↔ ∃ y ∈ l.take k, ∃ b, x = fix y i b := by
  induction k with
  | zero => simp [waysTo]
  | succ k ih =>
    have hk' : k < l.length := by omega
    simp only [waysTo]
    rw [mem_addN, mem_addN, ih (by omega), List.take_succ_eq_append_getElem hk', show l.getD k 0 = l[k] from by simp [List.getD, hk']]
    constructor
    · rintro ((⟨y, hy, b, rfl⟩ | rfl) | rfl)
      · exact ⟨y, List.mem_append_left _ hy, b, rfl⟩
      · exact ⟨l[k], List.mem_append_right _ (List.mem_cons_self ..), false, rfl⟩
      · exact ⟨l[k], List.mem_append_right _ (List.mem_cons_self ..), true, rfl⟩
    · rintro ⟨y, hy, b, rfl⟩
      simp only [List.mem_append, List.mem_cons, List.not_mem_nil, or_false] at hy
      rcases hy with hy | rfl
      · exact .inl (.inl ⟨y, hy, b, rfl⟩)
      · cases b
        · exact .inl (.inr rfl)
        · exact .inr rfl
theorem mem_ways (l : List Nat) (i x : Nat) : x ∈ waysTo l i l.length ↔ ∃ y ∈ l, ∃ b, x = fix y i b := by
  rw [mem_waysTo l i x _ (Nat.le_refl _), List.take_length]

/-- One function more among the nodes, if it is none that is the same everywhere. -/
def node1 (n : Nat) (out : List Nat) (t : Nat) : List Nat := if t ≠ 0 ∧ t ≠ full n ∧ t ∉ out then out ++ [t] else out
def layTo (n : Nat) (out now : List Nat) : Nat → List Nat
  | 0 => out
  | i + 1 => node1 n (layTo n out now i) (now.getD i 0)
theorem node1_len (n : Nat) (out : List Nat) (t : Nat) : (node1 n out t).length ≤ out.length + 1 := by unfold node1; split <;> simp
theorem layTo_len (n : Nat) (out now : List Nat) (i : Nat) : (layTo n out now i).length ≤ out.length + i := by
  induction i with
  | zero => simp [layTo]
  | succ i ih => simp only [layTo]; have := node1_len n (layTo n out now i) (now.getD i 0); omega
theorem mem_node1 (n : Nat) (out : List Nat) (t x : Nat) : x ∈ node1 n out t ↔ x ∈ out ∨ (x = t ∧ t ≠ 0 ∧ t ≠ full n) := by
  unfold node1; split
  · rename_i h
    simp only [List.mem_append, List.mem_cons, List.not_mem_nil, or_false]
    constructor
    · rintro (h' | rfl)
      · exact .inl h'
      · exact .inr ⟨rfl, h.1, h.2.1⟩
    · rintro (h' | ⟨rfl, _⟩)
      · exact .inl h'
      · exact .inr rfl
  · rename_i h
    constructor
    · exact .inl
    · rintro (h' | ⟨rfl, h1, h2⟩)
      · exact h'
      · apply Classical.byContradiction
        intro h3
        exact h ⟨h1, h2, h3⟩
theorem nodup_snoc {l : List Nat} {a : Nat} (h : l.Nodup) (ha : a ∉ l) : (l ++ [a]).Nodup := by
  rw [List.nodup_append]
  refine ⟨h, by simp, ?_⟩
  intro x hx y hy e
  simp at hy; subst hy; subst e; exact ha hx
theorem node1_nodup (n : Nat) (out : List Nat) (t : Nat) (h : out.Nodup) : (node1 n out t).Nodup := by
  unfold node1; split
  · rename_i h'; exact nodup_snoc h h'.2.2
  · exact h
theorem layTo_nodup (n : Nat) (out now : List Nat) (h : out.Nodup) (i : Nat) : (layTo n out now i).Nodup := by
  induction i with
  | zero => exact h
  | succ i ih => exact node1_nodup _ _ _ ih
theorem mem_layTo (n : Nat) (out now : List Nat) (x : Nat) (i : Nat) (hi : i ≤ now.length) : x ∈ layTo n out now i ↔ x ∈ out ∨ (x ∈ now.take i ∧ x ≠ 0 ∧ x ≠ full n) := by
  induction i with
  | zero => simp [layTo]
  | succ i ih =>
    have hi' : i < now.length := by omega
    simp only [layTo]
    rw [mem_node1, ih (by omega), List.take_succ_eq_append_getElem hi', show now.getD i 0 = now[i] from by simp [List.getD, hi']]
    simp only [List.mem_append, List.mem_cons, List.not_mem_nil, or_false]
    constructor
    · rintro ((h | ⟨h1, h2⟩) | ⟨rfl, h1, h2⟩)
      · exact .inl h
      · exact .inr ⟨.inl h1, h2⟩
      · exact .inr ⟨.inr rfl, h1, h2⟩
    · rintro (h | ⟨h1 | rfl, h2, h3⟩)
      · exact .inl (.inl h)
      · exact .inl (.inr ⟨h1, h2, h3⟩)
      · exact .inr ⟨rfl, h2, h3⟩

/-- The functions of the first k levels fixed. -/
def nowTo (fns ord : List Nat) : Nat → List Nat
  | 0 => fns
  | k + 1 => waysTo (nowTo fns ord k) (ord.getD k 0) (nowTo fns ord k).length
/-- The nodes found at the first k levels. -/
def outTo (n : Nat) (fns ord : List Nat) : Nat → List Nat
  | 0 => []
  | k + 1 => layTo n (outTo n fns ord k) (nowTo fns ord k) (nowTo fns ord k).length
def nodesT (n : Nat) (fns ord : List Nat) : List Nat := outTo n fns ord (n + 1)
theorem nowTo_len (fns ord : List Nat) (k : Nat) : (nowTo fns ord k).length ≤ fns.length * 2 ^ k := by
  induction k with
  | zero => simp [nowTo]
  | succ k ih =>
    simp only [nowTo]
    have := waysTo_len (nowTo fns ord k) (ord.getD k 0) (nowTo fns ord k).length
    rw [Nat.pow_succ, ← Nat.mul_assoc]
    omega
theorem outTo_len (n : Nat) (fns ord : List Nat) (k : Nat) : (outTo n fns ord k).length + fns.length ≤ fns.length * 2 ^ k := by
  induction k with
  | zero => simp [outTo]
  | succ k ih =>
    simp only [outTo]
    have := layTo_len n (outTo n fns ord k) (nowTo fns ord k) (nowTo fns ord k).length
    have := nowTo_len fns ord k
    rw [Nat.pow_succ, ← Nat.mul_assoc]
    omega
theorem outTo_nodup (n : Nat) (fns ord : List Nat) (k : Nat) : (outTo n fns ord k).Nodup := by
  induction k with
  | zero => simp [outTo]
  | succ k ih => exact layTo_nodup _ _ _ ih _
theorem mem_outTo (n : Nat) (fns ord : List Nat) (x : Nat) (k : Nat) : x ∈ outTo n fns ord k ↔ x ≠ 0 ∧ x ≠ full n ∧ ∃ j, j < k ∧ x ∈ nowTo fns ord j := by
  induction k with
  | zero => simp [outTo]
  | succ k ih =>
    simp only [outTo]
    rw [mem_layTo _ _ _ _ _ (Nat.le_refl _), List.take_length, ih]
    constructor
    · rintro (⟨h1, h2, j, hj, h3⟩ | ⟨h1, h2, h3⟩)
      · exact ⟨h1, h2, j, by omega, h3⟩
      · exact ⟨h2, h3, k, by omega, h1⟩
    · rintro ⟨h1, h2, j, hj, h3⟩
      by_cases e : j = k
      · subst e; exact .inr ⟨h3, h1, h2⟩
      · exact .inl ⟨h1, h2, j, by omega, h3⟩
theorem nowTo_tab {n : Nat} {fns ord : List Nat} (hn : n ≤ 6) (hf : ∀ x ∈ fns, Tab n x) (ho : ∀ v ∈ ord, v < n) (k : Nat) (hk : k ≤ ord.length) : ∀ x ∈ nowTo fns ord k, Tab n x := by
  induction k with
  | zero => exact hf
  | succ k ih =>
    intro x hx
    simp only [nowTo] at hx
    obtain ⟨y, hy, b, rfl⟩ := (mem_ways _ _ _).1 hx
    have hk' : k < ord.length := by omega
    rw [show ord.getD k 0 = ord[k] from by simp [List.getD, hk']]
    exact fix_tab _ b (ih (by omega) y hy) hn (ho _ (List.getElem_mem hk'))

/-- A reduced diagram by an order of n variables, and the tables of its links. -/
structure Dia (n : Nat) (ord : List Nat) (ns : List Nd) (T : Nat → Nat) : Prop where
  n6 : n ≤ 6
  red : Red ord ns
  len : ord.length = n
  mem : ∀ v ∈ ord, v < n
  nodup : ord.Nodup
  tab : ∀ l, l < ns.length + 2 → Tab n (T l)
  bit : ∀ l, l < ns.length + 2 → ∀ p, p < 2 ^ n → (T l).testBit p = ev ns l p
  mask : ∀ p l, l < ns.length + 2 → ev ns l p = ev ns l (p % 2 ^ n)
section
variable {n : Nat} {ord : List Nat} {ns : List Nd} {T : Nat → Nat}

theorem Dia.inj (d : Dia n ord ns T) {l l' : Nat} (hl : l < ns.length + 2) (hl' : l' < ns.length + 2) (h : T l = T l') : l = l' := by
  apply canon d.red (max l l') l l' (Nat.le_max_left _ _) (Nat.le_max_right _ _) hl hl'
  intro p
  rw [d.mask p l hl, d.mask p l' hl']
  have hp : p % 2 ^ n < 2 ^ n := Nat.mod_lt _ (Nat.two_pow_pos _)
  rw [← d.bit l hl _ hp, ← d.bit l' hl' _ hp, h]
theorem Dia.zero (d : Dia n ord ns T) : T 0 = 0 := by
  apply Tab.ext (d.tab 0 (by omega)) (show Tab n 0 from Nat.two_pow_pos _)
  intro p hp
  rw [d.bit 0 (by omega) p hp, ev_0]; simp
theorem Dia.one (d : Dia n ord ns T) : T 1 = full n := by
  apply Tab.ext (d.tab 1 (by omega)) (full_tab n)
  intro p hp
  rw [d.bit 1 (by omega) p hp, ev_1, full_testBit]; simp [hp]
theorem Dia.top_le (d : Dia n ord ns T) (l : Nat) : top ord ns l ≤ n := by
  unfold top
  split
  · exact Nat.le_of_eq d.len
  · split
    · exact Nat.le_of_eq d.len
    · rename_i nd _
      have := List.idxOf_le_length (a := nd.1) (l := ord)
      rw [d.len] at this; exact this
theorem idxOf_at {l : List Nat} (h : l.Nodup) {k : Nat} (hk : k < l.length) : l.idxOf l[k] = k := by
  have h1 : l.idxOf l[k] < l.length := List.idxOf_lt_length_iff.2 (List.getElem_mem hk)
  have h2 : l[l.idxOf l[k]] = l[k] := List.getElem_idxOf h1
  exact (List.getElem_inj h).1 h2
/-- Below its level a function stays as it is. -/
theorem Dia.stay (d : Dia n ord ns T) {l k : Nat} (hl : l < ns.length + 2) (hk : k < ord.length) (ht : k < top ord ns l) (b : Bool) : fix (T l) ord[k] b = T l := by
  have hv : ord[k] ∈ ord := List.getElem_mem hk
  have hvn := d.mem _ hv
  apply Tab.ext (fix_tab _ b (d.tab l hl) d.n6 hvn) (d.tab l hl)
  intro p hp
  rw [fix_at _ p b (d.tab l hl) d.n6 hvn hp, d.bit l hl _ (put_lt p _ n b hvn hp), d.bit l hl p hp]
  exact ev_indep d.red p _ b l hl (by rw [idxOf_at d.nodup hk]; exact ht) hv
/-- At its level it becomes what its links say. -/
theorem Dia.down (d : Dia n ord ns T) {j k : Nat} (hj : j < ns.length) (hk : k < ord.length) (ht : top ord ns (j + 2) = k) (b : Bool) : fix (T (j + 2)) ord[k] b = T (if b then ns[j].2.2 else ns[j].2.1) := by
  have hv : ord[k] ∈ ord := List.getElem_mem hk
  have hvn := d.mem _ hv
  have hw := d.red.wf j hj
  have hlow := d.red.low j hj
  have hkid : (if b then ns[j].2.2 else ns[j].2.1) < ns.length + 2 := by split <;> omega
  rw [top_node ord ns hj] at ht
  have hvar : ns[j].1 = ord[k] := by
    have hm := d.red.var ns[j] (List.getElem_mem hj)
    have h1 := List.idxOf_lt_length_iff.2 hm
    have h2 : ord[ord.idxOf ns[j].1] = ns[j].1 := List.getElem_idxOf h1
    rw [← h2]; congr 1
  apply Tab.ext (fix_tab _ b (d.tab _ (by omega)) d.n6 hvn) (d.tab _ hkid)
  intro p hp
  rw [fix_at _ p b (d.tab _ (by omega)) d.n6 hvn hp, d.bit _ (by omega) _ (put_lt p _ n b hvn hp), d.bit _ hkid p hp, ev_node d.red.wf _ hj, hvar, put_testBit, if_pos rfl]
  cases b
  · simp only [Bool.false_eq_true, if_false]
    exact ev_indep d.red p _ _ _ (by omega) (by rw [idxOf_at d.nodup hk]; omega) hv
  · simp only [if_true]
    exact ev_indep d.red p _ _ _ (by omega) (by rw [idxOf_at d.nodup hk]; omega) hv

/-- The links at which one stands when the first k levels have been asked. -/
def Lay (ord : List Nat) (ns : List Nd) (ls : List Nat) : Nat → Nat → Prop
  | 0, l => l ∈ ls
  | k + 1, l => (Lay ord ns ls k l ∧ k < top ord ns l) ∨ ∃ j, ∃ hj : j < ns.length, Lay ord ns ls k (j + 2) ∧ top ord ns (j + 2) = k ∧ (l = ns[j].2.1 ∨ l = ns[j].2.2)
theorem Dia.lay (d : Dia n ord ns T) {ls : List Nat} (hls : ∀ l ∈ ls, l < ns.length + 2) : ∀ k, k ≤ n → ∀ l, Lay ord ns ls k l → l < ns.length + 2 ∧ k ≤ top ord ns l ∧ Reach ns ls l := by
  intro k
  induction k with
  | zero => intro _ l h; exact ⟨hls l h, Nat.zero_le _, reach_self ns h⟩
  | succ k ih =>
    intro hk l h
    rcases h with ⟨h1, h2⟩ | ⟨j, hj, h1, h2, h3⟩
    · have := ih (by omega) l h1
      exact ⟨this.1, h2, this.2.2⟩
    · obtain ⟨a, b, c⟩ := ih (by omega) _ h1
      have hw := d.red.wf j hj
      have hlow := d.red.low j hj
      rw [top_node ord ns hj] at h2
      obtain ⟨r1, r2⟩ := reach_kid hj c
      rcases h3 with rfl | rfl
      · exact ⟨by omega, by omega, r1⟩
      · exact ⟨by omega, by omega, r2⟩
theorem Dia.now (d : Dia n ord ns T) {ls : List Nat} (hls : ∀ l ∈ ls, l < ns.length + 2) : ∀ k, k ≤ n → ∀ x, x ∈ nowTo (ls.map T) ord k ↔ ∃ l, Lay ord ns ls k l ∧ x = T l := by
  intro k
  induction k with
  | zero =>
    intro _ x
    simp only [nowTo, List.mem_map, Lay]
    constructor
    · rintro ⟨l, h, rfl⟩; exact ⟨l, h, rfl⟩
    · rintro ⟨l, h, rfl⟩; exact ⟨l, h, rfl⟩
  | succ k ih =>
    intro hk x
    have hko : k < ord.length := by rw [d.len]; omega
    simp only [nowTo]
    rw [mem_ways, show ord.getD k 0 = ord[k] from by simp [List.getD, hko]]
    constructor
    · rintro ⟨y, hy, b, rfl⟩
      obtain ⟨l, hl, rfl⟩ := (ih (by omega) y).1 hy
      obtain ⟨h1, h2, _⟩ := d.lay hls k (by omega) l hl
      by_cases ht : k < top ord ns l
      · exact ⟨l, .inl ⟨hl, ht⟩, d.stay h1 hko ht b⟩
      · have ht' : top ord ns l = k := by omega
        have h2l : ¬ l < 2 := by intro h; rw [top_small ord ns h, d.len] at ht'; omega
        obtain ⟨j, rfl⟩ : ∃ j, l = j + 2 := ⟨l - 2, by omega⟩
        have hj : j < ns.length := by omega
        refine ⟨_, .inr ⟨j, hj, hl, ht', ?_⟩, d.down hj hko ht' b⟩
        cases b
        · exact .inl rfl
        · exact .inr rfl
    · rintro ⟨l, h, rfl⟩
      rcases h with ⟨h1, h2⟩ | ⟨j, hj, h1, h2, h3⟩
      · exact ⟨T l, (ih (by omega) _).2 ⟨l, h1, rfl⟩, false, (d.stay (d.lay hls k (by omega) l h1).1 hko h2 false).symm⟩
      · refine ⟨T (j + 2), (ih (by omega) _).2 ⟨_, h1, rfl⟩, ?_⟩
        rcases h3 with rfl | rfl
        · exact ⟨false, (d.down hj hko h2 false).symm⟩
        · exact ⟨true, (d.down hj hko h2 true).symm⟩
theorem Dia.lay_stay {ls : List Nat} {k m l : Nat} (h : Lay ord ns ls k l) (hkm : k ≤ m) (hm : m ≤ top ord ns l) : Lay ord ns ls m l := by
  induction m with
  | zero => obtain rfl : k = 0 := by omega
            exact h
  | succ m ih =>
    by_cases e : k = m + 1
    · subst e; exact h
    · exact .inl ⟨ih (by omega) (by omega), by omega⟩
/-- What is reached is passed at some level. -/
theorem Dia.passed (d : Dia n ord ns T) {ls : List Nat} (hls : ∀ l ∈ ls, l < ns.length + 2) {l : Nat} (h : Reach ns ls l) : ∃ k, k ≤ n ∧ Lay ord ns ls k l := by
  apply h (fun l => ∃ k, k ≤ n ∧ Lay ord ns ls k l)
  · intro l hl; exact ⟨0, Nat.zero_le _, hl⟩
  · rintro j hj ⟨k, hk, hl⟩
    obtain ⟨h1, h2, _⟩ := d.lay hls k hk _ hl
    have ht : top ord ns (j + 2) < n := by
      rw [top_node ord ns hj, ← d.len]
      exact List.idxOf_lt_length_iff.2 (d.red.var _ (List.getElem_mem hj))
    have hs := Dia.lay_stay hl h2 (Nat.le_refl _)
    exact ⟨⟨_, ht, .inr ⟨j, hj, hs, rfl, .inl rfl⟩⟩, ⟨_, ht, .inr ⟨j, hj, hs, rfl, .inr rfl⟩⟩⟩
/-- The nodes of some functions are the reached ones. -/
theorem Dia.mem_nodes (d : Dia n ord ns T) {ls : List Nat} (hls : ∀ l ∈ ls, l < ns.length + 2) (x : Nat) : x ∈ nodesT n (ls.map T) ord ↔ ∃ j, j < ns.length ∧ Reach ns ls (j + 2) ∧ x = T (j + 2) := by
  unfold nodesT
  rw [mem_outTo]
  constructor
  · rintro ⟨h1, h2, k, hk, h3⟩
    obtain ⟨l, hl, rfl⟩ := (d.now hls k (by omega) x).1 h3
    obtain ⟨a, _, c⟩ := d.lay hls k (by omega) l hl
    have h0 : l ≠ 0 := by intro e; subst e; exact h1 d.zero
    have h1' : l ≠ 1 := by intro e; subst e; exact h2 d.one
    exact ⟨l - 2, by omega, by rw [show l - 2 + 2 = l from by omega]; exact c, by rw [show l - 2 + 2 = l from by omega]⟩
  · rintro ⟨j, hj, hr, rfl⟩
    obtain ⟨k, hk, hl⟩ := d.passed hls hr
    refine ⟨fun e => ?_, fun e => ?_, k, by omega, (d.now hls k hk _).2 ⟨_, hl, rfl⟩⟩
    · have := d.inj (l := j + 2) (l' := 0) (by omega) (by omega) (by rw [e, d.zero]); omega
    · have := d.inj (l := j + 2) (l' := 1) (by omega) (by omega) (by rw [e, d.one]); omega
theorem cntM_filter (b : List Bool) (k : Nat) : cntM b k = ((List.range k).filter (fun i => b.getD (i + 2) false)).length := by
  induction k with
  | zero => rfl
  | succ k ih =>
    rw [List.range_succ, List.filter_append, List.length_append, ← ih]
    simp only [cntM, List.filter_cons, List.filter_nil]
    cases b.getD (k + 2) false <;> rfl
theorem nodup_map {l : List Nat} (f : Nat → Nat) (h : l.Nodup) (hf : ∀ a ∈ l, ∀ b ∈ l, f a = f b → a = b) : (l.map f).Nodup := by
  induction l with
  | nil => simp
  | cons a l ih =>
    rw [List.nodup_cons] at h
    rw [List.map_cons, List.nodup_cons]
    refine ⟨?_, ih h.2 (fun x hx y hy => hf x (by simp [hx]) y (by simp [hy]))⟩
    intro hm
    obtain ⟨x, hx, e⟩ := List.mem_map.1 hm
    have := hf x (by simp [hx]) a (by simp) e
    subst this; exact h.1 hx
/-- AS MANY AS THE DOCUMENT SAYS. -/
theorem Dia.count (d : Dia n ord ns T) {ls : List Nat} (hls : ∀ l ∈ ls, l < ns.length + 2) : (nodesT n (ls.map T) ord).length = cntM (reached ns ls) ns.length := by
  rw [cntM_filter]
  have e : ((List.range ns.length).filter (fun i => (reached ns ls).getD (i + 2) false)).length = (((List.range ns.length).filter (fun i => (reached ns ls).getD (i + 2) false)).map (fun j => T (j + 2))).length := by rw [List.length_map]
  rw [e]
  apply List.Perm.length_eq
  unfold nodesT
  rw [List.perm_ext_iff_of_nodup (outTo_nodup _ _ _ _)]
  · intro x
    rw [show outTo n (ls.map T) ord (n + 1) = nodesT n (ls.map T) ord from rfl, d.mem_nodes hls]
    simp only [List.mem_map, List.mem_filter, List.mem_range]
    constructor
    · rintro ⟨j, hj, hr, rfl⟩
      exact ⟨j, ⟨hj, (reached_iff d.red.wf ls hls _ (by omega)).2 hr⟩, rfl⟩
    · rintro ⟨j, ⟨hj, hr⟩, rfl⟩
      exact ⟨j, hj, (reached_iff d.red.wf ls hls _ (by omega)).1 hr, rfl⟩
  · apply nodup_map
    · exact List.Pairwise.filter _ List.nodup_range
    · intro a ha b hb e
      simp only [List.mem_filter, List.mem_range] at ha hb
      have := d.inj (l := a + 2) (l' := b + 2) (by omega) (by omega) e
      omega
end
end Cho
