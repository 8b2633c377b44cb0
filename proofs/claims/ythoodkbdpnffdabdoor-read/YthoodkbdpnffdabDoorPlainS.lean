/-
  Own work: texts of functions: how items are written, that what is written can be read in one way alone, what a text says, how many items it has (plain mathematics).
-/
import Derived.Test.YthoodkbdpnffdabDoorPlainQ
namespace Cho

/-! Bytes. -/
def dgt (k : Nat) : UInt8 := UInt8.ofNat (48 + k)
/-- A number in decimal digits. -/
def decL (n : Nat) : List UInt8 := if _h : n < 10 then [dgt n] else decL (n / 10) ++ [dgt (n % 10)]
  termination_by n
  decreasing_by omega
/-- A link: no, yes, or the number of an item. -/
def lnk (l : Nat) : List UInt8 := if l = 0 then [110] else if l = 1 then [121] else decL (l - 2)
/-- An item. -/
def itm (x : Nd) : List UInt8 := dgt x.1 :: (lnk x.2.1 ++ 44 :: (lnk x.2.2 ++ [59]))
def rend (ns : List Nd) : List UInt8 := (ns.map itm).flatten
theorem rend_nil : rend [] = [] := rfl
theorem rend_cons (x : Nd) (ns : List Nd) : rend (x :: ns) = itm x ++ rend ns := rfl
theorem rend_app (ns ms : List Nd) : rend (ns ++ ms) = rend ns ++ rend ms := by simp [rend]
theorem rend_snoc (ns : List Nd) (x : Nd) : rend (ns ++ [x]) = rend ns ++ itm x := by simp [rend]

theorem dgt_toNat {k : Nat} (h : k < 10) : (dgt k).toNat = 48 + k := by
  unfold dgt
  rw [UInt8.toNat_ofNat']
  omega
theorem dgt_inj {a b : Nat} (ha : a < 10) (hb : b < 10) (h : dgt a = dgt b) : a = b := by
  have := congrArg UInt8.toNat h
  rw [dgt_toNat ha, dgt_toNat hb] at this
  omega
theorem decL_small {n : Nat} (h : n < 10) : decL n = [dgt n] := by rw [decL, dif_pos h]
theorem decL_big {n : Nat} (h : ¬ n < 10) : decL n = decL (n / 10) ++ [dgt (n % 10)] := by rw [decL, dif_neg h]
theorem decL_ne (n : Nat) : decL n ≠ [] := by
  rw [decL]
  split <;> simp
theorem decL_pos (n : Nat) : 0 < (decL n).length := List.length_pos_iff.2 (decL_ne n)
theorem decL_two {n : Nat} (h : n < 100) : (decL n).length ≤ 2 := by
  by_cases h1 : n < 10
  · rw [decL_small h1]; simp
  · rw [decL_big h1, decL_small (by omega)]; simp
/-- Its signs are digits. -/
theorem decL_digit (n : Nat) : ∀ c ∈ decL n, 48 ≤ c.toNat ∧ c.toNat ≤ 57 := by
  induction n using Nat.strongRecOn with
  | ind n ih =>
    intro c hc
    by_cases h : n < 10
    · rw [decL_small h] at hc
      simp at hc; subst hc
      rw [dgt_toNat h]; omega
    · rw [decL_big h] at hc
      rcases List.mem_append.1 hc with hc | hc
      · exact ih (n / 10) (by omega) c hc
      · simp at hc; subst hc
        rw [dgt_toNat (by omega)]; omega
theorem decL_inj : ∀ a b : Nat, decL a = decL b → a = b := by
  intro a
  induction a using Nat.strongRecOn with
  | ind a ih =>
    intro b h
    by_cases ha : a < 10
    · by_cases hb : b < 10
      · rw [decL_small ha, decL_small hb] at h
        exact dgt_inj ha hb (by simpa using h)
      · rw [decL_small ha, decL_big hb] at h
        have h1 := congrArg List.length h
        have h2 := decL_pos (b / 10)
        rw [List.length_append] at h1
        simp only [List.length_cons, List.length_nil] at h1; omega
    · by_cases hb : b < 10
      · rw [decL_big ha, decL_small hb] at h
        have h1 := congrArg List.length h
        have h2 := decL_pos (a / 10)
        rw [List.length_append] at h1
        simp only [List.length_cons, List.length_nil] at h1; omega
      · rw [decL_big ha, decL_big hb] at h
        obtain ⟨h1, h2⟩ := List.append_inj' h rfl
        have e1 := ih (a / 10) (by omega) (b / 10) h1
        have e2 := dgt_inj (by omega) (by omega) (by simpa using h2 : dgt (a % 10) = dgt (b % 10))
        omega
/-- The signs of a link. -/
theorem lnk_sign (l : Nat) : ∀ c ∈ lnk l, c ≠ 44 ∧ c ≠ 59 := by
  intro c hc
  unfold lnk at hc
  split at hc
  · simp at hc; subst hc; decide
  · split at hc
    · simp at hc; subst hc; decide
    · have := decL_digit _ c hc
      constructor
      · rintro rfl; simp at this
      · rintro rfl; simp at this
theorem lnk_inj {a b : Nat} (h : lnk a = lnk b) : a = b := by
  have key : ∀ k (c : UInt8), decL k = [c] → 48 ≤ c.toNat ∧ c.toNat ≤ 57 := fun k c e => decL_digit k c (by rw [e]; simp)
  unfold lnk at h
  by_cases a0 : a = 0
  · by_cases b0 : b = 0
    · omega
    · rw [if_pos a0, if_neg b0] at h
      by_cases b1 : b = 1
      · rw [if_pos b1] at h; simp at h
      · rw [if_neg b1] at h
        have := key _ _ h.symm; simp at this
  · by_cases b0 : b = 0
    · rw [if_neg a0, if_pos b0] at h
      by_cases a1 : a = 1
      · rw [if_pos a1] at h; simp at h
      · rw [if_neg a1] at h
        have := key _ _ h; simp at this
    · rw [if_neg a0, if_neg b0] at h
      by_cases a1 : a = 1
      · by_cases b1 : b = 1
        · omega
        · rw [if_pos a1, if_neg b1] at h
          have := key _ _ h.symm; simp at this
      · by_cases b1 : b = 1
        · rw [if_neg a1, if_pos b1] at h
          have := key _ _ h; simp at this
        · rw [if_neg a1, if_neg b1] at h
          have := decL_inj _ _ h
          omega
theorem lnk_len {l : Nat} (h : l < 102) : (lnk l).length ≤ 2 := by
  unfold lnk
  split
  · simp
  · split
    · simp
    · exact decL_two (by omega)
theorem lnk_pos (l : Nat) : 0 < (lnk l).length := by
  unfold lnk
  split
  · simp
  · split
    · simp
    · exact decL_pos _
/-- Up to the first sign of a kind. -/
theorem cut_at {c : UInt8} : ∀ {a a' b b' : List UInt8}, (∀ x ∈ a, x ≠ c) → (∀ x ∈ a', x ≠ c) → a ++ c :: b = a' ++ c :: b' → a = a' ∧ b = b' := by
  intro a
  induction a with
  | nil =>
    intro a' b b' _ h' h
    cases a' with
    | nil => simpa using h
    | cons x a' =>
      simp at h
      exact absurd h.1.symm (h' x (by simp))
  | cons x a ih =>
    intro a' b b' h1 h' h
    cases a' with
    | nil =>
      simp at h
      exact absurd h.1 (h1 x (by simp))
    | cons y a' =>
      simp only [List.cons_append, List.cons.injEq] at h
      obtain ⟨rfl, h⟩ := h
      obtain ⟨rfl, rfl⟩ := ih (fun z hz => h1 z (by simp [hz])) (fun z hz => h' z (by simp [hz])) h
      exact ⟨rfl, rfl⟩
theorem itm_inj {x y : Nd} {r s : List UInt8} (hx : x.1 < 10) (hy : y.1 < 10) (h : itm x ++ r = itm y ++ s) : x = y ∧ r = s := by
  unfold itm at h
  simp only [List.cons_append, List.cons.injEq, List.append_assoc] at h
  obtain ⟨h1, h2⟩ := h
  obtain ⟨e2, h3⟩ := cut_at (fun z hz => (lnk_sign _ z hz).1) (fun z hz => (lnk_sign _ z hz).1) h2
  obtain ⟨e3, e4⟩ := cut_at (fun z hz => (lnk_sign _ z hz).2) (fun z hz => (lnk_sign _ z hz).2) (by simpa using h3)
  have a1 := dgt_inj hx hy h1
  have a2 := lnk_inj e2
  have a3 := lnk_inj e3
  refine ⟨?_, by simpa using e4⟩
  obtain ⟨x1, x2, x3⟩ := x
  obtain ⟨y1, y2, y3⟩ := y
  simp at a1 a2 a3
  rw [a1, a2, a3]
theorem itm_ne (x : Nd) : itm x ≠ [] := by simp [itm]
theorem rend_inj : ∀ {ns ms : List Nd}, (∀ x ∈ ns, x.1 < 10) → (∀ x ∈ ms, x.1 < 10) → rend ns = rend ms → ns = ms := by
  intro ns
  induction ns with
  | nil =>
    intro ms _ _ h
    cases ms with
    | nil => rfl
    | cons y ms => simp [rend_nil, rend_cons, itm] at h
  | cons x ns ih =>
    intro ms h1 h2 h
    cases ms with
    | nil => simp [rend_nil, rend_cons, itm] at h
    | cons y ms =>
      rw [rend_cons, rend_cons] at h
      obtain ⟨rfl, h'⟩ := itm_inj (h1 x (by simp)) (h2 y (by simp)) h
      rw [ih (fun z hz => h1 z (by simp [hz])) (fun z hz => h2 z (by simp [hz])) h']
/-- How many items. -/
theorem rend_items (ns : List Nd) (h : ∀ x ∈ ns, x.1 < 10) : (rend ns).count 59 = ns.length := by
  induction ns with
  | nil => rfl
  | cons x ns ih =>
    have hl : ∀ l, (lnk l).count 59 = 0 := fun l => List.count_eq_zero.2 fun hm => (lnk_sign l 59 hm).2 rfl
    have hd : (dgt x.1 == 59) = false := by
      rw [beq_eq_false_iff_ne]
      intro e
      have := congrArg UInt8.toNat e
      rw [dgt_toNat (h x (by simp))] at this
      have hx := h x (by simp)
      simp at this; omega
    rw [rend_cons, List.count_append, ih (fun z hz => h z (by simp [hz])), itm, List.count_cons, List.count_append, List.count_cons, List.count_append, hl, hl, hd]
    simp; omega

/-! Texts. -/
/-- A list of items, each of which goes to earlier ones of greater variables alone. -/
structure Txt (n : Nat) (ns : List Nd) : Prop where
  var : ∀ k (hk : k < ns.length), ns[k].1 < n
  no : ∀ k (hk : k < ns.length), ns[k].2.1 < k + 2 ∧ ∀ j (hj : j < ns.length), ns[k].2.1 = j + 2 → ns[k].1 < ns[j].1
  yes : ∀ k (hk : k < ns.length), ns[k].2.2 < k + 2 ∧ ∀ j (hj : j < ns.length), ns[k].2.2 = j + 2 → ns[k].1 < ns[j].1
theorem Txt.wf {n : Nat} {ns : List Nd} (h : Txt n ns) : Wf ns := fun k hk => ⟨(h.no k hk).1, (h.yes k hk).1⟩
theorem Txt.ten {n : Nat} {ns : List Nd} (h : Txt n ns) (hn : n ≤ 6) : ∀ x ∈ ns, x.1 < 10 := fun x hx => by
  obtain ⟨k, hk, rfl⟩ := List.getElem_of_mem hx
  have := h.var k hk; omega
/-- The table of a link. -/
def tb (n : Nat) (ns : List Nd) (l : Nat) : Nat := bld (ev ns l) (2 ^ n)
theorem tb_tab (n : Nat) (ns : List Nd) (l : Nat) : Tab n (tb n ns l) := bld_tab _ _
theorem tb_bit (n : Nat) (ns : List Nd) (l p : Nat) (hp : p < 2 ^ n) : (tb n ns l).testBit p = ev ns l p := by unfold tb; rw [bld_testBit]; simp [hp]
/-- What a text says. -/
def Says (n : Nat) (bs : List UInt8) (f : Nat) : Prop :=
  (bs = [48] ∧ f = 0) ∨ (bs = [49] ∧ f = full n) ∨ ∃ ns, Txt n ns ∧ ns ≠ [] ∧ bs = rend ns ∧ f = tb n ns (ns.length + 1)
theorem rend_len3 {ns : List Nd} (h : ns ≠ []) : 2 ≤ (rend ns).length := by
  cases ns with
  | nil => exact absurd rfl h
  | cons x ns => rw [rend_cons]; simp [itm]; omega
theorem says_one {n : Nat} {bs : List UInt8} {f g : Nat} (hn : n ≤ 6) (hf : Says n bs f) (hg : Says n bs g) : f = g := by
  have k : ∀ ns : List Nd, ns ≠ [] → ∀ c : UInt8, rend ns ≠ [c] := fun ns h c e => by have := rend_len3 h; rw [e] at this; simp at this
  rcases hf with ⟨rfl, rfl⟩ | ⟨rfl, rfl⟩ | ⟨ns, h1, h2, rfl, rfl⟩ <;> rcases hg with ⟨e, rfl⟩ | ⟨e, rfl⟩ | ⟨ms, h3, h4, e, rfl⟩
  · rfl
  · simp at e
  · exact absurd e.symm (k ms h4 _)
  · simp at e
  · rfl
  · exact absurd e.symm (k ms h4 _)
  · exact absurd e (k ns h2 _)
  · exact absurd e (k ns h2 _)
  · rw [rend_inj (h1.ten hn) (h3.ten hn) e]
theorem Says.tab {n : Nat} {bs : List UInt8} {f : Nat} (h : Says n bs f) : Tab n f := by
  rcases h with ⟨_, rfl⟩ | ⟨_, rfl⟩ | ⟨ns, _, _, _, rfl⟩
  · exact Nat.two_pow_pos _
  · exact full_tab n
  · exact tb_tab _ _ _
/-- What a text's item says hangs on no variable below its own. -/
theorem txt_indep {n : Nat} {ns : List Nd} (h : Txt n ns) (p v : Nat) (b : Bool) : ∀ l, l < ns.length + 2 → (∀ j (hj : j < ns.length), l = j + 2 → v < ns[j].1) → ev ns l (put p v b) = ev ns l p := by
  intro l
  induction l using Nat.strongRecOn with
  | ind l ih =>
    intro hl ht
    by_cases h2 : l < 2
    · rw [ev_small _ _ _ h2, ev_small _ _ _ h2]
    · obtain ⟨k, rfl⟩ : ∃ k, l = k + 2 := ⟨l - 2, by omega⟩
      have hk : k < ns.length := by omega
      have hv := ht k hk rfl
      have hno := h.no k hk
      have hyes := h.yes k hk
      have hne : ns[k].1 ≠ v := by omega
      rw [ev_node h.wf _ hk, ev_node h.wf _ hk, put_testBit, if_neg hne]
      rw [ih ns[k].2.1 (by omega) (by omega) (fun j hj e => by have := hno.2 j hj e; omega), ih ns[k].2.2 (by omega) (by omega) (fun j hj e => by have := hyes.2 j hj e; omega)]
theorem tb_zero (n : Nat) (ns : List Nd) : tb n ns 0 = 0 := by
  apply Tab.ext (tb_tab n ns 0) (Nat.two_pow_pos _)
  intro p hp
  rw [tb_bit _ _ _ _ hp, ev_0]; simp
theorem tb_one (n : Nat) (ns : List Nd) : tb n ns 1 = full n := by
  apply Tab.ext (tb_tab n ns 1) (full_tab n)
  intro p hp
  rw [tb_bit _ _ _ _ hp, ev_1, full_testBit]; simp [hp]
theorem tb_stay {n : Nat} {ns : List Nd} (h : Txt n ns) (hn : n ≤ 6) {l v : Nat} (hv : v < n) (hl : l < ns.length + 2) (ht : ∀ j (hj : j < ns.length), l = j + 2 → v < ns[j].1) (b : Bool) : fix (tb n ns l) v b = tb n ns l := by
  apply Tab.ext (fix_tab v b (tb_tab n ns l) hn hv) (tb_tab n ns l)
  intro p hp
  rw [fix_at v p b (tb_tab n ns l) hn hv hp, tb_bit _ _ _ _ (put_lt p v n b hv hp), tb_bit _ _ _ _ hp, txt_indep h p v b l hl ht]
theorem tb_down {n : Nat} {ns : List Nd} (h : Txt n ns) (hn : n ≤ 6) {k : Nat} (hk : k < ns.length) (b : Bool) : fix (tb n ns (k + 2)) ns[k].1 b = tb n ns (if b then ns[k].2.2 else ns[k].2.1) := by
  have hv := h.var k hk
  have hno := h.no k hk
  have hyes := h.yes k hk
  apply Tab.ext (fix_tab _ b (tb_tab n ns _) hn hv) (tb_tab n ns _)
  intro p hp
  rw [fix_at _ p b (tb_tab n ns _) hn hv hp, tb_bit _ _ _ _ (put_lt p _ n b hv hp), tb_bit _ _ _ _ hp, ev_node h.wf _ hk, put_testBit, if_pos rfl]
  cases b
  · simp only [Bool.false_eq_true, if_false]
    exact txt_indep h p _ false _ (by omega) hno.2
  · simp only [if_true]
    exact txt_indep h p _ true _ (by omega) hyes.2
/-- OF TEXTS THAT SAY ONE FUNCTION NONE HAS FEWER ITEMS THAN IT HAS NODES. -/
theorem txt_nodes {n : Nat} {ns : List Nd} (h : Txt n ns) (hn : n ≤ 6) {l : Nat} (hl : l < ns.length + 2) : (nodesT n [tb n ns l] (List.range n)).length ≤ ns.length := by
  have key : ∀ k, k ≤ n → ∀ x ∈ nowTo [tb n ns l] (List.range n) k, ∃ m, m < ns.length + 2 ∧ x = tb n ns m ∧ ∀ j (hj : j < ns.length), m = j + 2 → k ≤ ns[j].1 := by
    intro k
    induction k with
    | zero => intro _ x hx; simp [nowTo] at hx; subst hx; exact ⟨l, hl, rfl, fun _ _ _ => Nat.zero_le _⟩
    | succ k ih =>
      intro hk x hx
      simp only [nowTo] at hx
      obtain ⟨y, hy, b, rfl⟩ := (mem_ways _ _ _).1 hx
      obtain ⟨m, hm, rfl, ht⟩ := ih (by omega) y hy
      have hkr : (List.range n).getD k 0 = k := by simp [List.getD, show k < n by omega]
      rw [hkr]
      by_cases hstay : ∀ j (hj : j < ns.length), m = j + 2 → k < ns[j].1
      · exact ⟨m, hm, tb_stay h hn (by omega) hm hstay b, fun j hj e => hstay j hj e⟩
      · have : ∃ j, ∃ (hj : j < ns.length), m = j + 2 ∧ ns[j].1 = k := by
          apply Classical.byContradiction
          intro hno
          apply hstay
          intro j hj e
          have h1 := ht j hj e
          have h2 : ns[j].1 ≠ k := fun e' => hno ⟨j, hj, e, e'⟩
          omega
        obtain ⟨j, hj, rfl, hjk⟩ := this
        have hd := tb_down h hn hj b
        rw [hjk] at hd
        rw [hd]
        have hno := h.no j hj
        have hyes := h.yes j hj
        cases b
        · exact ⟨ns[j].2.1, by omega, by simp, fun i hi e => by have := hno.2 i hi e; omega⟩
        · exact ⟨ns[j].2.2, by omega, by simp, fun i hi e => by have := hyes.2 i hi e; omega⟩
  have hsub : ∀ x ∈ nodesT n [tb n ns l] (List.range n), x ∈ (List.range ns.length).map (fun j => tb n ns (j + 2)) := by
    intro x hx
    unfold nodesT at hx
    obtain ⟨h0, h1, k, hk, hx⟩ := (mem_outTo _ _ _ _ _).1 hx
    obtain ⟨m, hm, rfl, _⟩ := key k (by omega) x hx
    have hm0 : m ≠ 0 := by rintro rfl; exact h0 (tb_zero n ns)
    have hm1 : m ≠ 1 := by rintro rfl; exact h1 (tb_one n ns)
    exact List.mem_map.2 ⟨m - 2, by simp; omega, by rw [show m - 2 + 2 = m from by omega]⟩
  have hlen : ∀ (l qs : List Nat), l.Nodup → (∀ a ∈ l, a ∈ qs) → l.length ≤ qs.length := by
    intro l
    induction l with
    | nil => intro qs _ _; simp
    | cons a l ih =>
      intro qs hnd hs
      rw [List.nodup_cons] at hnd
      have ha := hs a (by simp)
      have h1 := ih (qs.erase a) hnd.2 (fun b hb => (List.mem_erase_of_ne (by rintro rfl; exact hnd.1 hb)).2 (hs b (by simp [hb])))
      rw [List.length_erase_of_mem ha] at h1
      have := List.length_pos_of_mem ha
      simp only [List.length_cons]
      omega
  have := hlen _ _ (outTo_nodup n [tb n ns l] (List.range n) (n + 1)) hsub
  simpa [nodesT] using this
end Cho
