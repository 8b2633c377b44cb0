/-
  Own work: the text that a function is written as: an item for each node that building makes, in that order (plain mathematics).
-/
import Derived.Test.YthoodkbdpnffdabDoorPlainS
namespace Cho

theorem range_odr {n : Nat} (h1 : 1 ≤ n) (h6 : n ≤ 6) : Odr n (List.range n) := ⟨h1, h6, List.nodup_range, fun v => by simp, by simp⟩
theorem range_drop (n k : Nat) : (List.range n).drop k = List.range' k (n - k) := by
  rw [List.range_eq_range', List.drop_range']; simp
theorem range_cons {n k : Nat} (h : k < n) : List.range' k (n - k) = k :: List.range' (k + 1) (n - (k + 1)) := by
  rw [show n - k = (n - (k + 1)) + 1 from by omega, List.range'_succ]
theorem range_idx {n v : Nat} (h : v < n) : (List.range n).idxOf v = v := by
  have := idxOf_at (l := List.range n) List.nodup_range (k := v) (by simpa using h)
  simpa using this
theorem reach_le {ns : List Nd} (hw : Wf ns) {l j : Nat} (h : Reach ns [l] j) : j ≤ l :=
  h (fun j => j ≤ l) (by simp) (fun k hk hs => by have := hw k hk; omega)
/-- What is new asks for the variables that are built by. -/
theorem build_vars (vs : List Nat) : ∀ (t : Nat) (ns : List Nd), ∃ ms, (build vs t ns).1 = ns ++ ms ∧ ∀ x ∈ ms, x.1 ∈ vs := by
  induction vs with
  | nil => intro t ns; exact ⟨[], by simp [build], by simp⟩
  | cons v vs ih =>
    intro t ns
    obtain ⟨m1, e1, h1⟩ := ih (fix t v false) ns
    obtain ⟨m2, e2, h2⟩ := ih (fix t v true) (build vs (fix t v false) ns).1
    simp only [build]
    generalize build vs (fix t v false) ns = r1 at *
    generalize build vs (fix t v true) r1.1 = r2 at *
    have hm : ∀ x ∈ m1 ++ m2, x.1 ∈ v :: vs := fun x hx => by
      rcases List.mem_append.1 hx with hx | hx
      · exact List.mem_cons_of_mem _ (h1 x hx)
      · exact List.mem_cons_of_mem _ (h2 x hx)
    have e : r2.1 = ns ++ (m1 ++ m2) := by rw [e2, e1, List.append_assoc]
    unfold join
    split
    · exact ⟨m1 ++ m2, e, hm⟩
    · split
      · exact ⟨m1 ++ m2, e, hm⟩
      · refine ⟨m1 ++ m2 ++ [(v, r1.2, r2.2)], by rw [e]; simp, fun x hx => ?_⟩
        rcases List.mem_append.1 hx with hx | hx
        · exact hm x hx
        · simp at hx; subst hx; simp

/-- A function hangs on no variable below k. -/
def Low (n k t : Nat) : Prop := ∀ v, v < k → v < n → ∀ b, fix t v b = t
theorem low_mask {n t : Nat} (h6 : n ≤ 6) (ht : Tab n t) (p : Nat) (hp : p < 2 ^ n) : ∀ k, k ≤ n → Low n k t → t.testBit (mask (List.range' k (n - k)) p) = t.testBit p := by
  intro k
  induction k with
  | zero =>
    intro _ _
    congr 1
    apply Nat.eq_of_testBit_eq
    intro i
    rw [mask_testBit]
    by_cases hi : i < n
    · simp [hi]
    · have : p.testBit i = false := Nat.testBit_lt_two_pow (Nat.lt_of_lt_of_le hp (Nat.pow_le_pow_right (by decide) (by omega)))
      simp [this]
  | succ k ih =>
    intro hk hl
    have e := ih (by omega) (fun v hv hvn b => hl v (by omega) hvn b)
    have hm : mask (List.range' k (n - k)) p < 2 ^ n := mask_lt _ _ _ (fun v hv => by simp at hv; omega)
    have h1 : mask (List.range' (k + 1) (n - (k + 1))) p = put (mask (List.range' k (n - k)) p) k false := by
      apply Nat.eq_of_testBit_eq
      intro i
      rw [put_testBit, mask_testBit, mask_testBit]
      by_cases hi : i = k
      · subst hi; simp; omega
      · rw [if_neg hi]
        congr 1
        apply decide_eq_decide.2
        simp; omega
    rw [h1, ← fix_at k _ false ht h6 (by omega) hm, hl k (by omega) (by omega) false, e]
/-- What building by the order of the numbers leaves, from level k on. -/
structure Blt (n k t : Nat) (ns : List Nd) (r : List Nd × Nat) : Prop where
  ex : ∃ ms, r.1 = ns ++ ms ∧ ∀ x ∈ ms, k ≤ x.1
  red : Red (List.range n) r.1
  lt : r.2 < r.1.length + 2
  tb : tb n r.1 r.2 = t
  last : r.1 = ns ∨ r.2 = r.1.length + 1
theorem tb_app {n : Nat} {ns : List Nd} (hw : Wf ns) (ms : List Nd) {l : Nat} (hl : l < ns.length + 2) : tb n (ns ++ ms) l = tb n ns l := by
  unfold tb
  congr 1
  funext p
  exact ev_append hw p l hl
def sup (n k : Nat) (t : Nat) (ns : List Nd) : List Nd × Nat := build (List.range' k (n - k)) t ns
theorem build_blt {n k t : Nat} {ns : List Nd} (h6 : n ≤ 6) (hk : k ≤ n) (ht : Tab n t) (hl : Low n k t) (hr : Red (List.range n) ns) : Blt n k t ns (sup n k t ns) := by
  have ho : ∀ v ∈ List.range n, v < 6 := fun v hv => by simp at hv; omega
  unfold sup
  obtain ⟨g, e⟩ := build_grew ho List.nodup_range (List.range' k (n - k)) k (range_drop n k) (by simpa using hk) t ns (ht.u64 h6) hr
  obtain ⟨ms, e1, hv⟩ := build_vars (List.range' k (n - k)) t ns
  obtain ⟨ms', e2, hf⟩ := build_full (List.range' k (n - k)) t ns
  have e3 : ms' = ms := by rw [e1] at e2; exact (List.append_cancel_left e2).symm
  subst e3
  refine ⟨⟨ms', e1, fun x hx => by have := hv x hx; simp at this; omega⟩, g.red, g.lt, ?_, ?_⟩
  · apply Tab.ext (tb_tab _ _ _) ht
    intro p hp
    rw [tb_bit _ _ _ _ hp, e p, low_mask h6 ht p hp k hk hl]
  · by_cases hm : ms' = []
    · left; rw [e1, hm]; simp
    · right
      have hp : 0 < ms'.length := List.length_pos_iff.2 hm
      have hr' := hf (ns.length + ms'.length - 1) (by omega) (by simp; omega)
      have hw := g.red.wf
      rw [e1] at hw
      have := reach_le hw hr'
      have hlt := g.lt
      rw [e1] at hlt ⊢
      simp only [List.length_append] at hlt ⊢
      omega
theorem red_dia {n : Nat} {ns : List Nd} (h1 : 1 ≤ n) (h6 : n ≤ 6) (h : Red (List.range n) ns) : Dia n (List.range n) ns (tb n ns) :=
  (show DgOk n ⟨List.range n, ns, []⟩ from ⟨range_odr h1 h6, h, by simp⟩).dia
/-- What is there already is found. -/
theorem sup_there {n k t l : Nat} {ns : List Nd} (h1 : 1 ≤ n) (h6 : n ≤ 6) (hk : k ≤ n) (hl : Low n k t) (hr : Red (List.range n) ns) (hlt : l < ns.length + 2) (htb : tb n ns l = t) : sup n k t ns = (ns, l) := by
  have ht : Tab n t := by rw [← htb]; exact tb_tab _ _ _
  have b := build_blt h6 hk ht hl hr
  obtain ⟨ms, e, _⟩ := b.ex
  have e1 : (sup n k t ns).2 = l := by
    apply (red_dia h1 h6 b.red).inj b.lt (by rw [e]; simp; omega)
    show tb n _ _ = tb n _ _
    rw [b.tb, e, tb_app hr.wf ms hlt, htb]
  have e2 : (sup n k t ns).1 = ns := by
    rcases b.last with h | h
    · exact h
    · rw [e1, e] at h
      have : ms = [] := by
        apply List.eq_nil_of_length_eq_zero
        simp at h; omega
      rw [e, this]; simp
  rw [Prod.ext_iff]
  exact ⟨e2, e1⟩
theorem fix_zero {n v : Nat} (h6 : n ≤ 6) (hv : v < n) (b : Bool) : fix 0 v b = 0 := by
  have h0 : Tab n 0 := Nat.two_pow_pos _
  apply Tab.ext (fix_tab v b h0 h6 hv) h0
  intro p hp
  rw [fix_at v p b h0 h6 hv hp]; simp
theorem fix_full {n v : Nat} (h6 : n ≤ 6) (hv : v < n) (b : Bool) : fix (full n) v b = full n := by
  apply Tab.ext (fix_tab v b (full_tab n) h6 hv) (full_tab n)
  intro p hp
  rw [fix_at v p b (full_tab n) h6 hv hp, full_testBit, full_testBit]
  simp [hp, put_lt p v n b hv hp]
theorem low_zero {n : Nat} (h6 : n ≤ 6) (k : Nat) : Low n k 0 := fun _ _ hv b => fix_zero h6 hv b
theorem low_full {n : Nat} (h6 : n ≤ 6) (k : Nat) : Low n k (full n) := fun _ _ hv b => fix_full h6 hv b
theorem sup_zero {n k : Nat} {ns : List Nd} (h1 : 1 ≤ n) (h6 : n ≤ 6) (hk : k ≤ n) (hr : Red (List.range n) ns) : sup n k 0 ns = (ns, 0) := sup_there h1 h6 hk (low_zero h6 k) hr (by omega) (tb_zero n ns)
theorem sup_full {n k : Nat} {ns : List Nd} (h1 : 1 ≤ n) (h6 : n ≤ 6) (hk : k ≤ n) (hr : Red (List.range n) ns) : sup n k (full n) ns = (ns, 1) := sup_there h1 h6 hk (low_full h6 k) hr (by omega) (tb_one n ns)
theorem fix_fix {n t v : Nat} (h6 : n ≤ 6) (hv : v < n) (ht : Tab n t) (a b : Bool) : fix (fix t v a) v b = fix t v a := by
  have h1 := fix_tab v a ht h6 hv
  apply Tab.ext (fix_tab v b h1 h6 hv) h1
  intro p hp
  rw [fix_at v p b h1 h6 hv hp, fix_at v _ a ht h6 hv (put_lt p v n b hv hp), fix_at v p a ht h6 hv hp, put_put]
theorem fix_comm {n t u v : Nat} (h6 : n ≤ 6) (hu : u < n) (hv : v < n) (hne : u ≠ v) (ht : Tab n t) (a b : Bool) : fix (fix t v a) u b = fix (fix t u b) v a := by
  have h1 := fix_tab v a ht h6 hv
  have h2 := fix_tab u b ht h6 hu
  apply Tab.ext (fix_tab u b h1 h6 hu) (fix_tab v a h2 h6 hv)
  intro p hp
  rw [fix_at u p b h1 h6 hu hp, fix_at v _ a ht h6 hv (put_lt p u n b hu hp), fix_at v p a h2 h6 hv hp, fix_at u _ b ht h6 hu (put_lt p v n a hv hp)]
  congr 1
  apply Nat.eq_of_testBit_eq
  intro i
  rw [put_testBit, put_testBit, put_testBit, put_testBit]
  by_cases e1 : i = v
  · rw [if_pos e1, if_neg (by omega), if_pos e1]
  · rw [if_neg e1]
    by_cases e2 : i = u
    · rw [if_pos e2, if_pos e2]
    · rw [if_neg e2, if_neg e2, if_neg e1]
theorem low_fix {n k t : Nat} (h6 : n ≤ 6) (hk : k < n) (ht : Tab n t) (hl : Low n k t) (b : Bool) : Low n (k + 1) (fix t k b) := by
  intro v hv hvn c
  by_cases e : v = k
  · subst e; exact fix_fix h6 hvn ht b c
  · rw [fix_comm h6 hvn hk e ht, hl v (by omega) hvn c]
theorem fix_both {n t v : Nat} (h6 : n ≤ 6) (hv : v < n) (ht : Tab n t) (h : fix t v false = t) : ∀ b, fix t v b = t := by
  intro b
  rw [← h, fix_fix h6 hv ht]
/-- A variable that it does not hang on is passed by. -/
theorem sup_skip {n k t : Nat} {ns : List Nd} (h1 : 1 ≤ n) (h6 : n ≤ 6) (hk : k < n) (ht : Tab n t) (hl : Low n k t) (hr : Red (List.range n) ns) (he : fix t k false = t) : Low n (k + 1) t ∧ sup n k t ns = sup n (k + 1) t ns := by
  have hb := fix_both h6 hk ht he
  have hl' : Low n (k + 1) t := fun v hv hvn b => by
    by_cases e : v = k
    · subst e; exact hb b
    · exact hl v (by omega) hvn b
  refine ⟨hl', ?_⟩
  have b1 := build_blt h6 (show k + 1 ≤ n by omega) ht hl' hr
  have e2 := sup_there h1 h6 (show k + 1 ≤ n by omega) hl' b1.red b1.lt b1.tb
  show build (List.range' k (n - k)) t ns = sup n (k + 1) t ns
  rw [range_cons hk]
  simp only [build, hb]
  change join (sup n (k + 1) t (sup n (k + 1) t ns).1).1 (k, (sup n (k + 1) t ns).2, (sup n (k + 1) t (sup n (k + 1) t ns).1).2) = _
  rw [e2]
  simp [join]
/-- A node more. -/
theorem sup_node {n k t : Nat} {ns : List Nd} (h6 : n ≤ 6) (hk : k < n) (ht : Tab n t) (hl : Low n k t) (hr : Red (List.range n) ns) (he : fix t k false ≠ t) (hnew : ∀ j, j < ns.length → tb n ns (j + 2) ≠ t) :
    sup n k t ns = ((sup n (k + 1) (fix t k true) (sup n (k + 1) (fix t k false) ns).1).1 ++ [(k, (sup n (k + 1) (fix t k false) ns).2, (sup n (k + 1) (fix t k true) (sup n (k + 1) (fix t k false) ns).1).2)],
      (sup n (k + 1) (fix t k true) (sup n (k + 1) (fix t k false) ns).1).1.length + 2) := by
  have b := build_blt h6 (Nat.le_of_lt hk) ht hl hr
  have b1 := build_blt h6 (show k + 1 ≤ n by omega) (fix_tab k false ht h6 hk) (low_fix h6 hk ht hl false) hr
  have b2 := build_blt h6 (show k + 1 ≤ n by omega) (fix_tab k true ht h6 hk) (low_fix h6 hk ht hl true) b1.red
  have hs : sup n k t ns = join (sup n (k + 1) (fix t k true) (sup n (k + 1) (fix t k false) ns).1).1 (k, (sup n (k + 1) (fix t k false) ns).2, (sup n (k + 1) (fix t k true) (sup n (k + 1) (fix t k false) ns).1).2) := by
    show build (List.range' k (n - k)) t ns = _
    rw [range_cons hk]
    rfl
  generalize sup n (k + 1) (fix t k false) ns = r1 at *
  generalize sup n (k + 1) (fix t k true) r1.1 = r2 at *
  obtain ⟨m1, p1, v1⟩ := b1.ex
  obtain ⟨m2, p2, v2⟩ := b2.ex
  have hne : r1.2 ≠ r2.2 := by
    intro e
    apply he
    have e1 : tb n r2.1 r1.2 = fix t k false := by rw [p2, tb_app b1.red.wf m2 b1.lt, b1.tb]
    rw [e, b2.tb] at e1
    apply Tab.ext (fix_tab k false ht h6 hk) ht
    intro p hp
    have hx : (fix t k (p.testBit k)).testBit p = t.testBit p := by rw [fix_at k p _ ht h6 hk hp, put_self]
    cases hpk : p.testBit k
    · rw [hpk] at hx; exact hx
    · rw [hpk, e1] at hx; exact hx
  rw [hs]
  rw [hs] at b
  refine join_new hne (fun j hj e => ?_)
  by_cases hjn : j < ns.length
  · have hjj : ∀ i (hi : i < r2.1.length), i < j → r2.1[i] ≠ (k, r1.2, r2.2) := by
      intro i hi hij e'
      have := b2.red.nodup
      have := (List.getElem_inj this).1 (e'.trans e.symm)
      omega
    have hf := join_found hne hj e hjj
    rw [hf] at b
    have h3 := b.tb
    simp only at h3
    apply hnew j hjn
    rw [← h3, p2, p1, List.append_assoc, tb_app hr.wf _ (by omega)]
  · have hm : (k, r1.2, r2.2) ∈ m1 ++ m2 := by
      have e5 : r2.1 = ns ++ (m1 ++ m2) := by rw [p2, p1, List.append_assoc]
      have : (ns ++ (m1 ++ m2))[j]? = some (k, r1.2, r2.2) := by rw [← e5, List.getElem?_eq_getElem hj, e]
      rw [List.getElem?_append_right (by omega)] at this
      exact List.mem_of_getElem? this
    rcases List.mem_append.1 hm with hm | hm
    · have := v1 _ hm; simp at this; omega
    · have := v2 _ hm; simp at this; omega

/-! The text. -/
def nodesOf (n t : Nat) : List Nd := (sup n 0 t []).1
def linkOf (n t : Nat) : Nat := (sup n 0 t []).2
def textOf (n t : Nat) : List UInt8 := if t = 0 then [48] else if t = full n then [49] else rend (nodesOf n t)
theorem low0 (n t : Nat) : Low n 0 t := fun v hv => absurd hv (by omega)
theorem red_txt {n : Nat} {ns : List Nd} (h : Red (List.range n) ns) : Txt n ns := by
  have hv : ∀ k (hk : k < ns.length), ns[k].1 < n := fun k hk => by have := h.var _ (List.getElem_mem hk); simpa using this
  refine ⟨hv, fun k hk => ⟨(h.wf k hk).1, fun j hj e => ?_⟩, fun k hk => ⟨(h.wf k hk).2, fun j hj e => ?_⟩⟩
  · have := (h.low k hk).1
    rw [e, top_node _ _ hj, range_idx (hv k hk), range_idx (hv j hj)] at this
    exact this
  · have := (h.low k hk).2
    rw [e, top_node _ _ hj, range_idx (hv k hk), range_idx (hv j hj)] at this
    exact this
theorem nodes_blt {n t : Nat} (h6 : n ≤ 6) (ht : Tab n t) : Blt n 0 t [] (sup n 0 t []) := build_blt h6 (Nat.zero_le _) ht (low0 n t) (Red.nil _)
theorem link_last {n t : Nat} (h6 : n ≤ 6) (ht : Tab n t) (h0 : t ≠ 0) (hf : t ≠ full n) : nodesOf n t ≠ [] ∧ linkOf n t = (nodesOf n t).length + 1 := by
  have b := nodes_blt h6 ht
  have hl : 2 ≤ linkOf n t := by
    apply Classical.byContradiction
    intro hlt
    have hc : linkOf n t = 0 ∨ linkOf n t = 1 := by omega
    have htb : tb n (nodesOf n t) (linkOf n t) = t := b.tb
    rcases hc with e | e
    · rw [e, tb_zero] at htb; exact h0 htb.symm
    · rw [e, tb_one] at htb; exact hf htb.symm
  have hlt : linkOf n t < (nodesOf n t).length + 2 := b.lt
  have hne : nodesOf n t ≠ [] := by intro e; rw [e] at hlt; simp at hlt; omega
  refine ⟨hne, ?_⟩
  rcases b.last with h | h
  · exact absurd h hne
  · exact h
/-- A TEXT SAYS WHAT IT WAS WRITTEN OF. -/
theorem says_text {n t : Nat} (h6 : n ≤ 6) (ht : Tab n t) : Says n (textOf n t) t := by
  unfold textOf
  by_cases h0 : t = 0
  · rw [if_pos h0]; exact .inl ⟨rfl, h0⟩
  · by_cases hf : t = full n
    · rw [if_neg h0, if_pos hf]; exact .inr (.inl ⟨rfl, hf⟩)
    · rw [if_neg h0, if_neg hf]
      obtain ⟨hne, hlast⟩ := link_last h6 ht h0 hf
      have b := nodes_blt h6 ht
      refine .inr (.inr ⟨nodesOf n t, red_txt b.red, hne, rfl, ?_⟩)
      rw [← hlast]; exact b.tb.symm
/-- How many nodes. -/
theorem nodes_len {n t : Nat} (h1 : 1 ≤ n) (h6 : n ≤ 6) (ht : Tab n t) : (nodesOf n t).length = (nodesT n [t] (List.range n)).length := by
  have b := nodes_blt h6 ht
  have hd : Dia n (List.range n) (nodesOf n t) (tb n (nodesOf n t)) := red_dia h1 h6 b.red
  have hls : ∀ l ∈ [linkOf n t], l < (nodesOf n t).length + 2 := by intro l hl; simp at hl; subst hl; exact b.lt
  have hc := hd.count hls
  have htb : tb n (nodesOf n t) (linkOf n t) = t := b.tb
  simp only [List.map_cons, List.map_nil] at hc
  rw [htb] at hc
  rw [hc]
  symm
  apply cntM_all
  intro i hi
  rw [reached_iff (ns := nodesOf n t) b.red.wf _ hls _ (by omega)]
  obtain ⟨ms, e2, hf⟩ := build_full (List.range' 0 (n - 0)) t []
  have e3 : nodesOf n t = [] ++ ms := e2
  have := hf i (Nat.zero_le _) (by rw [← e3]; exact hi)
  rw [← e3] at this
  exact this
theorem nodes_63 {n t : Nat} (h6 : n ≤ 6) : (nodesOf n t).length ≤ 63 := by
  have := (build_len (List.range' 0 (n - 0)) t []).2
  have hp := two_pow_le n h6
  unfold nodesOf sup
  simp at this ⊢; omega
/-- How many items a text has. -/
def itemsOf (bs : List UInt8) : Nat := bs.count 59
theorem text_items {n t : Nat} (h6 : n ≤ 6) (ht : Tab n t) : itemsOf (textOf n t) = (nodesOf n t).length ∨ itemsOf (textOf n t) = 0 := by
  unfold textOf
  split
  · right; rfl
  · split
    · right; rfl
    · left
      exact rend_items _ ((red_txt (nodes_blt h6 ht).red).ten h6)
/-- OF TEXTS THAT SAY ONE FUNCTION ITS OWN HAS THE FEWEST ITEMS. -/
theorem text_few {n : Nat} {bs : List UInt8} {f : Nat} (h1 : 1 ≤ n) (h6 : n ≤ 6) (h : Says n bs f) : itemsOf (textOf n f) ≤ itemsOf bs := by
  have ht := h.tab
  rcases text_items h6 ht with e | e
  · rcases h with ⟨_, rfl⟩ | ⟨_, rfl⟩ | ⟨ns, hx, hne, rfl, rfl⟩
    · simp [textOf, itemsOf]
    · unfold textOf
      split
      · simp [itemsOf]
      · simp [itemsOf]
    · rw [e, nodes_len h1 h6 ht]
      show _ ≤ (rend ns).count 59
      rw [rend_items ns (hx.ten h6)]
      exact txt_nodes hx h6 (by omega)
  · omega
/-- A text has few bytes. -/
theorem itm_len {x : Nd} (h1 : x.2.1 < 102) (h2 : x.2.2 < 102) : (itm x).length ≤ 7 := by
  have a := lnk_len h1
  have b := lnk_len h2
  simp [itm]; omega
theorem rend_short {ns : List Nd} (hw : Wf ns) (hl : ns.length ≤ 63) : (rend ns).length ≤ 441 := by
  have key : ∀ ms : List Nd, (∀ x ∈ ms, x.2.1 < 102 ∧ x.2.2 < 102) → (rend ms).length ≤ 7 * ms.length := by
    intro ms
    induction ms with
    | nil => intro _; simp [rend]
    | cons x ms ih =>
      intro h
      rw [rend_cons, List.length_append]
      have h1 := ih (fun y hy => h y (by simp [hy]))
      have h2 := itm_len (h x (by simp)).1 (h x (by simp)).2
      simp only [List.length_cons]; omega
  have := key ns (fun x hx => by
    obtain ⟨k, hk, rfl⟩ := List.getElem_of_mem hx
    have := hw k hk; omega)
  omega
theorem text_short {n t : Nat} (h6 : n ≤ 6) (ht : Tab n t) : (textOf n t).length ≤ 441 := by
  unfold textOf
  split
  · simp
  · split
    · simp
    · exact rend_short (nodes_blt h6 ht).red.wf (nodes_63 h6)
/-- What stands behind a part that was read. -/
theorem rend_prefix : ∀ {ns ms : List Nd} {r : List UInt8}, (∀ x ∈ ns, x.1 < 10) → (∀ x ∈ ms, x.1 < 10) → rend ns ++ r = rend ms → ∃ ms', ms = ns ++ ms' ∧ r = rend ms' := by
  intro ns
  induction ns with
  | nil => intro ms r _ _ h; exact ⟨ms, rfl, by simpa [rend_nil] using h⟩
  | cons x ns ih =>
    intro ms r h1 h2 h
    cases ms with
    | nil => simp [rend_nil, rend_cons, itm] at h
    | cons y ms =>
      rw [rend_cons, rend_cons, List.append_assoc] at h
      obtain ⟨rfl, h'⟩ := itm_inj (h1 x (by simp)) (h2 y (by simp)) h
      obtain ⟨ms', rfl, rfl⟩ := ih (fun z hz => h1 z (by simp [hz])) (fun z hz => h2 z (by simp [hz])) h'
      exact ⟨ms', rfl, rfl⟩
end Cho
