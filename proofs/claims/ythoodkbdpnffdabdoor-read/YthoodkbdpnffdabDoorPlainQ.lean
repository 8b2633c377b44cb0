/-
  Own work: what diagrams become by other orders: all functions built anew, one variable moved, the best of all moves, and again until none is better (plain mathematics).
-/
import Derived.Test.YthoodkbdpnffdabDoorPlainM
import Derived.Test.YthoodkbdpnffdabDoorPlainN
namespace Cho

/-! Orders with one variable moved, as the loops move it. -/
def shUp (l : List Nat) (f : Nat) : Nat → List Nat
  | 0 => l
  | j + 1 => (shUp l f j).set (f + j) ((shUp l f j).getD (f + j + 1) 0)
def shDn (l : List Nat) (f : Nat) : Nat → List Nat
  | 0 => l
  | j + 1 => (shDn l f j).set (f - j) ((shDn l f j).getD (f - j - 1) 0)
def mv (l : List Nat) (f t : Nat) : List Nat := (shDn (shUp l f (t - f)) f (f - t)).set t (l.getD f 0)
theorem shUp_len (l : List Nat) (f j : Nat) : (shUp l f j).length = l.length := by
  induction j with
  | zero => rfl
  | succ j ih => simp [shUp, ih]
theorem shDn_len (l : List Nat) (f j : Nat) : (shDn l f j).length = l.length := by
  induction j with
  | zero => rfl
  | succ j ih => simp [shDn, ih]
theorem mv_len (l : List Nat) (f t : Nat) : (mv l f t).length = l.length := by simp [mv, shDn_len, shUp_len]
/-- A statement of all short lists and two places in them, case by case. -/
theorem six {P : List Nat → Nat → Nat → Prop}
    (h1 : ∀ a, P [a] 0 0)
    (h2 : ∀ a b, P [a, b] 0 0 ∧ P [a, b] 0 1 ∧ P [a, b] 1 0 ∧ P [a, b] 1 1)
    (h3 : ∀ a b c, ∀ f t, f < 3 → t < 3 → P [a, b, c] f t)
    (h4 : ∀ a b c d, ∀ f t, f < 4 → t < 4 → P [a, b, c, d] f t)
    (h5 : ∀ a b c d e, ∀ f t, f < 5 → t < 5 → P [a, b, c, d, e] f t)
    (h6 : ∀ a b c d e g, ∀ f t, f < 6 → t < 6 → P [a, b, c, d, e, g] f t)
    (l : List Nat) (f t : Nat) (hl : l.length ≤ 6) (hf : f < l.length) (ht : t < l.length) : P l f t := by
  match l, hl, hf, ht with
  | [], _, hf, _ => simp at hf
  | [a], _, hf, ht =>
    simp at hf ht; subst hf ht; exact h1 a
  | [a, b], _, hf, ht =>
    simp at hf ht
    obtain ⟨p, q, r, s⟩ := h2 a b
    rcases (by omega : f = 0 ∨ f = 1) with rfl | rfl <;> rcases (by omega : t = 0 ∨ t = 1) with rfl | rfl <;> assumption
  | [a, b, c], _, hf, ht => exact h3 a b c f t hf ht
  | [a, b, c, d], _, hf, ht => exact h4 a b c d f t hf ht
  | [a, b, c, d, e], _, hf, ht => exact h5 a b c d e f t hf ht
  | [a, b, c, d, e, g], _, hf, ht => exact h6 a b c d e g f t hf ht
  | _ :: _ :: _ :: _ :: _ :: _ :: _ :: _, hl, _, _ => simp at hl
/-- So moved: taken out, put in again. -/
def mvL (l : List Nat) (f t : Nat) : List Nat := (l.eraseIdx f).insertIdx t (l.getD f 0)
theorem mv_eq (l : List Nat) (f t : Nat) (hl : l.length ≤ 6) (hf : f < l.length) (ht : t < l.length) : mv l f t = mvL l f t := by
  refine six (P := fun l f t => mv l f t = mvL l f t) (fun _ => rfl) (fun _ _ => ⟨rfl, rfl, rfl, rfl⟩) ?_ ?_ ?_ ?_ l f t hl hf ht
  · intro a b c f t hf ht
    rcases (by omega : f = 0 ∨ f = 1 ∨ f = 2) with rfl | rfl | rfl <;> rcases (by omega : t = 0 ∨ t = 1 ∨ t = 2) with rfl | rfl | rfl <;> rfl
  · intro a b c d f t hf ht
    rcases (by omega : f = 0 ∨ f = 1 ∨ f = 2 ∨ f = 3) with rfl | rfl | rfl | rfl <;> rcases (by omega : t = 0 ∨ t = 1 ∨ t = 2 ∨ t = 3) with rfl | rfl | rfl | rfl <;> rfl
  · intro a b c d e f t hf ht
    rcases (by omega : f = 0 ∨ f = 1 ∨ f = 2 ∨ f = 3 ∨ f = 4) with rfl | rfl | rfl | rfl | rfl <;> rcases (by omega : t = 0 ∨ t = 1 ∨ t = 2 ∨ t = 3 ∨ t = 4) with rfl | rfl | rfl | rfl | rfl <;> rfl
  · intro a b c d e g f t hf ht
    rcases (by omega : f = 0 ∨ f = 1 ∨ f = 2 ∨ f = 3 ∨ f = 4 ∨ f = 5) with rfl | rfl | rfl | rfl | rfl | rfl <;> rcases (by omega : t = 0 ∨ t = 1 ∨ t = 2 ∨ t = 3 ∨ t = 4 ∨ t = 5) with rfl | rfl | rfl | rfl | rfl | rfl <;> rfl
theorem erase_perm (l : List Nat) (f : Nat) (hf : f < l.length) : (l.getD f 0 :: l.eraseIdx f).Perm l := by
  induction l generalizing f with
  | nil => simp at hf
  | cons a l ih =>
    cases f with
    | zero => simp
    | succ f =>
      have := ih f (by simpa using hf)
      simp only [List.getD_cons_succ, List.eraseIdx_cons_succ]
      exact (List.Perm.swap _ _ _).trans (List.Perm.cons a this)
theorem mvL_perm (l : List Nat) (f t : Nat) (hf : f < l.length) (ht : t < l.length) : (mvL l f t).Perm l :=
  (List.perm_insertIdx _ _ (by rw [List.length_eraseIdx_of_lt hf]; omega)).trans (erase_perm l f hf)
theorem mv_perm (l : List Nat) (f t : Nat) (hl : l.length ≤ 6) (hf : f < l.length) (ht : t < l.length) : (mv l f t).Perm l := by
  rw [mv_eq l f t hl hf ht]; exact mvL_perm l f t hf ht
/-- Two neighbours changed. -/
def swp (l : List Nat) (k : Nat) : List Nat := (l.set k (l.getD (k + 1) 0)).set (k + 1) (l.getD k 0)
theorem swp_len (l : List Nat) (k : Nat) : (swp l k).length = l.length := by simp [swp]
theorem mv_swp (l : List Nat) (k : Nat) : mv l k (k + 1) = swp l k := by
  unfold mv swp
  rw [show k + 1 - k = 1 from by omega, show k - (k + 1) = 0 from by omega]
  rfl
theorem swp_swp (l : List Nat) (k : Nat) (hk : k + 1 < l.length) : swp (swp l k) k = l := by
  have h1 : k < l.length := by omega
  apply List.ext_getElem
  · simp [swp]
  · intro i h1' h2'
    simp only [swp, List.getElem_set, List.getD_eq_getElem?_getD, List.getElem?_set, List.length_set]
    by_cases e1 : k + 1 = i
    · subst e1; simp [hk, h1]
    · by_cases e2 : k = i
      · subst e2; simp [hk, h1]
      · simp [e1, e2]

/-! An order of n variables. -/
structure Odr (n : Nat) (ord : List Nat) : Prop where
  n1 : 1 ≤ n
  n6 : n ≤ 6
  nd : ord.Nodup
  mem : ∀ v, v ∈ ord ↔ v < n
  len : ord.length = n
theorem Odr.v6 {n : Nat} {ord : List Nat} (h : Odr n ord) : ∀ v ∈ ord, v < 6 := fun v hv => by have := (h.mem v).1 hv; have := h.n6; omega
theorem Odr.mv {n : Nat} {ord : List Nat} (h : Odr n ord) {f t : Nat} (hf : f < n) (ht : t < n) : Odr n (mv ord f t) := by
  have hp := mv_perm ord f t (by rw [h.len]; exact h.n6) (by rw [h.len]; exact hf) (by rw [h.len]; exact ht)
  exact ⟨h.n1, h.n6, hp.nodup_iff.2 h.nd, fun v => hp.mem_iff.trans (h.mem v), by rw [mv_len, h.len]⟩
theorem Odr.mask {n : Nat} {ord : List Nat} (h : Odr n ord) (p : Nat) : Cho.mask ord p = p % 2 ^ n := by
  apply Nat.eq_of_testBit_eq
  intro i
  rw [mask_testBit, Nat.testBit_mod_two_pow]
  by_cases hi : i < n
  · simp [hi, (h.mem i).2 hi]
  · have : i ∉ ord := fun hm => hi ((h.mem i).1 hm)
    simp [hi, this]

/-! All functions of some tables built, one behind the other. -/
def bldsTo (ord ts : List Nat) : Nat → List Nd × List Nat
  | 0 => ([], [])
  | k + 1 => ((build ord (ts.getD k 0) (bldsTo ord ts k).1).1, (bldsTo ord ts k).2 ++ [(build ord (ts.getD k 0) (bldsTo ord ts k).1).2])
structure Blds (n : Nat) (ord ts : List Nat) (k : Nat) (r : List Nd × List Nat) : Prop where
  red : Red ord r.1
  len : r.2.length = k
  lt : ∀ l ∈ r.2, l < r.1.length + 2
  ev : ∀ i (hi : i < r.2.length) p, p < 2 ^ n → ev r.1 r.2[i] p = (ts.getD i 0).testBit p
  full : ∀ j, j < r.1.length → Reach r.1 r.2 (j + 2)
  few : r.1.length ≤ 63 * k
theorem blds_ok {n : Nat} {ord ts : List Nat} (o : Odr n ord) (ht : ∀ t ∈ ts, Tab n t) : ∀ k, k ≤ ts.length → Blds n ord ts k (bldsTo ord ts k) := by
  intro k
  induction k with
  | zero => intro _; exact ⟨Red.nil _, rfl, by simp [bldsTo], fun i hi => absurd hi (by simp [bldsTo]), fun j hj => absurd hj (by simp [bldsTo]), by simp [bldsTo]⟩
  | succ k ih =>
    intro hk
    have b := ih (by omega)
    have hkt : k < ts.length := by omega
    have htk : ts.getD k 0 = ts[k] := by simp [List.getD, hkt]
    have hT : Tab n (ts.getD k 0) := by rw [htk]; exact ht _ (List.getElem_mem hkt)
    generalize hr : bldsTo ord ts k = r at b
    obtain ⟨ns, ls⟩ := r
    simp only [bldsTo, hr]
    obtain ⟨g, e⟩ := build_grew o.v6 o.nd ord 0 rfl (Nat.zero_le _) (ts.getD k 0) ns (hT.u64 o.n6) b.red
    have hl := build_len ord (ts.getD k 0) ns
    have hp := two_pow_le _ (by rw [o.len]; exact o.n6 : ord.length ≤ 6)
    obtain ⟨ms, hms, hfull⟩ := build_full ord (ts.getD k 0) ns
    generalize hq : build ord (ts.getD k 0) ns = q at *
    obtain ⟨ns', l'⟩ := q
    simp only at *
    subst hms
    have hglt : l' < (ns ++ ms).length + 2 := g.lt
    have hbl := b.lt
    have hbn := b.len
    simp only at hbl hbn
    refine ⟨g.red, by simp [hbn], ?_, ?_, ?_, ?_⟩
    · intro l hm
      rcases List.mem_append.1 hm with h | h
      · have := hbl l h; simp only [List.length_append]; omega
      · simp at h; subst h; exact hglt
    · intro i hi p hp'
      by_cases hik : i < ls.length
      · simp only [List.getElem_append_left hik]
        rw [ev_append b.red.wf p _ (hbl _ (List.getElem_mem hik))]
        exact b.ev i hik p hp'
      · obtain rfl : i = ls.length := by simp at hi; omega
        simp only [List.getElem_concat_length]
        rw [e p, o.mask, Nat.mod_eq_of_lt hp', hbn]
    · intro j hj
      by_cases hjn : j < ns.length
      · exact reach_trans (reach_append (b.full j hjn)) fun m hm => reach_self _ (List.mem_append_left _ hm)
      · exact reach_trans (hfull j (by omega) hj) fun m hm => reach_self _ (by simp at hm; subst hm; simp)
    · have := b.few
      simp only at this
      simp only [List.length_append] at hl ⊢
      omega

/-! A diagram with its links. -/
structure Dg where
  ord : List Nat
  ns : List Nd
  ls : List Nat
/-- The tables of its links. -/
def Dg.tabs (d : Dg) : List Nat := d.ls.map fun l => bld (ev d.ns l) (2 ^ d.ord.length)
structure DgOk (n : Nat) (d : Dg) : Prop where
  o : Odr n d.ord
  red : Red d.ord d.ns
  ls : ∀ l ∈ d.ls, l < d.ns.length + 2
def Dg.Full (d : Dg) : Prop := ∀ k, k < d.ns.length → Reach d.ns d.ls (k + 2)
theorem ev_mask_of {n : Nat} {ord : List Nat} {ns : List Nd} (o : Odr n ord) (h : Red ord ns) (p : Nat) : ∀ l, l < ns.length + 2 → ev ns l p = ev ns l (p % 2 ^ n) := by
  intro l
  induction l using Nat.strongRecOn with
  | ind l ih =>
    intro hl
    by_cases h2 : l < 2
    · rw [ev_small _ _ _ h2, ev_small _ _ _ h2]
    · obtain ⟨k, rfl⟩ : ∃ k, l = k + 2 := ⟨l - 2, by omega⟩
      have hk : k < ns.length := by omega
      have hw := h.wf k hk
      have hv := (o.mem _).1 (h.var ns[k] (List.getElem_mem hk))
      rw [ev_node h.wf _ hk, ev_node h.wf _ hk, Nat.testBit_mod_two_pow]
      rw [ih _ (by omega) (by omega), ih _ (by omega) (by omega)]
      simp [hv]
theorem DgOk.dia {n : Nat} {d : Dg} (h : DgOk n d) : Dia n d.ord d.ns (fun l => bld (ev d.ns l) (2 ^ n)) :=
  ⟨h.o.n6, h.red, h.o.len, fun v hv => (h.o.mem v).1 hv, h.o.nd, fun _ _ => bld_tab _ _, fun _ _ p hp => by rw [bld_testBit]; simp [hp], fun p l hl => ev_mask_of h.o h.red p l hl⟩
theorem DgOk.tabs {n : Nat} {d : Dg} (h : DgOk n d) : d.tabs = d.ls.map fun l => bld (ev d.ns l) (2 ^ n) := by unfold Dg.tabs; rw [h.o.len]
theorem DgOk.tab {n : Nat} {d : Dg} (h : DgOk n d) : ∀ t ∈ d.tabs, Tab n t := by
  intro t ht
  rw [h.tabs] at ht
  obtain ⟨l, _, rfl⟩ := List.mem_map.1 ht
  exact bld_tab _ _
/-- How many nodes functions have by an order. -/
def cnt' (n : Nat) (ts ord : List Nat) : Nat := (nodesT n ts ord).length
theorem DgOk.count {n : Nat} {d : Dg} (h : DgOk n d) (hf : d.Full) : d.ns.length = cnt' n d.tabs d.ord := by
  unfold cnt'
  rw [h.tabs, h.dia.count h.ls]
  exact (cntM_all _ _ fun i hi => (reached_iff h.red.wf _ h.ls _ (by omega)).2 (hf i hi)).symm
/-- By another order. -/
def Dg.by (d : Dg) (ord : List Nat) : Dg := ⟨ord, (bldsTo ord d.tabs d.ls.length).1, (bldsTo ord d.tabs d.ls.length).2⟩
/-- What a step of sifting leaves: the same functions, each node needed. -/
structure Same (n : Nat) (d d' : Dg) : Prop where
  ok : DgOk n d'
  full : d'.Full
  tabs : d'.tabs = d.tabs
  len : d'.ls.length = d.ls.length
theorem Same.few {n : Nat} {d d' : Dg} (h : Same n d d') : d'.ns.length = cnt' n d.tabs d'.ord := by rw [h.ok.count h.full, h.tabs]
theorem Same.trans {n : Nat} {a b c : Dg} (h : Same n a b) (k : Same n b c) : Same n a c := ⟨k.ok, k.full, k.tabs.trans h.tabs, k.len.trans h.len⟩
theorem by_same {n : Nat} {d : Dg} (h : DgOk n d) {ord : List Nat} (o : Odr n ord) : Same n d (d.by ord) ∧ (d.by ord).ns.length ≤ 63 * d.ls.length := by
  have b := blds_ok o h.tab d.ls.length (by simp [Dg.tabs])
  have hok : DgOk n (d.by ord) := ⟨o, b.red, b.lt⟩
  refine ⟨⟨hok, b.full, ?_, b.len⟩, b.few⟩
  apply List.ext_getElem
  · rw [hok.tabs]
    simp only [List.length_map]
    exact b.len.trans (by simp [Dg.tabs])
  · intro i h1 h2
    have hi : i < (bldsTo ord d.tabs d.ls.length).2.length := by rw [hok.tabs] at h1; simpa [Dg.by] using h1
    have e1 : (d.by ord).tabs[i] = bld (ev (d.by ord).ns ((bldsTo ord d.tabs d.ls.length).2[i])) (2 ^ n) := by
      simp only [hok.tabs, List.getElem_map]; rfl
    rw [e1]
    apply bld_eq (h.tab _ (List.getElem_mem h2))
    intro p hp
    have := b.ev i hi p hp
    rw [show d.tabs.getD i 0 = d.tabs[i] from by simp [List.getD, h2]] at this
    exact this
def Dg.move (d : Dg) (f t : Nat) : Dg := d.by (mv d.ord f t)
def Dg.keep (d : Dg) : Dg := ⟨d.ord, kept d.ns d.ls, d.ls.map (moved d.ns d.ls)⟩
theorem keep_same {n : Nat} {d : Dg} (h : DgOk n d) : Same n d d.keep := by
  have hw := h.red.wf
  have e := kept_emb hw d.ls h.ls
  have hmk : ∀ l ∈ d.ls, l < 2 ∨ (reached d.ns d.ls).getD l false = true := fun l hm => .inr (kept_mk hw _ h.ls (h.ls l hm) (reach_self _ hm))
  have hok : DgOk n d.keep := ⟨h.o, e.red h.red, fun l hl => by
    obtain ⟨m, hm, rfl⟩ := List.mem_map.1 hl
    exact e.lt (h.ls _ hm) (hmk _ hm)⟩
  refine ⟨hok, fun k hk => kept_full hw d.ls h.ls k hk, ?_, by simp [Dg.keep]⟩
  rw [hok.tabs, h.tabs]
  simp only [Dg.keep, List.map_map]
  apply List.map_congr_left
  intro l hl
  simp only [Function.comp]
  congr 1
  funext p
  exact e.ev hw p _ (h.ls _ hl) (hmk _ hl)
/-- The better of two; the first, if they are as good. -/
def Dg.or (best next : Dg) : Dg := if next.ns.length < best.ns.length then next else best
def Dg.tos (d best : Dg) (f : Nat) : Nat → Dg
  | 0 => best
  | t + 1 => (d.tos best f t).or (d.move f t)
def Dg.froms (d : Dg) : Nat → Dg
  | 0 => d.keep
  | f + 1 => d.tos (d.froms f) f d.ord.length
def Dg.best (d : Dg) : Dg := d.froms d.ord.length
theorem or_le (a b : Dg) : (a.or b).ns.length ≤ a.ns.length ∧ (a.or b).ns.length ≤ b.ns.length := by
  unfold Dg.or
  split <;> omega
theorem or_prop {P : Dg → Prop} {a b : Dg} (ha : P a) (hb : P b) : P (a.or b) := by
  unfold Dg.or
  split
  · exact hb
  · exact ha
theorem move_same {n : Nat} {d : Dg} (h : DgOk n d) {f t : Nat} (hf : f < n) (ht : t < n) : Same n d (d.move f t) := (by_same h (h.o.mv hf ht)).1
theorem move_few {n : Nat} {d : Dg} (h : DgOk n d) {f t : Nat} (hf : f < n) (ht : t < n) : (d.move f t).ns.length ≤ 63 * d.ls.length := (by_same h (h.o.mv hf ht)).2
theorem tos_ok {n : Nat} {d best : Dg} (h : DgOk n d) (hb : Same n d best) {f : Nat} (hf : f < n) : ∀ t, t ≤ n → Same n d (d.tos best f t) ∧ (d.tos best f t).ns.length ≤ best.ns.length ∧ ∀ u, u < t → (d.tos best f t).ns.length ≤ cnt' n d.tabs (mv d.ord f u) := by
  intro t
  induction t with
  | zero => intro _; exact ⟨hb, Nat.le_refl _, fun u hu => absurd hu (by omega)⟩
  | succ t ih =>
    intro ht
    obtain ⟨a, b, c⟩ := ih (by omega)
    have hm := move_same h hf (by omega : t < n)
    have hl := or_le (d.tos best f t) (d.move f t)
    refine ⟨or_prop (P := Same n d) a hm, Nat.le_trans hl.1 b, fun u hu => ?_⟩
    by_cases e : u = t
    · subst e
      have := hm.few
      rw [show (d.move f u).ord = mv d.ord f u from rfl] at this
      rw [← this]; exact hl.2
    · exact Nat.le_trans hl.1 (c u (by omega))
theorem froms_ok {n : Nat} {d : Dg} (h : DgOk n d) : ∀ f, f ≤ n → Same n d (d.froms f) ∧ (d.froms f).ns.length ≤ cnt' n d.tabs d.ord ∧ ∀ g u, g < f → u < n → (d.froms f).ns.length ≤ cnt' n d.tabs (mv d.ord g u) := by
  intro f
  induction f with
  | zero => intro _; exact ⟨keep_same h, Nat.le_of_eq (keep_same h).few, fun g u hg => absurd hg (by omega)⟩
  | succ f ih =>
    intro hf
    obtain ⟨a, b, c⟩ := ih (by omega)
    obtain ⟨x, y, z⟩ := tos_ok h a (by omega : f < n) n (Nat.le_refl _)
    have e : d.froms (f + 1) = d.tos (d.froms f) f n := by simp only [Dg.froms, h.o.len]
    rw [e]
    refine ⟨x, Nat.le_trans y b, fun g u hg hu => ?_⟩
    by_cases eg : g = f
    · subst eg; exact z u hu
    · exact Nat.le_trans y (c g u (by omega) hu)
theorem best_ok {n : Nat} {d : Dg} (h : DgOk n d) : Same n d d.best ∧ d.best.ns.length ≤ cnt' n d.tabs d.ord ∧ ∀ g u, g < n → u < n → d.best.ns.length ≤ cnt' n d.tabs (mv d.ord g u) := by
  unfold Dg.best
  rw [h.o.len]
  exact froms_ok h n (Nat.le_refl _)
/-- Again and again, as long as it brings fewer nodes. -/
def siftF : Nat → Dg → Nat → Dg
  | 0, d, _ => d
  | k + 1, d, before => if d.ns.length < before then siftF k d.best d.ns.length else d
def Dg.sift (d : Dg) : Dg := siftF (d.keep.ns.length + 2) d.keep (d.keep.ns.length + 1)
theorem siftF_ok {n : Nat} : ∀ k (d : Dg) (before : Nat), DgOk n d → d.Full → Same n d (siftF k d before) ∧ (siftF k d before).ns.length ≤ d.ns.length := by
  intro k
  induction k with
  | zero => intro d _ h hf; exact ⟨⟨h, hf, rfl, rfl⟩, Nat.le_refl _⟩
  | succ k ih =>
    intro d before h hf
    simp only [siftF]
    split
    · obtain ⟨a, b, _⟩ := best_ok h
      obtain ⟨x, y⟩ := ih d.best d.ns.length a.ok a.full
      refine ⟨a.trans x, Nat.le_trans y ?_⟩
      rw [h.count hf]; exact b
    · exact ⟨⟨h, hf, rfl, rfl⟩, Nat.le_refl _⟩
/-- WHAT SIFTING FINDS: the same functions, no more nodes than by the order before, nor than by any move from it. -/
theorem sift_ok {n : Nat} {d : Dg} (h : DgOk n d) : Same n d d.sift ∧ d.sift.ns.length ≤ cnt' n d.tabs d.ord ∧ ∀ g u, g < n → u < n → d.sift.ns.length ≤ cnt' n d.tabs (mv d.ord g u) := by
  have hk := keep_same h
  have e : d.sift = siftF (d.keep.ns.length + 1) d.keep.best d.keep.ns.length := by
    unfold Dg.sift
    simp only [siftF]
    rw [if_pos (by omega)]
  obtain ⟨a, b, c⟩ := best_ok hk.ok
  obtain ⟨x, y⟩ := siftF_ok (n := n) (d.keep.ns.length + 1) d.keep.best d.keep.ns.length a.ok a.full
  rw [e]
  rw [hk.tabs] at b c
  exact ⟨(hk.trans a).trans x, Nat.le_trans y b, fun g u hg hu => Nat.le_trans y (c g u hg hu)⟩
end Cho
