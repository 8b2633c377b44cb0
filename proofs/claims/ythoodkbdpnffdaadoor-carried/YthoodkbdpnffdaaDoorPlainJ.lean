/-
  Own work: which links are reached from some links (plain mathematics).
-/
import Derived.Test.YthoodkbdpnffdaaDoorPlainG
namespace Cho

def marks0 (n : Nat) : List Bool := List.replicate (n + 2) false
def markAll (n : Nat) (ls : List Nat) : List Bool := ls.foldl (fun b l => b.set l true) (marks0 n)
def dstep (ns : List Nd) (i : Nat) (b : List Bool) : List Bool :=
  if b.getD (i + 2) false then (b.set (ns.getD i (0, 0, 0)).2.1 true).set (ns.getD i (0, 0, 0)).2.2 true else b
/-- The marks when the last c nodes have handed theirs on. -/
def dn (ns : List Nd) (b : List Bool) : Nat → List Bool
  | 0 => b
  | c + 1 => dstep ns (ns.length - 1 - c) (dn ns b c)
def reached (ns : List Nd) (ls : List Nat) : List Bool := dn ns (markAll ns.length ls) ns.length

theorem markAll_snoc (n : Nat) (ls : List Nat) (l : Nat) : markAll n (ls ++ [l]) = (markAll n ls).set l true := by simp [markAll]
theorem markAll_len (n : Nat) (ls : List Nat) : (markAll n ls).length = n + 2 := by
  unfold markAll
  suffices h : ∀ b : List Bool, (ls.foldl (fun b l => b.set l true) b).length = b.length by rw [h]; simp [marks0]
  induction ls with
  | nil => intro b; rfl
  | cons l ls ih => intro b; simp only [List.foldl_cons]; rw [ih]; simp
theorem dstep_len (ns : List Nd) (i : Nat) (b : List Bool) : (dstep ns i b).length = b.length := by unfold dstep; split <;> simp
theorem dn_len (ns : List Nd) (b : List Bool) (c : Nat) : (dn ns b c).length = b.length := by
  induction c with
  | zero => rfl
  | succ c ih => simp only [dn]; rw [dstep_len, ih]

/-- l is reached from one of these links. -/
def Reach (ns : List Nd) (ls : List Nat) (l : Nat) : Prop := ∀ S : Nat → Prop, (∀ l ∈ ls, S l) → (∀ k (hk : k < ns.length), S (k + 2) → S ns[k].2.1 ∧ S ns[k].2.2) → S l

theorem getD_set {b : List Bool} {i j : Nat} : (b.set i true).getD j false = (decide (i = j ∧ j < b.length) || b.getD j false) := by
  simp only [List.getD, List.getElem?_set]
  by_cases h : i = j
  · subst h
    by_cases hl : i < b.length
    · simp [hl]
    · simp [hl]
  · simp [h]

theorem markAll_get (n : Nat) (ls : List Nat) (j : Nat) (hj : j < n + 2) : (markAll n ls).getD j false = decide (j ∈ ls) := by
  unfold markAll
  suffices h : ∀ b : List Bool, b.length = n + 2 → (ls.foldl (fun b l => b.set l true) b).getD j false = (decide (j ∈ ls) || b.getD j false) by
    rw [h _ (by simp [marks0])]; simp [marks0, List.getD, hj]
  induction ls with
  | nil => intro b _; simp
  | cons l ls ih =>
    intro b hb
    simp only [List.foldl_cons]
    rw [ih _ (by simp [hb]), getD_set, hb]
    by_cases e : l = j
    · subst e; simp [hj]
    · have e' : ¬ j = l := fun h => e h.symm
      simp [e, e']

theorem reached_iff {ns : List Nd} (hw : Wf ns) (ls : List Nat) (hls : ∀ l ∈ ls, l < ns.length + 2) (j : Nat) (hj : j < ns.length + 2) : (reached ns ls).getD j false = true ↔ Reach ns ls j := by
  have hlen : ∀ c, (dn ns (markAll ns.length ls) c).length = ns.length + 2 := fun c => by rw [dn_len, markAll_len]
  have nodeAt : ∀ i (hi : i < ns.length), ns.getD i (0, 0, 0) = ns[i] := fun i hi => by simp [List.getD, hi]
  -- every mark is one that is reached
  have sound : ∀ c, c ≤ ns.length → ∀ j, j < ns.length + 2 → (dn ns (markAll ns.length ls) c).getD j false = true → Reach ns ls j := by
    intro c
    induction c with
    | zero =>
      intro _ j hj h
      simp only [dn] at h
      rw [markAll_get _ _ _ hj] at h
      exact fun S h1 _ => h1 j (by simpa using h)
    | succ c ih =>
      intro hc j hj h
      simp only [dn, dstep] at h
      split at h
      · rename_i hm
        have hi : ns.length - 1 - c < ns.length := by omega
        have hr := ih (by omega) (ns.length - 1 - c + 2) (by omega) hm
        rw [nodeAt _ hi, getD_set, getD_set] at h
        simp only [Bool.or_eq_true, decide_eq_true_eq] at h
        rcases h with ⟨e, _⟩ | ⟨e, _⟩ | h
        · exact fun S h1 h2 => e ▸ (h2 _ hi (hr S h1 h2)).2
        · exact fun S h1 h2 => e ▸ (h2 _ hi (hr S h1 h2)).1
        · exact ih (by omega) j hj h
      · exact ih (by omega) j hj h
  -- marks stay
  have stay : ∀ c d j, (dn ns (markAll ns.length ls) c).getD j false = true → (dn ns (markAll ns.length ls) (c + d)).getD j false = true := by
    intro c d j h
    induction d with
    | zero => exact h
    | succ d ih =>
      rw [← Nat.add_assoc]
      simp only [dn, dstep]
      split
      · rw [getD_set, getD_set, ih]; simp
      · exact ih
  -- a node hands its mark on when its turn comes, and no later node marks it
  have late : ∀ c d j, c + d ≤ ns.length → ns.length - c + 1 ≤ j → (dn ns (markAll ns.length ls) (c + d)).getD j false = true → (dn ns (markAll ns.length ls) c).getD j false = true := by
    intro c d j
    induction d with
    | zero => intro _ _ h; exact h
    | succ d ih =>
      intro hc hj h
      rw [← Nat.add_assoc] at h
      simp only [dn, dstep] at h
      split at h
      · have hi : ns.length - 1 - (c + d) < ns.length := by omega
        have hwi := hw _ hi
        rw [nodeAt _ hi, getD_set, getD_set] at h
        simp only [Bool.or_eq_true, decide_eq_true_eq] at h
        rcases h with ⟨e, _⟩ | ⟨e, _⟩ | h
        · omega
        · omega
        · exact ih (by omega) hj h
      · exact ih (by omega) hj h
  constructor
  · exact sound _ (Nat.le_refl _) j hj
  · intro h
    apply h (fun l => (reached ns ls).getD l false = true)
    · intro l hl
      have : (dn ns (markAll ns.length ls) (0 + ns.length)).getD l false = true := by
        apply stay 0 ns.length l
        simp only [dn]
        rw [markAll_get _ _ _ (hls l hl)]; simpa using hl
      simpa [reached] using this
    · intro k hk hm
      have hwk := hw k hk
      have h1 := late (ns.length - 1 - k) (k + 1) (k + 2) (by omega) (by omega) (by rw [show ns.length - 1 - k + (k + 1) = ns.length from by omega]; exact hm)
      have hstep : ∀ l, l = ns[k].2.1 ∨ l = ns[k].2.2 → (dn ns (markAll ns.length ls) (ns.length - 1 - k + 1)).getD l false = true := by
        intro l hl
        simp only [dn, dstep]
        have ek : ns.length - 1 - (ns.length - 1 - k) = k := by omega
        rw [ek, if_pos h1, nodeAt k hk, getD_set, getD_set]
        simp only [List.length_set, hlen]
        rcases hl with rfl | rfl
        · simp; omega
        · simp; omega
      have fin : ∀ l, (dn ns (markAll ns.length ls) (ns.length - 1 - k + 1)).getD l false = true → (reached ns ls).getD l false = true := by
        intro l hl
        have := stay (ns.length - 1 - k + 1) k l hl
        rw [show ns.length - 1 - k + 1 + k = ns.length from by omega] at this
        exact this
      exact ⟨fin _ (hstep _ (.inl rfl)), fin _ (hstep _ (.inr rfl))⟩
end Cho

/-
  Own work: what is kept of a diagram when only some links are called for (plain mathematics).
-/
namespace Cho

/-- Where each link leads to among the nodes that are kept, and these, when k nodes have been looked at. -/
def keepTo (ns : List Nd) (R : List Bool) : Nat → List Nat × List Nd
  | 0 => ((List.replicate (ns.length + 2) 0).set 1 1, [])
  | k + 1 =>
    if R.getD (k + 2) false then
      ((keepTo ns R k).1.set (k + 2) (2 + (keepTo ns R k).2.length),
       (keepTo ns R k).2 ++ [((ns.getD k (0, 0, 0)).1, (keepTo ns R k).1.getD (ns.getD k (0, 0, 0)).2.1 0, (keepTo ns R k).1.getD (ns.getD k (0, 0, 0)).2.2 0)])
    else keepTo ns R k

theorem keepTo_len (ns : List Nd) (R : List Bool) (k : Nat) : (keepTo ns R k).1.length = ns.length + 2 := by
  induction k with
  | zero => simp [keepTo]
  | succ k ih => simp only [keepTo]; split <;> simp [ih]
theorem keepTo_few (ns : List Nd) (R : List Bool) (k : Nat) : (keepTo ns R k).2.length ≤ k := by
  induction k with
  | zero => simp [keepTo]
  | succ k ih =>
    simp only [keepTo]; split
    · simp; omega
    · omega
theorem keepTo_bound (ns : List Nd) (R : List Bool) (k : Nat) : ∀ x ∈ (keepTo ns R k).1, x < (keepTo ns R k).2.length + 2 := by
  induction k with
  | zero =>
    intro x hx
    simp only [keepTo] at hx ⊢
    rcases List.mem_or_eq_of_mem_set hx with h | h
    · have := List.eq_of_mem_replicate h; simp; omega
    · simp; omega
  | succ k ih =>
    simp only [keepTo]; split
    · intro x hx
      simp only at hx ⊢
      rcases List.mem_or_eq_of_mem_set hx with h | h
      · have := ih x h; simp; omega
      · simp; omega
    · exact ih
end Cho

/-
  Own work: what is kept says what it said, is reduced as before, and has no node in vain (plain mathematics).
-/
namespace Cho

/-- ks has the marked nodes of ns, in their order; f says where each link leads to there. -/
structure Emb (ns ks : List Nd) (mk : Nat → Prop) (f : Nat → Nat) : Prop where
  f0 : f 0 = 0
  f1 : f 1 = 1
  node : ∀ k (hk : k < ns.length), mk (k + 2) → ∃ j, ∃ hj : j < ks.length, f (k + 2) = j + 2 ∧ ks[j] = (ns[k].1, f ns[k].2.1, f ns[k].2.2)
  onto : ∀ j, j < ks.length → ∃ k, k < ns.length ∧ mk (k + 2) ∧ f (k + 2) = j + 2
  mono : ∀ k k', k < k' → k' < ns.length → mk (k + 2) → mk (k' + 2) → f (k + 2) < f (k' + 2)
  closed : ∀ k (hk : k < ns.length), mk (k + 2) → (ns[k].2.1 < 2 ∨ mk ns[k].2.1) ∧ (ns[k].2.2 < 2 ∨ mk ns[k].2.2)

section
variable {ns ks : List Nd} {mk : Nat → Prop} {f : Nat → Nat}
theorem Emb.small (e : Emb ns ks mk f) {l : Nat} (h : l < 2) : f l = l := by
  match l, h with
  | 0, _ => exact e.f0
  | 1, _ => exact e.f1
theorem Emb.lt (e : Emb ns ks mk f) {l : Nat} (hl : l < ns.length + 2) (h : l < 2 ∨ mk l) : f l < ks.length + 2 := by
  by_cases h2 : l < 2
  · rw [e.small h2]; omega
  · obtain ⟨k, rfl⟩ : ∃ k, l = k + 2 := ⟨l - 2, by omega⟩
    obtain ⟨j, hj, ej, _⟩ := e.node k (by omega) (h.resolve_left h2)
    omega
theorem Emb.big (e : Emb ns ks mk f) {k : Nat} (hk : k < ns.length) (h : mk (k + 2)) : 2 ≤ f (k + 2) := by
  obtain ⟨j, hj, ej, _⟩ := e.node k hk h
  omega
/-- Links keep their order. -/
theorem Emb.inc (e : Emb ns ks mk f) {l l' : Nat} (hl' : l' < ns.length + 2) (hlt : l < l') (h : l < 2 ∨ mk l) (h' : l' < 2 ∨ mk l') : f l < f l' := by
  by_cases h2' : l' < 2
  · rw [e.small h2', e.small (by omega)]; exact hlt
  · obtain ⟨k', rfl⟩ : ∃ k, l' = k + 2 := ⟨l' - 2, by omega⟩
    have hm' := h'.resolve_left h2'
    by_cases h2 : l < 2
    · rw [e.small h2]; have := e.big (by omega) hm'; omega
    · obtain ⟨k, rfl⟩ : ∃ k, l = k + 2 := ⟨l - 2, by omega⟩
      exact e.mono k k' (by omega) (by omega) (h.resolve_left h2) hm'
theorem Emb.inj (e : Emb ns ks mk f) {l l' : Nat} (hl : l < ns.length + 2) (hl' : l' < ns.length + 2) (h : l < 2 ∨ mk l) (h' : l' < 2 ∨ mk l') (he : f l = f l') : l = l' := by
  by_cases h1 : l < l'
  · have := e.inc hl' h1 h h'; omega
  · by_cases h2 : l' < l
    · have := e.inc hl h2 h' h; omega
    · omega
theorem Emb.wf (e : Emb ns ks mk f) (hw : Wf ns) : Wf ks := by
  intro j hj
  obtain ⟨k, hk, hm, ek⟩ := e.onto j hj
  obtain ⟨j', hj', ej', hn⟩ := e.node k hk hm
  obtain rfl : j' = j := by omega
  have hwk := hw k hk
  have hc := e.closed k hk hm
  have a := e.inc (l := ns[k].2.1) (l' := k + 2) (by omega) hwk.1 hc.1 (.inr hm)
  have b := e.inc (l := ns[k].2.2) (l' := k + 2) (by omega) hwk.2 hc.2 (.inr hm)
  rw [hn]
  exact ⟨by simp only; omega, by simp only; omega⟩
theorem Emb.top (e : Emb ns ks mk f) (ord : List Nat) {l : Nat} (hl : l < ns.length + 2) (h : l < 2 ∨ mk l) : top ord ks (f l) = top ord ns l := by
  by_cases h2 : l < 2
  · rw [e.small h2, top_small _ _ h2, top_small _ _ h2]
  · obtain ⟨k, rfl⟩ : ∃ k, l = k + 2 := ⟨l - 2, by omega⟩
    have hk : k < ns.length := by omega
    obtain ⟨j, hj, ej, hn⟩ := e.node k hk (h.resolve_left h2)
    rw [ej, top_node ord ks hj, top_node ord ns hk, hn]
theorem Emb.ev (e : Emb ns ks mk f) (hw : Wf ns) (p : Nat) : ∀ l, l < ns.length + 2 → (l < 2 ∨ mk l) → ev ks (f l) p = ev ns l p := by
  intro l
  induction l using Nat.strongRecOn with
  | ind l ih =>
    intro hl h
    by_cases h2 : l < 2
    · rw [e.small h2, ev_small _ _ _ h2, ev_small _ _ _ h2]
    · obtain ⟨k, rfl⟩ : ∃ k, l = k + 2 := ⟨l - 2, by omega⟩
      have hk : k < ns.length := by omega
      have hm := h.resolve_left h2
      obtain ⟨j, hj, ej, hn⟩ := e.node k hk hm
      have hwk := hw k hk
      have hc := e.closed k hk hm
      rw [ej, ev_node (e.wf hw) p hj, ev_node hw p hk, hn]
      simp only
      rw [ih _ (by omega) (by omega) hc.1, ih _ (by omega) (by omega) hc.2]
theorem Emb.red (e : Emb ns ks mk f) {ord : List Nat} (h : Red ord ns) : Red ord ks := by
  have hw := e.wf h.wf
  refine ⟨hw, ?_, ?_, ?_, ?_⟩
  · rw [List.nodup_iff_pairwise_ne, List.pairwise_iff_getElem]
    intro j j' hj hj' hlt heq
    obtain ⟨k, hk, hm, ek⟩ := e.onto j hj
    obtain ⟨k', hk', hm', ek'⟩ := e.onto j' hj'
    obtain ⟨i, hi, ei, hn⟩ := e.node k hk hm
    obtain ⟨i', hi', ei', hn'⟩ := e.node k' hk' hm'
    obtain rfl : i = j := by omega
    obtain rfl : i' = j' := by omega
    rw [hn, hn'] at heq
    simp only [Prod.mk.injEq] at heq
    have hwk := h.wf k hk
    have hwk' := h.wf k' hk'
    have hc := e.closed k hk hm
    have hc' := e.closed k' hk' hm'
    have e1 := e.inj (by omega) (by omega) hc.1 hc'.1 heq.2.1
    have e2 := e.inj (by omega) (by omega) hc.2 hc'.2 heq.2.2
    have en : ns[k] = ns[k'] := Prod.ext heq.1 (Prod.ext e1 e2)
    have := (List.getElem_inj h.nodup).1 en
    subst this
    omega
  · intro j hj
    obtain ⟨k, hk, hm, ek⟩ := e.onto j hj
    obtain ⟨i, hi, ei, hn⟩ := e.node k hk hm
    obtain rfl : i = j := by omega
    rw [hn]
    have hwk := h.wf k hk
    have hc := e.closed k hk hm
    exact fun heq => h.diff k hk (e.inj (by omega) (by omega) hc.1 hc.2 heq)
  · intro n hn0
    obtain ⟨j, hj, rfl⟩ := List.getElem_of_mem hn0
    obtain ⟨k, hk, hm, ek⟩ := e.onto j hj
    obtain ⟨i, hi, ei, hn⟩ := e.node k hk hm
    obtain rfl : i = j := by omega
    rw [hn]
    exact h.var ns[k] (List.getElem_mem hk)
  · intro j hj
    obtain ⟨k, hk, hm, ek⟩ := e.onto j hj
    obtain ⟨i, hi, ei, hn⟩ := e.node k hk hm
    obtain rfl : i = j := by omega
    rw [hn]
    have hwk := h.wf k hk
    have hc := e.closed k hk hm
    simp only
    rw [e.top ord (by omega) hc.1, e.top ord (by omega) hc.2]
    exact h.low k hk
/-- What was reached is reached. -/
theorem Emb.reach (e : Emb ns ks mk f) {ls : List Nat} (hmk : ∀ l, Reach ns ls l → l < 2 ∨ mk l) {l : Nat} (h : Reach ns ls l) : Reach ks (ls.map f) (f l) := by
  intro S hS hcl
  have := h (fun l => Reach ns ls l ∧ S (f l)) (fun l hl => ⟨fun S' a _ => a l hl, hS _ (List.mem_map_of_mem hl)⟩) (fun k hk hk2 => ?_)
  · exact this.2
  · have hm := (hmk _ hk2.1).resolve_left (by omega)
    obtain ⟨j, hj, ej, hn⟩ := e.node k hk hm
    have hs := hk2.2
    rw [ej] at hs
    have := hcl j hj hs
    rw [hn] at this
    exact ⟨⟨fun S' a b => (b k hk (hk2.1 S' a b)).1, this.1⟩, ⟨fun S' a b => (b k hk (hk2.1 S' a b)).2, this.2⟩⟩
end

def Laid5 (ns : List Nd) (R : List Bool) (n : Nat) (mv : List Nat) (ks : List Nd) : Prop :=
  mv.getD 0 0 = 0 ∧ mv.getD 1 0 = 1 ∧
      (∀ k (hk : k < ns.length), k < n → R.getD (k + 2) false = true → ∃ j, ∃ hj : j < ks.length, mv.getD (k + 2) 0 = j + 2 ∧ ks[j] = (ns[k].1, mv.getD ns[k].2.1 0, mv.getD ns[k].2.2 0)) ∧
      (∀ j, j < ks.length → ∃ k, k < n ∧ R.getD (k + 2) false = true ∧ mv.getD (k + 2) 0 = j + 2) ∧
      (∀ k k', k < k' → k' < n → R.getD (k + 2) false = true → R.getD (k' + 2) false = true → mv.getD (k + 2) 0 < mv.getD (k' + 2) 0)
/-- What is kept is so laid. -/
theorem keepTo_emb (ns : List Nd) (R : List Bool) (hw : Wf ns) (hcl : ∀ k (hk : k < ns.length), R.getD (k + 2) false = true → (ns[k].2.1 < 2 ∨ R.getD ns[k].2.1 false = true) ∧ (ns[k].2.2 < 2 ∨ R.getD ns[k].2.2 false = true)) :
    Emb ns (keepTo ns R ns.length).2 (fun l => R.getD l false = true) (fun l => (keepTo ns R ns.length).1.getD l 0) := by
  have nodeAt : ∀ i (hi : i < ns.length), ns.getD i (0, 0, 0) = ns[i] := fun i hi => by simp [List.getD, hi]
  have getSet : ∀ (l : List Nat) i x j, i < l.length → (l.set i x).getD j 0 = if i = j then x else l.getD j 0 := by
    intro l i x j hi
    simp only [List.getD, List.getElem?_set]
    by_cases h : i = j
    · subst h; simp [hi]
    · simp [h]
  have key : ∀ n, n ≤ ns.length → Laid5 ns R n (keepTo ns R n).1 (keepTo ns R n).2 := by
    intro n
    induction n with
    | zero =>
      intro _
      refine ⟨by simp [keepTo, List.getD], by simp [keepTo, List.getD], fun _ _ h => absurd h (by omega), fun _ h => absurd h (by simp [keepTo]), fun _ _ _ h => absurd h (by omega)⟩
    | succ n ih =>
      intro hn
      obtain ⟨i0, i1, i2, i3, i4⟩ := ih (by omega)
      have hlen := keepTo_len ns R n
      have hnn : n < ns.length := by omega
      have hdef : keepTo ns R (n + 1) = if R.getD (n + 2) false then ((keepTo ns R n).1.set (n + 2) (2 + (keepTo ns R n).2.length), (keepTo ns R n).2 ++ [(ns[n].1, (keepTo ns R n).1.getD ns[n].2.1 0, (keepTo ns R n).1.getD ns[n].2.2 0)]) else keepTo ns R n := by
        rw [← nodeAt n hnn]; rfl
      by_cases hb : R.getD (n + 2) false = true
      · rw [hdef, if_pos hb]
        generalize keepTo ns R n = ST at *
        obtain ⟨mv, ks⟩ := ST
        simp only at *
        have gs : ∀ j, (mv.set (n + 2) (2 + ks.length)).getD j 0 = if n + 2 = j then 2 + ks.length else mv.getD j 0 := fun j => getSet mv _ _ j (by omega)
        refine ⟨by rw [gs, if_neg (by omega)]; exact i0, by rw [gs, if_neg (by omega)]; exact i1, ?_, ?_, ?_⟩
        · intro k hk hkn hm
          have hwk := hw k hk
          rw [gs ns[k].2.1, gs ns[k].2.2, gs (k + 2), if_neg (show ¬ n + 2 = ns[k].2.1 by omega), if_neg (show ¬ n + 2 = ns[k].2.2 by omega)]
          by_cases e : k = n
          · subst e
            exact ⟨ks.length, by simp, by rw [if_pos rfl]; omega, by simp⟩
          · obtain ⟨j, hj, ej, hnd⟩ := i2 k hk (by omega) hm
            exact ⟨j, by simp; omega, by rw [if_neg (by omega)]; exact ej, by rw [List.getElem_append_left hj]; exact hnd⟩
        · intro j hj
          by_cases e : j < ks.length
          · obtain ⟨k, hk, hm, ek⟩ := i3 j e
            exact ⟨k, by omega, hm, by rw [gs, if_neg (by omega)]; exact ek⟩
          · exact ⟨n, by omega, hb, by rw [gs, if_pos rfl]; simp at hj; omega⟩
        · intro k k' hlt hk' hm hm'
          rw [gs, gs, if_neg (by omega)]
          by_cases e : n + 2 = k' + 2
          · rw [if_pos e]
            obtain ⟨j, hj, ej, _⟩ := i2 k (by omega) (by omega) hm
            omega
          · rw [if_neg e]; exact i4 k k' hlt (by omega) hm hm'
      · rw [hdef, if_neg hb]
        refine ⟨i0, i1, ?_, ?_, ?_⟩
        · intro k hk hkn hm
          by_cases e : k = n
          · subst e; exact absurd hm hb
          · exact i2 k hk (by omega) hm
        · intro j hj
          obtain ⟨k, hk, h⟩ := i3 j hj
          exact ⟨k, by omega, h⟩
        · intro k k' hlt hk' hm hm'
          by_cases e : k' = n
          · subst e; exact absurd hm' hb
          · exact i4 k k' hlt (by omega) hm hm'
  obtain ⟨i0, i1, i2, i3, i4⟩ := key ns.length (Nat.le_refl _)
  exact ⟨i0, i1, fun k hk hm => i2 k hk hk hm, i3, i4, hcl⟩

/-- The nodes, the links. -/
def kept (ns : List Nd) (ls : List Nat) : List Nd := (keepTo ns (reached ns ls) ns.length).2
def moved (ns : List Nd) (ls : List Nat) (l : Nat) : Nat := (keepTo ns (reached ns ls) ns.length).1.getD l 0

theorem kept_emb {ns : List Nd} (hw : Wf ns) (ls : List Nat) (hls : ∀ l ∈ ls, l < ns.length + 2) : Emb ns (kept ns ls) (fun l => (reached ns ls).getD l false = true) (moved ns ls) := by
  apply keepTo_emb ns _ hw
  intro k hk hm
  have hwk := hw k hk
  have hr := (reached_iff hw ls hls _ (by omega)).1 hm
  exact ⟨.inr ((reached_iff hw ls hls _ (by omega)).2 fun S a b => (b k hk (hr S a b)).1), .inr ((reached_iff hw ls hls _ (by omega)).2 fun S a b => (b k hk (hr S a b)).2)⟩
theorem kept_mk {ns : List Nd} (hw : Wf ns) (ls : List Nat) (hls : ∀ l ∈ ls, l < ns.length + 2) {l : Nat} (hl : l < ns.length + 2) (h : Reach ns ls l) : (reached ns ls).getD l false = true := (reached_iff hw ls hls l hl).2 h
theorem reach_lt {ns : List Nd} (hw : Wf ns) (ls : List Nat) (hls : ∀ l ∈ ls, l < ns.length + 2) {l : Nat} (h : Reach ns ls l) : l < ns.length + 2 :=
  h (fun l => l < ns.length + 2) hls fun k hk _ => by have := hw k hk; omega
/-- No node is kept in vain. -/
theorem kept_full {ns : List Nd} (hw : Wf ns) (ls : List Nat) (hls : ∀ l ∈ ls, l < ns.length + 2) (j : Nat) (hj : j < (kept ns ls).length) : Reach (kept ns ls) (ls.map (moved ns ls)) (j + 2) := by
  have e := kept_emb hw ls hls
  obtain ⟨k, hk, hm, ek⟩ := e.onto j hj
  have := e.reach (fun l h => .inr (kept_mk hw ls hls (reach_lt hw ls hls h) h)) ((reached_iff hw ls hls _ (by omega)).1 hm)
  rw [ek] at this
  exact this
end Cho
