/-
  Own work: diagrams that are ordered and reduced: equal functions have equal links; building keeps that and says the table (plain mathematics).
-/
import Derived.Test.YthoodkbdpnffdaaDoorPlainE
namespace Cho

/-- The level of a link: that of its node's variable; below all levels for no and yes. -/
def top (ord : List Nat) (ns : List Nd) (l : Nat) : Nat := if l < 2 then ord.length else
  match ns[l - 2]? with
  | none => ord.length
  | some n => ord.idxOf n.1

/-- Ordered, reduced, no node twice. -/
structure Red (ord : List Nat) (ns : List Nd) : Prop where
  wf : Wf ns
  nodup : ns.Nodup
  diff : ∀ k (hk : k < ns.length), ns[k].2.1 ≠ ns[k].2.2
  var : ∀ n ∈ ns, n.1 ∈ ord
  low : ∀ k (hk : k < ns.length), ord.idxOf ns[k].1 < top ord ns ns[k].2.1 ∧ ord.idxOf ns[k].1 < top ord ns ns[k].2.2

theorem top_small (ord : List Nat) (ns : List Nd) {l : Nat} (h : l < 2) : top ord ns l = ord.length := if_pos h
theorem top_node (ord : List Nat) (ns : List Nd) {k : Nat} (hk : k < ns.length) : top ord ns (k + 2) = ord.idxOf ns[k].1 := by
  unfold top; rw [if_neg (by omega), show k + 2 - 2 = k from by omega, List.getElem?_eq_getElem hk]
theorem top_append (ord : List Nat) (ns ms : List Nd) {l : Nat} (h : l < ns.length + 2) : top ord (ns ++ ms) l = top ord ns l := by
  unfold top
  split
  · rfl
  · rw [List.getElem?_append_left (by omega)]

theorem Red.nil (ord : List Nat) : Red ord [] := ⟨fun _ h => absurd h (by simp), List.nodup_nil, fun _ h => absurd h (by simp), by simp, fun _ h => absurd h (by simp)⟩

/-- A function hangs on no variable of a level above its link's. -/
theorem ev_indep {ord : List Nat} {ns : List Nd} (h : Red ord ns) (p v : Nat) (b : Bool) : ∀ l, l < ns.length + 2 → ord.idxOf v < top ord ns l → v ∈ ord → ev ns l (put p v b) = ev ns l p := by
  intro l
  induction l using Nat.strongRecOn with
  | ind l ih =>
    intro hl ht hv
    by_cases h2 : l < 2
    · rw [ev_small _ _ _ h2, ev_small _ _ _ h2]
    · obtain ⟨k, rfl⟩ : ∃ k, l = k + 2 := ⟨l - 2, by omega⟩
      have hk : k < ns.length := by omega
      rw [top_node ord ns hk] at ht
      have hw := h.wf k hk
      have hlow := h.low k hk
      have hne : ns[k].1 ≠ v := by intro e; rw [e] at ht; omega
      rw [ev_node h.wf _ hk, ev_node h.wf _ hk, put_testBit, if_neg hne]
      rw [ih _ (by omega) (by omega) (by omega) hv, ih _ (by omega) (by omega) (by omega) hv]

/-- EQUAL FUNCTIONS HAVE EQUAL LINKS. -/
theorem canon {ord : List Nat} {ns : List Nd} (h : Red ord ns) : ∀ m l l', l ≤ m → l' ≤ m → l < ns.length + 2 → l' < ns.length + 2 → (∀ p, ev ns l p = ev ns l' p) → l = l' := by
  intro m
  induction m with
  | zero => intro l l' hm hm' _ _ _; omega
  | succ m ih =>
    intro l l' hm hm' hl hl' he
    -- a node that lies above differs from all that lies below
    have key : ∀ k l' (hk : k < ns.length), l' < ns.length + 2 → k + 2 ≤ m + 1 → (∀ p, ev ns (k + 2) p = ev ns l' p) → ord.idxOf ns[k].1 < top ord ns l' → False := by
      intro k l' hk hl' hm he ht
      have hw := h.wf k hk
      have hlow := h.low k hk
      have hv := h.var ns[k] (List.getElem_mem hk)
      have hd := h.diff k hk
      apply hd
      apply ih _ _ (by omega) (by omega) (by omega) (by omega)
      intro p
      have e0 := he (put p ns[k].1 false)
      have e1 := he (put p ns[k].1 true)
      rw [ev_indep h p _ _ l' hl' ht hv, ev_node h.wf _ hk, put_testBit, if_pos rfl] at e0
      rw [ev_indep h p _ _ l' hl' ht hv, ev_node h.wf _ hk, put_testBit, if_pos rfl] at e1
      simp only [Bool.false_eq_true, if_false] at e0
      simp only [if_true] at e1
      rw [ev_indep h p _ _ _ (by omega) hlow.1 hv] at e0
      rw [ev_indep h p _ _ _ (by omega) hlow.2 hv] at e1
      rw [e0, e1]
    by_cases h2 : l < 2
    · by_cases h2' : l' < 2
      · have := he 0
        rw [ev_small _ _ _ h2, ev_small _ _ _ h2'] at this
        match l, l', h2, h2' with
        | 0, 0, _, _ => rfl
        | 1, 1, _, _ => rfl
        | 0, 1, _, _ => simp at this
        | 1, 0, _, _ => simp at this
      · obtain ⟨k, rfl⟩ : ∃ k, l' = k + 2 := ⟨l' - 2, by omega⟩
        have hk : k < ns.length := by omega
        exact (key k l hk hl (by omega) (fun p => (he p).symm) (by rw [top_small _ _ h2]; exact List.idxOf_lt_length_of_mem (h.var _ (List.getElem_mem hk)))).elim
    · obtain ⟨k, rfl⟩ : ∃ k, l = k + 2 := ⟨l - 2, by omega⟩
      have hk : k < ns.length := by omega
      by_cases h2' : l' < 2
      · exact (key k l' hk hl' (by omega) he (by rw [top_small _ _ h2']; exact List.idxOf_lt_length_of_mem (h.var _ (List.getElem_mem hk)))).elim
      · obtain ⟨k', rfl⟩ : ∃ k, l' = k + 2 := ⟨l' - 2, by omega⟩
        have hk' : k' < ns.length := by omega
        by_cases c1 : ord.idxOf ns[k].1 < ord.idxOf ns[k'].1
        · exact (key k (k' + 2) hk hl' (by omega) he (by rw [top_node _ _ hk']; exact c1)).elim
        · by_cases c2 : ord.idxOf ns[k'].1 < ord.idxOf ns[k].1
          · exact (key k' (k + 2) hk' hl (by omega) (fun p => (he p).symm) (by rw [top_node _ _ hk]; exact c2)).elim
          · have hv := h.var ns[k] (List.getElem_mem hk)
            have hv' := h.var ns[k'] (List.getElem_mem hk')
            have ei : ord.idxOf ns[k].1 = ord.idxOf ns[k'].1 := by omega
            have ev1 : ns[k].1 = ns[k'].1 := by
              have a := List.getElem_idxOf (List.idxOf_lt_length_of_mem hv)
              have b := List.getElem_idxOf (List.idxOf_lt_length_of_mem hv')
              rw [← a, ← b]; simp only [ei]
            have hw := h.wf k hk
            have hw' := h.wf k' hk'
            have hlow := h.low k hk
            have hlow' := h.low k' hk'
            have part : ∀ (b : Bool) (p : Nat), (if b then ev ns ns[k].2.2 p else ev ns ns[k].2.1 p) = (if b then ev ns ns[k'].2.2 p else ev ns ns[k'].2.1 p) := by
              intro b p
              have e := he (put p ns[k].1 b)
              rw [ev_node h.wf _ hk, ev_node h.wf _ hk', ← ev1, put_testBit, if_pos rfl] at e
              rw [ev_indep h p _ _ _ (by omega) hlow.1 hv, ev_indep h p _ _ _ (by omega) hlow.2 hv] at e
              rw [ev_indep h p _ _ ns[k'].2.1 (by omega) (by rw [ev1]; exact hlow'.1) hv, ev_indep h p _ _ ns[k'].2.2 (by omega) (by rw [ev1]; exact hlow'.2) hv] at e
              exact e
            have eno : ns[k].2.1 = ns[k'].2.1 := ih _ _ (by omega) (by omega) (by omega) (by omega) fun p => by simpa using part false p
            have eyes : ns[k].2.2 = ns[k'].2.2 := ih _ _ (by omega) (by omega) (by omega) (by omega) fun p => by simpa using part true p
            have en : ns[k] = ns[k'] := Prod.ext ev1 (Prod.ext eno eyes)
            have := (List.getElem_inj h.nodup).1 en
            omega
end Cho
