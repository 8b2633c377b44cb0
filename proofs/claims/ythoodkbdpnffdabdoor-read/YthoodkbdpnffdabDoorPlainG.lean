/-
  Own work: building a table's nodes keeps a diagram ordered and reduced, and its link says the table (plain mathematics).
-/
import Derived.Test.YthoodkbdpnffdabDoorPlainF
namespace Cho

/-- What 'join' and 'build' promise: nodes are added behind, the diagram stays reduced, the link is there and at this level or below. -/
structure Grew (ord : List Nat) (ns : List Nd) (lev : Nat) (r : List Nd × Nat) : Prop where
  pre : ∃ ms, r.1 = ns ++ ms
  red : Red ord r.1
  lt : r.2 < r.1.length + 2
  lev : lev ≤ top ord r.1 r.2

theorem join_grew {ord : List Nat} {ns : List Nd} (h : Red ord ns) {v no yes : Nat} (hv : v ∈ ord) (hno : no < ns.length + 2) (hyes : yes < ns.length + 2)
    (ln : ord.idxOf v < top ord ns no) (ly : ord.idxOf v < top ord ns yes) :
    Grew ord ns (ord.idxOf v) (join ns (v, no, yes)) ∧ ∀ p, ev (join ns (v, no, yes)).1 (join ns (v, no, yes)).2 p = if p.testBit v then ev ns yes p else ev ns no p := by
  by_cases e : no = yes
  · subst e
    have ej : join ns (v, no, no) = (ns, no) := by simp [join]
    rw [ej]
    exact ⟨⟨⟨[], by simp⟩, h, hno, by simp only; omega⟩, fun p => by simp⟩
  · by_cases hm : (v, no, yes) ∈ ns
    · have ej : join ns (v, no, yes) = (ns, ns.idxOf (v, no, yes) + 2) := by simp [join, e, hm]
      have hi := List.idxOf_lt_length_of_mem hm
      have hg : ns[ns.idxOf (v, no, yes)] = (v, no, yes) := List.getElem_idxOf hi
      rw [ej]
      refine ⟨⟨⟨[], by simp⟩, h, by simp only; omega, ?_⟩, fun p => ?_⟩
      · simp only; rw [top_node ord ns hi, hg]; exact Nat.le_refl _
      · simp only; rw [ev_node h.wf p hi, hg]
    · have ej : join ns (v, no, yes) = (ns ++ [(v, no, yes)], ns.length + 2) := by simp [join, e, hm, List.idxOf_eq_length hm]
      rw [ej]
      have gl : ∀ k (hk : k < ns.length), (ns ++ [(v, no, yes)])[k]'(by simp; omega) = ns[k] := fun k hk => List.getElem_append_left hk
      have gr : (ns ++ [(v, no, yes)])[ns.length]'(by simp) = (v, no, yes) := by simp
      have wf : Wf (ns ++ [(v, no, yes)]) := by
        intro k hk
        by_cases hkl : k < ns.length
        · rw [gl k hkl]; exact h.wf k hkl
        · obtain rfl : k = ns.length := by simp at hk; omega
          rw [gr]; exact ⟨hno, hyes⟩
      have red : Red ord (ns ++ [(v, no, yes)]) := by
        refine ⟨wf, ?_, ?_, ?_, ?_⟩
        · rw [List.nodup_append]
          exact ⟨h.nodup, by simp, fun a ha b hb => by simp at hb; subst hb; intro e; exact hm (e ▸ ha)⟩
        · intro k hk
          by_cases hkl : k < ns.length
          · rw [gl k hkl]; exact h.diff k hkl
          · obtain rfl : k = ns.length := by simp at hk; omega
            rw [gr]; exact e
        · intro n hn
          rcases List.mem_append.1 hn with hn | hn
          · exact h.var n hn
          · simp at hn; subst hn; exact hv
        · intro k hk
          by_cases hkl : k < ns.length
          · have hw := h.wf k hkl
            rw [gl k hkl, top_append _ _ _ (by omega), top_append _ _ _ (by omega)]; exact h.low k hkl
          · obtain rfl : k = ns.length := by simp at hk; omega
            rw [gr, top_append _ _ _ hno, top_append _ _ _ hyes]; exact ⟨ln, ly⟩
      refine ⟨⟨⟨_, rfl⟩, red, by simp, ?_⟩, fun p => ?_⟩
      · simp only; rw [top_node ord (ns ++ [(v, no, yes)]) (k := ns.length) (by simp), gr]; exact Nat.le_refl _
      · simp only
        rw [ev_node wf p (k := ns.length) (by simp), gr]
        simp only
        rw [ev_append h.wf p no hno, ev_append h.wf p yes hyes]

/-- The place that has p's bits at these variables, and no elsewhere. -/
def mask : List Nat → Nat → Nat
  | [], _ => 0
  | v :: vs, p => put (mask vs p) v (p.testBit v)
theorem mask_testBit (vs : List Nat) (p i : Nat) : (mask vs p).testBit i = (decide (i ∈ vs) && p.testBit i) := by
  induction vs with
  | nil => simp [mask]
  | cons v vs ih =>
    simp only [mask]
    rw [put_testBit, ih]
    by_cases e : i = v
    · subst e; simp
    · simp [e]
theorem mask_lt (vs : List Nat) (p : Nat) (n : Nat) (h : ∀ v ∈ vs, v < n) : mask vs p < 2 ^ n := by
  apply Nat.lt_pow_two_of_testBit
  intro i hi
  rw [mask_testBit]
  have : i ∉ vs := fun hm => by have := h i hm; omega
  simp [this]

theorem build_grew {ord : List Nat} (h6 : ∀ v ∈ ord, v < 6) (nd : ord.Nodup) : ∀ (vs : List Nat) (lev : Nat), ord.drop lev = vs → lev ≤ ord.length → ∀ (t : Nat) (ns : List Nd), U64 t → Red ord ns →
    Grew ord ns lev (build vs t ns) ∧ ∀ p, ev (build vs t ns).1 (build vs t ns).2 p = t.testBit (mask vs p) := by
  intro vs
  induction vs with
  | nil =>
    intro lev _ hle t ns _ h
    simp only [build, mask]
    refine ⟨⟨⟨[], by simp⟩, h, by simp only; split <;> omega, ?_⟩, fun p => ?_⟩
    · simp only
      rw [top_small _ _ (by split <;> omega)]
      exact hle
    · rw [ev_small _ _ _ (by split <;> omega)]
      cases t.testBit 0 <;> rfl
  | cons v vs ih =>
    intro lev hd _ t ns ht h
    have hlt : lev < ord.length := by have := congrArg List.length hd; simp at this; omega
    have hcons := hd.symm.trans (List.drop_eq_getElem_cons hlt)
    have hv : ord[lev] = v := (List.cons.inj hcons).1.symm
    have hd' : ord.drop (lev + 1) = vs := (List.cons.inj hcons).2.symm
    have hvm : v ∈ ord := by rw [← hv]; exact List.getElem_mem hlt
    have hidx : ord.idxOf v = lev := by
      have hi := List.idxOf_lt_length_of_mem hvm
      have hg : ord[ord.idxOf v] = ord[lev] := by rw [List.getElem_idxOf hi, hv]
      exact (List.getElem_inj nd).1 hg
    have hv6 := h6 v hvm
    have hvs : ∀ x ∈ vs, x < 6 := fun x hx => h6 x (by rw [← hd'] at hx; exact List.mem_of_mem_drop hx)
    obtain ⟨g1, e1⟩ := ih (lev + 1) hd' hlt (fix t v false) ns (fix_u64 t v false ht) h
    obtain ⟨g2, e2⟩ := ih (lev + 1) hd' hlt (fix t v true) (build vs (fix t v false) ns).1 (fix_u64 t v true ht) g1.red
    simp only [build]
    generalize build vs (fix t v false) ns = r1 at *
    generalize build vs (fix t v true) r1.1 = r2 at *
    obtain ⟨ms2, hp2⟩ := g2.pre
    have l1 : r1.2 < r2.1.length + 2 := by have := g1.lt; rw [hp2]; simp; omega
    have t1 : top ord r2.1 r1.2 = top ord r1.1 r1.2 := by rw [hp2]; exact top_append _ _ _ g1.lt
    have v1 : ∀ p, ev r2.1 r1.2 p = ev r1.1 r1.2 p := fun p => by rw [hp2]; exact ev_append g1.red.wf p _ g1.lt
    have := g1.lev
    have := g2.lev
    obtain ⟨g3, e3⟩ := join_grew g2.red (v := v) (no := r1.2) (yes := r2.2) hvm l1 g2.lt (by rw [t1]; omega) (by omega)
    refine ⟨⟨?_, g3.red, g3.lt, by have := g3.lev; omega⟩, fun p => ?_⟩
    · obtain ⟨ms1, hp1⟩ := g1.pre
      obtain ⟨ms3, hp3⟩ := g3.pre
      exact ⟨ms1 ++ (ms2 ++ ms3), by rw [hp3, hp2, hp1]; simp⟩
    · rw [e3, v1, e1, e2]
      have hm : mask vs p < 64 := mask_lt vs p 6 hvs
      rw [fix_testBit t v _ _ ht hv6 hm, fix_testBit t v _ _ ht hv6 hm]
      simp only [mask]
      cases p.testBit v <;> rfl
end Cho
