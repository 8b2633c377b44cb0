/-
  Own work: every node that is built is a node of the function; how many nodes a function has (plain mathematics).
-/
import Derived.Test.YthoodkbdpnffdabDoorPlainJ
namespace Cho

theorem reach_self (ns : List Nd) {ls : List Nat} {l : Nat} (h : l ∈ ls) : Reach ns ls l := fun _ a _ => a l h
theorem reach_append {ns ms : List Nd} {ls : List Nat} {l : Nat} (h : Reach ns ls l) : Reach (ns ++ ms) ls l := fun S a b =>
  h S a fun k hk hs => by
    have := b k (by simp; omega) hs
    rw [List.getElem_append_left hk] at this
    exact this
theorem reach_trans {ns : List Nd} {ls ls' : List Nat} {l : Nat} (h : Reach ns ls l) (h' : ∀ m ∈ ls, Reach ns ls' m) : Reach ns ls' l := fun S a b =>
  h S (fun m hm => h' m hm S a b) b
theorem reach_kid {ns : List Nd} {ls : List Nat} {k : Nat} (hk : k < ns.length) (h : Reach ns ls (k + 2)) : Reach ns ls ns[k].2.1 ∧ Reach ns ls ns[k].2.2 :=
  ⟨fun S a b => (b k hk (h S a b)).1, fun S a b => (b k hk (h S a b)).2⟩
theorem reach_one {ns : List Nd} {ls : List Nat} {l : Nat} (h : Reach ns ls l) : ∃ r ∈ ls, Reach ns [r] l :=
  h (fun l => ∃ r ∈ ls, Reach ns [r] l) (fun l hl => ⟨l, hl, reach_self ns (by simp)⟩) fun k hk ⟨r, hr, hk2⟩ => ⟨⟨r, hr, (reach_kid hk hk2).1⟩, ⟨r, hr, (reach_kid hk hk2).2⟩⟩
/-- No and yes lead to no node. -/
theorem reach_big {ns : List Nd} {ls ls' : List Nat} {l : Nat} (h : Reach ns ls l) (hl : 2 ≤ l) (h' : ∀ m ∈ ls, m < 2 ∨ m ∈ ls') : Reach ns ls' l := by
  have := h (fun l => l < 2 ∨ Reach ns ls' l) (fun m hm => (h' m hm).imp id (fun h => reach_self ns h)) fun k hk hk2 => by
    have := reach_kid hk (hk2.resolve_left (by omega))
    exact ⟨.inr this.1, .inr this.2⟩
  exact this.resolve_left (by omega)

/-- Every node that is added is one of the function's. -/
theorem build_full (vs : List Nat) : ∀ (t : Nat) (ns : List Nd), ∃ ms, (build vs t ns).1 = ns ++ ms ∧ ∀ k, ns.length ≤ k → k < (ns ++ ms).length → Reach (ns ++ ms) [(build vs t ns).2] (k + 2) := by
  induction vs with
  | nil => intro t ns; exact ⟨[], by simp [build], fun k h1 h2 => absurd h2 (by simp; omega)⟩
  | cons v vs ih =>
    intro t ns
    obtain ⟨m1, e1, h1⟩ := ih (fix t v false) ns
    obtain ⟨m2, e2, h2⟩ := ih (fix t v true) (build vs (fix t v false) ns).1
    simp only [build]
    generalize build vs (fix t v false) ns = r1 at *
    generalize build vs (fix t v true) r1.1 = r2 at *
    obtain ⟨n1, l1⟩ := r1
    obtain ⟨n2, l2⟩ := r2
    simp only at *
    subst e1 e2
    -- every node beyond ns is reached from one of the two links
    have both : ∀ k, ns.length ≤ k → k < (ns ++ m1 ++ m2).length → Reach (ns ++ m1 ++ m2) [l1, l2] (k + 2) := by
      intro k hk1 hk2
      by_cases h : k < (ns ++ m1).length
      · exact reach_trans (reach_append (h1 k hk1 h)) fun m hm => reach_self _ (by simp at hm; simp [hm])
      · exact reach_trans (h2 k (by omega) hk2) fun m hm => reach_self _ (by simp at hm; simp [hm])
    by_cases e : l1 = l2
    · subst e
      have ej : join (ns ++ m1 ++ m2) (v, l1, l1) = (ns ++ m1 ++ m2, l1) := by simp [join]
      rw [ej]
      refine ⟨m1 ++ m2, by simp, fun k a b => ?_⟩
      rw [← List.append_assoc] at b ⊢
      exact reach_trans (both k a b) fun m hm => reach_self _ (by simp at hm; simp [hm])
    · by_cases hm : (v, l1, l2) ∈ ns ++ m1 ++ m2
      · have ej : join (ns ++ m1 ++ m2) (v, l1, l2) = (ns ++ m1 ++ m2, (ns ++ m1 ++ m2).idxOf (v, l1, l2) + 2) := by unfold join; rw [if_neg e, if_pos hm]
        have hi := List.idxOf_lt_length_of_mem hm
        have hg : (ns ++ m1 ++ m2)[(ns ++ m1 ++ m2).idxOf (v, l1, l2)] = (v, l1, l2) := List.getElem_idxOf hi
        rw [ej]
        refine ⟨m1 ++ m2, by simp, fun k a b => ?_⟩
        rw [← List.append_assoc] at b ⊢
        simp only
        have kid := reach_kid hi (reach_self (ns ++ m1 ++ m2) (ls := [(ns ++ m1 ++ m2).idxOf (v, l1, l2) + 2]) (by simp))
        rw [hg] at kid
        exact reach_trans (both k a b) fun m hm => by
          simp at hm
          rcases hm with rfl | rfl
          · exact kid.1
          · exact kid.2
      · have ej : join (ns ++ m1 ++ m2) (v, l1, l2) = (ns ++ m1 ++ m2 ++ [(v, l1, l2)], (ns ++ m1 ++ m2).length + 2) := by unfold join; rw [if_neg e, if_neg hm, List.idxOf_eq_length hm]
        rw [ej]
        refine ⟨m1 ++ m2 ++ [(v, l1, l2)], by simp, fun k a b => ?_⟩
        have eass : ns ++ (m1 ++ m2 ++ [(v, l1, l2)]) = ns ++ m1 ++ m2 ++ [(v, l1, l2)] := by simp
        rw [eass] at b ⊢
        simp only
        have kid := reach_kid (ns := ns ++ m1 ++ m2 ++ [(v, l1, l2)]) (k := (ns ++ m1 ++ m2).length) (by simp) (reach_self _ (ls := [(ns ++ m1 ++ m2).length + 2]) (by simp))
        have hg : (ns ++ m1 ++ m2 ++ [(v, l1, l2)])[(ns ++ m1 ++ m2).length]'(by simp) = (v, l1, l2) := by simp
        rw [hg] at kid
        by_cases hk : k < (ns ++ m1 ++ m2).length
        · exact reach_trans (reach_append (both k a hk)) fun m hm => by
            simp at hm
            rcases hm with rfl | rfl
            · exact kid.1
            · exact kid.2
        · have ek : k = (ns ++ m1 ++ m2).length := by simp only [List.length_append, List.length_cons, List.length_nil] at b hk ⊢; omega
          rw [ek]
          exact reach_self _ (by simp)

/-- How many of the first k nodes are marked. -/
def cntM (b : List Bool) : Nat → Nat
  | 0 => 0
  | k + 1 => if b.getD (k + 2) false then cntM b k + 1 else cntM b k
theorem cntM_le (b : List Bool) (k : Nat) : cntM b k ≤ k := by
  induction k with
  | zero => simp [cntM]
  | succ k ih => simp only [cntM]; split <;> omega
theorem cntM_all (b : List Bool) (k : Nat) (h : ∀ i, i < k → b.getD (i + 2) false = true) : cntM b k = k := by
  induction k with
  | zero => simp [cntM]
  | succ k ih => simp only [cntM]; rw [if_pos (h k (by omega)), ih fun i hi => h i (by omega)]
theorem cntM_none (b : List Bool) (k : Nat) (h : ∀ i, i < k → b.getD (i + 2) false = false) : cntM b k = 0 := by
  induction k with
  | zero => simp [cntM]
  | succ k ih => simp only [cntM]; rw [if_neg (by rw [h k (by omega)]; simp), ih fun i hi => h i (by omega)]
theorem cntM_one (b : List Bool) (k r : Nat) (hr : r < k) (h : ∀ i, i < k → (b.getD (i + 2) false = true ↔ i = r)) : cntM b k = 1 := by
  induction k with
  | zero => omega
  | succ k ih =>
    simp only [cntM]
    by_cases e : k = r
    · subst e
      rw [if_pos ((h k (by omega)).2 rfl), cntM_none b k fun i hi => by
        have := h i (by omega)
        cases hb : b.getD (i + 2) false
        · rfl
        · have := this.1 hb; omega]
    · rw [if_neg (fun hb => e ((h k (by omega)).1 hb))]
      exact ih (by omega) fun i hi => h i (by omega)
theorem sum_step (bs : List (List Bool)) (k : Nat) : (bs.map (cntM · k)).sum ≤ (bs.map (cntM · (k + 1))).sum := by
  induction bs with
  | nil => simp
  | cons b bs ih =>
    simp only [List.map_cons, List.sum_cons]
    have : cntM b k ≤ cntM b (k + 1) := by rw [cntM]; split <;> omega
    omega
theorem sum_step1 (bs : List (List Bool)) (k : Nat) (h : ∃ b ∈ bs, b.getD (k + 2) false = true) : (bs.map (cntM · k)).sum + 1 ≤ (bs.map (cntM · (k + 1))).sum := by
  induction bs with
  | nil => simp at h
  | cons b bs ih =>
    have hs := sum_step bs k
    simp only [List.map_cons, List.sum_cons]
    by_cases hb : b.getD (k + 2) false = true
    · have : cntM b (k + 1) = cntM b k + 1 := by rw [cntM, if_pos hb]
      omega
    · have : cntM b (k + 1) = cntM b k := by rw [cntM, if_neg hb]
      have := ih (by
        obtain ⟨c, hc, hm⟩ := h
        rcases List.mem_cons.1 hc with rfl | hc
        · exact absurd hm hb
        · exact ⟨c, hc, hm⟩)
      omega
theorem cover (bs : List (List Bool)) (k : Nat) (h : ∀ i, i < k → ∃ b ∈ bs, b.getD (i + 2) false = true) : k ≤ (bs.map (cntM · k)).sum := by
  induction k with
  | zero => omega
  | succ k ih =>
    have := ih fun i hi => h i (by omega)
    have := sum_step1 bs k (h k (by omega))
    omega

/-- How many nodes the function of a link has. -/
def size (ns : List Nd) (l : Nat) : Nat := cntM (reached ns [l]) ns.length
theorem size_le (ns : List Nd) (l : Nat) : size ns l ≤ ns.length := cntM_le _ _
theorem size_all {ns : List Nd} (hw : Wf ns) (l : Nat) (hl : l < ns.length + 2) (h : ∀ k, k < ns.length → Reach ns [l] (k + 2)) : size ns l = ns.length :=
  cntM_all _ _ fun i hi => (reached_iff hw [l] (by simpa using hl) _ (by omega)).2 (h i hi)
theorem size_sum {ns : List Nd} (hw : Wf ns) (ls : List Nat) (hls : ∀ l ∈ ls, l < ns.length + 2) (h : ∀ k, k < ns.length → Reach ns ls (k + 2)) : ns.length ≤ (ls.map (size ns)).sum := by
  have := cover (ls.map fun l => reached ns [l]) ns.length fun i hi => by
    obtain ⟨r, hr, hk⟩ := reach_one (h i hi)
    exact ⟨_, List.mem_map_of_mem hr, (reached_iff hw [r] (by simpa using hls r hr) _ (by omega)).2 hk⟩
  rw [List.map_map] at this
  exact this
end Cho
