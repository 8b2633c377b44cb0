/-
  Own work: no node is there in vain: stores whose nodes are all called for (plain mathematics over the store as it lies).
-/
import Derived.Test.YthoodkbdpnffdaaDoorInv
import Derived.Test.YthoodkbdpnffdaaDoorPlainK
namespace Go.Proofs.YthoodkbdpnffdaaDoor
open Cho (U64 Tab full col Nd Red)

structure Clean (st : St) : Prop where
  full : ∀ k, k < st.ns.length → Cho.Reach st.ns st.rs (k + 2)
  zero : ∀ i (h : i < st.hs.length) (h' : i < st.rs.length), st.hs[i] = 0 → st.rs[i] = 0
  nd : ∀ i j (hi : i < st.hs.length) (hj : j < st.hs.length), st.hs[i] = st.hs[j] → st.hs[i] ≠ 0 → i = j

theorem clean_empty (n room : Nat) : Clean (St.empty n room) := by
  refine ⟨fun k h => absurd h (by simp [St.empty]), fun i h h' _ => List.getElem_replicate (n := 30) (a := 0) (by simpa [St.empty] using h'), fun i j hi hj _ h => absurd (List.getElem_replicate (n := 30) (a := 0) (by simpa [St.empty] using hi)) h⟩

theorem clean_added {st : St} (hi : Inv st) (h : Clean st) (t : Nat) (hf : st.free < 30) : Clean (st.added t) := by
  have hfl : st.free < st.hs.length := by rw [hi.hs30]; exact hf
  have hfr : st.free < st.rs.length := by rw [hi.rs30]; exact hf
  have hf0 : st.hs[st.free] = 0 := List.getElem_idxOf hfl
  have hr0 : st.rs[st.free] = 0 := h.zero _ hfl hfr hf0
  obtain ⟨ms, hms, hnew⟩ := Cho.build_full st.ord t st.ns
  have hns : (st.added t).ns = st.ns ++ ms := hms
  have hrs : (st.added t).rs = st.rs.set st.free (Cho.build st.ord t st.ns).2 := rfl
  have hmem : (Cho.build st.ord t st.ns).2 ∈ (st.added t).rs := by
    rw [hrs]; exact List.mem_set hfr _
  refine ⟨?_, ?_, ?_⟩
  · intro k hk
    rw [hns] at hk ⊢
    by_cases hlt : k < st.ns.length
    · refine Cho.reach_big (Cho.reach_append (h.full k hlt)) (by omega) ?_
      intro m hm
      obtain ⟨i, hil, rfl⟩ := List.getElem_of_mem hm
      by_cases e : i = st.free
      · subst e; left; omega
      · right
        rw [hrs]
        have : (st.rs.set st.free (Cho.build st.ord t st.ns).2)[i]'(by simpa using hil) = st.rs[i] := List.getElem_set_ne (Ne.symm e) _
        rw [← this]; exact List.getElem_mem _
    · exact Cho.reach_trans (hnew k (by omega) hk) fun m hm => Cho.reach_self _ (by simp at hm; subst hm; exact hmem)
  · intro i h1 h2 h0
    simp only [St.added] at h1 h2 h0 ⊢
    by_cases e : i = st.free
    · subst e; rw [List.getElem_set_self] at h0; omega
    · rw [List.getElem_set_ne (Ne.symm e)] at h0 ⊢
      exact h.zero i (by simpa using h1) (by simpa using h2) h0
  · intro i j h1 h2 he hne
    simp only [St.added] at h1 h2 he hne
    have b1 : i < st.hs.length := by simpa using h1
    have b2 : j < st.hs.length := by simpa using h2
    rw [List.getElem_set] at he hne
    rw [List.getElem_set] at he
    have g1 := hi.hs i b1
    have g2 := hi.hs j b2
    by_cases e1 : st.free = i
    · by_cases e2 : st.free = j
      · omega
      · rw [if_pos e1, if_neg e2] at he; omega
    · by_cases e2 : st.free = j
      · rw [if_neg e1, if_pos e2] at he; omega
      · rw [if_neg e1, if_neg e2] at he
        rw [if_neg e1] at hne
        exact h.nd i j b1 b2 he hne
end Go.Proofs.YthoodkbdpnffdaaDoor
