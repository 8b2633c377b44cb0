/-
  Own work: what 'Release' leaves, and how many nodes there are then (plain mathematics over the store as it lies).
-/
import Derived.Test.YthoodkbdpnffdabDoorCleanM
import Derived.Test.YthoodkbdpnffdabDoorSupW
namespace Go.Proofs.YthoodkbdpnffdabDoor
open Cho (U64 Tab full col Nd Red)

structure Freed (st : St) (a : Nat) : Prop where
  inv : Inv (st.released a)
  cl : Clean (st.released a)
  gone : ¬ (st.released a).live a
  old : ∀ b, b ≠ a → st.live b → (st.released a).live b ∧ (st.released a).tab b = st.tab b
  only : ∀ b, (st.released a).live b → st.live b ∧ b ≠ a
  len : (st.released a).ns.length ≤ st.ns.length

theorem slot_at {st : St} {a : Nat} (h : Inv st) (hl : st.live a) : ∃ hk : st.slot a < st.hs.length, st.hs[st.slot a] = a := by
  obtain ⟨e1, e0⟩ := slot_lt hl
  have hk : st.slot a < st.hs.length := by rw [h.hs30]; exact hl
  refine ⟨hk, ?_⟩
  simp only [e1]
  exact List.getElem_idxOf (by rw [← e1]; exact hk)

theorem freed {st : St} (hi : Inv st) (hc : Clean st) {a : Nat} (hl : st.live a) : Freed st a := by
  obtain ⟨ha, hat⟩ := slot_at hi hl
  have ha0 : a ≠ 0 := (slot_lt hl).2
  have hw := hi.red.wf
  have hrs1 : ∀ l ∈ (st.rel1 a).rs, l < st.ns.length + 2 := by
    intro l hm
    rcases List.mem_or_eq_of_mem_set hm with h | h
    · obtain ⟨i, hil, rfl⟩ := List.getElem_of_mem h
      exact hi.rs i hil
    · omega
  have e := Cho.kept_emb hw (st.rel1 a).rs hrs1
  have hmk : ∀ l ∈ (st.rel1 a).rs, l < 2 ∨ (Cho.reached st.ns (st.rel1 a).rs).getD l false = true := fun l hm =>
    .inr (Cho.kept_mk hw _ hrs1 (hrs1 l hm) (Cho.reach_self _ hm))
  have hlen1 : (st.rel1 a).rs.length = 30 := by simp [St.rel1, hi.rs30]
  have hslot : ∀ b, b ≠ a → st.live b → (st.released a).slot b = st.slot b ∧ st.slot b ≠ st.slot a := by
    intro b hb hbl
    obtain ⟨hk, hkb⟩ := slot_at hi hbl
    obtain ⟨e1, e0⟩ := slot_lt hbl
    have hne : st.slot b ≠ st.slot a := by
      intro e2
      have : st.hs[st.slot b] = st.hs[st.slot a] := by simp only [e2]
      rw [hkb, hat] at this; exact hb this
    refine ⟨?_, hne⟩
    have hgen : ∀ k, k = st.slot b → (st.released a).slot b = k := by
      intro k hkk
      unfold St.slot
      rw [if_neg e0]
      have hk' : k < st.hs.length := by rw [hkk]; exact hk
      apply idx_first (k := k) (by simp [St.released, St.rel1]; exact hk')
      · simp only [St.released, St.rel1]
        rw [List.getElem_set_ne (by rw [hkk]; exact Ne.symm hne)]
        simp only [hkk]; exact hkb
      · intro j hj hjk
        simp only [St.released, St.rel1] at hj ⊢
        rw [List.getElem_set]
        split
        · exact Ne.symm e0
        · intro e2
          have := idx_le (by simpa using hj) e2
          rw [← e1] at this
          omega
    exact hgen _ rfl
  have hroot : ∀ b, b ≠ a → st.live b → (st.released a).root b = Cho.moved st.ns (st.rel1 a).rs (st.root b) ∧ st.root b ∈ (st.rel1 a).rs := by
    intro b hb hbl
    obtain ⟨e1, hne⟩ := hslot b hb hbl
    have hk : st.slot b < st.rs.length := by rw [hi.rs30]; exact hbl
    have hk1 : st.slot b < (st.rel1 a).rs.length := by rw [hlen1]; exact hbl
    have hg : (st.rel1 a).rs[st.slot b] = st.rs[st.slot b] := by
      simp only [St.rel1]; exact List.getElem_set_ne (Ne.symm hne) _
    unfold St.root
    rw [e1, getD_at (by simp [St.released]; exact hk1), getD_at hk]
    refine ⟨?_, by rw [← hg]; exact List.getElem_mem _⟩
    simp only [St.released]
    rw [List.getElem_map, hg]
  have hinv : Inv (st.released a) := by
    refine ⟨e.red hi.red, hi.nd, hi.mem, hi.len, hi.n1, hi.n6, by simp [St.released, St.rel1, hi.hs30], by simp [St.released, hlen1], ?_, ?_⟩
    · intro i hil
      simp only [St.released] at hil ⊢
      rw [List.getElem_map]
      exact e.lt (hrs1 _ (List.getElem_mem _)) (hmk _ (List.getElem_mem _))
    · intro i hil
      simp only [St.released, St.rel1] at hil ⊢
      rw [List.getElem_set]
      split
      · omega
      · exact hi.hs i (by simpa using hil)
  have hgone : ¬ (st.released a).live a := by
    intro h
    obtain ⟨hk, hkb⟩ := slot_at hinv h
    have hk' : (st.released a).slot a < st.hs.length := by rw [hi.hs30]; exact h
    simp only [St.released, St.rel1] at hkb
    rw [List.getElem_set] at hkb
    split at hkb
    · exact ha0 hkb.symm
    · rename_i hne
      exact hne (hc.nd _ _ ha hk' (by rw [hat]; exact hkb.symm) (by rw [hat]; exact ha0))
  refine ⟨hinv, ⟨?_, ?_, ?_⟩, hgone, ?_, ?_, ?_⟩
  · exact fun j hj => Cho.kept_full hw (st.rel1 a).rs hrs1 j hj
  · intro i h1 h2 h0
    have b1 : i < st.hs.length := by simpa [St.released, St.rel1] using h1
    have b2 : i < st.rs.length := by simpa [St.released, St.rel1] using h2
    simp only [St.released, St.rel1] at h0 ⊢
    rw [List.getElem_map]
    have hz : (st.rs.set (st.slot a) 0)[i]'(by simpa using b2) = 0 := by
      rw [List.getElem_set]
      split
      · rfl
      · rename_i hne
        rw [List.getElem_set_ne hne] at h0
        exact hc.zero i b1 b2 h0
    rw [hz]
    exact e.f0
  · intro i j h1 h2 he hne
    have b1 : i < st.hs.length := by simpa [St.released, St.rel1] using h1
    have b2 : j < st.hs.length := by simpa [St.released, St.rel1] using h2
    simp only [St.released, St.rel1] at he hne
    rw [List.getElem_set] at he hne
    rw [List.getElem_set] at he
    split at hne
    · exact absurd rfl hne
    · rename_i n1
      rw [if_neg n1] at he
      split at he
      · exact absurd he hne
      · exact hc.nd i j b1 b2 he hne
  · intro b hb hbl
    obtain ⟨e1, hne⟩ := hslot b hb hbl
    obtain ⟨er, hm⟩ := hroot b hb hbl
    refine ⟨by unfold St.live; rw [e1]; exact hbl, ?_⟩
    apply Tab.ext (n := st.n) (tab_tab (st.released a) b) (tab_tab st b)
    intro p hp
    rw [tab_bit (st.released a) b p hp, tab_bit st b p hp, er]
    exact e.ev hw p _ (hrs1 _ hm) (hmk _ hm)
  · intro b hbl
    obtain ⟨hk, hkb⟩ := slot_at hinv hbl
    have hb0 : b ≠ 0 := (slot_lt hbl).2
    have hk' : (st.released a).slot b < st.hs.length := by rw [hi.hs30]; exact hbl
    have hne : b ≠ a := by rintro rfl; exact hgone hbl
    refine ⟨?_, hne⟩
    have hg : st.hs[(st.released a).slot b] = b := by
      simp only [St.released, St.rel1] at hkb
      rw [List.getElem_set] at hkb
      split at hkb
      · exact absurd hkb.symm hb0
      · exact hkb
    have := idx_le hk' hg
    unfold St.live St.slot
    rw [if_neg hb0]
    have h3 := hi.hs30
    omega
  · exact Cho.keepTo_few _ _ _

/-- Each root is that of a live handle, or no. -/
theorem rs_root {st : St} (hi : Inv st) (hc : Clean st) {m : Nat} (hm : m ∈ st.rs) : m < 2 ∨ ∃ a, st.live a ∧ m = st.root a := by
  obtain ⟨i, hir, rfl⟩ := List.getElem_of_mem hm
  have hih : i < st.hs.length := by rw [hi.hs30, ← hi.rs30]; exact hir
  by_cases h0 : st.hs[i] = 0
  · left; rw [hc.zero i hih hir h0]; omega
  · right
    have hle := idx_le hih rfl
    have hlive : st.live st.hs[i] := by
      unfold St.live St.slot
      rw [if_neg h0]
      have := hi.hs30
      omega
    refine ⟨st.hs[i], hlive, ?_⟩
    obtain ⟨hk, hka⟩ := slot_at hi hlive
    have e := hc.nd _ _ hk hih hka (by rw [hka]; exact h0)
    unfold St.root
    rw [getD_at (by rw [hi.rs30, ← hi.hs30]; exact hk)]
    simp only [e]

/-- All nodes are those of the live functions together. -/
theorem used_sum {st : St} (hi : Inv st) (hc : Clean st) (qs : List Nat) (h1 : ∀ a ∈ qs, st.live a) (h2 : ∀ a, st.live a → a ∈ qs) : st.ns.length ≤ (qs.map st.size).sum := by
  have := Cho.size_sum hi.red.wf (qs.map st.root) (fun l hl => by
    obtain ⟨a, ha, rfl⟩ := List.mem_map.1 hl
    exact hi.root_lt (h1 a ha)) (fun k hk => by
      refine Cho.reach_big (hc.full k hk) (by omega) fun m hm => ?_
      rcases rs_root hi hc hm with h | ⟨a, ha, rfl⟩
      · exact .inl h
      · exact .inr (List.mem_map_of_mem (h2 a ha)))
  rw [List.map_map] at this
  exact this
theorem used_one {st : St} (hi : Inv st) (hc : Clean st) {a : Nat} (h1 : st.live a) (h2 : ∀ b, st.live b → b = a) : st.size a = st.ns.length := by
  apply Cho.size_all hi.red.wf _ (hi.root_lt h1)
  intro k hk
  refine Cho.reach_big (hc.full k hk) (by omega) fun m hm => ?_
  rcases rs_root hi hc hm with h | ⟨b, hb, rfl⟩
  · exact .inl h
  · right; rw [h2 b hb]; simp
theorem used_none {st : St} (hi : Inv st) (hc : Clean st) (h2 : ∀ b, ¬ st.live b) : st.ns.length = 0 := by
  apply Classical.byContradiction
  intro h
  have := Cho.reach_big (ls' := []) (hc.full 0 (by omega)) (by omega) fun m hm => by
    rcases rs_root hi hc hm with h | ⟨b, hb, rfl⟩
    · exact .inl h
    · exact absurd hb (h2 b)
  have := this (fun _ => False) (fun _ h => by simp at h) (fun _ _ h => h.elim)
  exact this

/-- A variable has one node. -/
theorem size_var {st : St} (hi : Inv st) {a i : Nat} (ha : st.live a) (hn : i < st.n) (ht : st.tab a = col i &&& full st.n) : st.size a = 1 ∧ 1 ≤ st.ns.length := by
  have hlt := hi.root_lt ha
  have hev : ∀ p, Cho.ev st.ns (st.root a) p = p.testBit i := by
    intro p
    have hp : p % 2 ^ st.n < 2 ^ st.n := Nat.mod_lt _ (Nat.two_pow_pos _)
    have h6 := hi.n6
    have h64 := Cho.two_pow_le _ h6
    rw [ev_mask hi p _ hlt, ← tab_bit st a _ hp, ht, Nat.testBit_and]
    rw [Cho.col_testBit i (by omega) _ (by omega)]
    rw [Cho.full_testBit]
    simp [hp, hn, Nat.testBit_mod_two_pow]
  -- it is a node
  have h2 : 2 ≤ st.root a := by
    apply Classical.byContradiction
    intro h
    have e0 := hev 0
    have e1 := hev (2 ^ i)
    rw [Cho.ev_small _ _ _ (by omega)] at e0 e1
    rw [Nat.testBit_two_pow_self] at e1
    rw [e1] at e0
    simp at e0
  obtain ⟨k, hk⟩ : ∃ k, st.root a = k + 2 := ⟨st.root a - 2, by omega⟩
  rw [hk] at hlt
  have hkl : k < st.ns.length := by omega
  have hin : i ∈ st.ord := (hi.mem i).2 hn
  -- all its nodes ask for the variable
  have hvar : ∀ j (hj : j < st.ns.length), Cho.Reach st.ns [k + 2] (j + 2) → st.ns[j].1 = i := by
    intro j hj hr
    have := (hangs_iff hi.red (k + 2) st.ns[j].1 (by omega)).1 ⟨j, hj, hr, rfl⟩
    apply Classical.byContradiction
    intro hne
    apply this
    intro p b
    rw [← hk, hev, hev, Cho.put_testBit, if_neg (Ne.symm hne)]
  have hself : Cho.Reach st.ns [k + 2] (k + 2) := Cho.reach_self _ (by simp)
  have kid := Cho.reach_kid hkl hself
  have hlow := hi.red.low k hkl
  have hwk := hi.red.wf k hkl
  have hki := hvar k hkl hself
  have small : ∀ l, l < k + 2 → Cho.Reach st.ns [k + 2] l → st.ord.idxOf st.ns[k].1 < Cho.top st.ord st.ns l → l < 2 := by
    intro l hl hr hlo
    apply Classical.byContradiction
    intro hb
    obtain ⟨j, rfl⟩ : ∃ j, l = j + 2 := ⟨l - 2, by omega⟩
    have hj : j < st.ns.length := by omega
    rw [Cho.top_node _ _ hj, hvar j hj hr, hki] at hlo
    omega
  have s1 := small _ hwk.1 kid.1 hlow.1
  have s2 := small _ hwk.2 kid.2 hlow.2
  refine ⟨?_, by omega⟩
  unfold St.size Cho.size
  apply Cho.cntM_one _ _ k hkl
  intro j hj
  rw [hk, Cho.reached_iff hi.red.wf [k + 2] (by simp; omega) _ (by omega)]
  constructor
  · intro hr
    have := hr (fun l => l < 2 ∨ l = k + 2) (fun l hl => .inr (by simpa using hl)) (fun m hm hS => by
      rcases hS with h | h
      · omega
      · obtain rfl : m = k := by omega
        exact ⟨.inl s1, .inl s2⟩)
    omega
  · rintro rfl; exact hself
end Go.Proofs.YthoodkbdpnffdabDoor
