/-
  Own work: stores of a few live functions, each known (plain mathematics over the store as it lies).
-/
import Derived.Test.YthoodkbdpnffdabDoorMoveM
import Derived.Test.YthoodkbdpnffdabDoorPlainP
namespace Go.Proofs.YthoodkbdpnffdabDoor
open Cho (U64 Tab full col Nd Red)

theorem sub_len : ∀ (l qs : List Nat), l.Nodup → (∀ a ∈ l, a ∈ qs) → l.length ≤ qs.length := by
  intro l
  induction l with
  | nil => intro qs _ _; simp
  | cons a l ih =>
    intro qs hn hs
    rw [List.nodup_cons] at hn
    have ha := hs a (by simp)
    have := ih (qs.erase a) hn.2 (fun b hb => (List.mem_erase_of_ne (by rintro rfl; exact hn.1 hb)).2 (hs b (by simp [hb])))
    rw [List.length_erase_of_mem ha] at this
    have := List.length_pos_of_mem ha
    simp only [List.length_cons]
    omega
/-- The live handles, each with its table. -/
structure Gw (n : Nat) (st : St) (qs : List (Nat × Nat)) : Prop where
  n' : st.n = n
  room : st.room = 4000
  inv : Inv st
  cl : Clean st
  live : ∀ a, st.live a ↔ a ∈ qs.map (·.1)
  tab : ∀ p ∈ qs, st.tab p.1 = p.2
/-- .. and the order is the first one. -/
structure Fw (n : Nat) (st : St) (qs : List (Nat × Nat)) : Prop extends Gw n st qs where
  ord : st.ord = List.range n
theorem fw_empty (n : Nat) (h1 : 1 ≤ n) (h6 : n ≤ 6) : Fw n (St.empty n 4000) [] := by
  refine ⟨⟨rfl, rfl, inv_empty n 4000 h1 h6, clean_empty n 4000, fun a => ?_, by simp⟩, rfl⟩
  constructor
  · intro hl
    obtain ⟨e1, e0⟩ := slot_lt hl
    have hm : a ∈ (St.empty n 4000).hs := by
      apply List.idxOf_lt_length_iff.1
      rw [← e1, (inv_empty n 4000 h1 h6).hs30]; exact hl
    simp [St.empty] at hm
    exact absurd hm e0
  · intro h; simp at h
section
variable {n : Nat} {st : St} {qs : List (Nat × Nat)}
theorem Gw.free (h : Gw n st qs) (hq : qs.length < 30) : st.free < 30 := by
  apply Classical.byContradiction
  intro hf
  have h0 : 0 ∉ st.hs := by
    intro hm
    have := List.idxOf_lt_length_iff.2 hm
    rw [h.inv.hs30] at this
    exact hf this
  have hne : ∀ i (hi : i < st.hs.length), st.hs[i] ≠ 0 := fun i hi e => h0 (by rw [← e]; exact List.getElem_mem hi)
  have hnd : st.hs.Nodup := by
    rw [List.nodup_iff_pairwise_ne, List.pairwise_iff_getElem]
    intro i j hi hj hij e
    have := h.cl.nd i j hi hj e (hne i hi)
    omega
  have := sub_len st.hs (qs.map (·.1)) hnd (fun a ha => by
    rw [← h.live a]
    have a0 : a ≠ 0 := by rintro rfl; exact h0 ha
    unfold St.live St.slot
    rw [if_neg a0, ← h.inv.hs30]
    exact List.idxOf_lt_length_iff.2 ha)
  rw [h.inv.hs30] at this
  simp at this
  omega
theorem Gw.few (h : Gw n st qs) : st.ns.length ≤ 128 * qs.length := by
  have hn := nodes_live h.inv h.cl (qs.map (·.1)) (fun a ha => (h.live a).2 ha) (fun a ha => (h.live a).1 ha)
  rw [← hn]
  have := Cho.outTo_len st.n ((qs.map (·.1)).map st.tab) st.ord (st.n + 1)
  unfold Cho.nodesT
  have h6 := h.inv.n6
  have hp : 2 ^ (st.n + 1) ≤ 2 ^ 7 := Nat.pow_le_pow_right (by decide) (by omega)
  have hm := Nat.mul_le_mul_left ((qs.map (·.1)).map st.tab).length hp
  simp only [List.length_map] at *
  omega
theorem Gw.fits (h : Gw n st qs) (hq : qs.length ≤ 10) {t : Nat} (ht : Tab n t) : (st.added t).ns.length ≤ st.room := by
  have hf := h.free (by omega)
  have hn := h.n'
  subst hn
  have := (added h.inv ht hf).len
  have := h.few
  rw [h.room]; omega
theorem Gw.added (h : Gw n st qs) (hq : qs.length ≤ 10) {t : Nat} (ht : Tab n t) : Gw n (st.added t) (qs ++ [(st.given + 1, t)]) := by
  have hf := h.free (by omega)
  have hn := h.n'
  subst hn
  have ha := Go.Proofs.YthoodkbdpnffdabDoor.added h.inv ht hf
  refine ⟨rfl, h.room, ha.inv, clean_added h.inv h.cl t hf, fun a => ?_, fun p hp => ?_⟩
  · rw [List.map_append, List.mem_append, ← h.live a]
    constructor
    · intro hl
      rcases hs_added h.inv hl with h' | h'
      · exact .inl h'
      · exact .inr (by simp [h'])
    · rintro (hl | hm)
      · exact (ha.old a hl).1
      · simp at hm; subst hm; exact ha.new
  · rcases List.mem_append.1 hp with hm | hm
    · rw [← h.tab p hm]
      exact (ha.old p.1 ((h.live p.1).2 (List.mem_map_of_mem hm))).2.2
    · simp at hm; subst hm; exact ha.tab
theorem Gw.freed (h : Gw n st qs) {a : Nat} (ha : a ∈ qs.map (·.1)) : Gw n (st.released a) (qs.filter (fun p => p.1 != a)) := by
  have hl := (h.live a).2 ha
  have hf := Go.Proofs.YthoodkbdpnffdabDoor.freed h.inv h.cl hl
  refine ⟨h.n', h.room, hf.inv, hf.cl, fun b => ?_, fun p hp => ?_⟩
  · constructor
    · intro hb
      obtain ⟨h1, h2⟩ := hf.only b hb
      obtain ⟨p, hp, rfl⟩ := List.mem_map.1 ((h.live b).1 h1)
      exact List.mem_map_of_mem (List.mem_filter.2 ⟨hp, by simpa using h2⟩)
    · intro hb
      obtain ⟨p, hp, rfl⟩ := List.mem_map.1 hb
      obtain ⟨h1, h2⟩ := List.mem_filter.1 hp
      exact (hf.old p.1 (by simpa using h2) ((h.live p.1).2 (List.mem_map_of_mem h1))).1
  · obtain ⟨h1, h2⟩ := List.mem_filter.1 hp
    rw [← h.tab p h1]
    exact (hf.old p.1 (by simpa using h2) ((h.live p.1).2 (List.mem_map_of_mem h1))).2
theorem Fw.added (h : Fw n st qs) (hq : qs.length ≤ 10) {t : Nat} (ht : Tab n t) : Fw n (st.added t) (qs ++ [(st.given + 1, t)]) := ⟨h.toGw.added hq ht, h.ord⟩
theorem Fw.freed (h : Fw n st qs) {a : Nat} (ha : a ∈ qs.map (·.1)) : Fw n (st.released a) (qs.filter (fun p => p.1 != a)) := ⟨h.toGw.freed ha, h.ord⟩
theorem Gw.given (h : Gw n st qs) {a : Nat} (ha : a ∈ qs.map (·.1)) : a ≤ st.given ∧ a ≠ 0 := by
  have hl := (h.live a).2 ha
  obtain ⟨hk, e⟩ := slot_at h.inv hl
  exact ⟨by rw [← e]; exact h.inv.hs _ hk, (slot_lt hl).2⟩
end
/-! One variable more. -/
theorem xor_more {n i : Nat} (hn : n ≤ 6) (hi : i < n) : Cho.joinT 6 (Cho.xorT n (List.range i) false) (col i &&& full n) (full n) = Cho.xorT n (List.range (i + 1)) false := by
  have hx := Cho.xorT_tab n (List.range i) false
  have hc : Tab n (col i &&& full n) := by rw [← Cho.bld_var hn hi]; exact Cho.bld_tab _ _
  have hp : (List.range (i + 1)).Perm (i :: List.range i) := by rw [List.range_succ]; exact List.perm_append_comm
  rw [Cho.xorT_perm hp]
  apply Cho.Tab.ext (Cho.joinT_tab 6 _ _ _ hx hc) (Cho.xorT_tab n _ false)
  intro p hpl
  rw [← Cho.bld_join 6 hx hc hn, Cho.bld_testBit, Cho.xorT_bit _ _ hpl, Cho.xorT_bit _ _ hpl, ← Cho.bld_var hn hi, Cho.bld_testBit]
  simp only [hpl, decide_true, Bool.true_and, Cho.xorF]
  cases Cho.xorF (List.range i) p <;> cases p.testBit i <;> rfl
theorem all_more {n i : Nat} (hn : n ≤ 6) (hi : i < n) : Cho.joinT 8 (Cho.allT n (List.range i)) (col i &&& full n) (full n) = Cho.allT n (List.range (i + 1)) := by
  have hx := Cho.allT_tab n (List.range i)
  have hc : Tab n (col i &&& full n) := by rw [← Cho.bld_var hn hi]; exact Cho.bld_tab _ _
  have hp : (List.range (i + 1)).Perm (i :: List.range i) := by rw [List.range_succ]; exact List.perm_append_comm
  rw [Cho.allT_perm hp]
  apply Cho.Tab.ext (Cho.joinT_tab 8 _ _ _ hx hc) (Cho.allT_tab n _)
  intro p hpl
  rw [← Cho.bld_join 8 hx hc hn, Cho.bld_testBit, Cho.allT_bit _ hpl, Cho.allT_bit _ hpl, ← Cho.bld_var hn hi, Cho.bld_testBit]
  simp only [hpl, decide_true, Bool.true_and, Cho.allF]
  cases Cho.allF (List.range i) p <;> cases p.testBit i <;> rfl
theorem xor_one {n : Nat} (hn : n ≤ 6) (h1 : 1 ≤ n) : col 0 &&& full n = Cho.xorT n (List.range 1) false := by
  rw [← Cho.bld_var hn h1]
  apply Cho.Tab.ext (Cho.bld_tab _ n) (Cho.xorT_tab n _ false)
  intro p hp
  rw [Cho.bld_testBit, Cho.xorT_bit _ _ hp]
  simp [hp, Cho.xorF, List.range_succ]
theorem all_one {n : Nat} (hn : n ≤ 6) (h1 : 1 ≤ n) : col 0 &&& full n = Cho.allT n (List.range 1) := by
  rw [← Cho.bld_var hn h1]
  apply Cho.Tab.ext (Cho.bld_tab _ n) (Cho.allT_tab n _)
  intro p hp
  rw [Cho.bld_testBit, Cho.allT_bit _ hp]
  simp [hp, Cho.allF, List.range_succ]
/-- How many nodes they have, by whatever order. -/
theorem odd_size {st : St} (hi : Inv st) {a : Nat} (ha : st.live a) (ht : st.tab a = Cho.xorT st.n (List.range st.n) false) : st.size a = 2 * st.n - 1 := by
  have o : Cho.Ord st.n st.ord := ⟨hi.n1, hi.n6, hi.len, fun v hv => (hi.mem v).1 hv, hi.nd⟩
  have hp : (List.range st.n).Perm st.ord := by
    rw [List.perm_ext_iff_of_nodup List.nodup_range hi.nd]
    intro v
    rw [hi.mem]; simp
  rw [← nodes_one hi ha, ht, Cho.xorT_perm hp]
  exact o.odd
theorem all_size {st : St} (hi : Inv st) {a : Nat} (ha : st.live a) (ht : st.tab a = Cho.allT st.n (List.range st.n)) : st.size a = st.n := by
  have o : Cho.Ord st.n st.ord := ⟨hi.n1, hi.n6, hi.len, fun v hv => (hi.mem v).1 hv, hi.nd⟩
  have hp : (List.range st.n).Perm st.ord := by
    rw [List.perm_ext_iff_of_nodup List.nodup_range hi.nd]
    intro v
    rw [hi.mem]; simp
  rw [← nodes_one hi ha, ht, Cho.allT_perm hp]
  exact o.every
end Go.Proofs.YthoodkbdpnffdabDoor
