/-
  Own work: what holds of every store that the calls lead to, and what a new function changes (plain mathematics over the store as it lies).
-/
import Derived.Test.YthoodkbdpnffdabDoorNewW
namespace Go.Proofs.YthoodkbdpnffdabDoor
open Cho (U64 Tab full col Nd Red)

theorem idx_le {l : List Nat} {a j : Nat} (hj : j < l.length) (e : l[j] = a) : l.idxOf a ≤ j := by
  induction l generalizing j with
  | nil => simp at hj
  | cons b l ih =>
    rw [List.idxOf_cons]
    cases hb : b == a
    · cases j with
      | zero => simp at e; simp [e] at hb
      | succ j => have := ih (j := j) (by simpa using hj) (by simpa using e); simp; omega
    · simp
def St.root (st : St) (a : Nat) : Nat := st.rs.getD (st.slot a) 0
def St.live (st : St) (a : Nat) : Prop := st.slot a < 30
def St.tab (st : St) (a : Nat) : Nat := tabTo st.ns (st.root a) (2 ^ st.n)

structure Inv (st : St) : Prop where
  red : Red st.ord st.ns
  nd : st.ord.Nodup
  mem : ∀ v, v ∈ st.ord ↔ v < st.n
  len : st.ord.length = st.n
  n1 : 1 ≤ st.n
  n6 : st.n ≤ 6
  hs30 : st.hs.length = 30
  rs30 : st.rs.length = 30
  rs : ∀ i (h : i < st.rs.length), st.rs[i] < st.ns.length + 2
  hs : ∀ i (h : i < st.hs.length), st.hs[i] ≤ st.given

theorem Inv.ord6 {st : St} (h : Inv st) : ∀ v ∈ st.ord, v < 6 := fun v hv => by have := (h.mem v).1 hv; have := h.n6; omega

theorem slot_lt {st : St} {a : Nat} (h : st.live a) : st.slot a = st.hs.idxOf a ∧ a ≠ 0 := by
  unfold St.live St.slot at *
  split at h
  · omega
  · rename_i h0; rw [if_neg h0]; exact ⟨rfl, h0⟩
theorem Inv.root_lt {st : St} (h : Inv st) {a : Nat} (hl : st.live a) : st.root a < st.ns.length + 2 := by
  have hk : st.slot a < st.rs.length := by rw [h.rs30]; exact hl
  unfold St.root
  rw [getD_at hk]
  exact h.rs _ hk

/-- What a link says at a place hangs on the store's variables alone. -/
theorem ev_mask {st : St} (h : Inv st) (p : Nat) : ∀ l, l < st.ns.length + 2 → Cho.ev st.ns l p = Cho.ev st.ns l (p % 2 ^ st.n) := by
  intro l
  induction l using Nat.strongRecOn with
  | ind l ih =>
    intro hl
    by_cases h2 : l < 2
    · rw [Cho.ev_small _ _ _ h2, Cho.ev_small _ _ _ h2]
    · obtain ⟨k, rfl⟩ : ∃ k, l = k + 2 := ⟨l - 2, by omega⟩
      have hk : k < st.ns.length := by omega
      have hw := h.red.wf k hk
      have hv := (h.mem _).1 (h.red.var st.ns[k] (List.getElem_mem hk))
      rw [Cho.ev_node h.red.wf _ hk, Cho.ev_node h.red.wf _ hk, Nat.testBit_mod_two_pow]
      rw [ih _ (by omega) (by omega), ih _ (by omega) (by omega)]
      simp [hv]

theorem tab_bit (st : St) (a p : Nat) (hp : p < 2 ^ st.n) : (st.tab a).testBit p = Cho.ev st.ns (st.root a) p := tabTo_bit _ _ _ _ hp
theorem tab_tab (st : St) (a : Nat) : Tab st.n (st.tab a) := tabTo_lt _ _ _

theorem same_iff {st : St} (h : Inv st) {a b : Nat} (ha : st.live a) (hb : st.live b) : st.root a = st.root b ↔ st.tab a = st.tab b := by
  constructor
  · intro e; unfold St.tab; rw [e]
  · intro e
    apply Cho.canon h.red (st.root a + st.root b) _ _ (by omega) (by omega) (h.root_lt ha) (h.root_lt hb)
    intro p
    have hp : p % 2 ^ st.n < 2 ^ st.n := Nat.mod_lt _ (Nat.two_pow_pos _)
    rw [ev_mask h p _ (h.root_lt ha), ev_mask h p _ (h.root_lt hb), ← tab_bit st a _ hp, ← tab_bit st b _ hp, e]

theorem inv_empty (n room : Nat) (h1 : 1 ≤ n) (h6 : n ≤ 6) : Inv (St.empty n room) := by
  refine ⟨Cho.Red.nil _, List.nodup_range, by simp [St.empty], by simp [St.empty], h1, h6, by simp [St.empty], by simp [St.empty], ?_, ?_⟩
  · intro i hi
    have : (St.empty n room).rs[i] = 0 := List.getElem_replicate (n := 30) (a := 0) (by simpa [St.empty] using hi)
    omega
  · intro i hi
    have : (St.empty n room).hs[i] = 0 := List.getElem_replicate (n := 30) (a := 0) (by simpa [St.empty] using hi)
    omega

theorem mask_ord {st : St} (h : Inv st) (p : Nat) : Cho.mask st.ord p = p % 2 ^ st.n := by
  apply Nat.eq_of_testBit_eq
  intro i
  rw [Cho.mask_testBit, Nat.testBit_mod_two_pow]
  by_cases hi : i < st.n
  · simp [hi, (h.mem i).2 hi]
  · have : i ∉ st.ord := fun hm => hi ((h.mem i).1 hm)
    simp [hi, this]

/-- What 'add' leaves. -/
structure Added (st : St) (t : Nat) : Prop where
  inv : Inv (st.added t)
  new : (st.added t).live (st.given + 1)
  tab : (st.added t).tab (st.given + 1) = t
  old : ∀ a, st.live a → (st.added t).live a ∧ (st.added t).root a = st.root a ∧ (st.added t).tab a = st.tab a
  len : (st.added t).ns.length ≤ st.ns.length + 63
  pre : ∃ ms, (st.added t).ns = st.ns ++ ms

theorem added {st : St} (h : Inv st) {t : Nat} (ht : Tab st.n t) (hf : st.free < 30) : Added st t := by
  have hu : U64 t := ht.u64 h.n6
  obtain ⟨g, e⟩ := Cho.build_grew h.ord6 h.nd st.ord 0 rfl (Nat.zero_le _) t st.ns hu h.red
  have hlen := Cho.build_len st.ord t st.ns
  have hp := Cho.two_pow_le _ (by rw [h.len]; exact h.n6 : st.ord.length ≤ 6)
  obtain ⟨ms, hms⟩ := g.pre
  have hglt := g.lt
  have hfl : st.free < st.hs.length := by rw [h.hs30]; exact hf
  have hf0 : st.hs[st.free] = 0 := List.getElem_idxOf hfl
  have hle : st.ns.length ≤ (Cho.build st.ord t st.ns).1.length := hlen.1
  have hinv : Inv (st.added t) := by
    refine ⟨g.red, h.nd, h.mem, h.len, h.n1, h.n6, by simp [St.added, h.hs30], by simp [St.added, h.rs30], ?_, ?_⟩
    · intro i hi
      simp only [St.added] at hi ⊢
      rw [List.getElem_set]
      split
      · exact hglt
      · have := h.rs i (by simpa using hi); omega
    · intro i hi
      simp only [St.added] at hi ⊢
      rw [List.getElem_set]
      split
      · exact Nat.le_refl _
      · have := h.hs i (by simpa using hi); omega
  have hnew : (st.added t).slot (st.given + 1) = st.free := by
    unfold St.slot
    rw [if_neg (by omega)]
    apply idx_first (k := st.free) (by simp [St.added, hfl])
    · simp [St.added]
    · intro j hj hjk
      simp only [St.added] at hj ⊢
      rw [List.getElem_set_ne (by omega)]
      have := h.hs j (by simpa using hj); omega
  have hold : ∀ a, st.live a → (st.added t).slot a = st.slot a ∧ st.slot a ≠ st.free := by
    intro a ha
    obtain ⟨e1, e0⟩ := slot_lt ha
    have hk : st.hs.idxOf a < st.hs.length := by rw [← e1, h.hs30]; exact ha
    have hka : st.hs[st.hs.idxOf a] = a := List.getElem_idxOf hk
    have hne : st.slot a ≠ st.free := by
      intro e2
      have : st.hs[st.hs.idxOf a] = st.hs[st.free] := by simp only [← e1, e2]
      rw [hka, hf0] at this; exact e0 this
    refine ⟨?_, hne⟩
    rw [e1] at hne ⊢
    unfold St.slot
    rw [if_neg e0]
    apply idx_first (by simp [St.added]; exact hk)
    · simp only [St.added]; rw [List.getElem_set_ne (Ne.symm hne)]; exact hka
    · intro j hj hjk
      simp only [St.added] at hj ⊢
      by_cases hjf : j = st.free
      · subst hjf
        rw [List.getElem_set_self]
        have := h.hs _ hk
        rw [hka] at this; omega
      · rw [List.getElem_set_ne (Ne.symm hjf)]
        intro e2
        have := idx_le (by simpa using hj) e2
        omega
  have hroot : ∀ a, st.live a → (st.added t).root a = st.root a := by
    intro a ha
    obtain ⟨e1, hne⟩ := hold a ha
    have hk : st.slot a < st.rs.length := by rw [h.rs30]; exact ha
    unfold St.root
    rw [e1, getD_at (by simp [St.added]; exact hk), getD_at hk]
    simp only [St.added]
    rw [List.getElem_set_ne (Ne.symm hne)]
  have hns : (st.added t).ns = st.ns ++ ms := hms
  refine ⟨hinv, by unfold St.live; rw [hnew]; exact hf, ?_, ?_, by simp only [St.added]; omega, ms, hns⟩
  · have hr : (st.added t).root (st.given + 1) = (Cho.build st.ord t st.ns).2 := by
      unfold St.root
      rw [hnew, getD_at (by simp [St.added, h.rs30]; omega)]
      simp [St.added]
    apply Tab.ext (n := st.n) (tab_tab (st.added t) _) ht
    intro p hp
    rw [tab_bit (st.added t) _ p hp, hr]
    have := e p
    rw [mask_ord h, Nat.mod_eq_of_lt hp] at this
    exact this
  · intro a ha
    obtain ⟨e1, hne⟩ := hold a ha
    refine ⟨by unfold St.live; rw [e1]; exact ha, hroot a ha, ?_⟩
    apply Tab.ext (n := st.n) (tab_tab (st.added t) a) (tab_tab st a)
    intro p hp
    rw [tab_bit (st.added t) a p hp, tab_bit st a p hp, hroot a ha, hns]
    exact Cho.ev_append h.red.wf p _ (h.root_lt ha)
end Go.Proofs.YthoodkbdpnffdabDoor
