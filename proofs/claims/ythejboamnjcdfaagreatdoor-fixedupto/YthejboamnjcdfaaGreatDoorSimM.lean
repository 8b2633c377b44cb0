/-
  Own work: a store of the program and one of the document's answer that say the same (plain mathematics).
-/
import Derived.Test.YthejboamnjcdfaaGreatDoorRelM
import Derived.Test.YthejboamnjcdfaaGreatDoorRefR
namespace Go.Proofs.YthejboamnjcdfaaGreatDoor
open Cho (U64 Tab full col Nd Red)

def St.get (st : St) (a : Nat) : Option Nat := if st.slot a < 30 then some (st.tab a) else none
theorem St.get_live {st : St} {a : Nat} (h : st.live a) : st.get a = some (st.tab a) := if_pos h
theorem St.get_dead {st : St} {a : Nat} (h : ¬ st.live a) : st.get a = none := if_neg h
theorem St.live_of {st : St} {a f : Nat} (h : st.get a = some f) : st.live a ∧ st.tab a = f := by
  unfold St.get at h
  split at h
  · rename_i hl; exact ⟨hl, by simpa using h⟩
  · cases h
theorem St.dead_of {st : St} {a : Nat} (h : st.get a = none) : ¬ st.live a := by
  unfold St.get at h
  split at h
  · cases h
  · rename_i hl; exact hl

/-- They say the same. -/
structure Sim (st : St) (r : RSt) : Prop where
  inv : Inv st
  cl : Clean st
  few : st.ns.length ≤ 4000
  ok : RefOk r
  n : r.n = st.n
  room : r.room = st.room
  given : r.given = st.given
  ord : r.ord = st.ord
  get : ∀ a, st.get a = r.get a

theorem Inv.dia {st : St} (h : Inv st) : Cho.Dia st.n st.ord st.ns (fun l => tabTo st.ns l (2 ^ st.n)) :=
  ⟨h.n6, h.red, h.len, fun v hv => (h.mem v).1 hv, h.nd, fun _ _ => tabTo_lt _ _ _, fun _ _ p hp => tabTo_bit _ _ _ p hp, fun p l hl => ev_mask h p l hl⟩
/-- The live handles of a store have just its nodes. -/
theorem nodes_live {st : St} (hi : Inv st) (hc : Clean st) (qs : List Nat) (h1 : ∀ a ∈ qs, st.live a) (h2 : ∀ a, st.live a → a ∈ qs) : (Cho.nodesT st.n (qs.map st.tab) st.ord).length = st.ns.length := by
  have hls : ∀ l ∈ qs.map st.root, l < st.ns.length + 2 := by
    intro l hl
    obtain ⟨a, ha, rfl⟩ := List.mem_map.1 hl
    exact hi.root_lt (h1 a ha)
  have e : qs.map st.tab = (qs.map st.root).map (fun l => tabTo st.ns l (2 ^ st.n)) := by
    rw [List.map_map]; rfl
  rw [e, hi.dia.count hls]
  apply Cho.cntM_all
  intro i hil
  rw [Cho.reached_iff hi.red.wf _ hls _ (by omega)]
  refine Cho.reach_big (hc.full i hil) (by omega) ?_
  intro m hm
  rcases rs_root hi hc hm with h | ⟨a, ha, rfl⟩
  · exact .inl h
  · exact .inr (List.mem_map_of_mem (h2 a ha))
theorem nodes_one {st : St} (hi : Inv st) {a : Nat} (ha : st.live a) : (Cho.nodesT st.n [st.tab a] st.ord).length = st.size a := by
  have hls : ∀ l ∈ [st.root a], l < st.ns.length + 2 := by
    intro l hl
    simp at hl; subst hl; exact hi.root_lt ha
  exact hi.dia.count hls

section
variable {st : St} {r : RSt}
theorem Sim.live (h : Sim st r) (a : Nat) : st.live a ↔ a ∈ r.hs := by
  have hg := h.get a
  constructor
  · intro hl
    rw [St.get_live hl] at hg
    exact get_mem hg.symm
  · intro hm
    apply Classical.byContradiction
    intro hd
    rw [St.get_dead hd] at hg
    exact get_none hg.symm hm
theorem Sim.tabs (h : Sim st r) : r.hs.map st.tab = r.ts := by
  apply List.ext_getElem
  · simp [RSt.hs, RSt.ts]
  · intro i h1 h2
    have hi : i < r.L.length := by simpa [RSt.hs] using h1
    have hg := h.get r.L[i].1
    rw [get_at h.ok hi] at hg
    have := (St.live_of hg).2
    simpa [RSt.hs, RSt.ts] using this
theorem Sim.used (h : Sim st r) : r.used = st.ns.length := by
  unfold RSt.used
  rw [h.n, h.ord, ← h.tabs]
  exact nodes_live h.inv h.cl r.hs (fun a ha => (h.live a).2 ha) (fun a ha => (h.live a).1 ha)
theorem Sim.size (h : Sim st r) {a f : Nat} (ha : r.get a = some f) : r.size f = st.size a := by
  rw [← h.get a] at ha
  obtain ⟨hl, rfl⟩ := St.live_of ha
  unfold RSt.size
  rw [h.n, h.ord]
  exact nodes_one h.inv hl
/-- A slot is free where fewer than thirty are live. -/
theorem Sim.free (h : Sim st r) : r.L.length < 30 ↔ st.free < 30 := by
  have hl : r.L.length = (st.hs.filter (· != 0)).length := by
    have e : r.L.length = r.hs.length := by simp [RSt.hs]
    rw [e]
    apply List.Perm.length_eq
    rw [List.perm_ext_iff_of_nodup h.ok.nodup]
    · intro a
      rw [← h.live a]
      constructor
      · intro hl
        obtain ⟨hk, e⟩ := slot_at h.inv hl
        have h0 := (slot_lt hl).2
        rw [List.mem_filter]
        exact ⟨by rw [← e]; exact List.getElem_mem hk, by simpa using h0⟩
      · intro hm
        rw [List.mem_filter] at hm
        have h0 : a ≠ 0 := by simpa using hm.2
        unfold St.live St.slot
        rw [if_neg h0, ← h.inv.hs30]
        exact List.idxOf_lt_length_iff.2 hm.1
    · have key : ∀ (l : List Nat), (∀ i j (hi : i < l.length) (hj : j < l.length), l[i] = l[j] → l[i] ≠ 0 → i = j) → (l.filter (· != 0)).Nodup := by
        intro l
        induction l with
        | nil => intro _; simp
        | cons b l ih =>
          intro hd
          have ihl := ih (fun i j hi hj e hne => by
            have := hd (i + 1) (j + 1) (by simp; omega) (by simp; omega) (by simpa using e) (by simpa using hne)
            omega)
          rw [List.filter_cons]
          split
          · rename_i hb
            rw [List.nodup_cons]
            refine ⟨?_, ihl⟩
            intro hm
            rw [List.mem_filter] at hm
            obtain ⟨j, hj, e⟩ := List.getElem_of_mem hm.1
            have := hd 0 (j + 1) (by simp) (by simp; omega) (by simpa using e.symm) (by simpa using hb)
            omega
          · exact ihl
      exact key st.hs h.cl.nd
  have hsplit : (st.hs.filter (· != 0)).length + (st.hs.filter (· == 0)).length = 30 := by
    rw [← h.inv.hs30]
    have : ∀ (l : List Nat), (l.filter (· != 0)).length + (l.filter (· == 0)).length = l.length := by
      intro l
      induction l with
      | nil => rfl
      | cons b l ih =>
        rw [List.filter_cons, List.filter_cons]
        by_cases hb : b = 0
        · subst hb; simp; omega
        · simp [hb]; omega
    exact this st.hs
  have hz : st.free < 30 ↔ 0 ∈ st.hs := by
    unfold St.free
    rw [← h.inv.hs30]
    exact List.idxOf_lt_length_iff
  rw [hz, hl]
  constructor
  · intro hlt
    have : (st.hs.filter (· == 0)) ≠ [] := by
      intro e; rw [e] at hsplit; simp at hsplit; omega
    obtain ⟨x, hx⟩ := List.exists_mem_of_ne_nil _ this
    rw [List.mem_filter] at hx
    have : x = 0 := by simpa using hx.2
    rw [← this]; exact hx.1
  · intro hm
    have hx : 0 ∈ st.hs.filter (· == 0) := by rw [List.mem_filter]; exact ⟨hm, rfl⟩
    have := List.length_pos_of_mem hx
    omega
end

/-- A function more, or why not. -/
def St.made (st : St) (t : Nat) : St × Nat × Nat :=
  if st.free < 30 then if (st.added t).ns.length ≤ st.room then (st.added t, st.given + 1, 0) else (st, 0, 4) else (st, 0, 3)
theorem hs_added {st : St} (hi : Inv st) {a : Nat} {t : Nat} (ha : (st.added t).live a) : st.live a ∨ a = st.given + 1 := by
  have h30 : (st.added t).hs.length = 30 := by simp [St.added, hi.hs30]
  obtain ⟨e1, e0⟩ := slot_lt ha
  have hm : a ∈ (st.added t).hs := by
    apply List.idxOf_lt_length_iff.1
    rw [← e1, h30]; exact ha
  rcases List.mem_or_eq_of_mem_set hm with h | h
  · left
    unfold St.live St.slot
    rw [if_neg e0, ← hi.hs30]
    exact List.idxOf_lt_length_iff.2 h
  · exact .inr h
theorem push_get {r : RSt} (h : RefOk r) (t a : Nat) : (r.push t).get a = if a = r.given + 1 then some t else r.get a := by
  unfold RSt.get RSt.push
  simp only [List.find?_append]
  by_cases e : a = r.given + 1
  · subst e
    rw [if_pos rfl]
    have hn : r.L.find? (fun p => p.1 == r.given + 1) = none := by
      rw [List.find?_eq_none]
      intro p hp hc
      have := h.hs p.1 (List.mem_map_of_mem hp)
      simp at hc; omega
    rw [hn]; simp
  · rw [if_neg e]
    have hn : [(r.given + 1, t)].find? (fun p => p.1 == a) = none := by
      rw [List.find?_eq_none]
      intro p hp hc
      simp at hp; subst hp
      simp at hc; omega
    rw [hn]; simp
theorem sim_push {st : St} {r : RSt} {t : Nat} (h : Sim st r) (ht : Tab st.n t) (hf : st.free < 30) (hg : st.given + 1 < 4294967295) (hr : (st.added t).ns.length ≤ st.room) : Sim (st.added t) (r.push t) := by
  have ha := added h.inv ht hf
  have hok : RefOk (r.push t) := push_ok h.ok (h.free.2 hf) (by rw [h.n]; exact ht) (by rw [h.given]; omega)
  refine ⟨ha.inv, clean_added h.inv h.cl t hf, ?_, hok, h.n, h.room, by simp [RSt.push, St.added, h.given], h.ord, ?_⟩
  · have := h.ok.room; rw [h.room] at this; omega
  · intro a
    rw [push_get h.ok, h.given]
    by_cases e : a = st.given + 1
    · subst e
      rw [if_pos rfl, St.get_live ha.new, ha.tab]
    · rw [if_neg e, ← h.get a]
      by_cases hl : st.live a
      · obtain ⟨o1, _, o2⟩ := ha.old a hl
        rw [St.get_live o1, St.get_live hl, o2]
      · rw [St.get_dead hl]
        apply St.get_dead
        intro hl'
        rcases hs_added h.inv hl' with h' | h'
        · exact hl h'
        · exact e h'
theorem sim_need {st : St} {r : RSt} {t : Nat} (h : Sim st r) (ht : Tab st.n t) (hf : st.free < 30) : r.need t = (st.added t).ns.length := by
  have ha := added h.inv ht hf
  have hc := clean_added h.inv h.cl t hf
  have hq : ∀ a, (st.added t).live a ↔ a ∈ r.hs ++ [st.given + 1] := by
    intro a
    rw [List.mem_append, ← h.live a]
    constructor
    · intro hl
      rcases hs_added h.inv hl with h' | h'
      · exact .inl h'
      · exact .inr (by simp [h'])
    · rintro (hl | hm)
      · exact (ha.old a hl).1
      · simp at hm; subst hm; exact ha.new
  have := nodes_live ha.inv hc (r.hs ++ [st.given + 1]) (fun a hm => (hq a).2 hm) (fun a hl => (hq a).1 hl)
  have e : (r.hs ++ [st.given + 1]).map (st.added t).tab = r.ts ++ [t] := by
    rw [List.map_append, ← h.tabs]
    congr 1
    · apply List.map_congr_left
      intro a hm
      exact (ha.old a ((h.live a).2 hm)).2.2
    · simp [ha.tab]
  rw [e] at this
  unfold RSt.need
  rw [h.n, h.ord]
  exact this
/-- MAKING. -/
theorem sim_made {st : St} {r : RSt} {t : Nat} (h : Sim st r) (ht : Tab st.n t) (hg : st.given + 1 < 4294967295) : (st.made t).2 = (r.made t).2 ∧ Sim (st.made t).1 (r.made t).1 := by
  unfold St.made RSt.made
  by_cases hf : st.free < 30
  · rw [if_pos hf, if_pos (h.free.2 hf), sim_need h ht hf, h.room]
    by_cases hr : (st.added t).ns.length ≤ st.room
    · rw [if_pos hr, if_pos hr]
      exact ⟨by rw [h.given], sim_push h ht hf hg hr⟩
    · rw [if_neg hr, if_neg hr]; exact ⟨rfl, h⟩
  · rw [if_neg hf, if_neg (fun hl => hf (h.free.1 hl))]; exact ⟨rfl, h⟩
/-- GIVING BACK. -/
theorem drop_get {r : RSt} (a b : Nat) : (r.drop a).get b = if b = a then none else r.get b := by
  unfold RSt.get RSt.drop
  simp only [List.find?_filter]
  by_cases e : b = a
  · subst e
    rw [if_pos rfl]
    have : r.L.find? (fun p => decide ((p.1 != b) = true ∧ (p.1 == b) = true)) = none := by
      rw [List.find?_eq_none]; intro p _; simp
    rw [this]; rfl
  · rw [if_neg e]
    congr 1
    congr 1
    funext p
    by_cases hp : p.1 = b
    · simp [hp, e]
    · simp [hp]
theorem sim_drop {st : St} {r : RSt} {a : Nat} (h : Sim st r) (hl : st.live a) : Sim (st.released a) (r.drop a) := by
  have hf := freed h.inv h.cl hl
  refine ⟨hf.inv, hf.cl, Nat.le_trans hf.len h.few, drop_ok h.ok a, h.n, h.room, h.given, h.ord, ?_⟩
  intro b
  rw [drop_get]
  by_cases e : b = a
  · subst e
    rw [if_pos rfl]
    exact St.get_dead hf.gone
  · rw [if_neg e, ← h.get b]
    by_cases hb : st.live b
    · obtain ⟨h1, h2⟩ := hf.old b e hb
      rw [St.get_live h1, St.get_live hb, h2]
    · rw [St.get_dead hb]
      exact St.get_dead (fun hb' => hb (hf.only b hb').1)
theorem sim_empty {n room : Nat} (h1 : 1 ≤ n) (h6 : n ≤ 6) (hr : room ≤ 4000) : Sim (St.empty n room) (RSt.empty n room) := by
  refine ⟨inv_empty n room h1 h6, clean_empty n room, by simp [St.empty], empty_ok h1 h6 hr, rfl, rfl, rfl, rfl, ?_⟩
  intro a
  have : (RSt.empty n room).get a = none := by simp [RSt.get, RSt.empty]
  rw [this]
  apply St.get_dead
  intro hl
  obtain ⟨e1, e0⟩ := slot_lt hl
  have hm : a ∈ (St.empty n room).hs := by
    apply List.idxOf_lt_length_iff.1
    rw [← e1, (inv_empty n room h1 h6).hs30]; exact hl
  simp [St.empty] at hm
  exact e0 hm
end Go.Proofs.YthejboamnjcdfaaGreatDoor
