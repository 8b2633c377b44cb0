/-
  Own work: stores by other orders (plain mathematics over the store as it lies).
-/
import Derived.Test.YthoodkbdpnffdabDoorRelM
import Derived.Test.YthoodkbdpnffdabDoorMoveW
namespace Go.Proofs.YthoodkbdpnffdabDoor
open Cho (U64 Tab full col Nd Red Dg DgOk Odr)

theorem Inv.dia {st : St} (h : Inv st) : Cho.Dia st.n st.ord st.ns (fun l => tabTo st.ns l (2 ^ st.n)) :=
  ⟨h.n6, h.red, h.len, fun v hv => (h.mem v).1 hv, h.nd, fun _ _ => tabTo_lt _ _ _, fun _ _ p hp => tabTo_bit _ _ _ p hp, fun p l hl => ev_mask h p l hl⟩
/-- The live handles of a store have just its nodes. -/
theorem nodes_live {st : St} (hi : Inv st) (hc : Clean st) (qs : List Nat) (h1 : ∀ a ∈ qs, st.live a) (h2 : ∀ a, st.live a → a ∈ qs) : (Cho.nodesT st.n (qs.map st.tab) st.ord).length = st.ns.length := by
  have hls : ∀ l ∈ qs.map st.root, l < st.ns.length + 2 := by
    intro l hl
    obtain ⟨a, ha, rfl⟩ := List.mem_map.1 hl
    exact hi.root_lt (h1 a ha)
  have e : qs.map st.tab = (qs.map st.root).map (fun l => tabTo st.ns l (2 ^ st.n)) := by
    rw [List.map_map]; rfl
  rw [e, hi.dia.count hls]
  apply Cho.cntM_all
  intro i hil
  rw [Cho.reached_iff hi.red.wf _ hls _ (by omega)]
  refine Cho.reach_big (hc.full i hil) (by omega) ?_
  intro m hm
  rcases rs_root hi hc hm with h | ⟨a, ha, rfl⟩
  · exact .inl h
  · exact .inr (List.mem_map_of_mem (h2 a ha))
theorem nodes_one {st : St} (hi : Inv st) {a : Nat} (ha : st.live a) : (Cho.nodesT st.n [st.tab a] st.ord).length = st.size a := by
  have hls : ∀ l ∈ [st.root a], l < st.ns.length + 2 := by
    intro l hl
    simp at hl; subst hl; exact hi.root_lt ha
  exact hi.dia.count hls


theorem hs_added {st : St} (hi : Inv st) {a : Nat} {t : Nat} (ha : (st.added t).live a) : st.live a ∨ a = st.given + 1 := by
  have h30 : (st.added t).hs.length = 30 := by simp [St.added, hi.hs30]
  obtain ⟨e1, e0⟩ := slot_lt ha
  have hm : a ∈ (st.added t).hs := by
    apply List.idxOf_lt_length_iff.1
    rw [← e1, h30]; exact ha
  rcases List.mem_or_eq_of_mem_set hm with h | h
  · left
    unfold St.live St.slot
    rw [if_neg e0, ← hi.hs30]
    exact List.idxOf_lt_length_iff.2 h
  · exact .inr h

def St.dg (st : St) : Dg := ⟨st.ord, st.ns, st.rs⟩
/-- The store with other nodes. -/
def St.take (st : St) (d : Dg) : St := { st with ord := d.ord, ns := d.ns, rs := d.ls }
section
variable {st : St}
theorem Inv.odr (h : Inv st) : Odr st.n st.ord := ⟨h.n1, h.n6, h.nd, h.mem, h.len⟩
theorem Inv.dg (h : Inv st) : DgOk st.n st.dg := ⟨h.odr, h.red, fun l hl => by obtain ⟨i, hi, rfl⟩ := List.getElem_of_mem hl; exact h.rs i hi⟩
theorem dg_take (st : St) (d : Dg) : (st.take d).dg = d := rfl
theorem take_dg (st : St) : st.take st.dg = st := rfl
theorem take_take (st : St) (d e : Dg) : (st.take d).take e = st.take e := rfl
structure Taken (st : St) (d : Dg) : Prop where
  inv : Inv (st.take d)
  cl : Clean (st.take d)
  tab : ∀ a, st.live a → (st.take d).tab a = st.tab a
theorem take_live (st : St) (d : Dg) (a : Nat) : (st.take d).live a ↔ st.live a := Iff.rfl
theorem tabs_at {n : Nat} {d : Dg} (h : DgOk n d) {i : Nat} (hi : i < d.ls.length) : d.tabs.getD i 0 = tabTo d.ns d.ls[i] (2 ^ n) := by
  rw [tabTo_bld, h.tabs]
  simp [List.getD, hi]
theorem taken (hi : Inv st) (hc : Clean st) {d : Dg} (h : Cho.Same st.n st.dg d) : Taken st d := by
  have hl : d.ls.length = 30 := h.len.trans hi.rs30
  have hinv : Inv (st.take d) := ⟨h.ok.red, h.ok.o.nd, h.ok.o.mem, h.ok.o.len, hi.n1, hi.n6, hi.hs30, hl, fun i hil => h.ok.ls _ (List.getElem_mem hil), hi.hs⟩
  refine ⟨hinv, ⟨h.full, ?_, hc.nd⟩, ?_⟩
  · intro i h1 h2 h0
    have hd : i < d.ls.length := h2
    have hr : i < st.rs.length := by rw [hi.rs30, ← hl]; exact hd
    have hz : st.rs[i] = 0 := hc.zero i h1 hr h0
    have e1 := tabs_at h.ok hd
    have e2 := tabs_at hi.dg (i := i) hr
    rw [h.tabs, e2] at e1
    have e3 : tabTo st.dg.ns st.dg.ls[i] (2 ^ st.n) = 0 := by
      show tabTo st.ns st.rs[i] (2 ^ st.n) = 0
      rw [hz]; exact hi.dia.zero
    rw [e3, tabTo_bld] at e1
    exact h.ok.dia.inj (l := d.ls[i]) (l' := 0) (h.ok.ls _ (List.getElem_mem hd)) (by omega) (by rw [← e1, h.ok.dia.zero])
  · intro a ha
    have hk : st.slot a < st.rs.length := by rw [hi.rs30]; exact ha
    have hk2 : st.slot a < d.ls.length := by rw [hl]; exact ha
    have e1 := tabs_at h.ok hk2
    have e2 := tabs_at hi.dg (i := st.slot a) hk
    rw [h.tabs, e2] at e1
    have g1 : (st.take d).root a = d.ls[st.slot a] := by
      show d.ls.getD (st.slot a) 0 = _
      exact getD_at hk2
    have g2 : st.root a = st.rs[st.slot a] := by unfold St.root; exact getD_at hk
    show tabTo d.ns ((st.take d).root a) (2 ^ st.n) = tabTo st.ns (st.root a) (2 ^ st.n)
    rw [g1, g2]
    exact e1.symm
/-- How many nodes by another order: as many as the live functions have. -/
theorem cnt_live (hi : Inv st) (hc : Clean st) {ord : List Nat} (o : Odr st.n ord) (qs : List Nat) (h1 : ∀ a ∈ qs, st.live a) (h2 : ∀ a, st.live a → a ∈ qs) : Cho.cnt' st.n st.dg.tabs ord = (Cho.nodesT st.n (qs.map st.tab) ord).length := by
  have hs := (Cho.by_same hi.dg o).1
  have ht := taken hi hc hs
  have := nodes_live ht.inv ht.cl qs h1 h2
  have e : qs.map (st.take (st.dg.by ord)).tab = qs.map st.tab := List.map_congr_left fun a ha => ht.tab a (h1 a ha)
  rw [e] at this
  have hf := hs.few
  exact hf.symm.trans this.symm
theorem Clean.dg (hc : Clean st) : st.dg.Full := hc.full
theorem same_dg (hi : Inv st) (hc : Clean st) : Cho.Same st.n st.dg st.dg := ⟨hi.dg, hc.full, rfl, rfl⟩
/-- Two neighbours changed. -/
def St.swp (st : St) (k : Nat) : St := st.take (st.dg.move k (k + 1))
def St.sifted (st : St) : St := st.take st.dg.sift
theorem swp_same (hi : Inv st) {k : Nat} (hk : k + 1 < st.n) : Cho.Same st.n st.dg (st.dg.move k (k + 1)) ∧ (st.swp k).ns.length ≤ 1890 ∧ (st.swp k).ord = Cho.swp st.ord k := by
  refine ⟨Cho.move_same hi.dg (by omega) hk, ?_, Cho.mv_swp st.ord k⟩
  have := Cho.move_few hi.dg (f := k) (t := k + 1) (by omega) hk
  rw [show st.dg.ls.length = 30 from hi.rs30] at this
  exact this
end
end Go.Proofs.YthoodkbdpnffdabDoor
