/-
  Own work: stores by other orders (plain mathematics over the store as it lies).
-/
import Derived.Test.YthoodkbdpnffdabGreatDoorPlainL
import Derived.Test.YthoodkbdpnffdabGreatDoorMoveW
import Derived.Test.YthoodkbdpnffdabGreatDoorPlainD
import Derived.Test.YthoodkbdpnffdabGreatDoorPlainQ
import Derived.Test.YthoodkbdpnffdabGreatDoorStoreM
import Derived.Test.YthoodkbdpnffdabGreatDoorWithA
import Derived.Test.YthoodkbdpnffdabGreatDoorPlainM
import Derived.Deep.DeepMust
namespace Go.Proofs.YthoodkbdpnffdabGreatDoor
open Cho (U64 Tab full col Nd Red Dg DgOk Odr)

theorem Inv.dia {st : St} (h : Inv st) : Cho.Dia st.n st.ord st.ns (fun l => tabTo st.ns l (2 ^ st.n)) :=
  ⟨h.n6, h.red, h.len, fun v hv => (h.mem v).1 hv, h.nd, fun _ _ => tabTo_lt _ _ _, fun _ _ p hp => tabTo_bit _ _ _ p hp, fun p l hl => ev_mask h p l hl⟩
/-- The live handles of a store have just its nodes. -/
theorem nodes_live {st : St} (hi : Inv st) (hc : Clean st) (qs : List Nat) (h1 : ∀ a ∈ qs, st.live a) (h2 : ∀ a, st.live a → a ∈ qs) : (Cho.nodesT st.n (qs.map st.tab) st.ord).length = st.ns.length := by
  have hls : ∀ l ∈ qs.map st.root, l < st.ns.length + 2 := by
    intro l hl
    obtain ⟨a, ha, rfl⟩ := List.mem_map.1 hl
    exact hi.root_lt (h1 a ha)
  have e : qs.map st.tab = (qs.map st.root).map (fun l => tabTo st.ns l (2 ^ st.n)) := by
    rw [List.map_map]; rfl
  rw [e, hi.dia.count hls]
  apply Cho.cntM_all
  intro i hil
  rw [Cho.reached_iff hi.red.wf _ hls _ (by omega)]
  refine Cho.reach_big (hc.full i hil) (by omega) ?_
  intro m hm
  rcases rs_root hi hc hm with h | ⟨a, ha, rfl⟩
  · exact .inl h
  · exact .inr (List.mem_map_of_mem (h2 a ha))
theorem nodes_one {st : St} (hi : Inv st) {a : Nat} (ha : st.live a) : (Cho.nodesT st.n [st.tab a] st.ord).length = st.size a := by
  have hls : ∀ l ∈ [st.root a], l < st.ns.length + 2 := by
    intro l hl
    simp at hl; subst hl; exact hi.root_lt ha
  exact hi.dia.count hls


theorem hs_added {st : St} (hi : Inv st) {a : Nat} {t : Nat} (ha : (st.added t).live a) : st.live a ∨ a = st.given + 1 := by
  have h30 : (st.added t).hs.length = 30 := by simp [St.added, hi.hs30]
  obtain ⟨e1, e0⟩ := slot_lt ha
  have hm : a ∈ (st.added t).hs := by
    apply List.idxOf_lt_length_iff.1
    rw [← e1, h30]; exact ha
  rcases List.mem_or_eq_of_mem_set hm with h | h
  · left
    unfold St.live St.slot
    rw [if_neg e0, ← hi.hs30]
    exact List.idxOf_lt_length_iff.2 h
  · exact .inr h

def St.dg (st : St) : Dg := ⟨st.ord, st.ns, st.rs⟩
/-- The store with other nodes. -/
def St.take (st : St) (d : Dg) : St := { st with ord := d.ord, ns := d.ns, rs := d.ls }
section
variable {st : St}
theorem Inv.odr (h : Inv st) : Odr st.n st.ord := ⟨h.n1, h.n6, h.nd, h.mem, h.len⟩
theorem Inv.dg (h : Inv st) : DgOk st.n st.dg := ⟨h.odr, h.red, fun l hl => by obtain ⟨i, hi, rfl⟩ := List.getElem_of_mem hl; exact h.rs i hi⟩
theorem dg_take (st : St) (d : Dg) : (st.take d).dg = d := rfl
theorem take_dg (st : St) : st.take st.dg = st := rfl
theorem take_take (st : St) (d e : Dg) : (st.take d).take e = st.take e := rfl
structure Taken (st : St) (d : Dg) : Prop where
  inv : Inv (st.take d)
  cl : Clean (st.take d)
  tab : ∀ a, st.live a → (st.take d).tab a = st.tab a
theorem take_live (st : St) (d : Dg) (a : Nat) : (st.take d).live a ↔ st.live a := Iff.rfl
theorem tabs_at {n : Nat} {d : Dg} (h : DgOk n d) {i : Nat} (hi : i < d.ls.length) : d.tabs.getD i 0 = tabTo d.ns d.ls[i] (2 ^ n) := by
  rw [tabTo_bld, h.tabs]
  simp [List.getD, hi]
theorem taken (hi : Inv st) (hc : Clean st) {d : Dg} (h : Cho.Same st.n st.dg d) : Taken st d := by
  have hl : d.ls.length = 30 := h.len.trans hi.rs30
  have hinv : Inv (st.take d) := ⟨h.ok.red, h.ok.o.nd, h.ok.o.mem, h.ok.o.len, hi.n1, hi.n6, hi.hs30, hl, fun i hil => h.ok.ls _ (List.getElem_mem hil), hi.hs⟩
  refine ⟨hinv, ⟨h.full, ?_, hc.nd⟩, ?_⟩
  · intro i h1 h2 h0
    have hd : i < d.ls.length := h2
    have hr : i < st.rs.length := by rw [hi.rs30, ← hl]; exact hd
    have hz : st.rs[i] = 0 := hc.zero i h1 hr h0
    have e1 := tabs_at h.ok hd
    have e2 := tabs_at hi.dg (i := i) hr
    rw [h.tabs, e2] at e1
    have e3 : tabTo st.dg.ns st.dg.ls[i] (2 ^ st.n) = 0 := by
      show tabTo st.ns st.rs[i] (2 ^ st.n) = 0
      rw [hz]; exact hi.dia.zero
    rw [e3, tabTo_bld] at e1
    exact h.ok.dia.inj (l := d.ls[i]) (l' := 0) (h.ok.ls _ (List.getElem_mem hd)) (by omega) (by rw [← e1, h.ok.dia.zero])
  · intro a ha
    have hk : st.slot a < st.rs.length := by rw [hi.rs30]; exact ha
    have hk2 : st.slot a < d.ls.length := by rw [hl]; exact ha
    have e1 := tabs_at h.ok hk2
    have e2 := tabs_at hi.dg (i := st.slot a) hk
    rw [h.tabs, e2] at e1
    have g1 : (st.take d).root a = d.ls[st.slot a] := by
      show d.ls.getD (st.slot a) 0 = _
      exact getD_at hk2
    have g2 : st.root a = st.rs[st.slot a] := by unfold St.root; exact getD_at hk
    show tabTo d.ns ((st.take d).root a) (2 ^ st.n) = tabTo st.ns (st.root a) (2 ^ st.n)
    rw [g1, g2]
    exact e1.symm
/-- How many nodes by another order: as many as the live functions have. -/
theorem cnt_live (hi : Inv st) (hc : Clean st) {ord : List Nat} (o : Odr st.n ord) (qs : List Nat) (h1 : ∀ a ∈ qs, st.live a) (h2 : ∀ a, st.live a → a ∈ qs) : Cho.cnt' st.n st.dg.tabs ord = (Cho.nodesT st.n (qs.map st.tab) ord).length := by
  have hs := (Cho.by_same hi.dg o).1
  have ht := taken hi hc hs
  have := nodes_live ht.inv ht.cl qs h1 h2
  have e : qs.map (st.take (st.dg.by ord)).tab = qs.map st.tab := List.map_congr_left fun a ha => ht.tab a (h1 a ha)
  rw [e] at this
  have hf := hs.few
  exact hf.symm.trans this.symm
theorem Clean.dg (hc : Clean st) : st.dg.Full := hc.full
theorem same_dg (hi : Inv st) (hc : Clean st) : Cho.Same st.n st.dg st.dg := ⟨hi.dg, hc.full, rfl, rfl⟩
/-- Two neighbours changed. -/
def St.swp (st : St) (k : Nat) : St := st.take (st.dg.move k (k + 1))
def St.sifted (st : St) : St := st.take st.dg.sift
theorem swp_same (hi : Inv st) {k : Nat} (hk : k + 1 < st.n) : Cho.Same st.n st.dg (st.dg.move k (k + 1)) ∧ (st.swp k).ns.length ≤ 1890 ∧ (st.swp k).ord = Cho.swp st.ord k := by
  refine ⟨Cho.move_same hi.dg (by omega) hk, ?_, Cho.mv_swp st.ord k⟩
  have := Cho.move_few hi.dg (f := k) (t := k + 1) (by omega) hk
  rw [show st.dg.ls.length = 30 from hi.rs30] at this
  exact this
end
end Go.Proofs.YthoodkbdpnffdabGreatDoor

/-
  Own work: the small functions of the document's answer: places, bits, a place with a variable put, a variable fixed (walks).
-/
namespace Go.Proofs.YthoodkbdpnffdabGreatDoor
open Go.RowKit
open Cho (U64 Tab full col)

theorem bit_eq (t p : Nat) : (((t : Int) / 2 ^ p).tmod 2 == 1) = t.testBit p := by
  have e : (t : Int) / 2 ^ p = ((t >>> p : Nat) : Int) := by rw [Nat.shiftRight_eq_div_pow]; simp
  rw [e, ← Cho.shr_testBit0 t p]
  generalize t >>> p = r
  rw [Nat.testBit_zero, Int.tmod_eq_emod_of_nonneg (by omega)]
  rw [Bool.eq_iff_iff]; simp; omega
theorem ret_bool {a b : Bool} (h : a = b) : Ending.returned (.bool a) = .returned (.bool b) := by rw [h]
theorem val_bool {a b : Bool} (h : a = b) : Value.bool a = .bool b := by rw [h]

set_option maxHeartbeats 400000 in
theorem rat_calls (t p : Nat) (w : World) (hp : p < 64) :
    Calls Tryz.prog 77 #[.int .u64 t, .int .i64 p] w fun e w' => e = .returned (.bool (t.testBit p)) ∧ w' = w := by
  have E : Hid ((((t : Int) / 2 ^ p).tmod 2 == 1) = t.testBit p) := bit_eq t p
  go_enter Tryz.func77, Tryz.ntmps77
  go_wp2
  go_ret
  exact ⟨ret_bool E.out, rfl⟩
set_option maxHeartbeats 400000 in
theorem rbit_calls (p i : Nat) (w : World) (hi : i < 6) :
    Calls Tryz.prog 73 #[.int .i64 p, .int .i64 i] w fun e w' => e = .returned (.bool (p.testBit i)) ∧ w' = w := by
  have E : Hid ((((p : Int) / 2 ^ i).tmod 2 == 1) = p.testBit i) := bit_eq p i
  go_enter Tryz.func73, Tryz.ntmps73
  go_wp2
  go_ret
  exact ⟨ret_bool E.out, rfl⟩
set_option maxHeartbeats 400000 in
theorem rvariable_calls (s n : Nat) (i : Int) (w : World) (h0 : w.cell? ⟨s, 0, none⟩ = some (.int .i64 n)) :
    Calls Tryz.prog 71 #[.pointer (some ⟨s, 0, none⟩), .int .i64 i] w fun e w' => e = .returned (.bool (decide (0 ≤ i) && decide (i < n))) ∧ w' = w := by
  by_cases h : i < 0
  · have H : Hid (¬ 0 ≤ i) := by show ¬ 0 ≤ i; omega
    go_enter Tryz.func71, Tryz.ntmps71
    go_wp2
    go_ret
    refine ⟨ret_bool ?_, rfl⟩
    rw [decide_eq_false (show ¬ 0 ≤ i by have := H.out; omega)]; rfl
  · have h' : 0 ≤ i := by omega
    have H : Hid (0 ≤ i) := h'
    go_enter Tryz.func71, Tryz.ntmps71
    go_wp2
    go_ret
    refine ⟨ret_bool ?_, rfl⟩
    first | rfl | (rw [decide_eq_true H.out]; rfl)
set_option maxHeartbeats 400000 in
theorem rplaces_calls (s n : Nat) (w : World) (h0 : w.cell? ⟨s, 0, none⟩ = some (.int .i64 n)) (hn : n ≤ 6) :
    Calls Tryz.prog 72 #[.pointer (some ⟨s, 0, none⟩)] w fun e w' => e = .returned (.int .i64 (2 ^ n : Nat)) ∧ w' = w := by
  go_enter Tryz.func72, Tryz.ntmps72
  go_wp2
  go_loop [3, 4] (fun c i => ∃ k : Nat, k ≤ n ∧ i = .int .i64 k ∧ c = .int .i64 (2 ^ k : Nat)) (fun _ i => n - (intOf i).toNat)
  case atStart => exact ⟨0, Nat.zero_le _, rfl, rfl⟩
  case round =>
    obtain ⟨k, hk, rfl, rfl⟩ := hrel
    by_cases hlt : k < n
    · have h2 : 2 ^ k ≤ 64 := Cho.two_pow_le k (by omega)
      have E : Hid (2 ^ (k + 1) = 2 * 2 ^ k) := by show 2 ^ (k + 1) = 2 * 2 ^ k; rw [Nat.pow_succ]; omega
      generalize 2 ^ k = N at *
      go_wp2
      refine ⟨⟨k + 1, hlt, by go_num, val_int ?_⟩, by simp [intOf]; omega⟩
      rw [E.out]; omega
    · go_wp2
      go_ret
      exact ⟨ret_int (by rw [show k = n from by omega]), rfl⟩
theorem wrap_small (z : Int) (h1 : -100000 ≤ z) (h2 : z ≤ 100000) : wrap64 z = z := by unfold wrap64; omega
theorem wrap_two (i : Nat) (h2 : 2 ^ i ≤ 64) : wrap64 (2 ^ i) = ((2 ^ i : Nat) : Int) := by
  rw [show ((2 : Int) ^ i) = ((2 ^ i : Nat) : Int) from by simp]
  generalize 2 ^ i = M at *
  exact wrap_small _ (by omega) (by omega)
theorem with_add (p i : Nat) (hp : p < 64) (h2 : 2 ^ i ≤ 64) : wrap64 ((p : Int) + wrap64 (2 ^ i)) = ((p + 2 ^ i : Nat) : Int) := by
  rw [wrap_two i h2]
  generalize 2 ^ i = M at *
  rw [wrap_small _ (by omega) (by omega)]; omega
theorem with_sub (p i : Nat) (hp : p < 64) (h2 : 2 ^ i ≤ 64) (h3 : 2 ^ i ≤ p) : wrap64 ((p : Int) - wrap64 (2 ^ i)) = ((p - 2 ^ i : Nat) : Int) := by
  rw [wrap_two i h2]
  generalize 2 ^ i = M at *
  rw [wrap_small _ (by omega) (by omega)]; omega
theorem with_both (p i : Nat) (hp : p < 64) (h2 : 2 ^ i ≤ 64) (h3 : 2 ^ i ≤ p) : wrap64 (wrap64 ((p : Int) - wrap64 (2 ^ i)) + wrap64 (2 ^ i)) = (p : Int) := by
  rw [with_sub p i hp h2 h3, wrap_two i h2]
  generalize 2 ^ i = M at *
  rw [wrap_small _ (by omega) (by omega)]; omega
set_option maxHeartbeats 400000 in
theorem rwith_calls (p i : Nat) (to : Bool) (w : World) (hp : p < 64) (hi : i < 6) :
    Calls Tryz.prog 87 #[.int .i64 p, .int .i64 i, .bool to] w fun e w' => e = .returned (.int .i64 (Cho.put p i to : Nat)) ∧ w' = w := by
  have h2 : 2 ^ i ≤ 64 := Cho.two_pow_le i (by omega)
  have hz : Hid ((2 : Int) ^ i = ((2 ^ i : Nat) : Int)) := by show (2 : Int) ^ i = ((2 ^ i : Nat) : Int); simp
  have hM : Hid ((2 ^ i : Nat) ≤ 64) := h2
  cases hb : p.testBit i
  · obtain ⟨e1, e2, _⟩ := Cho.add_bit i hi p hp hb
    have E1 : Hid (p + 2 ^ i = Cho.put p i true) := e1
    have E2 : Hid (Cho.put p i false = p) := by show Cho.put p i false = p; simp [Cho.put, hb]
    have C : Hid (Calls Tryz.prog 73 #[.int .i64 p, .int .i64 i] w fun e w' => e = .returned (.bool false) ∧ w' = w) := by have := rbit_calls p i w hi; rw [hb] at this; exact this
    clear e1
    cases to
    · go_enter Tryz.func87, Tryz.ntmps87
      go_wp2_with fail
      refine C.out.mono ?_
      rintro e w1 ⟨rfl, rfl⟩
      go_wp2
      go_ret
      exact ⟨ret_int (by rw [E2.out]), rfl⟩
    · go_enter Tryz.func87, Tryz.ntmps87
      go_wp2_with fail
      refine C.out.mono ?_
      rintro e w1 ⟨rfl, rfl⟩
      go_wp2
      go_ret
      refine ⟨ret_int ?_, rfl⟩
      rw [← E1.out]
      exact with_add p i hp h2
  · obtain ⟨e1, e2, _⟩ := Cho.sub_bit i hi p hp hb
    have E1 : Hid (p - 2 ^ i = Cho.put p i false) := e2
    have E2 : Hid (Cho.put p i true = p) := by show Cho.put p i true = p; simp [Cho.put, hb]
    have C : Hid (Calls Tryz.prog 73 #[.int .i64 p, .int .i64 i] w fun e w' => e = .returned (.bool true) ∧ w' = w) := by have := rbit_calls p i w hi; rw [hb] at this; exact this
    have E3 : Hid (2 ^ i ≤ p) := e1
    clear e2 e1
    cases to
    · go_enter Tryz.func87, Tryz.ntmps87
      go_wp2_with fail
      refine C.out.mono ?_
      rintro e w1 ⟨rfl, rfl⟩
      go_wp2
      go_ret
      refine ⟨ret_int ?_, rfl⟩
      have := E3.out
      rw [← E1.out]
      exact with_sub p i hp h2 this
    · go_enter Tryz.func87, Tryz.ntmps87
      go_wp2_with fail
      refine C.out.mono ?_
      rintro e w1 ⟨rfl, rfl⟩
      go_wp2
      go_ret
      refine ⟨ret_int ?_, rfl⟩
      have := E3.out
      rw [E2.out]
      exact with_both p i hp h2 this

theorem setbit64 {u : Nat} (hu : U64 u) (p : Nat) (hp : p < 64) : bits .or .u64 (u : Int) (IntKind.u64.wrap (2 ^ p)) = ((u ||| 2 ^ p : Nat) : Int) := by
  have h2 : U64 (2 ^ p) := Nat.pow_lt_pow_right (by decide) hp
  have e : IntKind.u64.wrap (2 ^ p) = ((2 ^ p : Nat) : Int) := by
    rw [IntKind.wrap_u64, show ((2 : Int) ^ p) = ((2 ^ p : Nat) : Int) from by simp]
    have := h2.lt
    generalize 2 ^ p = M at *
    omega
  rw [e, or64 hu h2]

set_option maxHeartbeats 400000 in
theorem rfull_calls (s n : Nat) (w : World) (h0 : w.cell? ⟨s, 0, none⟩ = some (.int .i64 n)) (hn : n ≤ 6) :
    Calls Tryz.prog 68 #[.pointer (some ⟨s, 0, none⟩)] w fun e w' => e = .returned (.int .u64 (full n : Nat)) ∧ w' = w := by
  have h64 := Cho.two_pow_le n hn
  have H0 : Hid (w.cell? ⟨s, 0, none⟩ = some (.int .i64 n)) := h0
  have HF : Hid (Cho.bld (fun _ => true) (2 ^ n) = full n) := Cho.bld_full n
  clear h0
  go_enter Tryz.func68, Tryz.ntmps68
  go_wp2_with fail
  go_loopw [3, 4] (fun u i wr => ∃ k : Nat, k ≤ 2 ^ n ∧ i = .int .i64 k ∧ u = .int .u64 (Cho.bld (fun _ => true) k : Nat) ∧ wr = w) (fun _ i _ => 2 ^ n - (intOf i).toNat)
  case atStart => exact ⟨0, Nat.zero_le _, rfl, rfl, rfl⟩
  case round =>
    obtain ⟨k, hk, rfl, rfl, rfl⟩ := hrel
    generalize hN : 2 ^ n = N at *
    have HC : Hid (Calls Tryz.prog 72 #[.pointer (some ⟨s, 0, none⟩)] wr fun e w' => e = .returned (.int .i64 (N : Nat)) ∧ w' = wr) := by have := rplaces_calls s n wr H0.out hn; rw [hN] at this; exact this
    clear hN
    go_wp2_with fail
    refine HC.out.mono ?_
    rintro e w1 ⟨rfl, rfl⟩
    by_cases hlt : k < N
    · have E : Hid (Cho.bld (fun _ => true) (k + 1) = Cho.bld (fun _ => true) k ||| 2 ^ k) := rfl
      have hu := Cho.bld_u64 (fun _ => true) k (by omega)
      generalize Cho.bld (fun _ => true) k = u at *
      go_wp2_with fail
      refine ⟨⟨k + 1, hlt, by go_num, val_int ?_, trivial⟩, by simp [intOf]; omega⟩
      rw [E.out]
      exact setbit64 hu k (by omega)
    · go_wp2_with fail
      go_ret
      exact ⟨ret_int (by rw [← HF.out, show k = N from by omega]), rfl⟩
end Go.Proofs.YthoodkbdpnffdabGreatDoor

/-
  Own work: the document's answer: a variable fixed, a table among others (walks).
-/
namespace Go.Proofs.YthoodkbdpnffdabGreatDoor
open Go.RowKit
open Cho (U64 Tab full col)

set_option maxHeartbeats 400000 in
theorem rfixed_calls (s n t i : Nat) (to : Bool) (w : World) (h0 : w.cell? ⟨s, 0, none⟩ = some (.int .i64 n)) (hn : n ≤ 6) (ht : Tab n t) (hi : i < n) :
    Calls Tryz.prog 95 #[.pointer (some ⟨s, 0, none⟩), .int .u64 t, .int .i64 i, .bool to] w fun e w' => e = .returned (.int .u64 (Cho.fix t i to : Nat)) ∧ w' = w := by
  have h64 := Cho.two_pow_le n hn
  have H0 : Hid (w.cell? ⟨s, 0, none⟩ = some (.int .i64 n)) := h0
  have HF : Hid (Cho.bld (fun p => t.testBit (Cho.put p i to)) (2 ^ n) = Cho.fix t i to) := Cho.bld_fix to ht hn hi
  clear h0 ht
  generalize hf : (fun p => t.testBit (Cho.put p i to)) = f at *
  have Hf : Hid (∀ p, t.testBit (Cho.put p i to) = f p) := by intro p; rw [← hf]
  clear hf
  go_enter Tryz.func95, Tryz.ntmps95
  go_wp2_with fail
  go_loopw [9, 10] (fun u i wr => ∃ k : Nat, k ≤ 2 ^ n ∧ i = .int .i64 k ∧ u = .int .u64 (Cho.bld f k : Nat) ∧ wr = w) (fun _ i _ => 2 ^ n - (intOf i).toNat)
  case atStart => exact ⟨0, Nat.zero_le _, rfl, rfl, rfl⟩
  case round =>
    obtain ⟨k, hk, rfl, rfl, rfl⟩ := hrel
    have HP : Hid (k < 2 ^ n → Cho.put k i to < 2 ^ n) := Cho.put_lt k i n to hi
    have HC : Hid (Calls Tryz.prog 72 #[.pointer (some ⟨s, 0, none⟩)] wr fun e w' => e = .returned (.int .i64 ((2 ^ n : Nat) : Nat)) ∧ w' = wr) := rplaces_calls s n wr H0.out hn
    generalize 2 ^ n = N at *
    go_wp2_with fail
    refine HC.out.mono ?_
    rintro e w1 ⟨rfl, rfl⟩
    by_cases hlt : k < N
    · have E : Hid (Cho.bld f (k + 1) = if f k then Cho.bld f k ||| 2 ^ k else Cho.bld f k) := rfl
      have hu := Cho.bld_u64 f k (by omega)
      generalize Cho.bld f k = u at *
      go_wp2_with fail
      refine (rwith_calls k i to _ (by omega) (by omega)).mono ?_
      rintro e w2 ⟨rfl, rfl⟩
      have hq := HP.out hlt
      have HA : Hid (Calls Tryz.prog 77 #[.int .u64 t, .int .i64 (Cho.put k i to : Nat)] w2 fun e w' => e = .returned (.bool (f k)) ∧ w' = w2) := by
        have := rat_calls t (Cho.put k i to) w2 (by omega); rw [Hf.out] at this; exact this
      generalize Cho.put k i to = q at *
      go_wp2_with fail
      refine HA.out.mono ?_
      rintro e w3 ⟨rfl, rfl⟩
      cases hfk : f k
      · go_wp2_with fail
        refine ⟨⟨k + 1, hlt, by go_num, val_int ?_, trivial⟩, by simp [intOf]; omega⟩
        rw [E.out, hfk]; rfl
      · go_wp2_with fail
        refine ⟨⟨k + 1, hlt, by go_num, val_int ?_, trivial⟩, by simp [intOf]; omega⟩
        rw [E.out, hfk]
        exact setbit64 hu k (by omega)
    · go_wp2_with fail
      go_ret
      exact ⟨ret_int (by rw [← HF.out, show k = N from by omega]), rfl⟩

/-- A row of 64 bit numbers that one can read. -/
def RowU (w : World) (v : Value) (l : List Nat) : Prop := ∃ ao cap, v = .slice ao l.length cap ∧ ∀ i (hi : i < l.length), ∃ g, ao = some ⟨g, 0, none⟩ ∧ w.cell? ⟨g, i, none⟩ = some (.int .u64 (l[i] : Nat))

set_option maxHeartbeats 400000 in
theorem ramong_calls (t : Nat) (v : Value) (l : List Nat) (w : World) (hl : RowU w v l) (hll : l.length ≤ 100000) :
    Calls Tryz.prog 116 #[.int .u64 t, v] w fun e w' => e = .returned (.bool (decide (t ∈ l))) ∧ w' = w := by
  obtain ⟨ao, cap, rfl, hc⟩ := hl
  have HL : Hid (∀ i (hi : i < l.length), ∃ g, ao = some ⟨g, 0, none⟩ ∧ w.cell? ⟨g, i, none⟩ = some (.int .u64 (l[i] : Nat))) := hc
  clear hc
  go_enter Tryz.func116, Tryz.ntmps116
  go_wp2_with fail
  go_loopw [5] (fun i wr => ∃ k : Nat, k ≤ l.length ∧ i = .int .i64 k ∧ wr = w ∧ Hid (∀ j (hj : j < l.length), j < k → l[j] ≠ t)) (fun i _ => l.length - (intOf i).toNat)
  case atStart => exact ⟨0, Nat.zero_le _, rfl, rfl, fun _ _ h => absurd h (Nat.not_lt_zero _)⟩
  case round =>
    obtain ⟨k, hk, rfl, rfl, HN⟩ := hrel
    by_cases hlt : k < l.length
    · obtain ⟨g, rfl, hcell⟩ := HL.out k hlt
      by_cases he : l[k] = t
      · have HM : Hid (t ∈ l) := by show t ∈ l; rw [← he]; exact List.getElem_mem hlt
        have hb : (((l[k] : Nat) : Int) == (t : Int)) = true := by simp [he]
        go_wp2_with fail
        go_ret
        exact ⟨ret_bool (decide_eq_true HM.out).symm, rfl⟩
      · have hb : (((l[k] : Nat) : Int) == (t : Int)) = false := by simp; omega
        go_wp2_with fail
        refine ⟨⟨k + 1, hlt, by go_num, trivial, ?_⟩, by simp [intOf]; omega⟩
        intro j hj hjk
        by_cases e : j = k
        · subst e; exact he
        · exact HN.out j hj (by omega)
    · have HM : Hid (t ∉ l) := by
        intro hm
        obtain ⟨j, hj, e⟩ := List.getElem_of_mem hm
        exact HN.out j hj (by omega) e
      go_wp2_with fail
      go_ret
      exact ⟨ret_bool (decide_eq_false HM.out).symm, rfl⟩
theorem ramong_yes (t : Nat) (v : Value) (l : List Nat) (w : World) (hl : RowU w v l) (hll : l.length ≤ 100000) (h : t ∈ l) :
    Calls Tryz.prog 116 #[.int .u64 t, v] w fun e w' => e = .returned (.bool true) ∧ w' = w := by
  have := ramong_calls t v l w hl hll
  rw [decide_eq_true h] at this; exact this
theorem ramong_no (t : Nat) (v : Value) (l : List Nat) (w : World) (hl : RowU w v l) (hll : l.length ≤ 100000) (h : t ∉ l) :
    Calls Tryz.prog 116 #[.int .u64 t, v] w fun e w' => e = .returned (.bool false) ∧ w' = w := by
  have := ramong_calls t v l w hl hll
  rw [decide_eq_false h] at this; exact this
end Go.Proofs.YthoodkbdpnffdabGreatDoor

/-
  Own work: rows of tables that a call makes for itself (how they lie, how they grow).
-/
namespace Go.Proofs.YthoodkbdpnffdabGreatDoor
open Go.RowKit
open Cho (U64 Tab full col)

theorem Tryz.infoU64 : (Tryz.prog.info? 31).map (fun i => (i.zero, i.size, i.bytes)) = some (some (.int .u64 0), 1, 8) := by kernel_rfl
def uv (l : List Nat) : List Value := l.map fun x => .int .u64 (x : Nat)
theorem uv_len (l : List Nat) : (uv l).length = l.length := by simp [uv]
theorem uv_snoc (l : List Nat) (a : Nat) : uv l ++ [.int .u64 (a : Nat)] = uv (l ++ [a]) := by simp [uv]
/-- A row of tables that was made since the world w; all that was there is as it was. -/
structure Loc (w wr : World) (v : Value) (l : List Nat) : Prop where
  bel : Below w.heap.size w wr
  row : wr.ownsRow w.heap.size 31 1 v l.length (uv l)
theorem loc_nil {w wr : World} (h : Below w.heap.size w wr) : Loc w wr (.slice none 0 0) [] := ⟨h, World.ownsRow_nil _ _ _ _⟩
theorem loc_append {w wr w1 : World} {v v' : Value} {l : List Nat} {a : Nat} {o : Obj} (h : Loc w wr v l) (hr : w1.ownsRow w.heap.size 31 1 v' (l.length + 1) (uv l ++ [.int .u64 (a : Nat)])) (hg : (wr.alloc o).grownBy w1 v.ownBlock) :
    Loc w w1 v' (l ++ [a]) := by
  have hs := h.bel.size
  refine ⟨(h.bel.alloc hs o).grown hg (by simp; omega) (fun q hq => (h.row.lt q hq).1), ?_⟩
  rw [uv_snoc] at hr
  simpa using hr
theorem Loc.below {w wr w1 : World} {v : Value} {l : List Nat} (h : Loc w wr v l) (hb : Below wr.heap.size wr w1) : Loc w w1 v l :=
  ⟨h.bel.trans (hb.mono h.bel.size), owns_kept h.row fun g hg => hb.block g (h.row.lt g hg).2⟩
/-- A row can be read. -/
theorem owns_rowU {w : World} {B : Nat} {v : Value} {l : List Nat} {m : Nat} (h : w.ownsRow B 31 1 v m (uv l)) (hm : m = l.length) : RowU w v l := by
  subst hm
  have hc := @World.ownsRow.cells
  obtain ⟨ao, cap, rfl⟩ := owns_slice h
  refine ⟨ao, cap, rfl, fun i hi => ?_⟩
  obtain ⟨g, cap', e, _⟩ := owns_form h (by omega)
  simp only [Value.slice.injEq] at e
  obtain ⟨rfl, _, _⟩ := e
  refine ⟨g, rfl, ?_⟩
  have := h.cells (g := g) rfl i (.int .u64 (l[i] : Nat)) (by simp [uv, hi])
  rw [Addr.add_mid, Nat.zero_add] at this
  exact this
theorem Loc.rowU {w wr : World} {v : Value} {l : List Nat} (h : Loc w wr v l) : RowU wr v l := owns_rowU h.row rfl
theorem RowU.below {w w1 : World} {v : Value} {l : List Nat} (h : RowU w v l) (hb : Below w.heap.size w w1) : RowU w1 v l := by
  obtain ⟨ao, cap, rfl, hc⟩ := h
  refine ⟨ao, cap, rfl, fun i hi => ?_⟩
  obtain ⟨g, e, h1⟩ := hc i hi
  exact ⟨g, e, (hb.cell (World.block_lt_of_cell? w _ h1)).trans h1⟩
theorem cell_below {w w1 : World} {a : Addr} {v : Value} (h : w.cell? a = some v) (hb : Below w.heap.size w w1) : w1.cell? a = some v := (hb.cell (World.block_lt_of_cell? w _ h)).trans h
end Go.Proofs.YthoodkbdpnffdabGreatDoor

/-
  Own work: the document's answer: what functions become when a variable is fixed (a walk).
-/
namespace Go.Proofs.YthoodkbdpnffdabGreatDoor
open Go.RowKit
open Cho (U64 Tab full col)

set_option maxRecDepth 100000 in
set_option maxHeartbeats 1000000 in
theorem rways_calls (s n i : Nat) (v : Value) (l : List Nat) (w : World) (h0 : w.cell? ⟨s, 0, none⟩ = some (.int .i64 n)) (hn : n ≤ 6) (hi : i < n) (hl : RowU w v l) (hT : ∀ x ∈ l, Tab n x) (hll : l.length ≤ 10000) :
    Calls Tryz.prog 117 #[.pointer (some ⟨s, 0, none⟩), v, .int .i64 i] w fun e w' => ∃ v', e = .returned v' ∧ Loc w w' v' (Cho.waysTo l i l.length) := by
  obtain ⟨i0, hi0, hz0, hz1, hz2⟩ := info_parts Tryz.infoU64
  have HL : Hid (RowU w v l) := hl
  have HT : Hid (∀ x ∈ l, Tab n x) := hT
  have H0 : Hid (w.cell? ⟨s, 0, none⟩ = some (.int .i64 n)) := h0
  obtain ⟨al, capl, rfl, hcl⟩ := hl
  clear h0 hT hcl
  go_enter Tryz.func117, Tryz.ntmps117
  go_wp2_with fail
  go_loopw [7, 8] (fun x7 x8 wr => ∃ k : Nat, k ≤ l.length ∧ x8 = .int .i64 k ∧ Hid (Loc w wr x7 (Cho.waysTo l i k))) (fun _ x8 _ => l.length - (intOf x8).toNat)
  case atStart => exact ⟨0, Nat.zero_le _, rfl, loc_nil (Below.refl _ _)⟩
  case round =>
    obtain ⟨k, hk, rfl, LR⟩ := hrel
    by_cases hlt : k < l.length
    · obtain ⟨ao, cap, rfl⟩ := owns_slice LR.out.row
      obtain ⟨al', capl', ev, hc⟩ := HL.out.below LR.out.bel
      simp only [Value.slice.injEq] at ev
      obtain ⟨rfl, _, rfl⟩ := ev
      obtain ⟨g, rfl, hcell⟩ := hc k hlt
      have HTk : Hid (Tab n l[k]) := HT.out _ (List.getElem_mem hlt)
      have HE0 : Hid (Cho.waysTo l i (k + 1) = Cho.addN (Cho.addN (Cho.waysTo l i k) (Cho.fix l[k] i false)) (Cho.fix l[k] i true)) := by
        show Cho.addN (Cho.addN _ (Cho.fix (l.getD k 0) i false)) (Cho.fix (l.getD k 0) i true) = _
        rw [show l.getD k 0 = l[k] from by simp [List.getD, hlt]]
      have hlen := Cho.waysTo_len l i k
      have H0r : Hid (wr.cell? ⟨s, 0, none⟩ = some (.int .i64 n)) := cell_below H0.out LR.out.bel
      clear hc
      generalize hX : l[k] = x at *
      clear hX
      generalize hO : Cho.waysTo l i k = O0 at *
      clear hO
      go_wp2_with fail
      refine (rfixed_calls s n x i false _ H0r.out hn HTk.out hi).mono ?_
      rintro e w1 ⟨rfl, rfl⟩
      generalize Cho.fix x i false = a at *
      go_wp2_with fail
      refine (rfixed_calls s n x i true _ H0r.out hn HTk.out hi).mono ?_
      rintro e w2 ⟨rfl, rfl⟩
      generalize Cho.fix x i true = b at *
      by_cases ham : a ∈ O0
      · have HAM : Hid (a ∈ O0) := ham
        have HE : Hid (Cho.waysTo l i (k + 1) = Cho.addN O0 b) := HE0.out.trans (by rw [show Cho.addN O0 a = O0 from by simp [Cho.addN, ham]])
        generalize hO1 : O0 = O1 at *
        clear hO1
        go_wp2_with fail
        refine (ramong_yes a _ O1 _ LR.out.rowU (by omega) HAM.out).mono ?_
        rintro e w3 ⟨rfl, rfl⟩
        have := 0; clear this
        by_cases hbm : b ∈ O1
        · have HS : Hid (Cho.waysTo l i (k + 1) = O1) := HE.out.trans (by simp [Cho.addN, hbm])
          go_wp2_with fail
          refine (ramong_yes b _ O1 _ LR.out.rowU (by omega) hbm).mono ?_
          rintro e wz ⟨rfl, rfl⟩
          go_wp2_with fail
          refine ⟨⟨k + 1, hlt, by go_num, ?_⟩, by simp [intOf]; omega⟩
          rw [HS.out]; exact LR
        · have HS : Hid (Cho.waysTo l i (k + 1) = O1 ++ [b]) := HE.out.trans (by simp [Cho.addN, hbm])
          go_wp2_with fail
          refine (ramong_no b _ O1 _ LR.out.rowU (by omega) hbm).mono ?_
          rintro e wz ⟨rfl, rfl⟩
          have F11 : Hid (O1.length + 1 ≤ maxLen) := by show O1.length + 1 ≤ maxLen; unfold maxLen; omega
          have F21 : Hid ((O1.length + 1) * 8 ≤ 140737488355328) := by show (O1.length + 1) * 8 ≤ 140737488355328; omega
          have F31 : Hid (w.heap.size ≤ (wz.alloc (.cells #[.int .u64 b] 31)).heap.size) := by show w.heap.size ≤ (wz.alloc (.cells #[.int .u64 b] 31)).heap.size; have := LR.out.bel.size; simp; omega
          have O51 : Hid ((wz.alloc (.cells #[.int .u64 b] 31)).ownsRow w.heap.size 31 1 (.slice ao O1.length cap) O1.length (uv O1)) := LR.out.row.alloc _
          go_wp2_with (at_builtin; refine wpList_append_own _ rfl _ _ 127 rfl w.heap.size 31 i0 _ 1 8 Tryz.underlying127 hi0 hz0 hz1 hz2 rfl (Nat.succ_pos 0) (.slice ao O1.length cap) O1.length (uv O1) ?e1 O51.out ⟨wz.heap.size, 0, none⟩ 1 1 [.int .u64 b] ?e2 rfl (new_cells wz [.int .u64 b] _) ?e3 F11.out F21.out F31.out ?_; (case e1 => rfl); (case e2 => rfl); (case e3 => simp [Value.oneCell']); intro v' wy hown hgrow _; have OW1 : Hid (Loc w wy v' (O1 ++ [_])) := loc_append LR.out hown hgrow; clear hgrow hown)
          refine ⟨⟨k + 1, hlt, by go_num, ?_⟩, by simp [intOf]; omega⟩
          rw [HS.out]; exact OW1
      · have HAM : Hid (a ∉ O0) := ham
        go_wp2_with fail
        refine (ramong_no a _ O0 _ LR.out.rowU (by omega) HAM.out).mono ?_
        rintro e w3 ⟨rfl, rfl⟩
        have F10 : Hid (O0.length + 1 ≤ maxLen) := by show O0.length + 1 ≤ maxLen; unfold maxLen; omega
        have F20 : Hid ((O0.length + 1) * 8 ≤ 140737488355328) := by show (O0.length + 1) * 8 ≤ 140737488355328; omega
        have F30 : Hid (w.heap.size ≤ (w3.alloc (.cells #[.int .u64 a] 31)).heap.size) := by show w.heap.size ≤ (w3.alloc (.cells #[.int .u64 a] 31)).heap.size; have := LR.out.bel.size; simp; omega
        have O50 : Hid ((w3.alloc (.cells #[.int .u64 a] 31)).ownsRow w.heap.size 31 1 (.slice ao O0.length cap) O0.length (uv O0)) := LR.out.row.alloc _
        go_wp2_with (at_builtin; refine wpList_append_own _ rfl _ _ 127 rfl w.heap.size 31 i0 _ 1 8 Tryz.underlying127 hi0 hz0 hz1 hz2 rfl (Nat.succ_pos 0) (.slice ao O0.length cap) O0.length (uv O0) ?e1 O50.out ⟨w3.heap.size, 0, none⟩ 1 1 [.int .u64 a] ?e2 rfl (new_cells w3 [.int .u64 a] _) ?e3 F10.out F20.out F30.out ?_; (case e1 => rfl); (case e2 => rfl); (case e3 => simp [Value.oneCell']); intro v' w4 hown hgrow _; have OW0 : Hid (Loc w w4 v' (O0 ++ [_])) := loc_append LR.out hown hgrow; clear hgrow hown)
        have HE : Hid (Cho.waysTo l i (k + 1) = Cho.addN (O0 ++ [a]) b) := HE0.out.trans (by rw [show Cho.addN O0 a = O0 ++ [a] from by simp [Cho.addN, ham]])
        have hlen1 : (O0 ++ [a]).length ≤ 2 * k + 1 := by simp; omega
        generalize hO1 : O0 ++ [a] = O1 at *
        clear hO1
        obtain ⟨ao1, cap1, rfl⟩ := owns_slice OW0.out.row
        by_cases hbm : b ∈ O1
        · have HS : Hid (Cho.waysTo l i (k + 1) = O1) := HE.out.trans (by simp [Cho.addN, hbm])
          go_wp2_with fail
          refine (ramong_yes b _ O1 _ OW0.out.rowU (by omega) hbm).mono ?_
          rintro e wz ⟨rfl, rfl⟩
          go_wp2_with fail
          refine ⟨⟨k + 1, hlt, by go_num, ?_⟩, by simp [intOf]; omega⟩
          rw [HS.out]; exact OW0
        · have HS : Hid (Cho.waysTo l i (k + 1) = O1 ++ [b]) := HE.out.trans (by simp [Cho.addN, hbm])
          go_wp2_with fail
          refine (ramong_no b _ O1 _ OW0.out.rowU (by omega) hbm).mono ?_
          rintro e wz ⟨rfl, rfl⟩
          have F11 : Hid (O1.length + 1 ≤ maxLen) := by show O1.length + 1 ≤ maxLen; unfold maxLen; omega
          have F21 : Hid ((O1.length + 1) * 8 ≤ 140737488355328) := by show (O1.length + 1) * 8 ≤ 140737488355328; omega
          have F31 : Hid (w.heap.size ≤ (wz.alloc (.cells #[.int .u64 b] 31)).heap.size) := by show w.heap.size ≤ (wz.alloc (.cells #[.int .u64 b] 31)).heap.size; have := OW0.out.bel.size; simp; omega
          have O51 : Hid ((wz.alloc (.cells #[.int .u64 b] 31)).ownsRow w.heap.size 31 1 (.slice ao1 O1.length cap1) O1.length (uv O1)) := OW0.out.row.alloc _
          go_wp2_with (at_builtin; refine wpList_append_own _ rfl _ _ 127 rfl w.heap.size 31 i0 _ 1 8 Tryz.underlying127 hi0 hz0 hz1 hz2 rfl (Nat.succ_pos 0) (.slice ao1 O1.length cap1) O1.length (uv O1) ?e1 O51.out ⟨wz.heap.size, 0, none⟩ 1 1 [.int .u64 b] ?e2 rfl (new_cells wz [.int .u64 b] _) ?e3 F11.out F21.out F31.out ?_; (case e1 => rfl); (case e2 => rfl); (case e3 => simp [Value.oneCell']); intro v' wy hown hgrow _; have OW1 : Hid (Loc w wy v' (O1 ++ [_])) := loc_append OW0.out hown hgrow; clear hgrow hown)
          refine ⟨⟨k + 1, hlt, by go_num, ?_⟩, by simp [intOf]; omega⟩
          rw [HS.out]; exact OW1
    · have HEnd : Hid (k = l.length) := by show k = l.length; omega
      go_wp2_with fail
      go_ret
      refine ⟨_, rfl, ?_⟩
      rw [← HEnd.out]; exact LR.out
end Go.Proofs.YthoodkbdpnffdabGreatDoor
