/-
  Own work: stores by other orders (plain mathematics over the store as it lies).
-/
import Derived.Test.YthoodkbdpnffdaaGreatDoorPlainL
import Derived.Test.YthoodkbdpnffdaaGreatDoorMoveW
import Derived.Test.YthoodkbdpnffdaaGreatDoorPlainD
import Derived.Test.YthoodkbdpnffdaaGreatDoorPlainQ
namespace Go.Proofs.YthoodkbdpnffdaaGreatDoor
open Cho (U64 Tab full col Nd Red Dg DgOk Odr)

theorem Inv.dia {st : St} (h : Inv st) : Cho.Dia st.n st.ord st.ns (fun l => tabTo st.ns l (2 ^ st.n)) :=
  ⟨h.n6, h.red, h.len, fun v hv => (h.mem v).1 hv, h.nd, fun _ _ => tabTo_lt _ _ _, fun _ _ p hp => tabTo_bit _ _ _ p hp, fun p l hl => ev_mask h p l hl⟩
/-- The live handles of a store have just its nodes. -/
theorem nodes_live {st : St} (hi : Inv st) (hc : Clean st) (qs : List Nat) (h1 : ∀ a ∈ qs, st.live a) (h2 : ∀ a, st.live a → a ∈ qs) : (Cho.nodesT st.n (qs.map st.tab) st.ord).length = st.ns.length := by
  have hls : ∀ l ∈ qs.map st.root, l < st.ns.length + 2 := by
    intro l hl
    obtain ⟨a, ha, rfl⟩ := List.mem_map.1 hl
    exact hi.root_lt (h1 a ha)
  have e : qs.map st.tab = (qs.map st.root).map (fun l => tabTo st.ns l (2 ^ st.n)) := by
    rw [List.map_map]; rfl
  rw [e, hi.dia.count hls]
  apply Cho.cntM_all
  intro i hil
  rw [Cho.reached_iff hi.red.wf _ hls _ (by omega)]
  refine Cho.reach_big (hc.full i hil) (by omega) ?_
  intro m hm
  rcases rs_root hi hc hm with h | ⟨a, ha, rfl⟩
  · exact .inl h
  · exact .inr (List.mem_map_of_mem (h2 a ha))
theorem nodes_one {st : St} (hi : Inv st) {a : Nat} (ha : st.live a) : (Cho.nodesT st.n [st.tab a] st.ord).length = st.size a := by
  have hls : ∀ l ∈ [st.root a], l < st.ns.length + 2 := by
    intro l hl
    simp at hl; subst hl; exact hi.root_lt ha
  exact hi.dia.count hls


theorem hs_added {st : St} (hi : Inv st) {a : Nat} {t : Nat} (ha : (st.added t).live a) : st.live a ∨ a = st.given + 1 := by
  have h30 : (st.added t).hs.length = 30 := by simp [St.added, hi.hs30]
  obtain ⟨e1, e0⟩ := slot_lt ha
  have hm : a ∈ (st.added t).hs := by
    apply List.idxOf_lt_length_iff.1
    rw [← e1, h30]; exact ha
  rcases List.mem_or_eq_of_mem_set hm with h | h
  · left
    unfold St.live St.slot
    rw [if_neg e0, ← hi.hs30]
    exact List.idxOf_lt_length_iff.2 h
  · exact .inr h

def St.dg (st : St) : Dg := ⟨st.ord, st.ns, st.rs⟩
/-- The store with other nodes. -/
def St.take (st : St) (d : Dg) : St := { st with ord := d.ord, ns := d.ns, rs := d.ls }
section
variable {st : St}
theorem Inv.odr (h : Inv st) : Odr st.n st.ord := ⟨h.n1, h.n6, h.nd, h.mem, h.len⟩
theorem Inv.dg (h : Inv st) : DgOk st.n st.dg := ⟨h.odr, h.red, fun l hl => by obtain ⟨i, hi, rfl⟩ := List.getElem_of_mem hl; exact h.rs i hi⟩
theorem dg_take (st : St) (d : Dg) : (st.take d).dg = d := rfl
theorem take_dg (st : St) : st.take st.dg = st := rfl
theorem take_take (st : St) (d e : Dg) : (st.take d).take e = st.take e := rfl
structure Taken (st : St) (d : Dg) : Prop where
  inv : Inv (st.take d)
  cl : Clean (st.take d)
  tab : ∀ a, st.live a → (st.take d).tab a = st.tab a
theorem take_live (st : St) (d : Dg) (a : Nat) : (st.take d).live a ↔ st.live a := Iff.rfl
theorem tabs_at {n : Nat} {d : Dg} (h : DgOk n d) {i : Nat} (hi : i < d.ls.length) : d.tabs.getD i 0 = tabTo d.ns d.ls[i] (2 ^ n) := by
  rw [tabTo_bld, h.tabs]
  simp [List.getD, hi]
theorem taken (hi : Inv st) (hc : Clean st) {d : Dg} (h : Cho.Same st.n st.dg d) : Taken st d := by
  have hl : d.ls.length = 30 := h.len.trans hi.rs30
  have hinv : Inv (st.take d) := ⟨h.ok.red, h.ok.o.nd, h.ok.o.mem, h.ok.o.len, hi.n1, hi.n6, hi.hs30, hl, fun i hil => h.ok.ls _ (List.getElem_mem hil), hi.hs⟩
  refine ⟨hinv, ⟨h.full, ?_, hc.nd⟩, ?_⟩
  · intro i h1 h2 h0
    have hd : i < d.ls.length := h2
    have hr : i < st.rs.length := by rw [hi.rs30, ← hl]; exact hd
    have hz : st.rs[i] = 0 := hc.zero i h1 hr h0
    have e1 := tabs_at h.ok hd
    have e2 := tabs_at hi.dg (i := i) hr
    rw [h.tabs, e2] at e1
    have e3 : tabTo st.dg.ns st.dg.ls[i] (2 ^ st.n) = 0 := by
      show tabTo st.ns st.rs[i] (2 ^ st.n) = 0
      rw [hz]; exact hi.dia.zero
    rw [e3, tabTo_bld] at e1
    exact h.ok.dia.inj (l := d.ls[i]) (l' := 0) (h.ok.ls _ (List.getElem_mem hd)) (by omega) (by rw [← e1, h.ok.dia.zero])
  · intro a ha
    have hk : st.slot a < st.rs.length := by rw [hi.rs30]; exact ha
    have hk2 : st.slot a < d.ls.length := by rw [hl]; exact ha
    have e1 := tabs_at h.ok hk2
    have e2 := tabs_at hi.dg (i := st.slot a) hk
    rw [h.tabs, e2] at e1
    have g1 : (st.take d).root a = d.ls[st.slot a] := by
      show d.ls.getD (st.slot a) 0 = _
      exact getD_at hk2
    have g2 : st.root a = st.rs[st.slot a] := by unfold St.root; exact getD_at hk
    show tabTo d.ns ((st.take d).root a) (2 ^ st.n) = tabTo st.ns (st.root a) (2 ^ st.n)
    rw [g1, g2]
    exact e1.symm
/-- How many nodes by another order: as many as the live functions have. -/
theorem cnt_live (hi : Inv st) (hc : Clean st) {ord : List Nat} (o : Odr st.n ord) (qs : List Nat) (h1 : ∀ a ∈ qs, st.live a) (h2 : ∀ a, st.live a → a ∈ qs) : Cho.cnt' st.n st.dg.tabs ord = (Cho.nodesT st.n (qs.map st.tab) ord).length := by
  have hs := (Cho.by_same hi.dg o).1
  have ht := taken hi hc hs
  have := nodes_live ht.inv ht.cl qs h1 h2
  have e : qs.map (st.take (st.dg.by ord)).tab = qs.map st.tab := List.map_congr_left fun a ha => ht.tab a (h1 a ha)
  rw [e] at this
  have hf := hs.few
  exact hf.symm.trans this.symm
theorem Clean.dg (hc : Clean st) : st.dg.Full := hc.full
theorem same_dg (hi : Inv st) (hc : Clean st) : Cho.Same st.n st.dg st.dg := ⟨hi.dg, hc.full, rfl, rfl⟩
/-- Two neighbours changed. -/
def St.swp (st : St) (k : Nat) : St := st.take (st.dg.move k (k + 1))
def St.sifted (st : St) : St := st.take st.dg.sift
theorem swp_same (hi : Inv st) {k : Nat} (hk : k + 1 < st.n) : Cho.Same st.n st.dg (st.dg.move k (k + 1)) ∧ (st.swp k).ns.length ≤ 1890 ∧ (st.swp k).ord = Cho.swp st.ord k := by
  refine ⟨Cho.move_same hi.dg (by omega) hk, ?_, Cho.mv_swp st.ord k⟩
  have := Cho.move_few hi.dg (f := k) (t := k + 1) (by omega) hk
  rw [show st.dg.ls.length = 30 from hi.rs30] at this
  exact this
end
end Go.Proofs.YthoodkbdpnffdaaGreatDoor

/-
  Own work: the small functions of the document's answer: places, bits, a place with a variable put, a variable fixed (walks).
-/
namespace Go.Proofs.YthoodkbdpnffdaaGreatDoor
open Go.RowKit
open Cho (U64 Tab full col)

theorem bit_eq (t p : Nat) : (((t : Int) / 2 ^ p).tmod 2 == 1) = t.testBit p := by
  have e : (t : Int) / 2 ^ p = ((t >>> p : Nat) : Int) := by rw [Nat.shiftRight_eq_div_pow]; simp
  rw [e, ← Cho.shr_testBit0 t p]
  generalize t >>> p = r
  rw [Nat.testBit_zero, Int.tmod_eq_emod_of_nonneg (by omega)]
  rw [Bool.eq_iff_iff]; simp; omega
theorem ret_bool {a b : Bool} (h : a = b) : Ending.returned (.bool a) = .returned (.bool b) := by rw [h]
theorem val_bool {a b : Bool} (h : a = b) : Value.bool a = .bool b := by rw [h]

set_option maxHeartbeats 400000 in
theorem rat_calls (t p : Nat) (w : World) (hp : p < 64) :
    Calls Tryz.prog 79 #[.int .u64 t, .int .i64 p] w fun e w' => e = .returned (.bool (t.testBit p)) ∧ w' = w := by
  have E : Hid ((((t : Int) / 2 ^ p).tmod 2 == 1) = t.testBit p) := bit_eq t p
  go_enter Tryz.func79, Tryz.ntmps79
  go_wp2
  go_ret
  exact ⟨ret_bool E.out, rfl⟩
set_option maxHeartbeats 400000 in
theorem rbit_calls (p i : Nat) (w : World) (hi : i < 6) :
    Calls Tryz.prog 75 #[.int .i64 p, .int .i64 i] w fun e w' => e = .returned (.bool (p.testBit i)) ∧ w' = w := by
  have E : Hid ((((p : Int) / 2 ^ i).tmod 2 == 1) = p.testBit i) := bit_eq p i
  go_enter Tryz.func75, Tryz.ntmps75
  go_wp2
  go_ret
  exact ⟨ret_bool E.out, rfl⟩
set_option maxHeartbeats 400000 in
theorem rvariable_calls (s n : Nat) (i : Int) (w : World) (h0 : w.cell? ⟨s, 0, none⟩ = some (.int .i64 n)) :
    Calls Tryz.prog 73 #[.pointer (some ⟨s, 0, none⟩), .int .i64 i] w fun e w' => e = .returned (.bool (decide (0 ≤ i) && decide (i < n))) ∧ w' = w := by
  by_cases h : i < 0
  · have H : Hid (¬ 0 ≤ i) := by show ¬ 0 ≤ i; omega
    go_enter Tryz.func73, Tryz.ntmps73
    go_wp2
    go_ret
    refine ⟨ret_bool ?_, rfl⟩
    rw [decide_eq_false (show ¬ 0 ≤ i by have := H.out; omega)]; rfl
  · have h' : 0 ≤ i := by omega
    have H : Hid (0 ≤ i) := h'
    go_enter Tryz.func73, Tryz.ntmps73
    go_wp2
    go_ret
    refine ⟨ret_bool ?_, rfl⟩
    first | rfl | (rw [decide_eq_true H.out]; rfl)
set_option maxHeartbeats 400000 in
theorem rplaces_calls (s n : Nat) (w : World) (h0 : w.cell? ⟨s, 0, none⟩ = some (.int .i64 n)) (hn : n ≤ 6) :
    Calls Tryz.prog 74 #[.pointer (some ⟨s, 0, none⟩)] w fun e w' => e = .returned (.int .i64 (2 ^ n : Nat)) ∧ w' = w := by
  go_enter Tryz.func74, Tryz.ntmps74
  go_wp2
  go_loop [3, 4] (fun c i => ∃ k : Nat, k ≤ n ∧ i = .int .i64 k ∧ c = .int .i64 (2 ^ k : Nat)) (fun _ i => n - (intOf i).toNat)
  case atStart => exact ⟨0, Nat.zero_le _, rfl, rfl⟩
  case round =>
    obtain ⟨k, hk, rfl, rfl⟩ := hrel
    by_cases hlt : k < n
    · have h2 : 2 ^ k ≤ 64 := Cho.two_pow_le k (by omega)
      have E : Hid (2 ^ (k + 1) = 2 * 2 ^ k) := by show 2 ^ (k + 1) = 2 * 2 ^ k; rw [Nat.pow_succ]; omega
      generalize 2 ^ k = N at *
      go_wp2
      refine ⟨⟨k + 1, hlt, by go_num, val_int ?_⟩, by simp [intOf]; omega⟩
      rw [E.out]; omega
    · go_wp2
      go_ret
      exact ⟨ret_int (by rw [show k = n from by omega]), rfl⟩
theorem wrap_small (z : Int) (h1 : -100000 ≤ z) (h2 : z ≤ 100000) : wrap64 z = z := by unfold wrap64; omega
theorem wrap_two (i : Nat) (h2 : 2 ^ i ≤ 64) : wrap64 (2 ^ i) = ((2 ^ i : Nat) : Int) := by
  rw [show ((2 : Int) ^ i) = ((2 ^ i : Nat) : Int) from by simp]
  generalize 2 ^ i = M at *
  exact wrap_small _ (by omega) (by omega)
theorem with_add (p i : Nat) (hp : p < 64) (h2 : 2 ^ i ≤ 64) : wrap64 ((p : Int) + wrap64 (2 ^ i)) = ((p + 2 ^ i : Nat) : Int) := by
  rw [wrap_two i h2]
  generalize 2 ^ i = M at *
  rw [wrap_small _ (by omega) (by omega)]; omega
theorem with_sub (p i : Nat) (hp : p < 64) (h2 : 2 ^ i ≤ 64) (h3 : 2 ^ i ≤ p) : wrap64 ((p : Int) - wrap64 (2 ^ i)) = ((p - 2 ^ i : Nat) : Int) := by
  rw [wrap_two i h2]
  generalize 2 ^ i = M at *
  rw [wrap_small _ (by omega) (by omega)]; omega
theorem with_both (p i : Nat) (hp : p < 64) (h2 : 2 ^ i ≤ 64) (h3 : 2 ^ i ≤ p) : wrap64 (wrap64 ((p : Int) - wrap64 (2 ^ i)) + wrap64 (2 ^ i)) = (p : Int) := by
  rw [with_sub p i hp h2 h3, wrap_two i h2]
  generalize 2 ^ i = M at *
  rw [wrap_small _ (by omega) (by omega)]; omega
set_option maxHeartbeats 400000 in
theorem rwith_calls (p i : Nat) (to : Bool) (w : World) (hp : p < 64) (hi : i < 6) :
    Calls Tryz.prog 89 #[.int .i64 p, .int .i64 i, .bool to] w fun e w' => e = .returned (.int .i64 (Cho.put p i to : Nat)) ∧ w' = w := by
  have h2 : 2 ^ i ≤ 64 := Cho.two_pow_le i (by omega)
  have hz : Hid ((2 : Int) ^ i = ((2 ^ i : Nat) : Int)) := by show (2 : Int) ^ i = ((2 ^ i : Nat) : Int); simp
  have hM : Hid ((2 ^ i : Nat) ≤ 64) := h2
  cases hb : p.testBit i
  · obtain ⟨e1, e2, _⟩ := Cho.add_bit i hi p hp hb
    have E1 : Hid (p + 2 ^ i = Cho.put p i true) := e1
    have E2 : Hid (Cho.put p i false = p) := by show Cho.put p i false = p; simp [Cho.put, hb]
    have C : Hid (Calls Tryz.prog 75 #[.int .i64 p, .int .i64 i] w fun e w' => e = .returned (.bool false) ∧ w' = w) := by have := rbit_calls p i w hi; rw [hb] at this; exact this
    clear e1
    cases to
    · go_enter Tryz.func89, Tryz.ntmps89
      go_wp2_with fail
      refine C.out.mono ?_
      rintro e w1 ⟨rfl, rfl⟩
      go_wp2
      go_ret
      exact ⟨ret_int (by rw [E2.out]), rfl⟩
    · go_enter Tryz.func89, Tryz.ntmps89
      go_wp2_with fail
      refine C.out.mono ?_
      rintro e w1 ⟨rfl, rfl⟩
      go_wp2
      go_ret
      refine ⟨ret_int ?_, rfl⟩
      rw [← E1.out]
      exact with_add p i hp h2
  · obtain ⟨e1, e2, _⟩ := Cho.sub_bit i hi p hp hb
    have E1 : Hid (p - 2 ^ i = Cho.put p i false) := e2
    have E2 : Hid (Cho.put p i true = p) := by show Cho.put p i true = p; simp [Cho.put, hb]
    have C : Hid (Calls Tryz.prog 75 #[.int .i64 p, .int .i64 i] w fun e w' => e = .returned (.bool true) ∧ w' = w) := by have := rbit_calls p i w hi; rw [hb] at this; exact this
    have E3 : Hid (2 ^ i ≤ p) := e1
    clear e2 e1
    cases to
    · go_enter Tryz.func89, Tryz.ntmps89
      go_wp2_with fail
      refine C.out.mono ?_
      rintro e w1 ⟨rfl, rfl⟩
      go_wp2
      go_ret
      refine ⟨ret_int ?_, rfl⟩
      have := E3.out
      rw [← E1.out]
      exact with_sub p i hp h2 this
    · go_enter Tryz.func89, Tryz.ntmps89
      go_wp2_with fail
      refine C.out.mono ?_
      rintro e w1 ⟨rfl, rfl⟩
      go_wp2
      go_ret
      refine ⟨ret_int ?_, rfl⟩
      have := E3.out
      rw [E2.out]
      exact with_both p i hp h2 this

theorem setbit64 {u : Nat} (hu : U64 u) (p : Nat) (hp : p < 64) : bits .or .u64 (u : Int) (IntKind.u64.wrap (2 ^ p)) = ((u ||| 2 ^ p : Nat) : Int) := by
  have h2 : U64 (2 ^ p) := Nat.pow_lt_pow_right (by decide) hp
  have e : IntKind.u64.wrap (2 ^ p) = ((2 ^ p : Nat) : Int) := by
    rw [IntKind.wrap_u64, show ((2 : Int) ^ p) = ((2 ^ p : Nat) : Int) from by simp]
    have := h2.lt
    generalize 2 ^ p = M at *
    omega
  rw [e, or64 hu h2]

set_option maxHeartbeats 400000 in
theorem rfull_calls (s n : Nat) (w : World) (h0 : w.cell? ⟨s, 0, none⟩ = some (.int .i64 n)) (hn : n ≤ 6) :
    Calls Tryz.prog 70 #[.pointer (some ⟨s, 0, none⟩)] w fun e w' => e = .returned (.int .u64 (full n : Nat)) ∧ w' = w := by
  have h64 := Cho.two_pow_le n hn
  have H0 : Hid (w.cell? ⟨s, 0, none⟩ = some (.int .i64 n)) := h0
  have HF : Hid (Cho.bld (fun _ => true) (2 ^ n) = full n) := Cho.bld_full n
  clear h0
  go_enter Tryz.func70, Tryz.ntmps70
  go_wp2_with fail
  go_loopw [3, 4] (fun u i wr => ∃ k : Nat, k ≤ 2 ^ n ∧ i = .int .i64 k ∧ u = .int .u64 (Cho.bld (fun _ => true) k : Nat) ∧ wr = w) (fun _ i _ => 2 ^ n - (intOf i).toNat)
  case atStart => exact ⟨0, Nat.zero_le _, rfl, rfl, rfl⟩
  case round =>
    obtain ⟨k, hk, rfl, rfl, rfl⟩ := hrel
    generalize hN : 2 ^ n = N at *
    have HC : Hid (Calls Tryz.prog 74 #[.pointer (some ⟨s, 0, none⟩)] wr fun e w' => e = .returned (.int .i64 (N : Nat)) ∧ w' = wr) := by have := rplaces_calls s n wr H0.out hn; rw [hN] at this; exact this
    clear hN
    go_wp2_with fail
    refine HC.out.mono ?_
    rintro e w1 ⟨rfl, rfl⟩
    by_cases hlt : k < N
    · have E : Hid (Cho.bld (fun _ => true) (k + 1) = Cho.bld (fun _ => true) k ||| 2 ^ k) := rfl
      have hu := Cho.bld_u64 (fun _ => true) k (by omega)
      generalize Cho.bld (fun _ => true) k = u at *
      go_wp2_with fail
      refine ⟨⟨k + 1, hlt, by go_num, val_int ?_, trivial⟩, by simp [intOf]; omega⟩
      rw [E.out]
      exact setbit64 hu k (by omega)
    · go_wp2_with fail
      go_ret
      exact ⟨ret_int (by rw [← HF.out, show k = N from by omega]), rfl⟩
end Go.Proofs.YthoodkbdpnffdaaGreatDoor
