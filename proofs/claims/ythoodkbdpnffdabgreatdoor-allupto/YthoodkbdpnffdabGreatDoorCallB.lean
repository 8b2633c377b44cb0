/-
  Own work: the program's calls in all cases: Ite, Restrict, Compose, Quantify (walks over contracts).
-/
import Derived.Test.YthoodkbdpnffdabGreatDoorCallA
namespace Go.Proofs.YthoodkbdpnffdabGreatDoor
open Go.RowKit
open Cho (U64 Tab full col Nd Red)

def St.ite (st : St) (a b c : Nat) : St × Nat × Nat :=
  match st.get a, st.get b, st.get c with
  | some x, some y, some z => st.made (Cho.chooseT x y z)
  | _, _, _ => (st, 0, 2)
set_option maxRecDepth 100000 in
set_option maxHeartbeats 2000000 in
theorem ite_calls (s a b c : Nat) (st : St) (w : World) (h : Has w s st) (hg : st.given + 1 < 4294967295) :
    Calls Tryz.prog 28 #[.pointer (some ⟨s, 0, none⟩), .int .u32 a, .int .u32 b, .int .u32 c] w fun e w' => e = .returned (.tuple #[.int .u32 ((st.ite a b c).2.1 : Nat), .int .i64 ((st.ite a b c).2.2 : Nat)]) ∧ CStep w w' s (st.ite a b c).1 := by
  have H : Hid (Has w s st) := h
  have hn := h.inv.n6
  clear h
  cases ha : st.get a with
  | none =>
    have HGa : Hid (st.get a = none) := ha
    cases hb : st.get b with
    | none =>
      have HGb : Hid (st.get b = none) := hb
      cases hc : st.get c with
      | none =>
        have HGc : Hid (st.get c = none) := hc
        have E : Hid (st.ite a b c = (st, 0, 2)) := by show st.ite a b c = _; unfold St.ite; rw [ha]; try rw [hb]; try rw [hc]
        clear ha hb hc
        go_enter Tryz.func28, Tryz.ntmps28
        go_wp2_with fail
        refine (table_none s a st _ H.out HGa.out).mono ?_
        rintro e wt0 ⟨rfl, bt0⟩
        have HT0 : Hid (Has wt0 s st) := H.out.below bt0
        have BT0 : Hid (Below w.heap.size w wt0) := bt0
        clear bt0
        go_wp2_with fail
        refine (table_none s b st _ HT0.out HGb.out).mono ?_
        rintro e wt1 ⟨rfl, bt1⟩
        have HT1 : Hid (Has wt1 s st) := HT0.out.below bt1
        have BT1 : Hid (Below w.heap.size w wt1) := below_trans BT0.out bt1
        clear bt1
        go_wp2_with fail
        refine (table_none s c st _ HT1.out HGc.out).mono ?_
        rintro e wt2 ⟨rfl, bt2⟩
        have HT2 : Hid (Has wt2 s st) := HT1.out.below bt2
        have BT2 : Hid (Below w.heap.size w wt2) := below_trans BT1.out bt2
        clear bt2
        go_wp2_with fail
        go_ret2
        rw [E.out]
        exact ⟨rfl, .same H.out BT2.out⟩
      | some k =>
        have HGc : Hid (st.get c = some k) := hc
        have E : Hid (st.ite a b c = (st, 0, 2)) := by show st.ite a b c = _; unfold St.ite; rw [ha]; try rw [hb]; try rw [hc]
        clear ha hb hc
        go_enter Tryz.func28, Tryz.ntmps28
        go_wp2_with fail
        refine (table_none s a st _ H.out HGa.out).mono ?_
        rintro e wt0 ⟨rfl, bt0⟩
        have HT0 : Hid (Has wt0 s st) := H.out.below bt0
        have BT0 : Hid (Below w.heap.size w wt0) := bt0
        clear bt0
        go_wp2_with fail
        refine (table_none s b st _ HT0.out HGb.out).mono ?_
        rintro e wt1 ⟨rfl, bt1⟩
        have HT1 : Hid (Has wt1 s st) := HT0.out.below bt1
        have BT1 : Hid (Below w.heap.size w wt1) := below_trans BT0.out bt1
        clear bt1
        go_wp2_with fail
        refine (table_some s c k st _ HT1.out HGc.out).mono ?_
        rintro e wt2 ⟨rfl, bt2⟩
        have HT2 : Hid (Has wt2 s st) := HT1.out.below bt2
        have BT2 : Hid (Below w.heap.size w wt2) := below_trans BT1.out bt2
        clear bt2
        go_wp2_with fail
        go_ret2
        rw [E.out]
        exact ⟨rfl, .same H.out BT2.out⟩
    | some g =>
      have HGb : Hid (st.get b = some g) := hb
      cases hc : st.get c with
      | none =>
        have HGc : Hid (st.get c = none) := hc
        have E : Hid (st.ite a b c = (st, 0, 2)) := by show st.ite a b c = _; unfold St.ite; rw [ha]; try rw [hb]; try rw [hc]
        clear ha hb hc
        go_enter Tryz.func28, Tryz.ntmps28
        go_wp2_with fail
        refine (table_none s a st _ H.out HGa.out).mono ?_
        rintro e wt0 ⟨rfl, bt0⟩
        have HT0 : Hid (Has wt0 s st) := H.out.below bt0
        have BT0 : Hid (Below w.heap.size w wt0) := bt0
        clear bt0
        go_wp2_with fail
        refine (table_some s b g st _ HT0.out HGb.out).mono ?_
        rintro e wt1 ⟨rfl, bt1⟩
        have HT1 : Hid (Has wt1 s st) := HT0.out.below bt1
        have BT1 : Hid (Below w.heap.size w wt1) := below_trans BT0.out bt1
        clear bt1
        go_wp2_with fail
        refine (table_none s c st _ HT1.out HGc.out).mono ?_
        rintro e wt2 ⟨rfl, bt2⟩
        have HT2 : Hid (Has wt2 s st) := HT1.out.below bt2
        have BT2 : Hid (Below w.heap.size w wt2) := below_trans BT1.out bt2
        clear bt2
        go_wp2_with fail
        go_ret2
        rw [E.out]
        exact ⟨rfl, .same H.out BT2.out⟩
      | some k =>
        have HGc : Hid (st.get c = some k) := hc
        have E : Hid (st.ite a b c = (st, 0, 2)) := by show st.ite a b c = _; unfold St.ite; rw [ha]; try rw [hb]; try rw [hc]
        clear ha hb hc
        go_enter Tryz.func28, Tryz.ntmps28
        go_wp2_with fail
        refine (table_none s a st _ H.out HGa.out).mono ?_
        rintro e wt0 ⟨rfl, bt0⟩
        have HT0 : Hid (Has wt0 s st) := H.out.below bt0
        have BT0 : Hid (Below w.heap.size w wt0) := bt0
        clear bt0
        go_wp2_with fail
        refine (table_some s b g st _ HT0.out HGb.out).mono ?_
        rintro e wt1 ⟨rfl, bt1⟩
        have HT1 : Hid (Has wt1 s st) := HT0.out.below bt1
        have BT1 : Hid (Below w.heap.size w wt1) := below_trans BT0.out bt1
        clear bt1
        go_wp2_with fail
        refine (table_some s c k st _ HT1.out HGc.out).mono ?_
        rintro e wt2 ⟨rfl, bt2⟩
        have HT2 : Hid (Has wt2 s st) := HT1.out.below bt2
        have BT2 : Hid (Below w.heap.size w wt2) := below_trans BT1.out bt2
        clear bt2
        go_wp2_with fail
        go_ret2
        rw [E.out]
        exact ⟨rfl, .same H.out BT2.out⟩
  | some f =>
    have HGa : Hid (st.get a = some f) := ha
    cases hb : st.get b with
    | none =>
      have HGb : Hid (st.get b = none) := hb
      cases hc : st.get c with
      | none =>
        have HGc : Hid (st.get c = none) := hc
        have E : Hid (st.ite a b c = (st, 0, 2)) := by show st.ite a b c = _; unfold St.ite; rw [ha]; try rw [hb]; try rw [hc]
        clear ha hb hc
        go_enter Tryz.func28, Tryz.ntmps28
        go_wp2_with fail
        refine (table_some s a f st _ H.out HGa.out).mono ?_
        rintro e wt0 ⟨rfl, bt0⟩
        have HT0 : Hid (Has wt0 s st) := H.out.below bt0
        have BT0 : Hid (Below w.heap.size w wt0) := bt0
        clear bt0
        go_wp2_with fail
        refine (table_none s b st _ HT0.out HGb.out).mono ?_
        rintro e wt1 ⟨rfl, bt1⟩
        have HT1 : Hid (Has wt1 s st) := HT0.out.below bt1
        have BT1 : Hid (Below w.heap.size w wt1) := below_trans BT0.out bt1
        clear bt1
        go_wp2_with fail
        refine (table_none s c st _ HT1.out HGc.out).mono ?_
        rintro e wt2 ⟨rfl, bt2⟩
        have HT2 : Hid (Has wt2 s st) := HT1.out.below bt2
        have BT2 : Hid (Below w.heap.size w wt2) := below_trans BT1.out bt2
        clear bt2
        go_wp2_with fail
        go_ret2
        rw [E.out]
        exact ⟨rfl, .same H.out BT2.out⟩
      | some k =>
        have HGc : Hid (st.get c = some k) := hc
        have E : Hid (st.ite a b c = (st, 0, 2)) := by show st.ite a b c = _; unfold St.ite; rw [ha]; try rw [hb]; try rw [hc]
        clear ha hb hc
        go_enter Tryz.func28, Tryz.ntmps28
        go_wp2_with fail
        refine (table_some s a f st _ H.out HGa.out).mono ?_
        rintro e wt0 ⟨rfl, bt0⟩
        have HT0 : Hid (Has wt0 s st) := H.out.below bt0
        have BT0 : Hid (Below w.heap.size w wt0) := bt0
        clear bt0
        go_wp2_with fail
        refine (table_none s b st _ HT0.out HGb.out).mono ?_
        rintro e wt1 ⟨rfl, bt1⟩
        have HT1 : Hid (Has wt1 s st) := HT0.out.below bt1
        have BT1 : Hid (Below w.heap.size w wt1) := below_trans BT0.out bt1
        clear bt1
        go_wp2_with fail
        refine (table_some s c k st _ HT1.out HGc.out).mono ?_
        rintro e wt2 ⟨rfl, bt2⟩
        have HT2 : Hid (Has wt2 s st) := HT1.out.below bt2
        have BT2 : Hid (Below w.heap.size w wt2) := below_trans BT1.out bt2
        clear bt2
        go_wp2_with fail
        go_ret2
        rw [E.out]
        exact ⟨rfl, .same H.out BT2.out⟩
    | some g =>
      have HGb : Hid (st.get b = some g) := hb
      cases hc : st.get c with
      | none =>
        have HGc : Hid (st.get c = none) := hc
        have E : Hid (st.ite a b c = (st, 0, 2)) := by show st.ite a b c = _; unfold St.ite; rw [ha]; try rw [hb]; try rw [hc]
        clear ha hb hc
        go_enter Tryz.func28, Tryz.ntmps28
        go_wp2_with fail
        refine (table_some s a f st _ H.out HGa.out).mono ?_
        rintro e wt0 ⟨rfl, bt0⟩
        have HT0 : Hid (Has wt0 s st) := H.out.below bt0
        have BT0 : Hid (Below w.heap.size w wt0) := bt0
        clear bt0
        go_wp2_with fail
        refine (table_some s b g st _ HT0.out HGb.out).mono ?_
        rintro e wt1 ⟨rfl, bt1⟩
        have HT1 : Hid (Has wt1 s st) := HT0.out.below bt1
        have BT1 : Hid (Below w.heap.size w wt1) := below_trans BT0.out bt1
        clear bt1
        go_wp2_with fail
        refine (table_none s c st _ HT1.out HGc.out).mono ?_
        rintro e wt2 ⟨rfl, bt2⟩
        have HT2 : Hid (Has wt2 s st) := HT1.out.below bt2
        have BT2 : Hid (Below w.heap.size w wt2) := below_trans BT1.out bt2
        clear bt2
        go_wp2_with fail
        go_ret2
        rw [E.out]
        exact ⟨rfl, .same H.out BT2.out⟩
      | some k =>
        have HGc : Hid (st.get c = some k) := hc
        have E : Hid (st.ite a b c = st.made (Cho.chooseT f g k)) := by show st.ite a b c = _; unfold St.ite; rw [ha, hb, hc]
        have tf := sget_tab ha
        have tg := sget_tab hb
        have tk := sget_tab hc
        have HJ : Hid (Tab st.n (Cho.chooseT f g k)) := Cho.chooseT_tab tg tk
        have uf := tf.u64 hn
        have ug := tg.u64 hn
        have uk := tk.u64 hn
        clear tf tg tk
        clear ha hb hc
        go_enter Tryz.func28, Tryz.ntmps28
        go_wp2_with fail
        refine (table_some s a f st _ H.out HGa.out).mono ?_
        rintro e wt0 ⟨rfl, bt0⟩
        have HT0 : Hid (Has wt0 s st) := H.out.below bt0
        have BT0 : Hid (Below w.heap.size w wt0) := bt0
        clear bt0
        go_wp2_with fail
        refine (table_some s b g st _ HT0.out HGb.out).mono ?_
        rintro e wt1 ⟨rfl, bt1⟩
        have HT1 : Hid (Has wt1 s st) := HT0.out.below bt1
        have BT1 : Hid (Below w.heap.size w wt1) := below_trans BT0.out bt1
        clear bt1
        go_wp2_with fail
        refine (table_some s c k st _ HT1.out HGc.out).mono ?_
        rintro e wt2 ⟨rfl, bt2⟩
        have HT2 : Hid (Has wt2 s st) := HT1.out.below bt2
        have BT2 : Hid (Below w.heap.size w wt2) := below_trans BT1.out bt2
        clear bt2
        go_wp2_with fail
        refine (choose_calls _ _ _ _ uf ug uk).mono ?_
        rintro e w4 ⟨rfl, rfl⟩
        go_wp2_with fail
        refine (add_calls s _ st _ HT2.out HJ.out hg).mono ?_
        rintro e w5 ⟨rfl, h1⟩
        have H1 : Hid _ := h1
        clear h1
        go_wp2_with fail
        go_ret2
        rw [E.out]
        exact ⟨rfl, H1.out.before BT2.out⟩

def St.restrict (st : St) (a : Nat) (v : Int) (to : Bool) : St × Nat × Nat :=
  if 0 ≤ v ∧ v < st.n then
    match st.get a with
    | some x => st.made (Cho.fix x v.toNat to)
    | none => (st, 0, 2)
  else (st, 0, 1)
def St.compose (st : St) (a : Nat) (v : Int) (b : Nat) : St × Nat × Nat :=
  if 0 ≤ v ∧ v < st.n then
    match st.get a, st.get b with
    | some x, some y => st.made (Cho.putT x v.toNat y)
    | _, _ => (st, 0, 2)
  else (st, 0, 1)
def St.quantify (st : St) (a x : Nat) (all : Bool) : St × Nat × Nat :=
  if x < 2 ^ st.n then
    match st.get a with
    | some f => st.made (Cho.quantT f x all)
    | none => (st, 0, 2)
  else (st, 0, 1)

set_option maxRecDepth 100000 in
set_option maxHeartbeats 2000000 in
theorem restrict_calls (s a : Nat) (v : Int) (to : Bool) (st : St) (w : World) (h : Has w s st) (hg : st.given + 1 < 4294967295) :
    Calls Tryz.prog 48 #[.pointer (some ⟨s, 0, none⟩), .int .u32 a, .int .i64 v, .bool to] w fun e w' => e = .returned (.tuple #[.int .u32 ((st.restrict a v to).2.1 : Nat), .int .i64 ((st.restrict a v to).2.2 : Nat)]) ∧ CStep w w' s (st.restrict a v to).1 := by
  have H : Hid (Has w s st) := h
  have hn := h.inv.n6
  clear h
  by_cases hv : 0 ≤ v ∧ v < st.n
  · have HV : Hid (0 ≤ v ∧ v < st.n) := hv
    cases ha : st.get a with
    | none =>
      have HGa : Hid (st.get a = none) := ha
      have E : Hid (st.restrict a v to = (st, 0, 2)) := by show st.restrict a v to = _; unfold St.restrict; rw [if_pos hv, ha]
      clear ha hv
      go_enter Tryz.func48, Tryz.ntmps48
      go_wp2_with fail
      refine (hasVar_yes s st.n v _ H.out.vars HV.out).mono ?_
      rintro e w0 ⟨rfl, rfl⟩
      go_wp2_with fail
      refine (table_none s a st _ H.out HGa.out).mono ?_
      rintro e w1 ⟨rfl, b1⟩
      have B1 : Hid _ := b1
      clear b1
      go_wp2_with fail
      go_ret2
      rw [E.out]
      exact ⟨rfl, .same H.out B1.out⟩
    | some f =>
      have HGa : Hid (st.get a = some f) := ha
      obtain ⟨k, rfl⟩ : ∃ k : Nat, v = k := ⟨v.toNat, by omega⟩
      have hk : k < st.n := by omega
      have E : Hid (st.restrict a k to = st.made (Cho.fix f k to)) := by show st.restrict a k to = _; unfold St.restrict; rw [if_pos hv, ha]; rfl
      have tf := sget_tab ha
      have HJ : Hid (Tab st.n (Cho.fix f k to)) := Cho.fix_tab k to tf hn hk
      have uf := tf.u64 hn
      clear ha hv tf
      go_enter Tryz.func48, Tryz.ntmps48
      go_wp2_with fail
      refine (hasVar_yes s st.n k _ H.out.vars HV.out).mono ?_
      rintro e w0 ⟨rfl, rfl⟩
      go_wp2_with fail
      refine (table_some s a f st _ H.out HGa.out).mono ?_
      rintro e w1 ⟨rfl, b1⟩
      have B1 : Hid (Below w0.heap.size w0 w1) := b1
      have H1 : Hid (Has w1 s st) := H.out.below b1
      clear b1
      go_wp2_with fail
      refine (fix_calls f k to _ H1.out.lies.cols uf (by omega)).mono ?_
      rintro e w4 ⟨rfl, rfl⟩
      go_wp2_with fail
      refine (add_calls s _ st _ H1.out HJ.out hg).mono ?_
      rintro e w5 ⟨rfl, h2⟩
      have H2 : Hid _ := h2
      clear h2
      go_wp2_with fail
      go_ret2
      rw [E.out]
      exact ⟨rfl, H2.out.before B1.out⟩
  · have HV : Hid (¬ (0 ≤ v ∧ v < st.n)) := hv
    have E : Hid (st.restrict a v to = (st, 0, 1)) := if_neg hv
    clear hv
    go_enter Tryz.func48, Tryz.ntmps48
    go_wp2_with fail
    refine (hasVar_no s st.n v _ H.out.vars HV.out).mono ?_
    rintro e w0 ⟨rfl, rfl⟩
    go_wp2_with fail
    go_ret2
    rw [E.out]
    exact ⟨rfl, .same H.out (Below.refl _ _)⟩

set_option maxRecDepth 100000 in
set_option maxHeartbeats 2000000 in
theorem compose_calls (s a b : Nat) (v : Int) (st : St) (w : World) (h : Has w s st) (hg : st.given + 1 < 4294967295) :
    Calls Tryz.prog 50 #[.pointer (some ⟨s, 0, none⟩), .int .u32 a, .int .i64 v, .int .u32 b] w fun e w' => e = .returned (.tuple #[.int .u32 ((st.compose a v b).2.1 : Nat), .int .i64 ((st.compose a v b).2.2 : Nat)]) ∧ CStep w w' s (st.compose a v b).1 := by
  have H : Hid (Has w s st) := h
  have hn := h.inv.n6
  clear h
  by_cases hv : 0 ≤ v ∧ v < st.n
  · have HV : Hid (0 ≤ v ∧ v < st.n) := hv
    obtain ⟨k, rfl⟩ : ∃ k : Nat, v = k := ⟨v.toNat, by omega⟩
    have hk : k < st.n := by omega
    cases ha : st.get a with
    | none =>
      have HGa : Hid (st.get a = none) := ha
      cases hb : st.get b with
      | none =>
        have HGb : Hid (st.get b = none) := hb
        have E : Hid (st.compose a k b = (st, 0, 2)) := by show st.compose a k b = _; unfold St.compose; rw [if_pos hv, ha]; try rw [hb]
        clear ha hb hv
        go_enter Tryz.func50, Tryz.ntmps50
        go_wp2_with fail
        refine (hasVar_yes s st.n k _ H.out.vars HV.out).mono ?_
        rintro e w0 ⟨rfl, rfl⟩
        go_wp2_with fail
        refine (table_none s a st _ H.out HGa.out).mono ?_
        rintro e wt0 ⟨rfl, bt0⟩
        have HT0 : Hid (Has wt0 s st) := H.out.below bt0
        have BT0 : Hid (Below w0.heap.size w0 wt0) := bt0
        clear bt0
        go_wp2_with fail
        refine (table_none s b st _ HT0.out HGb.out).mono ?_
        rintro e wt1 ⟨rfl, bt1⟩
        have HT1 : Hid (Has wt1 s st) := HT0.out.below bt1
        have BT1 : Hid (Below w0.heap.size w0 wt1) := below_trans BT0.out bt1
        clear bt1
        go_wp2_with fail
        go_ret2
        rw [E.out]
        exact ⟨rfl, .same H.out BT1.out⟩
      | some g =>
        have HGb : Hid (st.get b = some g) := hb
        have E : Hid (st.compose a k b = (st, 0, 2)) := by show st.compose a k b = _; unfold St.compose; rw [if_pos hv, ha]; try rw [hb]
        clear ha hb hv
        go_enter Tryz.func50, Tryz.ntmps50
        go_wp2_with fail
        refine (hasVar_yes s st.n k _ H.out.vars HV.out).mono ?_
        rintro e w0 ⟨rfl, rfl⟩
        go_wp2_with fail
        refine (table_none s a st _ H.out HGa.out).mono ?_
        rintro e wt0 ⟨rfl, bt0⟩
        have HT0 : Hid (Has wt0 s st) := H.out.below bt0
        have BT0 : Hid (Below w0.heap.size w0 wt0) := bt0
        clear bt0
        go_wp2_with fail
        refine (table_some s b g st _ HT0.out HGb.out).mono ?_
        rintro e wt1 ⟨rfl, bt1⟩
        have HT1 : Hid (Has wt1 s st) := HT0.out.below bt1
        have BT1 : Hid (Below w0.heap.size w0 wt1) := below_trans BT0.out bt1
        clear bt1
        go_wp2_with fail
        go_ret2
        rw [E.out]
        exact ⟨rfl, .same H.out BT1.out⟩
    | some f =>
      have HGa : Hid (st.get a = some f) := ha
      cases hb : st.get b with
      | none =>
        have HGb : Hid (st.get b = none) := hb
        have E : Hid (st.compose a k b = (st, 0, 2)) := by show st.compose a k b = _; unfold St.compose; rw [if_pos hv, ha]; try rw [hb]
        clear ha hb hv
        go_enter Tryz.func50, Tryz.ntmps50
        go_wp2_with fail
        refine (hasVar_yes s st.n k _ H.out.vars HV.out).mono ?_
        rintro e w0 ⟨rfl, rfl⟩
        go_wp2_with fail
        refine (table_some s a f st _ H.out HGa.out).mono ?_
        rintro e wt0 ⟨rfl, bt0⟩
        have HT0 : Hid (Has wt0 s st) := H.out.below bt0
        have BT0 : Hid (Below w0.heap.size w0 wt0) := bt0
        clear bt0
        go_wp2_with fail
        refine (table_none s b st _ HT0.out HGb.out).mono ?_
        rintro e wt1 ⟨rfl, bt1⟩
        have HT1 : Hid (Has wt1 s st) := HT0.out.below bt1
        have BT1 : Hid (Below w0.heap.size w0 wt1) := below_trans BT0.out bt1
        clear bt1
        go_wp2_with fail
        go_ret2
        rw [E.out]
        exact ⟨rfl, .same H.out BT1.out⟩
      | some g =>
        have HGb : Hid (st.get b = some g) := hb
        have E : Hid (st.compose a k b = st.made (Cho.putT f k g)) := by show st.compose a k b = _; unfold St.compose; rw [if_pos hv, ha, hb]; rfl
        have tf := sget_tab ha
        have tg := sget_tab hb
        have HJ : Hid (Tab st.n (Cho.putT f k g)) := Cho.putT_tab k g tf hn hk
        have uf := tf.u64 hn
        have ug := tg.u64 hn
        clear tf tg
        clear ha hb hv
        go_enter Tryz.func50, Tryz.ntmps50
        go_wp2_with fail
        refine (hasVar_yes s st.n k _ H.out.vars HV.out).mono ?_
        rintro e w0 ⟨rfl, rfl⟩
        go_wp2_with fail
        refine (table_some s a f st _ H.out HGa.out).mono ?_
        rintro e wt0 ⟨rfl, bt0⟩
        have HT0 : Hid (Has wt0 s st) := H.out.below bt0
        have BT0 : Hid (Below w0.heap.size w0 wt0) := bt0
        clear bt0
        go_wp2_with fail
        refine (table_some s b g st _ HT0.out HGb.out).mono ?_
        rintro e wt1 ⟨rfl, bt1⟩
        have HT1 : Hid (Has wt1 s st) := HT0.out.below bt1
        have BT1 : Hid (Below w0.heap.size w0 wt1) := below_trans BT0.out bt1
        clear bt1
        go_wp2_with fail
        refine (put_calls f k g _ HT1.out.lies.cols uf (by omega) ug).mono ?_
        rintro e w4 ⟨rfl, rfl⟩
        go_wp2_with fail
        refine (add_calls s _ st _ HT1.out HJ.out hg).mono ?_
        rintro e w5 ⟨rfl, h1⟩
        have H1 : Hid _ := h1
        clear h1
        go_wp2_with fail
        go_ret2
        rw [E.out]
        exact ⟨rfl, H1.out.before BT1.out⟩
  · have HV : Hid (¬ (0 ≤ v ∧ v < st.n)) := hv
    have E : Hid (st.compose a v b = (st, 0, 1)) := if_neg hv
    clear hv
    go_enter Tryz.func50, Tryz.ntmps50
    go_wp2_with fail
    refine (hasVar_no s st.n v _ H.out.vars HV.out).mono ?_
    rintro e w0 ⟨rfl, rfl⟩
    go_wp2_with fail
    go_ret2
    rw [E.out]
    exact ⟨rfl, .same H.out (Below.refl _ _)⟩

set_option maxRecDepth 100000 in
set_option maxHeartbeats 2000000 in
theorem quantify_calls (s a x : Nat) (all : Bool) (st : St) (w : World) (h : Has w s st) (hg : st.given + 1 < 4294967295) (hx8 : x < 256) :
    Calls Tryz.prog 52 #[.pointer (some ⟨s, 0, none⟩), .int .u32 a, .int .u8 x, .bool all] w fun e w' => e = .returned (.tuple #[.int .u32 ((st.quantify a x all).2.1 : Nat), .int .i64 ((st.quantify a x all).2.2 : Nat)]) ∧ CStep w w' s (st.quantify a x all).1 := by
  have H : Hid (Has w s st) := h
  have hn := h.inv.n6
  have h64 := Cho.two_pow_le _ hn
  have h0 := h.vars
  clear h
  by_cases hx : x < 2 ^ st.n
  · have hle : ¬ wrap64 (2 ^ st.n) ≤ (x : Int) := by rw [wrap64_pow _ hn]; omega
    cases ha : st.get a with
    | none =>
      have HGa : Hid (st.get a = none) := ha
      have E : Hid (st.quantify a x all = (st, 0, 2)) := by show st.quantify a x all = _; unfold St.quantify; rw [if_pos hx, ha]
      clear ha hx h64
      go_enter Tryz.func52, Tryz.ntmps52
      go_wp2_with fail
      refine (table_none s a st _ H.out HGa.out).mono ?_
      rintro e w1 ⟨rfl, b1⟩
      have B1 : Hid _ := b1
      clear b1
      go_wp2_with fail
      go_ret2
      rw [E.out]
      exact ⟨rfl, .same H.out B1.out⟩
    | some f =>
      have HGa : Hid (st.get a = some f) := ha
      have E : Hid (st.quantify a x all = st.made (Cho.quantT f x all)) := by show st.quantify a x all = _; unfold St.quantify; rw [if_pos hx, ha]
      have tf := sget_tab ha
      have HJ : Hid (Tab st.n (Cho.quantT f x all)) := Cho.quantT_tab all tf hn hx
      have uf := tf.u64 hn
      clear ha hx h64 tf
      cases all
      · go_enter Tryz.func52, Tryz.ntmps52
        go_wp2_with fail
        refine (table_some s a f st _ H.out HGa.out).mono ?_
        rintro e w1 ⟨rfl, b1⟩
        have B1 : Hid (Below w.heap.size w w1) := b1
        have H1 : Hid (Has w1 s st) := H.out.below b1
        clear b1
        go_wp2_with fail
        refine (some_calls f x _ H1.out.lies.cols uf hx8).mono ?_
        rintro e w4 ⟨rfl, rfl⟩
        go_wp2_with fail
        refine (add_calls s _ st _ H1.out HJ.out hg).mono ?_
        rintro e w5 ⟨rfl, h2⟩
        have H2 : Hid _ := h2
        clear h2
        go_wp2_with fail
        go_ret2
        rw [E.out]
        exact ⟨rfl, H2.out.before B1.out⟩
      · go_enter Tryz.func52, Tryz.ntmps52
        go_wp2_with fail
        refine (table_some s a f st _ H.out HGa.out).mono ?_
        rintro e w1 ⟨rfl, b1⟩
        have B1 : Hid (Below w.heap.size w w1) := b1
        have H1 : Hid (Has w1 s st) := H.out.below b1
        clear b1
        go_wp2_with fail
        refine (all_calls f x _ H1.out.lies.cols uf hx8).mono ?_
        rintro e w4 ⟨rfl, rfl⟩
        go_wp2_with fail
        refine (add_calls s _ st _ H1.out HJ.out hg).mono ?_
        rintro e w5 ⟨rfl, h2⟩
        have H2 : Hid _ := h2
        clear h2
        go_wp2_with fail
        go_ret2
        rw [E.out]
        exact ⟨rfl, H2.out.before B1.out⟩
  · have hle : wrap64 (2 ^ st.n) ≤ (x : Int) := by rw [wrap64_pow _ hn]; omega
    have E : Hid (st.quantify a x all = (st, 0, 1)) := if_neg hx
    clear hx h64
    go_enter Tryz.func52, Tryz.ntmps52
    go_wp2_with fail
    go_ret2
    rw [E.out]
    exact ⟨rfl, .same H.out (Below.refl _ _)⟩
end Go.Proofs.YthoodkbdpnffdabGreatDoor
