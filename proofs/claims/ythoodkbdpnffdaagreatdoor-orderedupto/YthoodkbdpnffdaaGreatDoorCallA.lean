/-
  Own work: the program's calls in all cases, as functions of what the store is: those that make functions (walks over contracts).
-/
import Derived.Test.YthoodkbdpnffdaaGreatDoorPutW
import Derived.Test.YthoodkbdpnffdaaGreatDoorRefL
namespace Go.Proofs.YthoodkbdpnffdaaGreatDoor
open Go.RowKit
open Cho (U64 Tab full col Nd Red)

theorem Has.vars {w : World} {s : Nat} {st : St} (h : Has w s st) : w.cell? ⟨s, 0, none⟩ = some (.int .i64 (st.n : Nat)) := by
  obtain ⟨_, _, _, _, hb, _⟩ := h.lies.ex; exact cell_of_block hb 0
/-- What a call on the store in block s leaves. -/
structure CStep (w w' : World) (s : Nat) (st' : St) : Prop where
  has : Has w' s st'
  gr : w.grownBy w' (some s)
theorem CStep.same {w w' : World} {s : Nat} {st : St} (h : Has w s st) (hb : Below w.heap.size w w') : CStep w w' s st := ⟨h.below hb, grown_of_below hb⟩
theorem CStep.before {w w1 w' : World} {s : Nat} {st' : St} (hb : Below w.heap.size w w1) (h : CStep w1 w' s st') : CStep w w' s st' := ⟨h.has, grown_trans (grown_of_below hb) h.gr⟩

theorem add_calls (s t : Nat) (st : St) (w : World) (h : Has w s st) (ht : Tab st.n t) (hg : st.given + 1 < 4294967295) :
    Calls Tryz.prog 67 #[.pointer (some ⟨s, 0, none⟩), .int .u64 t] w fun e w' => e = .returned (.tuple #[.int .u32 ((st.made t).2.1 : Nat), .int .i64 ((st.made t).2.2 : Nat)]) ∧ CStep w w' s (st.made t).1 := by
  unfold St.made
  by_cases hf : st.free < 30
  · rw [if_pos hf]
    refine (add_walk s t st w h.lies hf (ht.u64 h.inv.n6) h.few hg).mono ?_
    rintro e w' ⟨h1, h2, h3⟩
    by_cases hr : (st.added t).ns.length ≤ st.room
    · rw [if_pos hr]
      obtain ⟨rfl, h4⟩ := h2 hr
      exact ⟨rfl, ⟨h4, (added h.inv ht hf).inv, Nat.le_trans hr h.lies.room⟩, h3⟩
    · rw [if_neg hr]
      obtain ⟨rfl, h4⟩ := h1 (Nat.lt_of_not_le hr)
      exact ⟨rfl, ⟨h4, h.inv, h.few⟩, h3⟩
  · rw [if_neg hf]
    refine (add_many s t st w h.lies hf).mono ?_
    rintro e w' ⟨rfl, rfl⟩
    exact ⟨rfl, .same h (Below.refl _ _)⟩

set_option maxHeartbeats 400000 in
theorem table_no (s a : Nat) (st : St) (w : World) (h : StoreAt w s st) (hl : ¬ st.live a) :
    Calls Tryz.prog 36 #[.pointer (some ⟨s, 0, none⟩), .int .u32 a] w fun e w' => e = .returned (.tuple #[.int .u64 0, .int .i64 2]) ∧ w' = w := by
  have HR : Hid (Calls Tryz.prog 85 #[.pointer (some ⟨s, 0, none⟩), .int .u32 a] w fun e w' => e = .returned (.tuple #[.int .i64 0, .int .i64 2]) ∧ w' = w) := root_no s a st w h hl
  clear h
  go_enter Tryz.func36, Tryz.ntmps36
  go_wp2_with fail
  refine HR.out.mono ?_
  rintro e w1 ⟨rfl, rfl⟩
  go_wp2_with fail
  go_ret2
  exact ⟨rfl, rfl⟩
theorem table_some (s a f : Nat) (st : St) (w : World) (h : Has w s st) (ha : st.get a = some f) :
    Calls Tryz.prog 36 #[.pointer (some ⟨s, 0, none⟩), .int .u32 a] w fun e w' => e = .returned (.tuple #[.int .u64 (f : Nat), .int .i64 0]) ∧ Below w.heap.size w w' := by
  obtain ⟨hl, rfl⟩ := St.live_of ha
  exact table_ok s a st w h hl
theorem table_none (s a : Nat) (st : St) (w : World) (h : Has w s st) (ha : st.get a = none) :
    Calls Tryz.prog 36 #[.pointer (some ⟨s, 0, none⟩), .int .u32 a] w fun e w' => e = .returned (.tuple #[.int .u64 0, .int .i64 2]) ∧ Below w.heap.size w w' := by
  refine (table_no s a st w h.lies (St.dead_of ha)).mono ?_
  rintro e w' ⟨rfl, rfl⟩
  exact ⟨rfl, Below.refl _ _⟩
theorem sget_tab {st : St} {a f : Nat} (ha : st.get a = some f) : Tab st.n f := by
  obtain ⟨hl, rfl⟩ := St.live_of ha
  exact tab_tab st a

set_option maxHeartbeats 400000 in
theorem hasVar_yes (s n : Nat) (i : Int) (w : World) (h0 : w.cell? ⟨s, 0, none⟩ = some (.int .i64 n)) (hi : 0 ≤ i ∧ i < n) :
    Calls Tryz.prog 71 #[.pointer (some ⟨s, 0, none⟩), .int .i64 i] w fun e w' => e = .returned (.bool true) ∧ w' = w := by
  obtain ⟨k, rfl⟩ : ∃ k : Nat, i = k := ⟨i.toNat, by omega⟩
  exact hasVar_calls s k n w h0 (by omega)
set_option maxHeartbeats 400000 in
theorem hasVar_no (s n : Nat) (i : Int) (w : World) (h0 : w.cell? ⟨s, 0, none⟩ = some (.int .i64 n)) (hi : ¬ (0 ≤ i ∧ i < n)) :
    Calls Tryz.prog 71 #[.pointer (some ⟨s, 0, none⟩), .int .i64 i] w fun e w' => e = .returned (.bool false) ∧ w' = w := by
  by_cases h1 : i < 0
  · clear hi
    go_enter Tryz.func71, Tryz.ntmps71
    go_wp2_with fail
    go_ret
    exact ⟨rfl, rfl⟩
  · have h2 : 0 ≤ i := by omega
    have h3 : ¬ i < (n : Int) := by omega
    have h4 : decide (i < (n : Int)) = false := by simp; omega
    have H4 : Hid (decide (i < (n : Int)) = false) := h4
    clear hi h1 h4
    go_enter Tryz.func71, Tryz.ntmps71
    go_wp2_with fail
    go_ret
    refine ⟨ret_bool ?_, rfl⟩
    first | rfl | exact H4.out

set_option maxHeartbeats 1000000 in
theorem const_calls (s : Nat) (v : Bool) (st : St) (w : World) (h : Has w s st) (hg : st.given + 1 < 4294967295) :
    Calls Tryz.prog 21 #[.pointer (some ⟨s, 0, none⟩), .bool v] w fun e w' => e = .returned (.tuple #[.int .u32 ((st.made (if v then full st.n else 0)).2.1 : Nat), .int .i64 ((st.made (if v then full st.n else 0)).2.2 : Nat)]) ∧ CStep w w' s (st.made (if v then full st.n else 0)).1 := by
  have H : Hid (Has w s st) := h
  clear h
  cases v
  · go_enter Tryz.func21, Tryz.ntmps21
    go_wp2_with fail
    refine (add_calls s 0 st _ H.out (Nat.two_pow_pos _) hg).mono ?_
    rintro e w1 ⟨rfl, h1⟩
    have H1 : Hid _ := h1
    clear h1
    go_wp2_with fail
    go_ret2
    exact ⟨rfl, H1.out⟩
  · go_enter Tryz.func21, Tryz.ntmps21
    go_wp2_with fail
    refine (sfull_calls s st.n _ H.out.vars H.out.inv.n6).mono ?_
    rintro e w1 ⟨rfl, rfl⟩
    go_wp2_with fail
    refine (add_calls s (full st.n) st _ H.out (Cho.full_tab _) hg).mono ?_
    rintro e w2 ⟨rfl, h1⟩
    have H1 : Hid _ := h1
    clear h1
    go_wp2_with fail
    go_ret2
    exact ⟨rfl, H1.out⟩

def St.var (st : St) (i : Int) : St × Nat × Nat := if 0 ≤ i ∧ i < st.n then st.made (col i.toNat &&& full st.n) else (st, 0, 1)
set_option maxHeartbeats 1000000 in
theorem var_calls (s : Nat) (i : Int) (st : St) (w : World) (h : Has w s st) (hg : st.given + 1 < 4294967295) :
    Calls Tryz.prog 24 #[.pointer (some ⟨s, 0, none⟩), .int .i64 i] w fun e w' => e = .returned (.tuple #[.int .u32 ((st.var i).2.1 : Nat), .int .i64 ((st.var i).2.2 : Nat)]) ∧ CStep w w' s (st.var i).1 := by
  have H : Hid (Has w s st) := h
  have hn := h.inv.n6
  have h0 := h.vars
  clear h
  by_cases hi : 0 ≤ i ∧ i < st.n
  · have HI : Hid (0 ≤ i ∧ i < st.n) := hi
    have HV : Hid (st.var i = st.made (col i.toNat &&& full st.n)) := if_pos hi
    obtain ⟨k, rfl⟩ : ∃ k : Nat, i = k := ⟨i.toNat, by omega⟩
    rw [Int.toNat_natCast] at HV
    have hk : k < st.n := by omega
    have HT : Hid (Tab st.n (col k &&& full st.n)) := Nat.lt_of_le_of_lt Nat.and_le_right (Cho.full_tab _)
    clear hi
    go_enter Tryz.func24, Tryz.ntmps24
    go_wp2_with fail
    refine (hasVar_yes s st.n k _ H.out.vars HI.out).mono ?_
    rintro e w1 ⟨rfl, rfl⟩
    go_wp2_with fail
    refine (variable_calls k st.n _ H.out.lies.cols (by omega) hn).mono ?_
    rintro e w2 ⟨rfl, q, rfl⟩
    have B2 : Hid (Below w1.heap.size w1 (w1.drewN q)) := below_dr _ _
    generalize w1.drewN q = w2 at *
    go_wp2_with fail
    refine (add_calls s _ st _ (H.out.below B2.out) HT.out hg).mono ?_
    rintro e w3 ⟨rfl, h1⟩
    have H1 : Hid _ := h1
    clear h1
    go_wp2_with fail
    go_ret2
    rw [HV.out]
    exact ⟨rfl, H1.out.before B2.out⟩
  · have HI : Hid (¬ (0 ≤ i ∧ i < st.n)) := hi
    have HV : Hid (st.var i = (st, 0, 1)) := if_neg hi
    clear hi
    go_enter Tryz.func24, Tryz.ntmps24
    go_wp2_with fail
    refine (hasVar_no s st.n i _ H.out.vars HI.out).mono ?_
    rintro e w1 ⟨rfl, rfl⟩
    go_wp2_with fail
    go_ret2
    rw [HV.out]
    exact ⟨rfl, .same H.out (Below.refl _ _)⟩

def St.make (st : St) (t : Nat) : St × Nat × Nat := if t ≤ full st.n then st.made t else (st, 0, 1)
set_option maxHeartbeats 1000000 in
theorem make_calls (s t : Nat) (st : St) (w : World) (h : Has w s st) (hg : st.given + 1 < 4294967295) :
    Calls Tryz.prog 26 #[.pointer (some ⟨s, 0, none⟩), .int .u64 t] w fun e w' => e = .returned (.tuple #[.int .u32 ((st.make t).2.1 : Nat), .int .i64 ((st.make t).2.2 : Nat)]) ∧ CStep w w' s (st.make t).1 := by
  have H : Hid (Has w s st) := h
  clear h
  by_cases hi : t ≤ full st.n
  · have HV : Hid (st.make t = st.made t) := if_pos hi
    have HT : Hid (Tab st.n t) := by have := Cho.full_tab st.n; show t < 2 ^ 2 ^ st.n; unfold Cho.Tab at this; omega
    have hb : ¬ ((full st.n : Nat) : Int) < (t : Int) := by omega
    go_enter Tryz.func26, Tryz.ntmps26
    go_wp2_with fail
    refine (sfull_calls s st.n _ H.out.vars H.out.inv.n6).mono ?_
    rintro e w1 ⟨rfl, rfl⟩
    go_wp2_with fail
    refine (add_calls s t st _ H.out HT.out hg).mono ?_
    rintro e w3 ⟨rfl, h1⟩
    have H1 : Hid _ := h1
    clear h1
    go_wp2_with fail
    go_ret2
    rw [HV.out]
    exact ⟨rfl, H1.out⟩
  · have HV : Hid (st.make t = (st, 0, 1)) := if_neg hi
    have hb : ((full st.n : Nat) : Int) < (t : Int) := by omega
    go_enter Tryz.func26, Tryz.ntmps26
    go_wp2_with fail
    refine (sfull_calls s st.n _ H.out.vars H.out.inv.n6).mono ?_
    rintro e w1 ⟨rfl, rfl⟩
    go_wp2_with fail
    go_ret2
    rw [HV.out]
    exact ⟨rfl, .same H.out (Below.refl _ _)⟩

def St.apply (st : St) (c : Int) (a b : Nat) : St × Nat × Nat :=
  if 0 ≤ c ∧ c ≤ 15 then
    match st.get a, st.get b with
    | some x, some y => st.made (Cho.joinT c.toNat x y (full st.n))
    | _, _ => (st, 0, 2)
  else (st, 0, 1)
set_option maxRecDepth 100000 in
set_option maxHeartbeats 2000000 in
theorem apply_calls (s a b : Nat) (c : Int) (st : St) (w : World) (h : Has w s st) (hg : st.given + 1 < 4294967295) :
    Calls Tryz.prog 28 #[.pointer (some ⟨s, 0, none⟩), .int .i64 c, .int .u32 a, .int .u32 b] w fun e w' => e = .returned (.tuple #[.int .u32 ((st.apply c a b).2.1 : Nat), .int .i64 ((st.apply c a b).2.2 : Nat)]) ∧ CStep w w' s (st.apply c a b).1 := by
  have H : Hid (Has w s st) := h
  have hn := h.inv.n6
  clear h
  by_cases hc : 0 ≤ c ∧ c ≤ 15
  · obtain ⟨k, rfl⟩ : ∃ k : Nat, c = k := ⟨c.toNat, by omega⟩
    have hk : k < 16 := by omega
    cases ha : st.get a with
    | none =>
      have HGa : Hid (st.get a = none) := ha
      cases hb : st.get b with
      | none =>
        have HGb : Hid (st.get b = none) := hb
        have E : Hid (st.apply k a b = (st, 0, 2)) := by show st.apply k a b = _; unfold St.apply; rw [if_pos hc, ha]; try rw [hb]
        clear ha hb hc
        go_enter Tryz.func28, Tryz.ntmps28
        go_wp2_with fail
        refine (table_none s a st _ H.out HGa.out).mono ?_
        rintro e wt0 ⟨rfl, bt0⟩
        have HT0 : Hid (Has wt0 s st) := H.out.below bt0
        have BT0 : Hid (Below w.heap.size w wt0) := bt0
        clear bt0
        go_wp2_with fail
        refine (table_none s b st _ HT0.out HGb.out).mono ?_
        rintro e wt1 ⟨rfl, bt1⟩
        have HT1 : Hid (Has wt1 s st) := HT0.out.below bt1
        have BT1 : Hid (Below w.heap.size w wt1) := below_trans BT0.out bt1
        clear bt1
        go_wp2_with fail
        go_ret2
        rw [E.out]
        exact ⟨rfl, .same H.out BT1.out⟩
      | some g =>
        have HGb : Hid (st.get b = some g) := hb
        have E : Hid (st.apply k a b = (st, 0, 2)) := by show st.apply k a b = _; unfold St.apply; rw [if_pos hc, ha]; try rw [hb]
        clear ha hb hc
        go_enter Tryz.func28, Tryz.ntmps28
        go_wp2_with fail
        refine (table_none s a st _ H.out HGa.out).mono ?_
        rintro e wt0 ⟨rfl, bt0⟩
        have HT0 : Hid (Has wt0 s st) := H.out.below bt0
        have BT0 : Hid (Below w.heap.size w wt0) := bt0
        clear bt0
        go_wp2_with fail
        refine (table_some s b g st _ HT0.out HGb.out).mono ?_
        rintro e wt1 ⟨rfl, bt1⟩
        have HT1 : Hid (Has wt1 s st) := HT0.out.below bt1
        have BT1 : Hid (Below w.heap.size w wt1) := below_trans BT0.out bt1
        clear bt1
        go_wp2_with fail
        go_ret2
        rw [E.out]
        exact ⟨rfl, .same H.out BT1.out⟩
    | some f =>
      have HGa : Hid (st.get a = some f) := ha
      cases hb : st.get b with
      | none =>
        have HGb : Hid (st.get b = none) := hb
        have E : Hid (st.apply k a b = (st, 0, 2)) := by show st.apply k a b = _; unfold St.apply; rw [if_pos hc, ha]; try rw [hb]
        clear ha hb hc
        go_enter Tryz.func28, Tryz.ntmps28
        go_wp2_with fail
        refine (table_some s a f st _ H.out HGa.out).mono ?_
        rintro e wt0 ⟨rfl, bt0⟩
        have HT0 : Hid (Has wt0 s st) := H.out.below bt0
        have BT0 : Hid (Below w.heap.size w wt0) := bt0
        clear bt0
        go_wp2_with fail
        refine (table_none s b st _ HT0.out HGb.out).mono ?_
        rintro e wt1 ⟨rfl, bt1⟩
        have HT1 : Hid (Has wt1 s st) := HT0.out.below bt1
        have BT1 : Hid (Below w.heap.size w wt1) := below_trans BT0.out bt1
        clear bt1
        go_wp2_with fail
        go_ret2
        rw [E.out]
        exact ⟨rfl, .same H.out BT1.out⟩
      | some g =>
        have HGb : Hid (st.get b = some g) := hb
        have E : Hid (st.apply k a b = st.made (Cho.joinT k f g (full st.n))) := by show st.apply k a b = _; unfold St.apply; rw [if_pos hc, ha, hb]; rfl
        have tf := sget_tab ha
        have tg := sget_tab hb
        have HJ : Hid (Tab st.n (Cho.joinT k f g (full st.n))) := Cho.joinT_tab k f g _ tf tg
        have uf := tf.u64 hn
        have ug := tg.u64 hn
        clear tf tg
        clear ha hb hc
        go_enter Tryz.func28, Tryz.ntmps28
        go_wp2_with fail
        refine (table_some s a f st _ H.out HGa.out).mono ?_
        rintro e wt0 ⟨rfl, bt0⟩
        have HT0 : Hid (Has wt0 s st) := H.out.below bt0
        have BT0 : Hid (Below w.heap.size w wt0) := bt0
        clear bt0
        go_wp2_with fail
        refine (table_some s b g st _ HT0.out HGb.out).mono ?_
        rintro e wt1 ⟨rfl, bt1⟩
        have HT1 : Hid (Has wt1 s st) := HT0.out.below bt1
        have BT1 : Hid (Below w.heap.size w wt1) := below_trans BT0.out bt1
        clear bt1
        go_wp2_with fail
        refine (sfull_calls s st.n _ HT1.out.vars hn).mono ?_
        rintro e w3 ⟨rfl, rfl⟩
        go_wp2_with fail
        refine (join_calls k _ _ _ _ hk uf ug (Cho.full_u64 _ hn)).mono ?_
        rintro e w4 ⟨rfl, rfl⟩
        go_wp2_with fail
        refine (add_calls s _ st _ HT1.out HJ.out hg).mono ?_
        rintro e w5 ⟨rfl, h1⟩
        have H1 : Hid _ := h1
        clear h1
        go_wp2_with fail
        go_ret2
        rw [E.out]
        exact ⟨rfl, H1.out.before BT1.out⟩
  · have E : Hid (st.apply c a b = (st, 0, 1)) := if_neg hc
    by_cases h0 : c < 0
    · clear hc
      go_enter Tryz.func28, Tryz.ntmps28
      go_wp2_with fail
      go_ret2
      rw [E.out]
      exact ⟨rfl, .same H.out (Below.refl _ _)⟩
    · have h15 : 15 < c := by omega
      have h0' : 0 ≤ c := by omega
      clear hc h0
      go_enter Tryz.func28, Tryz.ntmps28
      go_wp2_with fail
      go_ret2
      rw [E.out]
      exact ⟨rfl, .same H.out (Below.refl _ _)⟩
end Go.Proofs.YthoodkbdpnffdaaGreatDoor
