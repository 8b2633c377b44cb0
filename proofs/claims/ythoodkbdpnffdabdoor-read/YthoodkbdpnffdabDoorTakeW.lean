/-
  Own work: what the public calls answer of functions that are live (walks over the contracts of the inner calls).
-/
import Derived.Test.YthoodkbdpnffdabDoorInv
import Derived.Test.YthoodkbdpnffdabDoorPlainI
import Derived.Test.YthoodkbdpnffdabDoorPlainK
import Derived.Test.YthoodkbdpnffdabDoorStoreM
import Derived.Test.YthoodkbdpnffdabDoorKeepA
import Derived.Laws.CopyOwn
namespace Go.Proofs.YthoodkbdpnffdabDoor
open Go.RowKit
open Cho (U64 Tab full col Nd Red)

/-- A store in memory, of which all holds that the calls keep. -/
structure Has (w : World) (s : Nat) (st : St) : Prop where
  lies : StoreAt w s st
  inv : Inv st
  few : st.ns.length ≤ 4000
theorem Has.below {w w' : World} {s : Nat} {st : St} (h : Has w s st) (hb : Below w.heap.size w w') : Has w' s st := ⟨h.lies.below hb, h.inv, h.few⟩

theorem add_ok (s t : Nat) (st : St) (w : World) (h : Has w s st) (hf : st.free < 30) (ht : Tab st.n t) (hroom : (st.added t).ns.length ≤ st.room) (hg : st.given + 1 < 4294967295) :
    Calls Tryd.prog 15 #[.pointer (some ⟨s, 0, none⟩), .int .u64 t] w fun e w' => e = .returned (.tuple #[.int .u32 (st.given + 1 : Nat), .int .i64 0]) ∧ Has w' s (st.added t) ∧ w.grownBy w' (some s) := by
  refine (add_walk s t st w h.lies hf (ht.u64 h.inv.n6) h.few hg).mono ?_
  rintro e w' ⟨_, h2, h3⟩
  obtain ⟨rfl, h4⟩ := h2 hroom
  exact ⟨rfl, ⟨h4, (added h.inv ht hf).inv, Nat.le_trans hroom h.lies.room⟩, h3⟩

set_option maxHeartbeats 400000 in
theorem table_ok (s a : Nat) (st : St) (w : World) (h : Has w s st) (hl : st.live a) :
    Calls Tryd.prog 21 #[.pointer (some ⟨s, 0, none⟩), .int .u32 a] w fun e w' => e = .returned (.tuple #[.int .u64 (st.tab a : Nat), .int .i64 0]) ∧ Below w.heap.size w w' := by
  have H : Hid (Has w s st) := h
  obtain ⟨go, capo, nv, B, hb, ho, hcur, hcap, hr⟩ := h.lies.ex
  have d0 : w.cell? ⟨s, 63, none⟩ = some (.slice (some ⟨go, 0, none⟩) st.ord.length capo) := (cell_of_block hb 63).trans (by rw [List.getElem?_toArray, at_63 h.lies.hs30 h.lies.rs30])
  have d1 : w.cell? ⟨s, 63 + 1, none⟩ = some nv := (cell_of_block hb 64).trans (by rw [List.getElem?_toArray, at_64 h.lies.hs30 h.lies.rs30])
  have HR : Hid (w.ownsRow B 78 3 nv st.ns.length (flat st.ns)) := hr
  have HD : Hid (w.cell? ⟨s, 63, none⟩ = some (.slice (some ⟨go, 0, none⟩) st.ord.length capo) ∧ w.cell? ⟨s, 63 + 1, none⟩ = some nv) := ⟨d0, d1⟩
  have HROOT : Hid (Calls Tryd.prog 19 #[.pointer (some ⟨s, 0, none⟩), .int .u32 a] w fun e w' => e = .returned (.tuple #[.int .i64 (st.root a : Nat), .int .i64 0]) ∧ w' = w) := root_yes s a st w h.lies hl
  have HT : Hid (st.tab a = tabTo st.ns (st.root a) (2 ^ st.n)) := rfl
  have hlen := h.inv.len
  have hrl := h.inv.root_lt hl
  have hfew := h.few
  have hn6 := h.inv.n6
  have HLEN : Hid (st.ord.length = st.n) := hlen
  clear h hb ho hcur hr d0 d1 hlen
  generalize st.tab a = T at *
  generalize st.root a = r at *
  go_enter Tryd.func21, Tryd.ntmps21
  go_wp2_with fail
  refine HROOT.out.mono ?_
  rintro e w1 ⟨rfl, rfl⟩
  go_wp2_with fail
  refine (dtable_calls s 63 B st.ord.length capo _ st.ns nv r _ HD.out.1 HD.out.2 HR.out H.out.inv.red.wf (fun n hn => H.out.inv.ord6 _ (H.out.inv.red.var n hn)) hrl (by rw [HLEN.out]; exact hn6) (by omega)).mono ?_
  rintro e w2 ⟨rfl, hb2⟩
  go_wp2_with fail
  go_ret2
  exact ⟨by rw [HT.out, HLEN.out]; rfl, hb2⟩

set_option maxHeartbeats 400000 in
theorem same_ok (s a b : Nat) (st : St) (w : World) (h : Has w s st) (ha : st.live a) (hb : st.live b) :
    Calls Tryd.prog 8 #[.pointer (some ⟨s, 0, none⟩), .int .u32 a, .int .u32 b] w fun e w' => e = .returned (.tuple #[.bool (decide (st.tab a = st.tab b)), .int .i64 0]) ∧ w' = w := by
  have HA : Hid (Calls Tryd.prog 19 #[.pointer (some ⟨s, 0, none⟩), .int .u32 a] w fun e w' => e = .returned (.tuple #[.int .i64 (st.root a : Nat), .int .i64 0]) ∧ w' = w) := root_yes s a st w h.lies ha
  have HB : Hid (Calls Tryd.prog 19 #[.pointer (some ⟨s, 0, none⟩), .int .u32 b] w fun e w' => e = .returned (.tuple #[.int .i64 (st.root b : Nat), .int .i64 0]) ∧ w' = w) := root_yes s b st w h.lies hb
  have HS : Hid (st.root a = st.root b ↔ st.tab a = st.tab b) := same_iff h.inv ha hb
  clear h
  generalize st.root a = ra at *
  generalize st.root b = rb at *
  generalize st.tab a = ta at *
  generalize st.tab b = tb at *
  go_enter Tryd.func8, Tryd.ntmps8
  go_wp2_with fail
  refine HA.out.mono ?_
  rintro e w1 ⟨rfl, rfl⟩
  go_wp2_with fail
  refine HB.out.mono ?_
  rintro e w2 ⟨rfl, rfl⟩
  go_wp2_with fail
  go_ret2
  refine ⟨?_, rfl⟩
  have e1 : ((ra : Int) == (rb : Int)) = decide (ta = tb) := by
    rw [Bool.eq_iff_iff]; simp [← HS.out]; omega
  rw [e1]
  rfl

end Go.Proofs.YthoodkbdpnffdabDoor

/-
  Own work: 'Size' counts the nodes that are reached (walks); 'Var' makes a variable's function (a walk).
-/
namespace Go.Proofs.YthoodkbdpnffdabDoor
open Go.RowKit
open Cho (U64 Tab full col Nd Red)

/-- How many nodes a handle's function has. -/
def St.size (st : St) (a : Nat) : Nat := Cho.size st.ns (st.root a)

set_option maxHeartbeats 400000 in
theorem hasVar_calls (s i n : Nat) (w : World) (h0 : w.cell? ⟨s, 0, none⟩ = some (.int .i64 n)) (hi : i < n) :
    Calls Tryd.prog 17 #[.pointer (some ⟨s, 0, none⟩), .int .i64 i] w fun e w' => e = .returned (.bool true) ∧ w' = w := by
  have h1 : decide ((0 : Int) ≤ (i : Int)) = true := by simp
  have h2 : decide ((i : Int) < (n : Int)) = true := by simp; omega
  go_enter Tryd.func17, Tryd.ntmps17
  go_wp2_with fail
  go_ret
  exact ⟨rfl, rfl⟩

theorem grown_drewN {w w' : World} {r : Option Nat} {q : Nat} (h : (w.drewN q).grownBy w' r) : w.grownBy w' r := by
  have hb : Below w.heap.size w (w.drewN q) := below_drewN (Below.refl _ _) q
  exact grown_trans (grown_of_below hb) h

set_option maxHeartbeats 400000 in
theorem var_ok (s i : Nat) (st : St) (w : World) (h : Has w s st) (hi : i < st.n) (hf : st.free < 30) (hroom : (st.added (col i &&& full st.n)).ns.length ≤ st.room) (hg : st.given + 1 < 4294967295) :
    Calls Tryd.prog 7 #[.pointer (some ⟨s, 0, none⟩), .int .i64 i] w fun e w' => e = .returned (.tuple #[.int .u32 (st.given + 1 : Nat), .int .i64 0]) ∧ Has w' s (st.added (col i &&& full st.n)) ∧ w.grownBy w' (some s) := by
  have H : Hid (Has w s st) := h
  have h0 : w.cell? ⟨s, 0, none⟩ = some (.int .i64 (st.n : Nat)) := by obtain ⟨_, _, _, _, hb, _⟩ := h.lies.ex; exact cell_of_block hb 0
  have hn := h.inv.n6
  have HT : Hid (Tab st.n (col i &&& full st.n)) := by
    show col i &&& full st.n < 2 ^ 2 ^ st.n
    have : col i &&& full st.n ≤ full st.n := Nat.and_le_right
    unfold full at *
    have := Nat.two_pow_pos (2 ^ st.n)
    omega
  clear h
  go_enter Tryd.func7, Tryd.ntmps7
  go_wp2_with fail
  refine (hasVar_calls s i st.n _ h0 hi).mono ?_
  rintro e w1 ⟨rfl, rfl⟩
  go_wp2_with fail
  refine (variable_calls i st.n _ H.out.lies.cols (by omega) hn).mono ?_
  rintro e w2 ⟨rfl, q, rfl⟩
  have H2 : Hid (Has (w1.drewN q) s st) := H.out.below (below_drewN (Below.refl _ _) q)
  go_wp2_with fail
  refine (add_ok s _ st _ H2.out hf HT.out hroom hg).mono ?_
  rintro e w3 ⟨rfl, h3, g3⟩
  go_wp2_with fail
  go_ret2
  exact ⟨rfl, h3, grown_drewN g3⟩
end Go.Proofs.YthoodkbdpnffdabDoor

/-
  Own work: 'take' puts other nodes in the place of a store's (a walk).
-/
namespace Go.Proofs.YthoodkbdpnffdabDoor
open Go.RowKit
open Cho (U64 Tab full col Nd Red)

theorem cells_rs (st : St) (ov nv : Value) (rs' : List Nat) (h30 : st.hs.length = 30) (r30 : st.rs.length = 30) (l30 : rs'.length = 30) :
    (cellsOf st ov nv).take 33 ++ (lv rs' ++ (cellsOf st ov nv).drop (33 + (lv rs').length)) = cellsOf { st with rs := rs' } ov nv := by
  have e1 : (cellsOf st ov nv).take 33 = .int .i64 st.n :: .int .i64 st.room :: .int .u32 st.given :: hv st.hs := by
    simp only [cellsOf, List.take_succ_cons]
    rw [List.take_append_of_le_length (by rw [hv_len]; omega), List.take_of_length_le (by rw [hv_len]; omega)]
  have e2 : (cellsOf st ov nv).drop (33 + (lv rs').length) = [ov, nv] := by
    rw [lv_len, l30]
    simp only [cellsOf, List.drop_succ_cons]
    rw [List.drop_append, List.drop_append, hv_len, lv_len, h30, r30]
    simp [List.drop_eq_nil_of_le, hv_len, h30]
    rw [lv_len]; omega
  rw [e1, e2]
  simp [cellsOf]
theorem infoLinkS : (Tryd.prog.info? 46).map (·.size) = some 1 := by kernel_rfl
theorem lv_one (l : List Nat) : ∀ u ∈ lv l, u.oneCell' = true := by
  intro u hu
  simp only [lv, List.mem_map] at hu
  obtain ⟨n, _, rfl⟩ := hu
  rfl

end Go.Proofs.YthoodkbdpnffdabDoor
