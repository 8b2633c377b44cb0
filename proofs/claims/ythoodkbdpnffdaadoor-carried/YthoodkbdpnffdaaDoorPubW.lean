/-
  Own work: what the public calls answer of functions that are live (walks over the contracts of the inner calls).
-/
import Derived.Test.YthoodkbdpnffdaaDoorInv
namespace Go.Proofs.YthoodkbdpnffdaaDoor
open Go.RowKit
open Cho (U64 Tab full col Nd Red)

/-- A store in memory, of which all holds that the calls keep. -/
structure Has (w : World) (s : Nat) (st : St) : Prop where
  lies : StoreAt w s st
  inv : Inv st
  few : st.ns.length ≤ 4000
theorem Has.below {w w' : World} {s : Nat} {st : St} (h : Has w s st) (hb : Below w.heap.size w w') : Has w' s st := ⟨h.lies.below hb, h.inv, h.few⟩

theorem add_ok (s t : Nat) (st : St) (w : World) (h : Has w s st) (hf : st.free < 30) (ht : Tab st.n t) (hroom : (st.added t).ns.length ≤ st.room) (hg : st.given + 1 < 4294967295) :
    Calls Tryd.prog 44 #[.pointer (some ⟨s, 0, none⟩), .int .u64 t] w fun e w' => e = .returned (.tuple #[.int .u32 (st.given + 1 : Nat), .int .i64 0]) ∧ Has w' s (st.added t) ∧ w.grownBy w' (some s) := by
  refine (add_walk s t st w h.lies hf (ht.u64 h.inv.n6) h.few hg).mono ?_
  rintro e w' ⟨_, h2, h3⟩
  obtain ⟨rfl, h4⟩ := h2 hroom
  exact ⟨rfl, ⟨h4, (added h.inv ht hf).inv, Nat.le_trans hroom h.lies.room⟩, h3⟩

set_option maxHeartbeats 400000 in
theorem make_ok (s t : Nat) (st : St) (w : World) (h : Has w s st) (hf : st.free < 30) (ht : Tab st.n t) (hroom : (st.added t).ns.length ≤ st.room) (hg : st.given + 1 < 4294967295) :
    Calls Tryd.prog 16 #[.pointer (some ⟨s, 0, none⟩), .int .u64 t] w fun e w' => e = .returned (.tuple #[.int .u32 (st.given + 1 : Nat), .int .i64 0]) ∧ Has w' s (st.added t) ∧ w.grownBy w' (some s) := by
  have H : Hid (Has w s st) := h
  have h0 : w.cell? ⟨s, 0, none⟩ = some (.int .i64 (st.n : Nat)) := by obtain ⟨_, _, _, _, hb, _⟩ := h.lies.ex; exact cell_of_block hb 0
  have hle : ¬ ((full st.n : Nat) : Int) < (t : Int) := by have : t < 2 ^ 2 ^ st.n := ht; unfold full; omega
  have hn := h.inv.n6
  clear h
  go_enter Tryd.func16, Tryd.ntmps16
  go_wp2_with fail
  refine (sfull_calls s st.n _ h0 hn).mono ?_
  rintro e w1 ⟨rfl, rfl⟩
  go_wp2_with fail
  refine (add_ok s t st _ H.out hf ht hroom hg).mono ?_
  rintro e w2 ⟨rfl, h2, h3⟩
  go_wp2_with fail
  go_ret2
  exact ⟨rfl, h2, h3⟩

set_option maxHeartbeats 400000 in
theorem table_ok (s a : Nat) (st : St) (w : World) (h : Has w s st) (hl : st.live a) :
    Calls Tryd.prog 42 #[.pointer (some ⟨s, 0, none⟩), .int .u32 a] w fun e w' => e = .returned (.tuple #[.int .u64 (st.tab a : Nat), .int .i64 0]) ∧ Below w.heap.size w w' := by
  have H : Hid (Has w s st) := h
  obtain ⟨go, capo, nv, B, hb, ho, hcur, hcap, hr⟩ := h.lies.ex
  have d0 : w.cell? ⟨s, 63, none⟩ = some (.slice (some ⟨go, 0, none⟩) st.ord.length capo) := (cell_of_block hb 63).trans (by rw [List.getElem?_toArray, at_63 h.lies.hs30 h.lies.rs30])
  have d1 : w.cell? ⟨s, 63 + 1, none⟩ = some nv := (cell_of_block hb 64).trans (by rw [List.getElem?_toArray, at_64 h.lies.hs30 h.lies.rs30])
  have HR : Hid (w.ownsRow B 122 3 nv st.ns.length (flat st.ns)) := hr
  have HD : Hid (w.cell? ⟨s, 63, none⟩ = some (.slice (some ⟨go, 0, none⟩) st.ord.length capo) ∧ w.cell? ⟨s, 63 + 1, none⟩ = some nv) := ⟨d0, d1⟩
  have HROOT : Hid (Calls Tryd.prog 46 #[.pointer (some ⟨s, 0, none⟩), .int .u32 a] w fun e w' => e = .returned (.tuple #[.int .i64 (st.root a : Nat), .int .i64 0]) ∧ w' = w) := root_yes s a st w h.lies hl
  have HT : Hid (st.tab a = tabTo st.ns (st.root a) (2 ^ st.n)) := rfl
  have hlen := h.inv.len
  have hrl := h.inv.root_lt hl
  have hfew := h.few
  have hn6 := h.inv.n6
  have HLEN : Hid (st.ord.length = st.n) := hlen
  clear h hb ho hcur hr d0 d1 hlen
  generalize st.tab a = T at *
  generalize st.root a = r at *
  go_enter Tryd.func42, Tryd.ntmps42
  go_wp2_with fail
  refine HROOT.out.mono ?_
  rintro e w1 ⟨rfl, rfl⟩
  go_wp2_with fail
  refine (dtable_calls s 63 B st.ord.length capo _ st.ns nv r _ HD.out.1 HD.out.2 HR.out H.out.inv.red.wf (fun n hn => H.out.inv.ord6 _ (H.out.inv.red.var n hn)) hrl (by rw [HLEN.out]; exact hn6) (by omega)).mono ?_
  rintro e w2 ⟨rfl, hb2⟩
  go_wp2_with fail
  go_ret2
  exact ⟨by rw [HT.out, HLEN.out]; rfl, hb2⟩

set_option maxHeartbeats 400000 in
theorem apply_ok (s c a b : Nat) (st : St) (w : World) (h : Has w s st) (hc : c < 16) (ha : st.live a) (hb : st.live b) (hf : st.free < 30)
    (hroom : (st.added (Cho.joinT c (st.tab a) (st.tab b) (full st.n))).ns.length ≤ st.room) (hg : st.given + 1 < 4294967295) :
    Calls Tryd.prog 17 #[.pointer (some ⟨s, 0, none⟩), .int .i64 c, .int .u32 a, .int .u32 b] w fun e w' => e = .returned (.tuple #[.int .u32 (st.given + 1 : Nat), .int .i64 0]) ∧
      Has w' s (st.added (Cho.joinT c (st.tab a) (st.tab b) (full st.n))) ∧ w.grownBy w' (some s) := by
  have H : Hid (Has w s st) := h
  have hn := h.inv.n6
  have ta := tab_tab st a
  have tb := tab_tab st b
  have HJ : Hid (Tab st.n (Cho.joinT c (st.tab a) (st.tab b) (full st.n))) := Cho.joinT_tab c _ _ _ ta tb
  have ua := ta.u64 hn
  have ub := tb.u64 hn
  clear h ta tb
  go_enter Tryd.func17, Tryd.ntmps17
  go_wp2_with fail
  refine (table_ok s a st _ H.out ha).mono ?_
  rintro e w1 ⟨rfl, b1⟩
  have H1 : Hid (Has w1 s st) := H.out.below b1
  go_wp2_with fail
  refine (table_ok s b st _ H1.out hb).mono ?_
  rintro e w2 ⟨rfl, b2⟩
  have H2 : Hid (Has w2 s st) := H1.out.below b2
  have h0 : w2.cell? ⟨s, 0, none⟩ = some (.int .i64 (st.n : Nat)) := by obtain ⟨_, _, _, _, hb, _⟩ := H2.out.lies.ex; exact cell_of_block hb 0
  go_wp2_with fail
  refine (sfull_calls s st.n _ h0 hn).mono ?_
  rintro e w3 ⟨rfl, rfl⟩
  go_wp2_with fail
  refine (join_calls c _ _ _ _ hc ua ub (Cho.full_u64 _ hn)).mono ?_
  rintro e w4 ⟨rfl, rfl⟩
  go_wp2_with fail
  refine (add_ok s _ st _ H2.out hf HJ.out hroom hg).mono ?_
  rintro e w5 ⟨rfl, h5, g5⟩
  go_wp2_with fail
  go_ret2
  exact ⟨rfl, h5, grown_trans (grown_of_below (b1.trans (b2.mono b1.size))) g5⟩

set_option maxHeartbeats 400000 in
theorem count_ok (s a : Nat) (st : St) (w : World) (h : Has w s st) (hl : st.live a) :
    Calls Tryd.prog 20 #[.pointer (some ⟨s, 0, none⟩), .int .u32 a] w fun e w' => e = .returned (.tuple #[.int .i64 (Cho.cnt (st.tab a) 64 : Nat), .int .i64 0]) ∧ Below w.heap.size w w' := by
  have H : Hid (Has w s st) := h
  have ua := (tab_tab st a).u64 h.inv.n6
  clear h
  go_enter Tryd.func20, Tryd.ntmps20
  go_wp2_with fail
  refine (table_ok s a st _ H.out hl).mono ?_
  rintro e w1 ⟨rfl, b1⟩
  go_wp2_with fail
  refine (count_calls _ _ ua).mono ?_
  rintro e w2 ⟨rfl, rfl⟩
  go_wp2_with fail
  go_ret2
  exact ⟨rfl, b1⟩

set_option maxHeartbeats 400000 in
theorem one_none (s a : Nat) (st : St) (w : World) (h : Has w s st) (hl : st.live a) (h0 : st.tab a = 0) :
    Calls Tryd.prog 21 #[.pointer (some ⟨s, 0, none⟩), .int .u32 a] w fun e w' => e = .returned (.tuple #[.int .u8 0, .int .i64 5]) ∧ Below w.heap.size w w' := by
  have HT := table_ok s a st w h hl
  rw [h0] at HT
  have H : Hid (Calls Tryd.prog 42 #[.pointer (some ⟨s, 0, none⟩), .int .u32 a] w fun e w' => e = .returned (.tuple #[.int .u64 (0 : Nat), .int .i64 0]) ∧ Below w.heap.size w w') := HT
  clear h HT h0
  go_enter Tryd.func21, Tryd.ntmps21
  go_wp2_with fail
  refine H.out.mono ?_
  rintro e w1 ⟨rfl, b1⟩
  go_wp2_with fail
  refine (least_none _).mono ?_
  rintro e w2 ⟨rfl, rfl⟩
  go_wp2_with fail
  go_ret2
  exact ⟨rfl, b1⟩

set_option maxHeartbeats 400000 in
theorem one_ok (s a : Nat) (st : St) (w : World) (h : Has w s st) (hl : st.live a) (h0 : st.tab a ≠ 0) (hlt : Cho.least (st.tab a) 64 < 64) :
    Calls Tryd.prog 21 #[.pointer (some ⟨s, 0, none⟩), .int .u32 a] w fun e w' => e = .returned (.tuple #[.int .u8 (Cho.least (st.tab a) 64 : Nat), .int .i64 0]) ∧ Below w.heap.size w w' := by
  have H : Hid (Has w s st) := h
  have ua := (tab_tab st a).u64 h.inv.n6
  have H0 : Hid (st.tab a ≠ 0) := h0
  clear h h0
  go_enter Tryd.func21, Tryd.ntmps21
  go_wp2_with fail
  refine (table_ok s a st _ H.out hl).mono ?_
  rintro e w1 ⟨rfl, b1⟩
  go_wp2_with fail
  refine (least_calls _ _ ua H0.out).mono ?_
  rintro e w2 ⟨rfl, rfl⟩
  go_wp2_with fail
  go_ret2
  exact ⟨rfl, b1⟩

set_option maxHeartbeats 400000 in
theorem same_ok (s a b : Nat) (st : St) (w : World) (h : Has w s st) (ha : st.live a) (hb : st.live b) :
    Calls Tryd.prog 19 #[.pointer (some ⟨s, 0, none⟩), .int .u32 a, .int .u32 b] w fun e w' => e = .returned (.tuple #[.bool (decide (st.tab a = st.tab b)), .int .i64 0]) ∧ w' = w := by
  have HA : Hid (Calls Tryd.prog 46 #[.pointer (some ⟨s, 0, none⟩), .int .u32 a] w fun e w' => e = .returned (.tuple #[.int .i64 (st.root a : Nat), .int .i64 0]) ∧ w' = w) := root_yes s a st w h.lies ha
  have HB : Hid (Calls Tryd.prog 46 #[.pointer (some ⟨s, 0, none⟩), .int .u32 b] w fun e w' => e = .returned (.tuple #[.int .i64 (st.root b : Nat), .int .i64 0]) ∧ w' = w) := root_yes s b st w h.lies hb
  have HS : Hid (st.root a = st.root b ↔ st.tab a = st.tab b) := same_iff h.inv ha hb
  clear h
  generalize st.root a = ra at *
  generalize st.root b = rb at *
  generalize st.tab a = ta at *
  generalize st.tab b = tb at *
  go_enter Tryd.func19, Tryd.ntmps19
  go_wp2_with fail
  refine HA.out.mono ?_
  rintro e w1 ⟨rfl, rfl⟩
  go_wp2_with fail
  refine HB.out.mono ?_
  rintro e w2 ⟨rfl, rfl⟩
  go_wp2_with fail
  go_ret2
  refine ⟨?_, rfl⟩
  have e1 : ((ra : Int) == (rb : Int)) = decide (ta = tb) := by
    rw [Bool.eq_iff_iff]; simp [← HS.out]; omega
  rw [e1]
  rfl

set_option maxHeartbeats 400000 in
theorem eval_ok (s a p : Nat) (st : St) (w : World) (h : Has w s st) (hl : st.live a) (hp : p < 2 ^ st.n) :
    Calls Tryd.prog 23 #[.pointer (some ⟨s, 0, none⟩), .int .u32 a, .int .u8 p] w fun e w' => e = .returned (.tuple #[.bool ((st.tab a).testBit p), .int .i64 0]) ∧ Below w.heap.size w w' := by
  have H : Hid (Has w s st) := h
  obtain ⟨go, capo, nv, B, hb, ho, hcur, hcap, hr⟩ := h.lies.ex
  have h0 : w.cell? ⟨s, 0, none⟩ = some (.int .i64 (st.n : Nat)) := cell_of_block hb 0
  have d1 : w.cell? ⟨s, 63 + 1, none⟩ = some nv := (cell_of_block hb 64).trans (by rw [List.getElem?_toArray, at_64 h.lies.hs30 h.lies.rs30])
  have HR : Hid (w.ownsRow B 122 3 nv st.ns.length (flat st.ns)) := hr
  have HD : Hid (w.cell? ⟨s, 63 + 1, none⟩ = some nv) := d1
  have HROOT : Hid (Calls Tryd.prog 46 #[.pointer (some ⟨s, 0, none⟩), .int .u32 a] w fun e w' => e = .returned (.tuple #[.int .i64 (st.root a : Nat), .int .i64 0]) ∧ w' = w) := root_yes s a st w h.lies hl
  have HT : Hid ((st.tab a).testBit p = Cho.ev st.ns (st.root a) p) := tab_bit st a p hp
  have hrl := h.inv.root_lt hl
  have hfew := h.few
  have hn6 := h.inv.n6
  have h64 := Cho.two_pow_le _ hn6
  have HP : Hid (p < 2 ^ st.n) := hp
  clear h hb ho hcur hr d1 hp
  generalize (st.tab a).testBit p = T at *
  generalize st.root a = r at *
  have hp256 : p < 256 := by have := HP.out; omega
  have hle : ¬ wrap64 (2 ^ st.n) ≤ (p : Int) := by
    rw [wrap64_pow _ hn6]; have := HP.out; omega
  go_enter Tryd.func23, Tryd.ntmps23
  go_wp2_with fail
  refine HROOT.out.mono ?_
  rintro e w1 ⟨rfl, rfl⟩
  go_wp2_with fail
  refine (says_calls s 63 B st.ns nv r p _ HD.out HR.out H.out.inv.red.wf (fun n hn => H.out.inv.ord6 _ (H.out.inv.red.var n hn)) hrl hp256 (by omega)).mono ?_
  rintro e w2 ⟨rfl, hb2⟩
  go_wp2_with fail
  go_ret2
  exact ⟨by rw [HT.out]; rfl, hb2⟩
end Go.Proofs.YthoodkbdpnffdaaDoor
