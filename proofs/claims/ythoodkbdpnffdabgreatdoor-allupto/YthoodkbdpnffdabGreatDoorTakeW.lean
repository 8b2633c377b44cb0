/-
  Own work: what the public calls answer of functions that are live (walks over the contracts of the inner calls).
-/
import Derived.Test.YthoodkbdpnffdabGreatDoorInv
import Derived.Test.YthoodkbdpnffdabGreatDoorPlainI
import Derived.Test.YthoodkbdpnffdabGreatDoorStoreM
import Derived.Test.YthoodkbdpnffdabGreatDoorKeepA
import Derived.Laws.CopyOwn
namespace Go.Proofs.YthoodkbdpnffdabGreatDoor
open Go.RowKit
open Cho (U64 Tab full col Nd Red)

/-- A store in memory, of which all holds that the calls keep. -/
structure Has (w : World) (s : Nat) (st : St) : Prop where
  lies : StoreAt w s st
  inv : Inv st
  few : st.ns.length ≤ 4000
theorem Has.below {w w' : World} {s : Nat} {st : St} (h : Has w s st) (hb : Below w.heap.size w w') : Has w' s st := ⟨h.lies.below hb, h.inv, h.few⟩

theorem add_ok (s t : Nat) (st : St) (w : World) (h : Has w s st) (hf : st.free < 30) (ht : Tab st.n t) (hroom : (st.added t).ns.length ≤ st.room) (hg : st.given + 1 < 4294967295) :
    Calls Tryz.prog 65 #[.pointer (some ⟨s, 0, none⟩), .int .u64 t] w fun e w' => e = .returned (.tuple #[.int .u32 (st.given + 1 : Nat), .int .i64 0]) ∧ Has w' s (st.added t) ∧ w.grownBy w' (some s) := by
  refine (add_walk s t st w h.lies hf (ht.u64 h.inv.n6) h.few hg).mono ?_
  rintro e w' ⟨_, h2, h3⟩
  obtain ⟨rfl, h4⟩ := h2 hroom
  exact ⟨rfl, ⟨h4, (added h.inv ht hf).inv, Nat.le_trans hroom h.lies.room⟩, h3⟩

set_option maxHeartbeats 400000 in
theorem make_ok (s t : Nat) (st : St) (w : World) (h : Has w s st) (hf : st.free < 30) (ht : Tab st.n t) (hroom : (st.added t).ns.length ≤ st.room) (hg : st.given + 1 < 4294967295) :
    Calls Tryz.prog 24 #[.pointer (some ⟨s, 0, none⟩), .int .u64 t] w fun e w' => e = .returned (.tuple #[.int .u32 (st.given + 1 : Nat), .int .i64 0]) ∧ Has w' s (st.added t) ∧ w.grownBy w' (some s) := by
  have H : Hid (Has w s st) := h
  have h0 : w.cell? ⟨s, 0, none⟩ = some (.int .i64 (st.n : Nat)) := by obtain ⟨_, _, _, _, hb, _⟩ := h.lies.ex; exact cell_of_block hb 0
  have hle : ¬ ((full st.n : Nat) : Int) < (t : Int) := by have : t < 2 ^ 2 ^ st.n := ht; unfold full; omega
  have hn := h.inv.n6
  clear h
  go_enter Tryz.func24, Tryz.ntmps24
  go_wp2_with fail
  refine (sfull_calls s st.n _ h0 hn).mono ?_
  rintro e w1 ⟨rfl, rfl⟩
  go_wp2_with fail
  refine (add_ok s t st _ H.out hf ht hroom hg).mono ?_
  rintro e w2 ⟨rfl, h2, h3⟩
  go_wp2_with fail
  go_ret2
  exact ⟨rfl, h2, h3⟩

set_option maxHeartbeats 400000 in
theorem table_ok (s a : Nat) (st : St) (w : World) (h : Has w s st) (hl : st.live a) :
    Calls Tryz.prog 34 #[.pointer (some ⟨s, 0, none⟩), .int .u32 a] w fun e w' => e = .returned (.tuple #[.int .u64 (st.tab a : Nat), .int .i64 0]) ∧ Below w.heap.size w w' := by
  have H : Hid (Has w s st) := h
  obtain ⟨go, capo, nv, B, hb, ho, hcur, hcap, hr⟩ := h.lies.ex
  have d0 : w.cell? ⟨s, 63, none⟩ = some (.slice (some ⟨go, 0, none⟩) st.ord.length capo) := (cell_of_block hb 63).trans (by rw [List.getElem?_toArray, at_63 h.lies.hs30 h.lies.rs30])
  have d1 : w.cell? ⟨s, 63 + 1, none⟩ = some nv := (cell_of_block hb 64).trans (by rw [List.getElem?_toArray, at_64 h.lies.hs30 h.lies.rs30])
  have HR : Hid (w.ownsRow B 153 3 nv st.ns.length (flat st.ns)) := hr
  have HD : Hid (w.cell? ⟨s, 63, none⟩ = some (.slice (some ⟨go, 0, none⟩) st.ord.length capo) ∧ w.cell? ⟨s, 63 + 1, none⟩ = some nv) := ⟨d0, d1⟩
  have HROOT : Hid (Calls Tryz.prog 83 #[.pointer (some ⟨s, 0, none⟩), .int .u32 a] w fun e w' => e = .returned (.tuple #[.int .i64 (st.root a : Nat), .int .i64 0]) ∧ w' = w) := root_yes s a st w h.lies hl
  have HT : Hid (st.tab a = tabTo st.ns (st.root a) (2 ^ st.n)) := rfl
  have hlen := h.inv.len
  have hrl := h.inv.root_lt hl
  have hfew := h.few
  have hn6 := h.inv.n6
  have HLEN : Hid (st.ord.length = st.n) := hlen
  clear h hb ho hcur hr d0 d1 hlen
  generalize st.tab a = T at *
  generalize st.root a = r at *
  go_enter Tryz.func34, Tryz.ntmps34
  go_wp2_with fail
  refine HROOT.out.mono ?_
  rintro e w1 ⟨rfl, rfl⟩
  go_wp2_with fail
  refine (dtable_calls s 63 B st.ord.length capo _ st.ns nv r _ HD.out.1 HD.out.2 HR.out H.out.inv.red.wf (fun n hn => H.out.inv.ord6 _ (H.out.inv.red.var n hn)) hrl (by rw [HLEN.out]; exact hn6) (by omega)).mono ?_
  rintro e w2 ⟨rfl, hb2⟩
  go_wp2_with fail
  go_ret2
  exact ⟨by rw [HT.out, HLEN.out]; rfl, hb2⟩

set_option maxHeartbeats 400000 in
theorem apply_ok (s c a b : Nat) (st : St) (w : World) (h : Has w s st) (hc : c < 16) (ha : st.live a) (hb : st.live b) (hf : st.free < 30)
    (hroom : (st.added (Cho.joinT c (st.tab a) (st.tab b) (full st.n))).ns.length ≤ st.room) (hg : st.given + 1 < 4294967295) :
    Calls Tryz.prog 26 #[.pointer (some ⟨s, 0, none⟩), .int .i64 c, .int .u32 a, .int .u32 b] w fun e w' => e = .returned (.tuple #[.int .u32 (st.given + 1 : Nat), .int .i64 0]) ∧
      Has w' s (st.added (Cho.joinT c (st.tab a) (st.tab b) (full st.n))) ∧ w.grownBy w' (some s) := by
  have H : Hid (Has w s st) := h
  have hn := h.inv.n6
  have ta := tab_tab st a
  have tb := tab_tab st b
  have HJ : Hid (Tab st.n (Cho.joinT c (st.tab a) (st.tab b) (full st.n))) := Cho.joinT_tab c _ _ _ ta tb
  have ua := ta.u64 hn
  have ub := tb.u64 hn
  clear h ta tb
  go_enter Tryz.func26, Tryz.ntmps26
  go_wp2_with fail
  refine (table_ok s a st _ H.out ha).mono ?_
  rintro e w1 ⟨rfl, b1⟩
  have H1 : Hid (Has w1 s st) := H.out.below b1
  go_wp2_with fail
  refine (table_ok s b st _ H1.out hb).mono ?_
  rintro e w2 ⟨rfl, b2⟩
  have H2 : Hid (Has w2 s st) := H1.out.below b2
  have h0 : w2.cell? ⟨s, 0, none⟩ = some (.int .i64 (st.n : Nat)) := by obtain ⟨_, _, _, _, hb, _⟩ := H2.out.lies.ex; exact cell_of_block hb 0
  go_wp2_with fail
  refine (sfull_calls s st.n _ h0 hn).mono ?_
  rintro e w3 ⟨rfl, rfl⟩
  go_wp2_with fail
  refine (join_calls c _ _ _ _ hc ua ub (Cho.full_u64 _ hn)).mono ?_
  rintro e w4 ⟨rfl, rfl⟩
  go_wp2_with fail
  refine (add_ok s _ st _ H2.out hf HJ.out hroom hg).mono ?_
  rintro e w5 ⟨rfl, h5, g5⟩
  go_wp2_with fail
  go_ret2
  exact ⟨rfl, h5, grown_trans (grown_of_below (b1.trans (b2.mono b1.size))) g5⟩

set_option maxHeartbeats 400000 in
theorem count_ok (s a : Nat) (st : St) (w : World) (h : Has w s st) (hl : st.live a) :
    Calls Tryz.prog 40 #[.pointer (some ⟨s, 0, none⟩), .int .u32 a] w fun e w' => e = .returned (.tuple #[.int .i64 (Cho.cnt (st.tab a) 64 : Nat), .int .i64 0]) ∧ Below w.heap.size w w' := by
  have H : Hid (Has w s st) := h
  have ua := (tab_tab st a).u64 h.inv.n6
  clear h
  go_enter Tryz.func40, Tryz.ntmps40
  go_wp2_with fail
  refine (table_ok s a st _ H.out hl).mono ?_
  rintro e w1 ⟨rfl, b1⟩
  go_wp2_with fail
  refine (count_calls _ _ ua).mono ?_
  rintro e w2 ⟨rfl, rfl⟩
  go_wp2_with fail
  go_ret2
  exact ⟨rfl, b1⟩

set_option maxHeartbeats 400000 in
theorem one_none (s a : Nat) (st : St) (w : World) (h : Has w s st) (hl : st.live a) (h0 : st.tab a = 0) :
    Calls Tryz.prog 42 #[.pointer (some ⟨s, 0, none⟩), .int .u32 a] w fun e w' => e = .returned (.tuple #[.int .u8 0, .int .i64 5]) ∧ Below w.heap.size w w' := by
  have HT := table_ok s a st w h hl
  rw [h0] at HT
  have H : Hid (Calls Tryz.prog 34 #[.pointer (some ⟨s, 0, none⟩), .int .u32 a] w fun e w' => e = .returned (.tuple #[.int .u64 (0 : Nat), .int .i64 0]) ∧ Below w.heap.size w w') := HT
  clear h HT h0
  go_enter Tryz.func42, Tryz.ntmps42
  go_wp2_with fail
  refine H.out.mono ?_
  rintro e w1 ⟨rfl, b1⟩
  go_wp2_with fail
  refine (least_none _).mono ?_
  rintro e w2 ⟨rfl, rfl⟩
  go_wp2_with fail
  go_ret2
  exact ⟨rfl, b1⟩

set_option maxHeartbeats 400000 in
theorem one_ok (s a : Nat) (st : St) (w : World) (h : Has w s st) (hl : st.live a) (h0 : st.tab a ≠ 0) (hlt : Cho.least (st.tab a) 64 < 64) :
    Calls Tryz.prog 42 #[.pointer (some ⟨s, 0, none⟩), .int .u32 a] w fun e w' => e = .returned (.tuple #[.int .u8 (Cho.least (st.tab a) 64 : Nat), .int .i64 0]) ∧ Below w.heap.size w w' := by
  have H : Hid (Has w s st) := h
  have ua := (tab_tab st a).u64 h.inv.n6
  have H0 : Hid (st.tab a ≠ 0) := h0
  clear h h0
  go_enter Tryz.func42, Tryz.ntmps42
  go_wp2_with fail
  refine (table_ok s a st _ H.out hl).mono ?_
  rintro e w1 ⟨rfl, b1⟩
  go_wp2_with fail
  refine (least_calls _ _ ua H0.out).mono ?_
  rintro e w2 ⟨rfl, rfl⟩
  go_wp2_with fail
  go_ret2
  exact ⟨rfl, b1⟩

set_option maxHeartbeats 400000 in
theorem same_ok (s a b : Nat) (st : St) (w : World) (h : Has w s st) (ha : st.live a) (hb : st.live b) :
    Calls Tryz.prog 36 #[.pointer (some ⟨s, 0, none⟩), .int .u32 a, .int .u32 b] w fun e w' => e = .returned (.tuple #[.bool (decide (st.tab a = st.tab b)), .int .i64 0]) ∧ w' = w := by
  have HA : Hid (Calls Tryz.prog 83 #[.pointer (some ⟨s, 0, none⟩), .int .u32 a] w fun e w' => e = .returned (.tuple #[.int .i64 (st.root a : Nat), .int .i64 0]) ∧ w' = w) := root_yes s a st w h.lies ha
  have HB : Hid (Calls Tryz.prog 83 #[.pointer (some ⟨s, 0, none⟩), .int .u32 b] w fun e w' => e = .returned (.tuple #[.int .i64 (st.root b : Nat), .int .i64 0]) ∧ w' = w) := root_yes s b st w h.lies hb
  have HS : Hid (st.root a = st.root b ↔ st.tab a = st.tab b) := same_iff h.inv ha hb
  clear h
  generalize st.root a = ra at *
  generalize st.root b = rb at *
  generalize st.tab a = ta at *
  generalize st.tab b = tb at *
  go_enter Tryz.func36, Tryz.ntmps36
  go_wp2_with fail
  refine HA.out.mono ?_
  rintro e w1 ⟨rfl, rfl⟩
  go_wp2_with fail
  refine HB.out.mono ?_
  rintro e w2 ⟨rfl, rfl⟩
  go_wp2_with fail
  go_ret2
  refine ⟨?_, rfl⟩
  have e1 : ((ra : Int) == (rb : Int)) = decide (ta = tb) := by
    rw [Bool.eq_iff_iff]; simp [← HS.out]; omega
  rw [e1]
  rfl

set_option maxHeartbeats 400000 in
theorem eval_ok (s a p : Nat) (st : St) (w : World) (h : Has w s st) (hl : st.live a) (hp : p < 2 ^ st.n) :
    Calls Tryz.prog 32 #[.pointer (some ⟨s, 0, none⟩), .int .u32 a, .int .u8 p] w fun e w' => e = .returned (.tuple #[.bool ((st.tab a).testBit p), .int .i64 0]) ∧ Below w.heap.size w w' := by
  have H : Hid (Has w s st) := h
  obtain ⟨go, capo, nv, B, hb, ho, hcur, hcap, hr⟩ := h.lies.ex
  have h0 : w.cell? ⟨s, 0, none⟩ = some (.int .i64 (st.n : Nat)) := cell_of_block hb 0
  have d1 : w.cell? ⟨s, 63 + 1, none⟩ = some nv := (cell_of_block hb 64).trans (by rw [List.getElem?_toArray, at_64 h.lies.hs30 h.lies.rs30])
  have HR : Hid (w.ownsRow B 153 3 nv st.ns.length (flat st.ns)) := hr
  have HD : Hid (w.cell? ⟨s, 63 + 1, none⟩ = some nv) := d1
  have HROOT : Hid (Calls Tryz.prog 83 #[.pointer (some ⟨s, 0, none⟩), .int .u32 a] w fun e w' => e = .returned (.tuple #[.int .i64 (st.root a : Nat), .int .i64 0]) ∧ w' = w) := root_yes s a st w h.lies hl
  have HT : Hid ((st.tab a).testBit p = Cho.ev st.ns (st.root a) p) := tab_bit st a p hp
  have hrl := h.inv.root_lt hl
  have hfew := h.few
  have hn6 := h.inv.n6
  have h64 := Cho.two_pow_le _ hn6
  have HP : Hid (p < 2 ^ st.n) := hp
  clear h hb ho hcur hr d1 hp
  generalize (st.tab a).testBit p = T at *
  generalize st.root a = r at *
  have hp256 : p < 256 := by have := HP.out; omega
  have hle : ¬ wrap64 (2 ^ st.n) ≤ (p : Int) := by
    rw [wrap64_pow _ hn6]; have := HP.out; omega
  go_enter Tryz.func32, Tryz.ntmps32
  go_wp2_with fail
  refine HROOT.out.mono ?_
  rintro e w1 ⟨rfl, rfl⟩
  go_wp2_with fail
  refine (says_calls s 63 B st.ns nv r p _ HD.out HR.out H.out.inv.red.wf (fun n hn => H.out.inv.ord6 _ (H.out.inv.red.var n hn)) hrl hp256 (by omega)).mono ?_
  rintro e w2 ⟨rfl, hb2⟩
  go_wp2_with fail
  go_ret2
  exact ⟨by rw [HT.out]; rfl, hb2⟩
end Go.Proofs.YthoodkbdpnffdabGreatDoor

/-
  Own work: 'Size' counts the nodes that are reached (walks); 'Var' makes a variable's function (a walk).
-/
namespace Go.Proofs.YthoodkbdpnffdabGreatDoor
open Go.RowKit
open Cho (U64 Tab full col Nd Red)

set_option maxHeartbeats 1000000 in
theorem dsize_calls (s off B : Nat) (ns : List Nd) (nv : Value) (l : Nat) (w : World) (h1 : w.cell? ⟨s, off + 1, none⟩ = some nv) (hr : w.ownsRow B 153 3 nv ns.length (flat ns))
    (hw : Cho.Wf ns) (hl : l < ns.length + 2) (hn : ns.length ≤ 1000000) :
    Calls Tryz.prog 90 #[.pointer (some ⟨s, off, none⟩), .int .i64 l] w fun e w' => e = .returned (.int .i64 (Cho.size ns l : Nat)) ∧ Below w.heap.size w w' := by
  have hs := World.block_lt_of_cell? w _ h1
  simp only at hs
  obtain ⟨ao, cap, rfl, hblk, hcells⟩ := row_cell hr
  have HR : Hid (w.ownsRow B 153 3 (.slice ao ns.length cap) ns.length (flat ns)) := hr
  have HW : Hid (Cho.Wf ns) := hw
  clear hr hblk hcells hw
  go_enter Tryz.func90, Tryz.ntmps90
  go_wp2_with fail
  have hb1 : Below w.heap.size w (w.alloc (.cells #[.int .i64 l] 59)) := (Below.refl _ _).alloc (Nat.le_refl _) _
  refine (reached_calls s off B w.heap.size 0 1 ns _ [l] _ ((hb1.cell (p := ⟨s, off + 1, none⟩) hs).trans h1) (HR.out.alloc _) (fun i hi => ?_) (by simp) (by simpa using hl) HW.out hn (by simp)).mono ?_
  · obtain rfl : i = 0 := by simpa using hi
    simp
  rintro e w1 ⟨rfl, hm⟩
  have hlen1 : (w.alloc (.cells #[.int .i64 l] 59)).heap.size = w.heap.size + 1 := by simp
  have hbw : Below w.heap.size w w1 := hb1.trans (hm.bel.mono (by rw [hlen1]; omega))
  have hsz1 : w.heap.size + 1 < w1.heap.size := by have := lt_of_block hm.at'; rw [hlen1] at this; exact this
  rw [hlen1]
  have c1 : w1.cell? ⟨s, off + 1, none⟩ = some (.slice ao ns.length cap) := (hbw.cell (p := ⟨s, off + 1, none⟩) hs).trans h1
  have HMC : Hid (∀ k, k < ns.length → w1.cell? ⟨w.heap.size + 1, 2 + k, none⟩ = some (.bool ((Cho.reached ns [l]).getD (k + 2) false))) := fun k hk => by
    have := hm.cell (2 + k) (by omega)
    rw [hlen1, Nat.add_comm 2 k] at this
    rw [Nat.add_comm 2 k]; exact this
  have HB1 : Hid (Below w.heap.size w w1) := hbw
  have HSZ : Hid (Cho.size ns l = Cho.cntM (Cho.reached ns [l]) ns.length) := rfl
  clear hm hb1 hlen1 hbw
  generalize Cho.reached ns [l] = R at *
  go_wp2_with fail
  go_loopw [5, 17] (fun x i wr => ∃ k : Nat, k ≤ ns.length ∧ i = .int .i64 k ∧ x = .int .i64 (Cho.cntM R k : Nat) ∧ wr = w1) (fun _ i _ => ns.length - (intOf i).toNat)
  case atStart => exact ⟨0, Nat.zero_le _, rfl, rfl, rfl⟩
  case round =>
    obtain ⟨k, hk, rfl, rfl, rfl⟩ := hrel
    have hle := Cho.cntM_le R k
    by_cases hkn : k < ns.length
    · have mk := HMC.out k hkn
      have HDEF : Hid (Cho.cntM R (k + 1) = if R.getD (k + 2) false then Cho.cntM R k + 1 else Cho.cntM R k) := rfl
      generalize Cho.cntM R k = X at *
      clear HMC
      cases hb : R.getD (k + 2) false
      · rw [hb] at mk HDEF
        have HD2 : Hid (Cho.cntM R (k + 1) = X) := HDEF.out
        go_wp2_with fail
        exact ⟨⟨k + 1, hkn, by go_num, by rw [HD2.out], trivial⟩, by simp [intOf]; omega⟩
      · rw [hb] at mk HDEF
        have HD2 : Hid (Cho.cntM R (k + 1) = X + 1) := HDEF.out
        go_wp2_with fail
        exact ⟨⟨k + 1, hkn, by go_num, val_int (by rw [HD2.out]; omega), trivial⟩, by simp [intOf]; omega⟩
    · obtain rfl : k = ns.length := by omega
      go_wp2_with fail
      go_ret
      exact ⟨ret_int (by rw [HSZ.out]), HB1.out⟩

/-- How many nodes a handle's function has. -/
def St.size (st : St) (a : Nat) : Nat := Cho.size st.ns (st.root a)

set_option maxHeartbeats 400000 in
theorem size_ok (s a : Nat) (st : St) (w : World) (h : Has w s st) (hl : st.live a) :
    Calls Tryz.prog 44 #[.pointer (some ⟨s, 0, none⟩), .int .u32 a] w fun e w' => e = .returned (.tuple #[.int .i64 (st.size a : Nat), .int .i64 0]) ∧ Below w.heap.size w w' := by
  have H : Hid (Has w s st) := h
  obtain ⟨go, capo, nv, B, hb, ho, hcur, hcap, hr⟩ := h.lies.ex
  have d1 : w.cell? ⟨s, 63 + 1, none⟩ = some nv := (cell_of_block hb 64).trans (by rw [List.getElem?_toArray, at_64 h.lies.hs30 h.lies.rs30])
  have HR : Hid (w.ownsRow B 153 3 nv st.ns.length (flat st.ns)) := hr
  have HD : Hid (w.cell? ⟨s, 63 + 1, none⟩ = some nv) := d1
  have HROOT : Hid (Calls Tryz.prog 83 #[.pointer (some ⟨s, 0, none⟩), .int .u32 a] w fun e w' => e = .returned (.tuple #[.int .i64 (st.root a : Nat), .int .i64 0]) ∧ w' = w) := root_yes s a st w h.lies hl
  have HT : Hid (st.size a = Cho.size st.ns (st.root a)) := rfl
  have hrl := h.inv.root_lt hl
  have hfew := h.few
  clear h hb ho hcur hr d1
  generalize st.size a = T at *
  generalize st.root a = r at *
  go_enter Tryz.func44, Tryz.ntmps44
  go_wp2_with fail
  refine HROOT.out.mono ?_
  rintro e w1 ⟨rfl, rfl⟩
  go_wp2_with fail
  refine (dsize_calls s 63 B st.ns nv r _ HD.out HR.out H.out.inv.red.wf hrl (by omega)).mono ?_
  rintro e w2 ⟨rfl, hb2⟩
  go_wp2_with fail
  go_ret2
  exact ⟨by rw [HT.out]; rfl, hb2⟩

set_option maxHeartbeats 400000 in
theorem hasVar_calls (s i n : Nat) (w : World) (h0 : w.cell? ⟨s, 0, none⟩ = some (.int .i64 n)) (hi : i < n) :
    Calls Tryz.prog 69 #[.pointer (some ⟨s, 0, none⟩), .int .i64 i] w fun e w' => e = .returned (.bool true) ∧ w' = w := by
  have h1 : decide ((0 : Int) ≤ (i : Int)) = true := by simp
  have h2 : decide ((i : Int) < (n : Int)) = true := by simp; omega
  go_enter Tryz.func69, Tryz.ntmps69
  go_wp2_with fail
  go_ret
  exact ⟨rfl, rfl⟩

theorem grown_drewN {w w' : World} {r : Option Nat} {q : Nat} (h : (w.drewN q).grownBy w' r) : w.grownBy w' r := by
  have hb : Below w.heap.size w (w.drewN q) := below_drewN (Below.refl _ _) q
  exact grown_trans (grown_of_below hb) h

set_option maxHeartbeats 400000 in
theorem var_ok (s i : Nat) (st : St) (w : World) (h : Has w s st) (hi : i < st.n) (hf : st.free < 30) (hroom : (st.added (col i &&& full st.n)).ns.length ≤ st.room) (hg : st.given + 1 < 4294967295) :
    Calls Tryz.prog 22 #[.pointer (some ⟨s, 0, none⟩), .int .i64 i] w fun e w' => e = .returned (.tuple #[.int .u32 (st.given + 1 : Nat), .int .i64 0]) ∧ Has w' s (st.added (col i &&& full st.n)) ∧ w.grownBy w' (some s) := by
  have H : Hid (Has w s st) := h
  have h0 : w.cell? ⟨s, 0, none⟩ = some (.int .i64 (st.n : Nat)) := by obtain ⟨_, _, _, _, hb, _⟩ := h.lies.ex; exact cell_of_block hb 0
  have hn := h.inv.n6
  have HT : Hid (Tab st.n (col i &&& full st.n)) := by
    show col i &&& full st.n < 2 ^ 2 ^ st.n
    have : col i &&& full st.n ≤ full st.n := Nat.and_le_right
    unfold full at *
    have := Nat.two_pow_pos (2 ^ st.n)
    omega
  clear h
  go_enter Tryz.func22, Tryz.ntmps22
  go_wp2_with fail
  refine (hasVar_calls s i st.n _ h0 hi).mono ?_
  rintro e w1 ⟨rfl, rfl⟩
  go_wp2_with fail
  refine (variable_calls i st.n _ H.out.lies.cols (by omega) hn).mono ?_
  rintro e w2 ⟨rfl, q, rfl⟩
  have H2 : Hid (Has (w1.drewN q) s st) := H.out.below (below_drewN (Below.refl _ _) q)
  go_wp2_with fail
  refine (add_ok s _ st _ H2.out hf HT.out hroom hg).mono ?_
  rintro e w3 ⟨rfl, h3, g3⟩
  go_wp2_with fail
  go_ret2
  exact ⟨rfl, h3, grown_drewN g3⟩
end Go.Proofs.YthoodkbdpnffdabGreatDoor

/-
  Own work: 'take' puts other nodes in the place of a store's (a walk).
-/
namespace Go.Proofs.YthoodkbdpnffdabGreatDoor
open Go.RowKit
open Cho (U64 Tab full col Nd Red)

theorem cells_rs (st : St) (ov nv : Value) (rs' : List Nat) (h30 : st.hs.length = 30) (r30 : st.rs.length = 30) (l30 : rs'.length = 30) :
    (cellsOf st ov nv).take 33 ++ (lv rs' ++ (cellsOf st ov nv).drop (33 + (lv rs').length)) = cellsOf { st with rs := rs' } ov nv := by
  have e1 : (cellsOf st ov nv).take 33 = .int .i64 st.n :: .int .i64 st.room :: .int .u32 st.given :: hv st.hs := by
    simp only [cellsOf, List.take_succ_cons]
    rw [List.take_append_of_le_length (by rw [hv_len]; omega), List.take_of_length_le (by rw [hv_len]; omega)]
  have e2 : (cellsOf st ov nv).drop (33 + (lv rs').length) = [ov, nv] := by
    rw [lv_len, l30]
    simp only [cellsOf, List.drop_succ_cons]
    rw [List.drop_append, List.drop_append, hv_len, lv_len, h30, r30]
    simp [List.drop_eq_nil_of_le, hv_len, h30]
    rw [lv_len]; omega
  rw [e1, e2]
  simp [cellsOf]
theorem infoLinkS : (Tryz.prog.info? 59).map (·.size) = some 1 := by kernel_rfl
theorem lv_one (l : List Nat) : ∀ u ∈ lv l, u.oneCell' = true := by
  intro u hu
  simp only [lv, List.mem_map] at hu
  obtain ⟨n, _, rfl⟩ := hu
  rfl

set_option maxRecDepth 100000 in
set_option maxHeartbeats 1000000 in
theorem take_calls (s gl capl : Nat) (st : St) (ov nv : Value) (ao ak : Option Addr) (n capo k capk : Nat) (rs' : List Nat) (w : World)
    (hb : w.heap[s]? = some (.cells (cellsOf st ov nv).toArray 62 (0, 0))) (h30 : st.hs.length = 30) (r30 : st.rs.length = 30) (l30 : rs'.length = 30)
    (hsrc : ∀ j u, (lv rs')[j]? = some u → w.cell? ((⟨gl, 0, none⟩ : Addr).add j) = some u) (hgl : gl ≠ s) :
    Calls Tryz.prog 81 #[.pointer (some ⟨s, 0, none⟩), .agg #[.slice ao n capo, .slice ak k capk], .slice (some ⟨gl, 0, none⟩) 30 capl] w fun e w' => e = .returned (.tuple #[]) ∧
      w'.heap[s]? = some (.cells (cellsOf { st with rs := rs' } (.slice ao n capo) (.slice ak k capk)).toArray 62 (0, 0)) ∧ w.grownBy w' (some s) := by
  have hsw := lt_of_block hb
  have hgw : gl < w.heap.size := by
    have := hsrc 0 _ (lv_get rs' 0 (by omega))
    have := World.block_lt_of_cell? w _ this
    simpa [Addr.add] using this
  have hB1 : ((w.setCell ⟨s, 63, none⟩ (.slice ao n capo)).setCell ⟨s, 64, none⟩ (.slice ak k capk)).heap[s]? = some (.cells (cellsOf st (.slice ao n capo) (.slice ak k capk)).toArray 62 (0, 0)) := by
    rw [block_set (block_set hb), set_d h30 r30]
  have hB2 : (((w.setCell ⟨s, 63, none⟩ (.slice ao n capo)).setCell ⟨s, 64, none⟩ (.slice ak k capk)).alloc (.cells #[.slice ao n capo, .slice ak k capk] 54)).heap[s]? = some (.cells (cellsOf st (.slice ao n capo) (.slice ak k capk)).toArray 62 (0, 0)) := (Below.heap_alloc _ _ _ (lt_of_block hB1)).trans hB1
  have HSRC : ∀ j u, (lv rs')[j]? = some u → (((w.setCell ⟨s, 63, none⟩ (.slice ao n capo)).setCell ⟨s, 64, none⟩ (.slice ak k capk)).alloc (.cells #[.slice ao n capo, .slice ak k capk] 54)).cell? ((⟨gl, 0, none⟩ : Addr).add j) = some u := by
    intro j u hu
    have h1 := hsrc j u hu
    rw [Addr.add_mid] at h1 ⊢
    exact with_al (set_far hgl (set_far hgl h1))
  have HFT : 33 + (lv rs').length ≤ (cellsOf st (.slice ao n capo) (.slice ak k capk)).toArray.size := by
    rw [lv_len, l30]
    simp only [cellsOf, List.size_toArray, List.length_cons, List.length_append, hv_len, lv_len, h30, r30, List.length_nil]
    omega
  have hrun := run_copy_row (P := Tryz.prog) _ 110 110 3 59 s 33 30 30 ⟨gl, 0, none⟩ 30 capl _ 62 (lv rs') Tryz.underlying110 infoLinkS hB2 (by rw [lv_len, l30]; rfl) HSRC HFT (lv_one rs')
  rw [List.append_assoc, List.toList_toArray, cells_rs st _ _ rs' h30 r30 l30, lv_len, l30] at hrun
  have hne : ¬ s = w.heap.size := by omega
  have r63 : w.cell? ⟨s, 63, none⟩ = some ov := (cell_of_block hb 63).trans (by rw [List.getElem?_toArray, at_63 h30 r30])
  have r64 : w.cell? ⟨s, 64, none⟩ = some nv := (cell_of_block hb 64).trans (by rw [List.getElem?_toArray, at_64 h30 r30])
  have rz : ∀ j, w.frozen? ⟨s, j, none⟩ = false := fun j => frozen_of_block hb j
  have FIN : Hid (((((w.setCell ⟨s, 63, none⟩ (.slice ao n capo)).setCell ⟨s, 64, none⟩ (.slice ak k capk)).alloc (.cells #[.slice ao n capo, .slice ak k capk] 54)).setRow s (cellsOf { st with rs := rs' } (.slice ao n capo) (.slice ak k capk)).toArray).heap[s]? = some (.cells (cellsOf { st with rs := rs' } (.slice ao n capo) (.slice ak k capk)).toArray 62 (0, 0)) ∧
      w.grownBy ((((w.setCell ⟨s, 63, none⟩ (.slice ao n capo)).setCell ⟨s, 64, none⟩ (.slice ak k capk)).alloc (.cells #[.slice ao n capo, .slice ak k capk] 54)).setRow s (cellsOf { st with rs := rs' } (.slice ao n capo) (.slice ak k capk)).toArray) (some s)) := by
    refine ⟨setRow_heap _ s _ _ _ _ hB2, rfl, rfl, rfl, by simp [World.setRow, World.setCell], fun b hb' hbs => ?_⟩
    have hbs' : b ≠ s := by intro e; exact hbs (by rw [e])
    rw [setRow_other _ _ _ _ hbs', Below.heap_alloc _ _ _ (by simpa [World.setCell] using hb'), block_set_other hbs', block_set_other hbs']
  generalize cellsOf { st with rs := rs' } (.slice ao n capo) (.slice ak k capk) = C at *
  clear hb hB1 hB2 HSRC HFT hsrc
  go_enter Tryz.func81, Tryz.ntmps81
  go_wp2_with fail
  go_end0
  exact ⟨rfl, FIN.out⟩
end Go.Proofs.YthoodkbdpnffdabGreatDoor
