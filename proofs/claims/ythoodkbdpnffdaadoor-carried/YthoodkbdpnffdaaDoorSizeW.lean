/-
  Own work: 'Size' counts the nodes that are reached (walks); 'Var' makes a variable's function (a walk).
-/
import Derived.Test.YthoodkbdpnffdaaDoorReachW
import Derived.Test.YthoodkbdpnffdaaDoorCleanM
import Derived.Test.YthoodkbdpnffdaaDoorPubW
namespace Go.Proofs.YthoodkbdpnffdaaDoor
open Go.RowKit
open Cho (U64 Tab full col Nd Red)

set_option maxHeartbeats 1000000 in
theorem dsize_calls (s off B : Nat) (ns : List Nd) (nv : Value) (l : Nat) (w : World) (h1 : w.cell? ⟨s, off + 1, none⟩ = some nv) (hr : w.ownsRow B 122 3 nv ns.length (flat ns))
    (hw : Cho.Wf ns) (hl : l < ns.length + 2) (hn : ns.length ≤ 1000000) :
    Calls Tryd.prog 54 #[.pointer (some ⟨s, off, none⟩), .int .i64 l] w fun e w' => e = .returned (.int .i64 (Cho.size ns l : Nat)) ∧ Below w.heap.size w w' := by
  have hs := World.block_lt_of_cell? w _ h1
  simp only at hs
  obtain ⟨ao, cap, rfl, hblk, hcells⟩ := row_cell hr
  have HR : Hid (w.ownsRow B 122 3 (.slice ao ns.length cap) ns.length (flat ns)) := hr
  have HW : Hid (Cho.Wf ns) := hw
  clear hr hblk hcells hw
  go_enter Tryd.func54, Tryd.ntmps54
  go_wp2_with fail
  have hb1 : Below w.heap.size w (w.alloc (.cells #[.int .i64 l] 81)) := (Below.refl _ _).alloc (Nat.le_refl _) _
  refine (reached_calls s off B w.heap.size 0 1 ns _ [l] _ ((hb1.cell (p := ⟨s, off + 1, none⟩) hs).trans h1) (HR.out.alloc _) (fun i hi => ?_) (by simp) (by simpa using hl) HW.out hn (by simp)).mono ?_
  · obtain rfl : i = 0 := by simpa using hi
    simp
  rintro e w1 ⟨rfl, hm⟩
  have hlen1 : (w.alloc (.cells #[.int .i64 l] 81)).heap.size = w.heap.size + 1 := by simp
  have hbw : Below w.heap.size w w1 := hb1.trans (hm.bel.mono (by rw [hlen1]; omega))
  have hsz1 : w.heap.size + 1 < w1.heap.size := by have := lt_of_block hm.at'; rw [hlen1] at this; exact this
  rw [hlen1]
  have c1 : w1.cell? ⟨s, off + 1, none⟩ = some (.slice ao ns.length cap) := (hbw.cell (p := ⟨s, off + 1, none⟩) hs).trans h1
  have HMC : Hid (∀ k, k < ns.length → w1.cell? ⟨w.heap.size + 1, 2 + k, none⟩ = some (.bool ((Cho.reached ns [l]).getD (k + 2) false))) := fun k hk => by
    have := hm.cell (2 + k) (by omega)
    rw [hlen1, Nat.add_comm 2 k] at this
    rw [Nat.add_comm 2 k]; exact this
  have HB1 : Hid (Below w.heap.size w w1) := hbw
  have HSZ : Hid (Cho.size ns l = Cho.cntM (Cho.reached ns [l]) ns.length) := rfl
  clear hm hb1 hlen1 hbw
  generalize Cho.reached ns [l] = R at *
  go_wp2_with fail
  go_loopw [5, 17] (fun x i wr => ∃ k : Nat, k ≤ ns.length ∧ i = .int .i64 k ∧ x = .int .i64 (Cho.cntM R k : Nat) ∧ wr = w1) (fun _ i _ => ns.length - (intOf i).toNat)
  case atStart => exact ⟨0, Nat.zero_le _, rfl, rfl, rfl⟩
  case round =>
    obtain ⟨k, hk, rfl, rfl, rfl⟩ := hrel
    have hle := Cho.cntM_le R k
    by_cases hkn : k < ns.length
    · have mk := HMC.out k hkn
      have HDEF : Hid (Cho.cntM R (k + 1) = if R.getD (k + 2) false then Cho.cntM R k + 1 else Cho.cntM R k) := rfl
      generalize Cho.cntM R k = X at *
      clear HMC
      cases hb : R.getD (k + 2) false
      · rw [hb] at mk HDEF
        have HD2 : Hid (Cho.cntM R (k + 1) = X) := HDEF.out
        go_wp2_with fail
        exact ⟨⟨k + 1, hkn, by go_num, by rw [HD2.out], trivial⟩, by simp [intOf]; omega⟩
      · rw [hb] at mk HDEF
        have HD2 : Hid (Cho.cntM R (k + 1) = X + 1) := HDEF.out
        go_wp2_with fail
        exact ⟨⟨k + 1, hkn, by go_num, val_int (by rw [HD2.out]; omega), trivial⟩, by simp [intOf]; omega⟩
    · obtain rfl : k = ns.length := by omega
      go_wp2_with fail
      go_ret
      exact ⟨ret_int (by rw [HSZ.out]), HB1.out⟩

/-- How many nodes a handle's function has. -/
def St.size (st : St) (a : Nat) : Nat := Cho.size st.ns (st.root a)

set_option maxHeartbeats 400000 in
theorem size_ok (s a : Nat) (st : St) (w : World) (h : Has w s st) (hl : st.live a) :
    Calls Tryd.prog 27 #[.pointer (some ⟨s, 0, none⟩), .int .u32 a] w fun e w' => e = .returned (.tuple #[.int .i64 (st.size a : Nat), .int .i64 0]) ∧ Below w.heap.size w w' := by
  have H : Hid (Has w s st) := h
  obtain ⟨go, capo, nv, B, hb, ho, hcur, hcap, hr⟩ := h.lies.ex
  have d1 : w.cell? ⟨s, 63 + 1, none⟩ = some nv := (cell_of_block hb 64).trans (by rw [List.getElem?_toArray, at_64 h.lies.hs30 h.lies.rs30])
  have HR : Hid (w.ownsRow B 122 3 nv st.ns.length (flat st.ns)) := hr
  have HD : Hid (w.cell? ⟨s, 63 + 1, none⟩ = some nv) := d1
  have HROOT : Hid (Calls Tryd.prog 46 #[.pointer (some ⟨s, 0, none⟩), .int .u32 a] w fun e w' => e = .returned (.tuple #[.int .i64 (st.root a : Nat), .int .i64 0]) ∧ w' = w) := root_yes s a st w h.lies hl
  have HT : Hid (st.size a = Cho.size st.ns (st.root a)) := rfl
  have hrl := h.inv.root_lt hl
  have hfew := h.few
  clear h hb ho hcur hr d1
  generalize st.size a = T at *
  generalize st.root a = r at *
  go_enter Tryd.func27, Tryd.ntmps27
  go_wp2_with fail
  refine HROOT.out.mono ?_
  rintro e w1 ⟨rfl, rfl⟩
  go_wp2_with fail
  refine (dsize_calls s 63 B st.ns nv r _ HD.out HR.out H.out.inv.red.wf hrl (by omega)).mono ?_
  rintro e w2 ⟨rfl, hb2⟩
  go_wp2_with fail
  go_ret2
  exact ⟨by rw [HT.out]; rfl, hb2⟩

set_option maxHeartbeats 400000 in
theorem hasVar_calls (s i n : Nat) (w : World) (h0 : w.cell? ⟨s, 0, none⟩ = some (.int .i64 n)) (hi : i < n) :
    Calls Tryd.prog 51 #[.pointer (some ⟨s, 0, none⟩), .int .i64 i] w fun e w' => e = .returned (.bool true) ∧ w' = w := by
  have h1 : decide ((0 : Int) ≤ (i : Int)) = true := by simp
  have h2 : decide ((i : Int) < (n : Int)) = true := by simp; omega
  go_enter Tryd.func51, Tryd.ntmps51
  go_wp2_with fail
  go_ret
  exact ⟨rfl, rfl⟩

theorem grown_drewN {w w' : World} {r : Option Nat} {q : Nat} (h : (w.drewN q).grownBy w' r) : w.grownBy w' r := by
  have hb : Below w.heap.size w (w.drewN q) := below_drewN (Below.refl _ _) q
  exact grown_trans (grown_of_below hb) h

set_option maxHeartbeats 400000 in
theorem var_ok (s i : Nat) (st : St) (w : World) (h : Has w s st) (hi : i < st.n) (hf : st.free < 30) (hroom : (st.added (col i &&& full st.n)).ns.length ≤ st.room) (hg : st.given + 1 < 4294967295) :
    Calls Tryd.prog 25 #[.pointer (some ⟨s, 0, none⟩), .int .i64 i] w fun e w' => e = .returned (.tuple #[.int .u32 (st.given + 1 : Nat), .int .i64 0]) ∧ Has w' s (st.added (col i &&& full st.n)) ∧ w.grownBy w' (some s) := by
  have H : Hid (Has w s st) := h
  have h0 : w.cell? ⟨s, 0, none⟩ = some (.int .i64 (st.n : Nat)) := by obtain ⟨_, _, _, _, hb, _⟩ := h.lies.ex; exact cell_of_block hb 0
  have hn := h.inv.n6
  have HT : Hid (Tab st.n (col i &&& full st.n)) := by
    show col i &&& full st.n < 2 ^ 2 ^ st.n
    have : col i &&& full st.n ≤ full st.n := Nat.and_le_right
    unfold full at *
    have := Nat.two_pow_pos (2 ^ st.n)
    omega
  clear h
  go_enter Tryd.func25, Tryd.ntmps25
  go_wp2_with fail
  refine (hasVar_calls s i st.n _ h0 hi).mono ?_
  rintro e w1 ⟨rfl, rfl⟩
  go_wp2_with fail
  refine (variable_calls i st.n _ H.out.lies.cols (by omega) hn).mono ?_
  rintro e w2 ⟨rfl, q, rfl⟩
  have H2 : Hid (Has (w1.drewN q) s st) := H.out.below (below_drewN (Below.refl _ _) q)
  go_wp2_with fail
  refine (add_ok s _ st _ H2.out hf HT.out hroom hg).mono ?_
  rintro e w3 ⟨rfl, h3, g3⟩
  go_wp2_with fail
  go_ret2
  exact ⟨rfl, h3, grown_drewN g3⟩
end Go.Proofs.YthoodkbdpnffdaaDoor
