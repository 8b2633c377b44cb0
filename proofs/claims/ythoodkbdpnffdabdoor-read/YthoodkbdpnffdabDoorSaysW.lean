/-
  Own work: what a link says at a place, and at all places, as the plain functions have it (walks).
-/
import Derived.Test.YthoodkbdpnffdabDoorDiaW
import Derived.Test.YthoodkbdpnffdabDoorPlainE
namespace Go.Proofs.YthoodkbdpnffdabDoor
open Go.RowKit
open Cho (U64 Tab full col Nd)

set_option maxHeartbeats 400000 in
theorem leads_calls (s off l n cap : Nat) (ao : Option Addr) (w : World) (h1 : w.cell? ⟨s, off + 1, none⟩ = some (.slice ao n cap)) (hl : l < n + 2) (hn : n ≤ 1000000) :
    Calls Tryd.prog 43 #[.pointer (some ⟨s, off, none⟩), .int .i64 l] w fun e w' => e = .returned (.bool true) ∧ w' = w := by
  have h0 : decide ((0 : Int) ≤ (l : Int)) = true := by simp
  have h2 : decide ((l : Int) < 2 + (n : Int)) = true := by simp; omega
  go_enter Tryd.func43, Tryd.ntmps43
  go_wp2
  go_ret
  exact ⟨by simp, rfl⟩

theorem bit8 (p v : Nat) (hp : p < 256) : bits .and .u8 ((p : Int) / 2 ^ v) 1 = ((if p.testBit v then 1 else 0 : Nat) : Int) := by
  rw [show ((p : Int) / 2 ^ v) = ((p >>> v : Nat) : Int) from by rw [Nat.shiftRight_eq_div_pow]; simp]
  have h : p >>> v < 256 := Nat.lt_of_le_of_lt (Nat.shiftRight_le _ _) hp
  have := u8_and_nat (p >>> v) 1 h (by omega)
  rw [show ((1 : Nat) : Int) = 1 from rfl] at this
  rw [this, ← Cho.shr_testBit0, Cho.testBit0_and]
theorem beq_cast (k : Nat) : ((k : Int) == 1) = (k == 1) := by
  rw [Bool.eq_iff_iff]; simp; omega

set_option maxHeartbeats 1000000 in
theorem says_calls (s off B : Nat) (ns : List Nd) (nv : Value) (l p : Nat) (w : World) (h1 : w.cell? ⟨s, off + 1, none⟩ = some nv) (hr : w.ownsRow B 78 3 nv ns.length (flat ns))
    (hw : Cho.Wf ns) (hv : ∀ n ∈ ns, n.1 < 6) (hl : l < ns.length + 2) (hp : p < 256) (hn : ns.length ≤ 1000000) :
    Calls Tryd.prog 37 #[.pointer (some ⟨s, off, none⟩), .int .i64 l, .int .u8 p] w fun e w' => e = .returned (.bool (Cho.ev ns l p)) ∧ Below w.heap.size w w' := by
  obtain ⟨ao, cap, rfl, hblk, hcells⟩ := row_cell hr
  have hs := World.block_lt_of_cell? w _ h1
  simp only at hs
  have HW : Hid (Cho.Wf ns) := hw
  have HV : Hid (∀ n ∈ ns, n.1 < 6) := hv
  clear hr hblk hw hv
  go_enter Tryd.func37, Tryd.ntmps37
  go_wp2_with fail
  go_loopw [1] (fun i wr => ∃ k : Nat, k < ns.length + 2 ∧ i = .int .i64 k ∧ Cho.ev ns k p = Cho.ev ns l p ∧ Below w.heap.size w wr) (fun i _ => (intOf i).toNat)
  case atStart => exact ⟨l, hl, rfl, rfl, Below.refl _ _⟩
  case round =>
    obtain ⟨k, hk, rfl, hev, hbel⟩ := hrel
    have HE : Hid (Cho.ev ns k p = Cho.ev ns l p) := hev
    clear hev
    have c1 : wr.cell? ⟨s, off + 1, none⟩ = some (.slice ao ns.length cap) := (hbel.cell (p := ⟨s, off + 1, none⟩) hs).trans h1
    have hsz := hbel.size
    by_cases h2 : k < 2
    · have H2 : Hid (Cho.ev ns k p = (k == 1)) := Cho.ev_small ns k p h2
      have hd : decide ((2 : Int) ≤ (k : Int)) = false := by simp; omega
      clear hcells
      go_wp2_with fail
      go_ret
      refine ⟨?_, hbel⟩
      rw [← HE.out, H2.out]
      simp [beq_cast]
    · obtain ⟨g, hao, hgw, hcap, g0, g1, g2⟩ := hcells (k - 2) (by omega)
      have e0 : wr.cell? ⟨g, (k - 2) * 3, none⟩ = some (.int .i64 (ns[k - 2].1 : Nat)) := (hbel.cell (p := ⟨g, _, none⟩) hgw).trans g0
      have e1 : wr.cell? ⟨g, (k - 2) * 3 + 1, none⟩ = some (.int .i64 (ns[k - 2].2.1 : Nat)) := (hbel.cell (p := ⟨g, _, none⟩) hgw).trans g1
      have e2 : wr.cell? ⟨g, (k - 2) * 3 + 2, none⟩ = some (.int .i64 (ns[k - 2].2.2 : Nat)) := (hbel.cell (p := ⟨g, _, none⟩) hgw).trans g2
      have hw2 := HW.out (k - 2) (by omega)
      have hv2 := HV.out ns[k - 2] (List.getElem_mem (by omega))
      have HN : Hid (Cho.ev ns k p = if p.testBit ns[k - 2].1 then Cho.ev ns ns[k - 2].2.2 p else Cho.ev ns ns[k - 2].2.1 p) := by
        have := Cho.ev_node HW.out p (k := k - 2) (by omega)
        rw [show k - 2 + 2 = k from by omega] at this
        exact this
      clear g0 g1 g2 hcells
      generalize ns[k - 2] = q at *
      obtain ⟨v, no, yes⟩ := q
      simp only at e0 e1 e2 hw2 hv2
      subst hao
      have hd : decide ((2 : Int) ≤ (k : Int)) = true := by simp; omega
      have ek : ((k : Int) - 2).toNat = k - 2 := by omega
      have HB : Hid (bits .and .u8 ((p : Int) / 2 ^ v) 1 = ((if p.testBit v then 1 else 0 : Nat) : Int)) := bit8 p v hp
      go_wp2_with fail
      refine (leads_calls s off k ns.length cap _ _ c1 hk hn).mono ?_
      rintro e w1 ⟨rfl, rfl⟩
      cases hb : p.testBit v
      · rw [hb] at HB HN
        have hb0 : (bits .and .u8 ((p : Int) / 2 ^ v) 1 == 1) = false := by rw [HB.out]; rfl
        have HX : Hid (Cho.ev ns no p = Cho.ev ns l p) := HN.out.symm.trans HE.out
        go_wp2_with fail
        exact ⟨⟨no, by omega, rfl, HX.out, hbel.alloc (by omega) _⟩, by simp [intOf]; omega⟩
      · rw [hb] at HB HN
        have hb0 : (bits .and .u8 ((p : Int) / 2 ^ v) 1 == 1) = true := by rw [HB.out]; rfl
        have HX : Hid (Cho.ev ns yes p = Cho.ev ns l p) := HN.out.symm.trans HE.out
        go_wp2_with fail
        exact ⟨⟨yes, by omega, rfl, HX.out, hbel.alloc (by omega) _⟩, by simp [intOf]; omega⟩

/-- The table of a link, place by place, as far as place k. -/
def tabTo (ns : List Nd) (l : Nat) : Nat → Nat
  | 0 => 0
  | k + 1 => if Cho.ev ns l k then tabTo ns l k ||| 2 ^ k else tabTo ns l k
theorem tabTo_lt (ns : List Nd) (l k : Nat) : tabTo ns l k < 2 ^ k := by
  induction k with
  | zero => simp [tabTo]
  | succ k ih =>
    have h : 2 ^ k < 2 ^ (k + 1) := Nat.pow_lt_pow_right (by decide) (by omega)
    simp only [tabTo]; split
    · exact Nat.or_lt_two_pow (by omega) h
    · omega
theorem tabTo_bit (ns : List Nd) (l k p : Nat) (hp : p < k) : (tabTo ns l k).testBit p = Cho.ev ns l p := by
  induction k with
  | zero => omega
  | succ k ih =>
    simp only [tabTo]
    by_cases e : p = k
    · subst e
      have h0 : (tabTo ns l p).testBit p = false := Nat.testBit_lt_two_pow (tabTo_lt ns l p)
      split
      · rename_i h; rw [Nat.testBit_or, h0, Nat.testBit_two_pow_self, h]; rfl
      · rename_i h; rw [h0]; simpa using h
    · split
      · rw [Nat.testBit_or, ih (by omega), Nat.testBit_two_pow_of_ne (by omega)]; simp
      · exact ih (by omega)
theorem tabTo_u64 (ns : List Nd) (l k : Nat) (h : k ≤ 64) : U64 (tabTo ns l k) := Nat.lt_of_lt_of_le (tabTo_lt ns l k) (Nat.pow_le_pow_right (by decide) h)
theorem pow_u64 (k : Nat) (h : k < 64) : U64 (2 ^ k) := Nat.pow_lt_pow_right (by decide) h
theorem wrap_pow' (k : Nat) (h : k < 64) : IntKind.u64.wrap (2 ^ k) = ((2 ^ k : Nat) : Int) := by
  have h1 : (2 : Nat) ^ k < 2 ^ 64 := Nat.pow_lt_pow_right (by decide) h
  rw [IntKind.wrap_u64, show ((2 : Int) ^ k) = ((2 ^ k : Nat) : Int) from by simp]
  rw [show (18446744073709551616 : Int) = ((18446744073709551616 : Nat) : Int) from rfl, ← Int.natCast_emod, Nat.mod_eq_of_lt h1]

theorem wrap64_pow (n : Nat) (h : n ≤ 6) : wrap64 (2 ^ n) = ((2 ^ n : Nat) : Int) := by
  have := Cho.two_pow_le n h
  rw [show ((2 : Int) ^ n) = ((2 ^ n : Nat) : Int) from by simp, wrap64]
  generalize 2 ^ n = N at *
  omega

set_option maxHeartbeats 1000000 in
theorem dtable_calls (s off B n capo : Nat) (oo : Option Addr) (ns : List Nd) (nv : Value) (l : Nat) (w : World) (h0 : w.cell? ⟨s, off, none⟩ = some (.slice oo n capo)) (h1 : w.cell? ⟨s, off + 1, none⟩ = some nv) (hr : w.ownsRow B 78 3 nv ns.length (flat ns))
    (hw : Cho.Wf ns) (hv : ∀ n ∈ ns, n.1 < 6) (hl : l < ns.length + 2) (hn6 : n ≤ 6) (hn : ns.length ≤ 1000000) :
    Calls Tryd.prog 28 #[.pointer (some ⟨s, off, none⟩), .int .i64 l] w fun e w' => e = .returned (.int .u64 (tabTo ns l (2 ^ n) : Nat)) ∧ Below w.heap.size w w' := by
  have hs := World.block_lt_of_cell? w _ h1
  simp only at hs
  have h64 := Cho.two_pow_le n hn6
  have HR : Hid (w.ownsRow B 78 3 nv ns.length (flat ns)) := hr
  have HW : Hid (Cho.Wf ns) := hw
  have HV : Hid (∀ n ∈ ns, n.1 < 6) := hv
  clear hr hw hv
  generalize hN : 2 ^ n = N at *
  have HN2 : Hid (2 ^ n = N) := hN
  clear hN
  go_enter Tryd.func28, Tryd.ntmps28
  go_wp2_with fail
  rw [wrap64_pow n hn6, HN2.out]
  go_loopw [5, 7] (fun t i wr => ∃ k : Nat, k ≤ N ∧ i = .int .i64 k ∧ t = .int .u64 (tabTo ns l k : Nat) ∧ Below w.heap.size w wr) (fun _ i _ => N - (intOf i).toNat)
  case atStart => exact ⟨0, Nat.zero_le _, rfl, rfl, Below.refl _ _⟩
  case round =>
    obtain ⟨k, hk, rfl, rfl, hbel⟩ := hrel
    have c1 : wr.cell? ⟨s, off + 1, none⟩ = some nv := (hbel.cell (p := ⟨s, off + 1, none⟩) hs).trans h1
    have hr' : wr.ownsRow B 78 3 nv ns.length (flat ns) := owns_kept HR.out fun g hg => hbel.block g (HR.out.lt g hg).2
    have HR' : Hid (wr.ownsRow B 78 3 nv ns.length (flat ns)) := hr'
    clear hr'
    by_cases hkn : k < N
    · have HT : Hid (tabTo ns l (k + 1) = if Cho.ev ns l k then tabTo ns l k ||| 2 ^ k else tabTo ns l k) := rfl
      have hu := tabTo_u64 ns l k (by omega)
      generalize tabTo ns l k = T at *
      have HU : Hid (bits .or .u64 (T : Int) (IntKind.u64.wrap (2 ^ k)) = ((T ||| 2 ^ k : Nat) : Int)) := by
        show bits .or .u64 (T : Int) (IntKind.u64.wrap (2 ^ k)) = ((T ||| 2 ^ k : Nat) : Int)
        rw [wrap_pow' k (by omega)]; exact or64 hu (pow_u64 k (by omega))
      go_wp2_with fail
      refine (says_calls s off B ns nv l k _ c1 HR'.out HW.out HV.out hl (by omega) hn).mono ?_
      rintro e w1 ⟨rfl, hb1⟩
      have hbel1 := hbel.trans (hb1.mono hbel.size)
      cases hev : Cho.ev ns l k
      · have HT2 : Hid (tabTo ns l (k + 1) = T) := HT.out.trans (by rw [hev]; rfl)
        go_wp2_with fail
        exact ⟨⟨k + 1, by omega, by go_num, by rw [HT2.out], hbel1⟩, by simp [intOf]; omega⟩
      · have HT2 : Hid (tabTo ns l (k + 1) = T ||| 2 ^ k) := HT.out.trans (by rw [hev]; rfl)
        go_wp2_with fail
        exact ⟨⟨k + 1, by omega, by go_num, val_int (by rw [HT2.out]; exact HU.out), hbel1⟩, by simp [intOf]; omega⟩
    · have HT : Hid (tabTo ns l k = tabTo ns l N) := by show tabTo ns l k = tabTo ns l N; rw [show k = N from by omega]
      go_wp2_with fail
      go_ret
      exact ⟨ret_int (by rw [HT.out]), hbel⟩
end Go.Proofs.YthoodkbdpnffdabDoor
