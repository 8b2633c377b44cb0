/-
  Own work: what a slice of numbers that came in gives the walks.
-/
import Derived.Test.YthoodkbdpnffdaaDoorPlainD
import Derived.Test.YthoodkbdpnffdaaDoorFilledW
import Derived.ChangeOld
import Derived.Test.YthoodkbdpnffdaaDoorStoreM
import Derived.Test.YthoodkbdpnffdaaDoorStoreA
import Derived.Test.YthoodkbdpnffdaaDoorPlainJ
import Derived.Deep.OwnRows
namespace Go.Proofs.YthoodkbdpnffdaaDoor
open Go.ChangeShapes Go.WideShapes Go.ChangeAt Go.WideMaps Go.WideElems Go.RowKit
open Cho (U64)

theorem laidOutAll : laidOutB Tryd.prog = true := by kernel_rfl

theorem slice_u64 {H : Type} {enc : TypeId × Value → H} {W : World} {a1 : Option Addr} {len1 cap1 : Nat} {d : DataW H} {ps : List MemPlace}
    (h : DataW.Trod enc Tryd.prog W 0 (fun _ => true) true 49 (.slice a1 len1 cap1) d ps) :
    ∃ l : List Nat, l.length = len1 ∧ SlU W a1 l ∧ (∀ t ∈ l, U64 t) ∧ l.length ≤ 9223372036854775807 := by
  obtain ⟨fuel, hf⟩ := h
  rcases open_ints Tryd.underlying49 Tryd.underlying22 (by kernel_rfl) hf with ⟨hcs, _⟩ | ⟨x, l, c, zs, hcs, _, hl, hm, hz, _, hcell, hwz⟩
  · simp [Value.cells] at hcs
    obtain ⟨rfl, rfl, rfl⟩ := hcs
    exact ⟨[], rfl, fun i hi => absurd hi (by simp), by simp, by simp⟩
  · simp [Value.cells] at hcs
    obtain ⟨rfl, rfl, rfl⟩ := hcs
    have hz' : zs.length = cap1 := by simpa using hz
    have hlen : ((zs.take len1).map Int.toNat).length = len1 := by simp; omega
    refine ⟨(zs.take len1).map Int.toNat, hlen, ?_, ?_, by rw [hlen]; unfold maxLen at hm; omega⟩
    · intro i hi
      rw [hlen] at hi
      obtain ⟨b, off, rfl, hc'⟩ := ints_at hcell (by omega)
      have hc := hc' i (by omega)
      have hiz : i < zs.length := by omega
      obtain ⟨n, e, hn⟩ := u64_bd (hwz zs[i] (List.getElem_mem hiz))
      have eg : zs.getD i 0 = (n : Int) := by simp [List.getD, hiz, e]
      refine ⟨b, off, rfl, World.block_lt_of_cell? W _ hc, ?_⟩
      rw [hc, eg]
      simp [e]
    · intro t ht
      simp only [List.mem_map] at ht
      obtain ⟨z, hz2, rfl⟩ := ht
      have := hwz z (List.mem_of_mem_take hz2)
      obtain ⟨n, e, hn⟩ := u64_bd this
      rw [e]; simpa using hn
end Go.Proofs.YthoodkbdpnffdaaDoor

/-
  Own work: 'reached' marks the links that are reached, as the plain function does (a walk).
-/
namespace Go.Proofs.YthoodkbdpnffdaaDoor
open Go.RowKit
open Cho (U64 Tab full col Nd)

def bc (b : List Bool) : List Value := b.map Value.bool
theorem bc_set (b : List Bool) (l : Nat) : (bc b).set l (.bool true) = bc (b.set l true) := by simp [bc, List.map_set]
theorem bc_get (b : List Bool) (l : Nat) (h : l < b.length) : (bc b)[l]? = some (.bool (b.getD l false)) := by simp [bc, List.getD, h]
theorem Tryd.infoBool : (Tryd.prog.info? 4).map (fun i => (i.zero, i.size, i.bytes)) = some (some (.bool false), 1, 1) := by kernel_rfl

/-- The marks lie in block g. -/
structure Marks (w wr : World) (b : List Bool) (n : Nat) : Prop where
  at' : wr.heap[w.heap.size]? = some (.cells (bc b).toArray 4 (0, 0))
  len : b.length = n + 2
  bel : Below w.heap.size w wr
theorem Marks.cell {w wr : World} {b : List Bool} {n : Nat} (h : Marks w wr b n) (l : Nat) (hl : l < n + 2) : wr.cell? ⟨w.heap.size, l, none⟩ = some (.bool (b.getD l false)) := by
  rw [cell_of_block h.at', List.getElem?_toArray, bc_get _ _ (by rw [h.len]; exact hl)]
theorem Marks.set {w wr : World} {b : List Bool} {n : Nat} (h : Marks w wr b n) (l : Nat) : Marks w (wr.setCell ⟨w.heap.size, l, none⟩ (.bool true)) (b.set l true) n :=
  ⟨by rw [block_set h.at', bc_set], by simp [h.len], h.bel.setCell (Nat.le_refl _) _⟩

theorem made_marks (n : Nat) : madeCells #[Value.bool false] (n + 2) = (bc (Cho.marks0 n)).toArray := by
  unfold madeCells bc Cho.marks0
  apply Array.ext
  · simp
  · intro i h1 h2
    simp [Nat.mod_one]

set_option maxHeartbeats 1000000 in
theorem reached_calls (s off B g o capl : Nat) (ns : List Nd) (nv : Value) (ls : List Nat) (w : World) (h1 : w.cell? ⟨s, off + 1, none⟩ = some nv) (hr : w.ownsRow B 122 3 nv ns.length (flat ns))
    (hl : ∀ i (hi : i < ls.length), w.cell? ⟨g, o + i, none⟩ = some (.int .i64 (ls[i] : Nat))) (hg : g < w.heap.size) (hlt : ∀ l ∈ ls, l < ns.length + 2) (hw : Cho.Wf ns) (hn : ns.length ≤ 1000000) (hls : ls.length ≤ 30) :
    Calls Tryd.prog 73 #[.pointer (some ⟨s, off, none⟩), .slice (some ⟨g, o, none⟩) ls.length capl] w fun e w' =>
      e = .returned (.slice (some ⟨w.heap.size, 0, none⟩) (ns.length + 2) (ns.length + 2)) ∧ Marks w w' (Cho.reached ns ls) ns.length := by
  obtain ⟨ao, cap, rfl, hblk, hcells⟩ := row_cell hr
  have hs := World.block_lt_of_cell? w _ h1
  simp only at hs
  have HL : Hid (∀ i (hi : i < ls.length), w.cell? ⟨g, o + i, none⟩ = some (.int .i64 (ls[i] : Nat))) := hl
  have HLT : Hid (∀ l ∈ ls, l < ns.length + 2) := hlt
  have HW : Hid (Cho.Wf ns) := hw
  have HCELLS : Hid (∀ k (hk : k < ns.length), ∃ g, ao = some ⟨g, 0, none⟩ ∧ g < w.heap.size ∧ ns.length ≤ cap ∧ w.cell? ⟨g, k * 3, none⟩ = some (.int .i64 (ns[k].1 : Nat)) ∧ w.cell? ⟨g, k * 3 + 1, none⟩ = some (.int .i64 (ns[k].2.1 : Nat)) ∧ w.cell? ⟨g, k * 3 + 2, none⟩ = some (.int .i64 (ns[k].2.2 : Nat))) := hcells
  have hmk := fun w => run_make_row' (P := Tryd.prog) 119 4 (.bool false) 1 Tryd.underlying119 Tryd.infoBool rfl .i64 .i64 (ns.length + 2) (by omega) (by omega) w
  have ec : (((ns.length + 2 : Nat)) : Int) = 2 + (ns.length : Int) := by omega
  rw [ec] at hmk
  clear hr hblk hl hlt hw hcells ec
  go_enter Tryd.func73, Tryd.ntmps73
  go_wp2_with fail
  clear hmk
  go_loopw [18] (fun i wr => ∃ k : Nat, k ≤ ls.length ∧ i = .int .i64 k ∧ Marks w wr (Cho.markAll ns.length (ls.take k)) ns.length) (fun i _ => ls.length - (intOf i).toNat)
  case atStart =>
    refine ⟨0, Nat.zero_le _, rfl, ⟨?_, Cho.markAll_len _ _, (Below.refl _ _).alloc (Nat.le_refl _) _⟩⟩
    rw [made_marks]; exact heap_res _ _
  case round =>
    obtain ⟨k, hk, rfl, hm⟩ := hrel
    have c1 : wr.cell? ⟨s, off + 1, none⟩ = some (.slice ao ns.length cap) := (hm.bel.cell (p := ⟨s, off + 1, none⟩) hs).trans h1
    have hsz : w.heap.size < wr.heap.size := lt_of_block hm.at'
    have HM : Hid (Marks w wr (Cho.markAll ns.length (ls.take k)) ns.length) := hm
    by_cases hkl : k < ls.length
    · have hlk := HLT.out ls[k] (List.getElem_mem hkl)
      have e1 : wr.cell? ⟨g, o + k, none⟩ = some (.int .i64 (ls[k] : Nat)) := (hm.bel.cell (p := ⟨g, o + k, none⟩) hg).trans (HL.out k hkl)
      have m1 := hm.cell ls[k] hlk
      have f1 : ∀ j, wr.frozen? ⟨w.heap.size, j, none⟩ = false := fun j => frozen_of_block hm.at' j
      have HS : Hid (Marks w (wr.setCell ⟨w.heap.size, ls[k], none⟩ (.bool true)) (Cho.markAll ns.length (ls.take (k + 1))) ns.length) := by
        have := hm.set ls[k]
        rw [← Cho.markAll_snoc, ← List.take_succ_eq_append_getElem hkl] at this
        exact this
      clear hm HLT HL
      generalize ls[k] = l at *
      go_wp2_with fail
      refine (leads_calls s off l ns.length cap _ _ c1 hlk hn).mono ?_
      rintro e w1 ⟨rfl, rfl⟩
      go_wp2_with fail
      exact ⟨⟨k + 1, hkl, by go_num, HS.out⟩, by simp [intOf]; omega⟩
    · have HM2 : Hid (Marks w wr (Cho.dn ns (Cho.markAll ns.length ls) 0) ns.length) := by
        have := hm
        rw [List.take_of_length_le (by omega)] at this
        exact this
      clear hm HM HLT HL
      go_wp2_with fail
      clear c1 hsz
      have HRE : Hid (Cho.reached ns ls = Cho.dn ns (Cho.markAll ns.length ls) ns.length) := rfl
      generalize Cho.markAll ns.length ls = b0 at *
      go_loopw [8] (fun i wr => ∃ (c : Nat) (z : Int), c ≤ ns.length ∧ z = ns.length - 1 - c ∧ i = .int .i64 z ∧ Marks w wr (Cho.dn ns b0 c) ns.length) (fun i _ => (intOf i + 1).toNat)
      case atStart => exact ⟨0, _, Nat.zero_le _, by omega, rfl, HM2.out⟩
      case round =>
        obtain ⟨c, z, hc, hz, rfl, hm⟩ := hrel
        clear HM2
        by_cases hcn : c < ns.length
        · obtain ⟨j, rfl⟩ := Int.eq_ofNat_of_zero_le (show 0 ≤ z by omega)
          have hj : j < ns.length := by omega
          have hjc : ns.length - 1 - c = j := by omega
          have c1 : wr.cell? ⟨s, off + 1, none⟩ = some (.slice ao ns.length cap) := (hm.bel.cell (p := ⟨s, off + 1, none⟩) hs).trans h1
          have hsz : w.heap.size < wr.heap.size := lt_of_block hm.at'
          obtain ⟨gn, hao, hgw, hcap, _, g1, g2⟩ := HCELLS.out j hj
          have e1 : wr.cell? ⟨gn, j * 3 + 1, none⟩ = some (.int .i64 (ns[j].2.1 : Nat)) := (hm.bel.cell (p := ⟨gn, _, none⟩) hgw).trans g1
          have e2 : wr.cell? ⟨gn, j * 3 + 2, none⟩ = some (.int .i64 (ns[j].2.2 : Nat)) := (hm.bel.cell (p := ⟨gn, _, none⟩) hgw).trans g2
          have hwj := HW.out j hj
          have m0 := hm.cell (2 + j) (by omega)
          have m1 := hm.cell ns[j].2.1 (by omega)
          have m2 := hm.cell ns[j].2.2 (by omega)
          have f1 : ∀ q, wr.frozen? ⟨w.heap.size, q, none⟩ = false := fun q => frozen_of_block hm.at' q
          have hdef : Cho.dn ns b0 (c + 1) = Cho.dstep ns j (Cho.dn ns b0 c) := by rw [← hjc]; rfl
          have hnode : ns.getD j (0, 0, 0) = ns[j] := by simp [List.getD, hj]
          have hneg : ¬ gn = w.heap.size := by omega
          have hnes : ¬ s = w.heap.size := by omega
          cases hb : (Cho.dn ns b0 c).getD (2 + j) false
          · rw [hb] at m0
            have HD : Hid (Marks w wr (Cho.dn ns b0 (c + 1)) ns.length) := by
              rw [hdef, Cho.dstep, Nat.add_comm j 2, hb]; exact hm
            clear g1 g2 e1 e2 m1 m2 hdef hnode hm
            subst hao
            clear HCELLS
            go_wp2_with fail
            exact ⟨⟨c + 1, _, hcn, by omega, rfl, HD.out⟩, by simp [intOf]; omega⟩
          · rw [hb] at m0
            have HD : Hid (Marks w ((wr.setCell ⟨w.heap.size, ns[j].2.1, none⟩ (.bool true)).setCell ⟨w.heap.size, ns[j].2.2, none⟩ (.bool true)) (Cho.dn ns b0 (c + 1)) ns.length) := by
              rw [hdef, Cho.dstep, Nat.add_comm j 2, hb, hnode]; exact (hm.set _).set _
            have m2' : ∃ v, (wr.setCell ⟨w.heap.size, ns[j].2.1, none⟩ (.bool true)).cell? ⟨w.heap.size, ns[j].2.2, none⟩ = some v := ⟨_, (hm.set _).cell _ (by omega)⟩
            have f2 : ∀ q, (wr.setCell ⟨w.heap.size, ns[j].2.1, none⟩ (.bool true)).frozen? ⟨w.heap.size, q, none⟩ = false := fun q => frozen_of_block (hm.set _).at' q
            obtain ⟨v2, m2'⟩ := m2'
            clear g1 g2 hdef hnode hm m2
            generalize ns[j] = q at *
            obtain ⟨qv, no, yes⟩ := q
            simp only at *
            subst hao
            clear HCELLS
            go_wp2_with fail
            exact ⟨⟨c + 1, _, hcn, by omega, rfl, HD.out⟩, by simp [intOf]; omega⟩
        · obtain rfl : c = ns.length := by omega
          obtain rfl : z = -1 := by omega
          have HD : Hid (Marks w wr (Cho.reached ns ls) ns.length) := by
            show Marks w wr (Cho.reached ns ls) ns.length
            rw [HRE.out]; exact hm
          clear hm hz
          go_wp2_with fail
          go_ret
          exact ⟨rfl, HD.out⟩
end Go.Proofs.YthoodkbdpnffdaaDoor
