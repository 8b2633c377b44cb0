/-
  Own work: 'add' gives a new handle to a table's function, or refuses and turns nothing (walks).
-/
import Derived.Test.YthoodkbdpnffdabDoorStoreM
namespace Go.Proofs.YthoodkbdpnffdabDoor
open Go.RowKit
open Cho (U64 Tab full col Nd)

set_option maxHeartbeats 400000 in
theorem nodes_calls (s off n cap : Nat) (ao : Option Addr) (w : World) (h1 : w.cell? ⟨s, off + 1, none⟩ = some (.slice ao n cap)) :
    Calls Tryd.prog 20 #[.pointer (some ⟨s, off, none⟩)] w fun e w' => e = .returned (.int .i64 n) ∧ w' = w := by
  go_enter Tryd.func20, Tryd.ntmps20
  go_wp2
  go_ret
  exact ⟨rfl, rfl⟩

set_option maxHeartbeats 400000 in
theorem add_many (s t : Nat) (st : St) (w : World) (h : StoreAt w s st) (hf : ¬ st.free < 30) :
    Calls Tryd.prog 15 #[.pointer (some ⟨s, 0, none⟩), .int .u64 t] w fun e w' => e = .returned (.tuple #[.int .u32 0, .int .i64 3]) ∧ w' = w := by
  obtain ⟨go, capo, nv, B, hb, -⟩ := h.ex
  have hfree := free_calls s st _ nv w hb h.hs30 h.given
  rw [ixOr_ge hf] at hfree
  have HS : Hid (Calls Tryd.prog 16 #[.pointer (some ⟨s, 0, none⟩)] w fun e w' => e = .returned (.int .i64 (-1)) ∧ w' = w) := hfree
  clear hfree h hb
  go_enter Tryd.func15, Tryd.ntmps15
  go_wp2_with fail
  refine HS.out.mono ?_
  rintro e w1 ⟨rfl, rfl⟩
  go_wp2_with fail
  go_ret2
  exact ⟨rfl, rfl⟩

/-- The store that 'add' leaves. -/
def St.added (st : St) (t : Nat) : St :=
  { st with given := st.given + 1, hs := st.hs.set st.free (st.given + 1), rs := st.rs.set st.free (Cho.build st.ord t st.ns).2, ns := (Cho.build st.ord t st.ns).1 }

theorem add_set3 {w1 w2 : World} {s g nq : Nat} {st : St} {ov nv ov' nv' : Value} (h30 : st.hs.length = 30) (r30 : st.rs.length = 30) (hb : w2.heap[s]? = some (.cells (cellsOf st ov nv).toArray 53 (0, 0)))
    (bel : Below w1.heap.size w1 w2) (hs : s < w1.heap.size) (o : Obj) :
    ((((((w2.alloc o).drewN nq).setCell ⟨s, 63, none⟩ ov').setCell ⟨s, 64, none⟩ nv').setCell ⟨s, 2, none⟩ (.int .u32 (g : Nat))).heap[s]? = some (.cells (cellsOf { st with given := g } ov' nv').toArray 53 (0, 0))) ∧
    w1.grownBy (((((w2.alloc o).drewN nq).setCell ⟨s, 63, none⟩ ov').setCell ⟨s, 64, none⟩ nv').setCell ⟨s, 2, none⟩ (.int .u32 (g : Nat))) (some s) ∧
    (∀ k, k < w2.heap.size → k ≠ s → (((((w2.alloc o).drewN nq).setCell ⟨s, 63, none⟩ ov').setCell ⟨s, 64, none⟩ nv').setCell ⟨s, 2, none⟩ (.int .u32 (g : Nat))).heap[k]? = w2.heap[k]?) := by
  have hs2 := bel.size
  have h0 : ((w2.alloc o).drewN nq).heap[s]? = w2.heap[s]? := by
    rw [(below_drewN (Below.refl (s + 1) (w2.alloc o)) nq).block s (by omega), Below.heap_alloc _ _ _ (by omega)]
  refine ⟨?_, ?_, ?_⟩
  · rw [block_set (block_set (block_set (h0.trans hb))), set_d h30 r30, set_2]
  · exact grown_set (grown_set (grown_set (grown_of_below (below_drewN (bel.alloc (by omega) o) nq))))
  · intro k hk hks
    rw [block_set_other hks, block_set_other hks, block_set_other hks, (below_drewN (Below.refl (k + 1) (w2.alloc o)) nq).block k (by omega), Below.heap_alloc _ _ _ hk]

theorem add_end {w1 w2 W3 : World} {s t k l2 go capo : Nat} {st : St} {nv2 : Value} {ns2 : List Nd} (hk : st.free = k) (hbl : Cho.build st.ord t st.ns = (ns2, l2)) (H : StoreAt w1 s st) (bel : Below w1.heap.size w1 w2)
    (HO : OrdAt w1 go st.ord ∧ (∃ cur, w1.heap[go]? = some (.cells cur 3 (0, 0))) ∧ st.ord.length ≤ capo) (HR : w2.ownsRow w1.heap.size 78 3 nv2 ns2.length (flat ns2))
    (hb : W3.heap[s]? = some (.cells (cellsOf { st with given := st.given + 1 } (.slice (some ⟨go, 0, none⟩) st.ord.length capo) nv2).toArray 53 (0, 0)))
    (hold : ∀ k, k < w2.heap.size → k ≠ s → W3.heap[k]? = w2.heap[k]?)
    (hgr : w1.grownBy ((W3.setCell ⟨s, 3 + k, none⟩ (.int .u32 ((st.given : Int) + 1))).setCell ⟨s, 33 + k, none⟩ (.int .i64 l2)) (some s)) (hf : k < 30) (hgl2 : st.given + 1 < 4294967295) :
    StoreAt ((W3.setCell ⟨s, 3 + k, none⟩ (.int .u32 ((st.given : Int) + 1))).setCell ⟨s, 33 + k, none⟩ (.int .i64 l2)).drew s (st.added t) := by
  obtain ⟨ho, ⟨cur, hcur⟩, hcap⟩ := HO
  have eg : ((st.given : Int) + 1) = ((st.given + 1 : Nat) : Int) := by omega
  rw [eg] at hgr ⊢
  have hs1 : s < w1.heap.size := by obtain ⟨_, _, _, _, h, _⟩ := H.ex; exact lt_of_block h
  have hgo1 := lt_of_block hcur
  have hblk := block_set (j := 33 + k) (x := .int .i64 l2) (block_set (j := 3 + k) (x := .int .u32 ((st.given + 1 : Nat) : Int)) hb)
  rw [set_h (st := { st with given := st.given + 1 }) H.hs30 k _ hf, set_r (st := { st with given := st.given + 1, hs := st.hs.set k (st.given + 1) }) (by simp [H.hs30]) H.rs30 k _ hf] at hblk
  have hgos : go ≠ s := by
    obtain ⟨_, _, _, _, h, _⟩ := H.ex
    rintro rfl; rw [hcur] at h; simp at h
  have hsz := bel.size
  have hkeep : ∀ q, q < w2.heap.size → q ≠ s → ((W3.setCell ⟨s, 3 + k, none⟩ (.int .u32 ((st.given + 1 : Nat) : Int))).setCell ⟨s, 33 + k, none⟩ (.int .i64 l2)).heap[q]? = w2.heap[q]? := fun q hq hqs => by
    rw [block_set_other hqs, block_set_other hqs, hold q hq hqs]
  have hgo' := (hkeep go (by omega) hgos).trans (bel.block go hgo1)
  refine ⟨H.pos, ⟨go, capo, nv2, w1.heap.size, ?_, ?_, ⟨cur, hgo'.trans hcur⟩, hcap, ?_⟩, by simp [St.added, H.hs30], by simp [St.added, H.rs30], hgl2, H.n6, H.ordl, H.ord6, H.room, ?_⟩
  · have e : St.added st t = { st with given := st.given + 1, hs := st.hs.set k (st.given + 1), rs := st.rs.set k l2, ns := ns2 } := by simp [St.added, hk, hbl]
    rw [e]; exact hblk
  · exact fun i hi => (World.cell?_of_block (a := ⟨go, i, none⟩) hgo').trans (ho i hi)
  · have e : (St.added st t).ns = ns2 := by simp [St.added, hbl]
    rw [e]
    refine owns_kept HR fun g hg => ?_
    have := HR.lt g hg
    exact hkeep g this.2 (by omega)
  · have hc := H.cols.grown hgr (by have := H.pos; simp; omega)
    exact fun i hi => hc i hi

set_option maxHeartbeats 1000000 in
theorem add_walk (s t : Nat) (st : St) (w : World) (h : StoreAt w s st) (hf : st.free < 30) (ht : U64 t) (hns : st.ns.length ≤ 4000) (hgl2 : st.given + 1 < 4294967295) :
    Calls Tryd.prog 15 #[.pointer (some ⟨s, 0, none⟩), .int .u64 t] w fun e w' => 
      (st.room < (Cho.build st.ord t st.ns).1.length → e = .returned (.tuple #[.int .u32 0, .int .i64 4]) ∧ StoreAt w' s st) ∧
      ((Cho.build st.ord t st.ns).1.length ≤ st.room → e = .returned (.tuple #[.int .u32 (st.given + 1 : Nat), .int .i64 0]) ∧ StoreAt w' s (st.added t)) ∧ w.grownBy w' (some s) := by
  have H : Hid (StoreAt w s st) := h
  obtain ⟨go, capo, nv, B, hb, ho, ⟨cur, hcur⟩, hcap, hr⟩ := h.ex
  have hfree := free_calls s st _ nv w hb h.hs30 h.given
  rw [ixOr_lt hf] at hfree
  have HS : Hid (Calls Tryd.prog 16 #[.pointer (some ⟨s, 0, none⟩)] w fun e w' => e = .returned (.int .i64 (st.free : Nat)) ∧ w' = w) := hfree
  have hsw := lt_of_block hb
  have d0 : w.cell? ⟨s, 63, none⟩ = some (.slice (some ⟨go, 0, none⟩) st.ord.length capo) := (cell_of_block hb 63).trans (by rw [List.getElem?_toArray, at_63 h.hs30 h.rs30])
  have d1 : w.cell? ⟨s, 64, none⟩ = some nv := (cell_of_block hb 64).trans (by rw [List.getElem?_toArray, at_64 h.hs30 h.rs30])
  have HW : Hid (Calls Tryd.prog 26 #[.pointer (some ⟨s, 63, none⟩), .int .u64 t] w fun e w' => ∃ nv',
      e = .returned (.tuple #[.agg #[.slice (some ⟨go, 0, none⟩) st.ord.length capo, nv'], .int .i64 (Cho.build st.ord t st.ns).2]) ∧
        w'.ownsRow w.heap.size 78 3 nv' (Cho.build st.ord t st.ns).1.length (flat (Cho.build st.ord t st.ns).1) ∧ Below w.heap.size w w') := with_calls s 63 go capo B st.ord st.ns nv t w d0 d1 hr h.cols ho hsw (lt_of_block hcur) (cols_pos h.cols) (fun v hv => by have := h.ord6 v hv; have := h.n6; omega) (by rw [h.ordl]; exact h.n6) ht (by omega)
  have hg : w.cell? ⟨s, 2, none⟩ = some (.int .u32 (st.given : Nat)) := cell_of_block hb 2
  have hrm : w.cell? ⟨s, 1, none⟩ = some (.int .i64 (st.room : Nat)) := cell_of_block hb 1
  have hgl := h.given
  have HBK : Hid (w.heap[s]? = some (.cells (cellsOf st (.slice (some ⟨go, 0, none⟩) st.ord.length capo) nv).toArray 53 (0, 0))) := hb
  have HOR : Hid (OrdAt w go st.ord ∧ (∃ cur, w.heap[go]? = some (.cells cur 3 (0, 0))) ∧ st.ord.length ≤ capo) := ⟨ho, ⟨cur, hcur⟩, hcap⟩
  clear hfree h hb ho hcur hr d0 d1
  go_enter Tryd.func15, Tryd.ntmps15
  go_wp2_with fail
  refine HS.out.mono ?_
  rintro e w1 ⟨rfl, rfl⟩
  go_wp2_with fail
  refine HW.out.mono ?_
  rintro e w2 ⟨nv2, rfl, hr2, bel2⟩
  obtain ⟨ao2, cap2, rfl⟩ := owns_slice hr2
  have hg2 : w2.cell? ⟨s, 2, none⟩ = some (.int .u32 (st.given : Nat)) := (bel2.cell (p := ⟨s, 2, none⟩) hsw).trans hg
  have hrm2 : w2.cell? ⟨s, 1, none⟩ = some (.int .i64 (st.room : Nat)) := (bel2.cell (p := ⟨s, 1, none⟩) hsw).trans hrm
  have hb2 := (bel2.block s hsw).trans HBK.out
  have hs2 := bel2.size
  have hsw2 : s < w2.heap.size := by omega
  have HB2 : Hid (w2.heap[s]? = some (.cells (cellsOf st (.slice (some ⟨go, 0, none⟩) st.ord.length capo) nv).toArray 53 (0, 0))) := hb2
  have HR2 : Hid _ := hr2
  clear HW HS HBK hb2 hr2 hg hrm
  generalize hbld : Cho.build st.ord t st.ns = bl at *
  obtain ⟨ns2, l2⟩ := bl
  simp only at *
  have HBLD : Hid (Cho.build st.ord t st.ns = (ns2, l2)) := hbld
  clear hbld
  by_cases hroom : st.room < ns2.length
  · go_wp2_with fail
    go_quiet ((go_at_call 20; exact Calls.quiet_of_same (nodes_calls _ _ ns2.length cap2 ao2 _ (by simp))))
    go_wp2_with fail
    go_ret2
    have hbel : Below w1.heap.size w1 ((w2.alloc (.cells #[.slice (some ⟨go, 0, none⟩) st.ord.length capo, .slice ao2 ns2.length cap2] 51)).drewN nq) := below_drewN (bel2.alloc (by omega) _) nq
    rw [HBLD.out]
    exact ⟨fun _ => ⟨rfl, H.out.below hbel⟩, fun h => absurd h (by simp; omega), grown_of_below hbel⟩
  · have q63 : w2.cell? ⟨s, 63, none⟩ = some (.slice (some ⟨go, 0, none⟩) st.ord.length capo) := (cell_of_block HB2.out 63).trans (by rw [List.getElem?_toArray, at_63 H.out.hs30 H.out.rs30])
    have q64 : w2.cell? ⟨s, 64, none⟩ = some nv := (cell_of_block HB2.out 64).trans (by rw [List.getElem?_toArray, at_64 H.out.hs30 H.out.rs30])
    have fz : ∀ j, w2.frozen? ⟨s, j, none⟩ = false := fun j => frozen_of_block HB2.out j
    have qh : ∃ x, w2.cell? ⟨s, 3 + st.free, none⟩ = some x := ⟨_, (cell_of_block HB2.out _).trans (by rw [List.getElem?_toArray, at_h H.out.hs30 _ hf])⟩
    have qr : ∃ x, w2.cell? ⟨s, 33 + st.free, none⟩ = some x := ⟨_, (cell_of_block HB2.out _).trans (by rw [List.getElem?_toArray, at_r H.out.hs30 H.out.rs30 _ hf])⟩
    obtain ⟨xh, qh⟩ := qh
    obtain ⟨xr, qr⟩ := qr
    have hne : ¬ w2.heap.size = s := by omega
    generalize hfk : st.free = k at *
    have HFK : Hid (st.free = k) := hfk
    clear hfk
    go_wp2_with fail
    go_quiet ((go_at_call 20; exact Calls.quiet_of_same (nodes_calls _ _ ns2.length cap2 ao2 _ (by simp))))
    go_wp2_with fail
    have hw3 := add_set3 (g := st.given + 1) (ov' := .slice (some ⟨go, 0, none⟩) st.ord.length capo) (nv' := .slice ao2 ns2.length cap2) (nq := nq) H.out.hs30 H.out.rs30 HB2.out bel2 hsw (.cells #[.slice (some ⟨go, 0, none⟩) st.ord.length capo, .slice ao2 ns2.length cap2] 51)
    have eg : (((st.given + 1 : Nat)) : Int) = (st.given : Int) + 1 := by omega
    rw [eg] at hw3
    generalize ((((w2.alloc (.cells #[.slice (some ⟨go, 0, none⟩) st.ord.length capo, .slice ao2 ns2.length cap2] 51)).drewN nq).setCell ⟨s, 63, none⟩ (.slice (some ⟨go, 0, none⟩) st.ord.length capo)).setCell ⟨s, 64, none⟩ (.slice ao2 ns2.length cap2)).setCell ⟨s, 2, none⟩ (.int .u32 ((st.given : Int) + 1)) = W3 at *
    obtain ⟨hb3, hg3, hold3⟩ := hw3
    have p2 : W3.cell? ⟨s, 2, none⟩ = some (.int .u32 ((st.given : Int) + 1)) := (cell_of_block hb3 2).trans (by rw [← eg]; rfl)
    have pf : ∀ j, W3.frozen? ⟨s, j, none⟩ = false := fun j => frozen_of_block hb3 j
    have ph : ∃ x, W3.cell? ⟨s, 3 + k, none⟩ = some x := ⟨_, (cell_of_block hb3 _).trans ((List.getElem?_toArray ..).trans (at_h (st := { st with given := st.given + 1 }) H.out.hs30 _ hf))⟩
    have pr : ∃ x, W3.cell? ⟨s, 33 + k, none⟩ = some x := ⟨_, (cell_of_block hb3 _).trans ((List.getElem?_toArray ..).trans (at_r (st := { st with given := st.given + 1 }) H.out.hs30 H.out.rs30 _ hf))⟩
    obtain ⟨yh, ph⟩ := ph
    obtain ⟨yr, pr⟩ := pr
    have HB3 : Hid (W3.heap[s]? = some (.cells (cellsOf { st with given := st.given + 1 } (.slice (some ⟨go, 0, none⟩) st.ord.length capo) (.slice ao2 ns2.length cap2)).toArray 53 (0, 0))) := hb3
    have HO3 : Hid (∀ k, k < w2.heap.size → k ≠ s → W3.heap[k]? = w2.heap[k]?) := hold3
    have HG3 : Hid (w1.grownBy W3 (some s)) := hg3
    clear hold3 hg3
    clear eg q63 q64 fz qh qr hb3
    go_region
    go_wp2_with fail
    go_ret2
    have hgr : w1.grownBy ((W3.setCell ⟨s, 3 + k, none⟩ (.int .u32 ((st.given : Int) + 1))).setCell ⟨s, 33 + k, none⟩ (.int .i64 l2)) (some s) := grown_set (grown_set HG3.out)
    refine ⟨fun h => ?_, fun _ => ⟨rfl, ?_⟩, ⟨hgr.os, hgr.tape, hgr.output, hgr.size, hgr.block⟩⟩
    · rw [HBLD.out] at h; exact absurd h hroom
    · have e := add_end (st := st) (t := t) HFK.out HBLD.out H.out bel2 HOR.out HR2.out HB3.out HO3.out hgr hf hgl2
      exact e
end Go.Proofs.YthoodkbdpnffdabDoor
