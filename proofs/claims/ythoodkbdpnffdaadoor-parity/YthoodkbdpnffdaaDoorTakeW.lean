/-
  Own work: 'take' puts other nodes in the place of a store's (a walk).
-/
import Derived.Test.YthoodkbdpnffdaaDoorStoreM
import Derived.Test.YthoodkbdpnffdaaDoorKeepA
import Derived.Laws.CopyOwn
namespace Go.Proofs.YthoodkbdpnffdaaDoor
open Go.RowKit
open Cho (U64 Tab full col Nd Red)

theorem cells_rs (st : St) (ov nv : Value) (rs' : List Nat) (h30 : st.hs.length = 30) (r30 : st.rs.length = 30) (l30 : rs'.length = 30) :
    (cellsOf st ov nv).take 33 ++ (lv rs' ++ (cellsOf st ov nv).drop (33 + (lv rs').length)) = cellsOf { st with rs := rs' } ov nv := by
  have e1 : (cellsOf st ov nv).take 33 = .int .i64 st.n :: .int .i64 st.room :: .int .u32 st.given :: hv st.hs := by
    simp only [cellsOf, List.take_succ_cons]
    rw [List.take_append_of_le_length (by rw [hv_len]; omega), List.take_of_length_le (by rw [hv_len]; omega)]
  have e2 : (cellsOf st ov nv).drop (33 + (lv rs').length) = [ov, nv] := by
    rw [lv_len, l30]
    simp only [cellsOf, List.drop_succ_cons]
    rw [List.drop_append, List.drop_append, hv_len, lv_len, h30, r30]
    simp [List.drop_eq_nil_of_le, hv_len, h30]
    rw [lv_len]; omega
  rw [e1, e2]
  simp [cellsOf]
theorem infoLinkS : (Tryd.prog.info? 81).map (·.size) = some 1 := by kernel_rfl
theorem lv_one (l : List Nat) : ∀ u ∈ lv l, u.oneCell' = true := by
  intro u hu
  simp only [lv, List.mem_map] at hu
  obtain ⟨n, _, rfl⟩ := hu
  rfl

set_option maxRecDepth 100000 in
set_option maxHeartbeats 1000000 in
theorem take_calls (s gl capl : Nat) (st : St) (ov nv : Value) (ao ak : Option Addr) (n capo k capk : Nat) (rs' : List Nat) (w : World)
    (hb : w.heap[s]? = some (.cells (cellsOf st ov nv).toArray 93 (0, 0))) (h30 : st.hs.length = 30) (r30 : st.rs.length = 30) (l30 : rs'.length = 30)
    (hsrc : ∀ j u, (lv rs')[j]? = some u → w.cell? ((⟨gl, 0, none⟩ : Addr).add j) = some u) (hgl : gl ≠ s) :
    Calls Tryd.prog 57 #[.pointer (some ⟨s, 0, none⟩), .agg #[.slice ao n capo, .slice ak k capk], .slice (some ⟨gl, 0, none⟩) 30 capl] w fun e w' => e = .returned (.tuple #[]) ∧
      w'.heap[s]? = some (.cells (cellsOf { st with rs := rs' } (.slice ao n capo) (.slice ak k capk)).toArray 93 (0, 0)) ∧ w.grownBy w' (some s) := by
  have hsw := lt_of_block hb
  have hgw : gl < w.heap.size := by
    have := hsrc 0 _ (lv_get rs' 0 (by omega))
    have := World.block_lt_of_cell? w _ this
    simpa [Addr.add] using this
  have hB1 : ((w.setCell ⟨s, 63, none⟩ (.slice ao n capo)).setCell ⟨s, 64, none⟩ (.slice ak k capk)).heap[s]? = some (.cells (cellsOf st (.slice ao n capo) (.slice ak k capk)).toArray 93 (0, 0)) := by
    rw [block_set (block_set hb), set_d h30 r30]
  have hB2 : (((w.setCell ⟨s, 63, none⟩ (.slice ao n capo)).setCell ⟨s, 64, none⟩ (.slice ak k capk)).alloc (.cells #[.slice ao n capo, .slice ak k capk] 91)).heap[s]? = some (.cells (cellsOf st (.slice ao n capo) (.slice ak k capk)).toArray 93 (0, 0)) := (Below.heap_alloc _ _ _ (lt_of_block hB1)).trans hB1
  have HSRC : ∀ j u, (lv rs')[j]? = some u → (((w.setCell ⟨s, 63, none⟩ (.slice ao n capo)).setCell ⟨s, 64, none⟩ (.slice ak k capk)).alloc (.cells #[.slice ao n capo, .slice ak k capk] 91)).cell? ((⟨gl, 0, none⟩ : Addr).add j) = some u := by
    intro j u hu
    have h1 := hsrc j u hu
    rw [Addr.add_mid] at h1 ⊢
    exact with_al (set_far hgl (set_far hgl h1))
  have HFT : 33 + (lv rs').length ≤ (cellsOf st (.slice ao n capo) (.slice ak k capk)).toArray.size := by
    rw [lv_len, l30]
    simp only [cellsOf, List.size_toArray, List.length_cons, List.length_append, hv_len, lv_len, h30, r30, List.length_nil]
    omega
  have hrun := run_copy_row (P := Tryd.prog) _ 101 101 3 81 s 33 30 30 ⟨gl, 0, none⟩ 30 capl _ 93 (lv rs') Tryd.underlying101 infoLinkS hB2 (by rw [lv_len, l30]; rfl) HSRC HFT (lv_one rs')
  rw [List.append_assoc, List.toList_toArray, cells_rs st _ _ rs' h30 r30 l30, lv_len, l30] at hrun
  have hne : ¬ s = w.heap.size := by omega
  have r63 : w.cell? ⟨s, 63, none⟩ = some ov := (cell_of_block hb 63).trans (by rw [List.getElem?_toArray, at_63 h30 r30])
  have r64 : w.cell? ⟨s, 64, none⟩ = some nv := (cell_of_block hb 64).trans (by rw [List.getElem?_toArray, at_64 h30 r30])
  have rz : ∀ j, w.frozen? ⟨s, j, none⟩ = false := fun j => frozen_of_block hb j
  have FIN : Hid (((((w.setCell ⟨s, 63, none⟩ (.slice ao n capo)).setCell ⟨s, 64, none⟩ (.slice ak k capk)).alloc (.cells #[.slice ao n capo, .slice ak k capk] 91)).setRow s (cellsOf { st with rs := rs' } (.slice ao n capo) (.slice ak k capk)).toArray).heap[s]? = some (.cells (cellsOf { st with rs := rs' } (.slice ao n capo) (.slice ak k capk)).toArray 93 (0, 0)) ∧
      w.grownBy ((((w.setCell ⟨s, 63, none⟩ (.slice ao n capo)).setCell ⟨s, 64, none⟩ (.slice ak k capk)).alloc (.cells #[.slice ao n capo, .slice ak k capk] 91)).setRow s (cellsOf { st with rs := rs' } (.slice ao n capo) (.slice ak k capk)).toArray) (some s)) := by
    refine ⟨setRow_heap _ s _ _ _ _ hB2, rfl, rfl, rfl, by simp [World.setRow, World.setCell], fun b hb' hbs => ?_⟩
    have hbs' : b ≠ s := by intro e; exact hbs (by rw [e])
    rw [setRow_other _ _ _ _ hbs', Below.heap_alloc _ _ _ (by simpa [World.setCell] using hb'), block_set_other hbs', block_set_other hbs']
  generalize cellsOf { st with rs := rs' } (.slice ao n capo) (.slice ak k capk) = C at *
  clear hb hB1 hB2 HSRC HFT hsrc
  go_enter Tryd.func57, Tryd.ntmps57
  go_wp2_with fail
  go_end0
  exact ⟨rfl, FIN.out⟩
end Go.Proofs.YthoodkbdpnffdaaDoor
