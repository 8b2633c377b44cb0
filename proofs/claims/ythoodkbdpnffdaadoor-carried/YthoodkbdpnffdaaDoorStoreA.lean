/-
  Own work: 'With' answers the diagram grown by a table's nodes, as the plain function builds them, and turns no memory that there was (a walk).
-/
import Derived.Test.YthoodkbdpnffdaaDoorWithA
import Derived.Deep.MidRow
namespace Go.Proofs.YthoodkbdpnffdaaDoor
open Go.RowKit
open Cho (U64 Tab full col Nd)

theorem with_end1 {w w3 : World} {e : TypeId} {sz n : Nat} {v x y : Value} {xs : List Value} (h : w3.ownsRow (w.heap.size + 1) e sz v n xs) :
    ((w3.setCell ⟨w.heap.size, 0, none⟩ x).setCell ⟨w.heap.size, 1, none⟩ y).ownsRow w.heap.size e sz v n xs := by
  have hl := h.lt
  have hb : w3.ownsRow w.heap.size e sz v n xs := by
    obtain ⟨hlen, h | ⟨g, cap, cur, rfl, h1, h2⟩⟩ := h
    · exact ⟨hlen, .inl h⟩
    · exact ⟨hlen, .inr ⟨g, cap, cur, rfl, by omega, h2⟩⟩
  refine owns_kept hb fun g hg => ?_
  have := (hl g hg).1
  rw [block_set_other (by simp; omega), block_set_other (by simp; omega)]
theorem with_end2 {w W w3 : World} {x y : Value} (h : Below w.heap.size w W) (h3 : Below (w.heap.size + 1) W w3) :
    Below w.heap.size w ((w3.setCell ⟨w.heap.size, 0, none⟩ x).setCell ⟨w.heap.size, 1, none⟩ y) :=
  ((h.trans (h3.mono (by omega))).setCell (Nat.le_refl _) _).setCell (Nat.le_refl _) _

set_option maxRecDepth 100000 in
set_option maxHeartbeats 4000000 in
theorem with_calls (s off go capo B' : Nat) (ord : List Nat) (ns : List Nd) (nv : Value) (t : Nat) (w : World)
    (hs0 : w.cell? ⟨s, off, none⟩ = some (.slice (some ⟨go, 0, none⟩) ord.length capo)) (hs1 : w.cell? ⟨s, off + 1, none⟩ = some nv)
    (hr : w.ownsRow B' 122 3 nv ns.length (flat ns)) (hc : Cols w) (ho : OrdAt w go ord) (hsw : s < w.heap.size) (hgo : go < w.heap.size) (h0 : 0 < w.heap.size)
    (h6 : ∀ v ∈ ord, v < 6) (hn : ord.length ≤ 6) (ht : U64 t) (hl : ns.length ≤ 999000) :
    Calls Tryd.prog 72 #[.pointer (some ⟨s, off, none⟩), .int .u64 t] w fun e w' => ∃ nv',
      e = .returned (.tuple #[.agg #[.slice (some ⟨go, 0, none⟩) ord.length capo, nv'], .int .i64 (Cho.build ord t ns).2]) ∧
        w'.ownsRow w.heap.size 122 3 nv' (Cho.build ord t ns).1.length (flat (Cho.build ord t ns).1) ∧ Below w.heap.size w w' := by
  obtain ⟨ao, cap, rfl, hblk, hcells⟩ := row_cell hr
  clear hcells
  obtain ⟨i0, hi, hz0, hz1, hz2⟩ := info_parts Tryd.infoNode
  have HR : Hid (w.ownsRow B' 122 3 (.slice ao ns.length cap) ns.length (flat ns)) := hr
  have HC : Hid (Cols w) := hc
  have HOR : Hid (OrdAt w go ord) := ho
  have F1 : Hid (0 + ns.length ≤ maxLen) := by show 0 + ns.length ≤ maxLen; unfold maxLen; omega
  have F2 : Hid ((0 + ns.length) * 24 ≤ 140737488355328) := by show (0 + ns.length) * 24 ≤ 140737488355328; omega
  clear hr hc ho hblk
  go_enter Tryd.func72, Tryd.ntmps72
  go_wp2_with fail
  go_region_held3 (fun w' => w'.cell? ⟨s, off, none⟩ = some (.slice (some ⟨go, 0, none⟩) ord.length capo) ∧ w'.cell? ⟨s, off + 1, none⟩ = some (.slice ao ns.length cap))
    (first | exact ⟨hq0, hq1⟩ | exact ⟨with_al hq0, with_al hq1⟩ | exact ⟨with_dr (with_al (hs0)), with_dr (with_al (hs1))⟩ | exact ⟨with_dr (with_al (with_al (hs0))), with_dr (with_al (with_al (hs1)))⟩ | exact ⟨with_dr (with_al (with_al (with_al (hs0)))), with_dr (with_al (with_al (with_al (hs1))))⟩ | exact ⟨with_al (hs0), with_al (hs1)⟩ | exact ⟨with_al (with_al (hs0)), with_al (with_al (hs1))⟩ | exact ⟨with_al (with_al (with_al (hs0))), with_al (with_al (with_al (hs1)))⟩ | exact ⟨with_set (by omega) (with_set (by omega) hq0), with_set (by omega) (with_set (by omega) hq1)⟩ | go_keep)
    (first
      | (refine step_append_row (w := ((w.alloc (.cells #[.slice none 0 0, .slice none 0 0] 91)).alloc (.cells #[] 122)).drew) (by rfl) (.tmp 12) (.tmp 16) 89 (by rfl) (w.heap.size + 1) 122 i0 (.agg #[.int .i64 0, .int .i64 0, .int .i64 0]) 3 24 Tryd.underlying89 hi hz0 hz1 hz2 rfl (Nat.succ_pos 2) (.slice (some ⟨w.heap.size + 1, 0, none⟩) 0 0) 0 [] ?e1 (own_at1 w (.cells #[.slice none 0 0, .slice none 0 0] 91)) B' (.slice ao ns.length cap) ns.length (flat ns) ?e2 ((HR.out.alloc (.cells #[.slice none 0 0, .slice none 0 0] 91)).alloc (.cells #[] 122)) (flat_one ns) F1.out F2.out (le_al2 w _ _) ?_; (case e1 => simp [Act.eval]); (case e2 => simp [Act.eval]); intro v' w1 hown2 hgrow; obtain ⟨ao2, cap2, rfl⟩ := owns_slice hown2; have HO2 : Hid _ := hown2; have hy1 := with_lt2 (w := w) hgrow; have hq0 := with_keep2 hgrow (by omega) hs0; have hq1 := with_keep2 hgrow (by omega) hs1; have hy2 : ¬ s = w1.heap.size := (by omega); have hy3 : ¬ w1.heap.size = s := (by omega); clear hown2)
      | (refine step_append_row (w := (((w.alloc (.cells #[.slice none 0 0, .slice none 0 0] 91)).alloc (.cells #[] 122)).alloc (.cells #[.slice none 0 0, .slice none 0 0] 91)).drew) (by rfl) (.tmp 12) (.tmp 16) 89 (by rfl) (w.heap.size + 1) 122 i0 (.agg #[.int .i64 0, .int .i64 0, .int .i64 0]) 3 24 Tryd.underlying89 hi hz0 hz1 hz2 rfl (Nat.succ_pos 2) (.slice (some ⟨w.heap.size + 1, 0, none⟩) 0 0) 0 [] ?e1 ((own_at1 w (.cells #[.slice none 0 0, .slice none 0 0] 91)).alloc (.cells #[.slice none 0 0, .slice none 0 0] 91)) B' (.slice ao ns.length cap) ns.length (flat ns) ?e2 (((HR.out.alloc (.cells #[.slice none 0 0, .slice none 0 0] 91)).alloc (.cells #[] 122)).alloc (.cells #[.slice none 0 0, .slice none 0 0] 91)) (flat_one ns) F1.out F2.out (le_al3 w _ _ _) ?_; (case e1 => simp [Act.eval]); (case e2 => simp [Act.eval]); intro v' w1 hown2 hgrow; obtain ⟨ao2, cap2, rfl⟩ := owns_slice hown2; have HO2 : Hid _ := hown2; have hg2 := with_top hgrow; have hp0 := cell_of_block hg2 0; have hp1 := cell_of_block hg2 1; have hf0 := frozen_of_block hg2 0; have hf1 := frozen_of_block hg2 1; have HG2 : Hid _ := hg2; clear hg2; have hy1 := with_lt3 (w := w) hgrow; have hq0 := with_keep3 hgrow (by omega) hs0; have hq1 := with_keep3 hgrow (by omega) hs1; have hy2 : ¬ s = w1.heap.size := (by omega); have hy3 : ¬ w1.heap.size = s := (by omega); clear hown2)
      | (refine step_append_row (w := (((w.alloc (.cells #[.slice none 0 0, .slice none 0 0] 91)).alloc (.cells #[.slice none 0 0, .slice none 0 0] 91)).alloc (.cells #[] 122)).drew) (by rfl) (.tmp 12) (.tmp 16) 89 (by rfl) (w.heap.size + 1) 122 i0 (.agg #[.int .i64 0, .int .i64 0, .int .i64 0]) 3 24 Tryd.underlying89 hi hz0 hz1 hz2 rfl (Nat.succ_pos 2) (.slice (some ⟨w.heap.size + 1 + 1, 0, none⟩) 0 0) 0 [] ?e1 (own_at2 w (.cells #[.slice none 0 0, .slice none 0 0] 91) (.cells #[.slice none 0 0, .slice none 0 0] 91)) B' (.slice ao ns.length cap) ns.length (flat ns) ?e2 (((HR.out.alloc (.cells #[.slice none 0 0, .slice none 0 0] 91)).alloc (.cells #[.slice none 0 0, .slice none 0 0] 91)).alloc (.cells #[] 122)) (flat_one ns) F1.out F2.out (le_al3 w _ _ _) ?_; (case e1 => simp [Act.eval]); (case e2 => simp [Act.eval]); intro v' w1 hown2 hgrow; obtain ⟨ao2, cap2, rfl⟩ := owns_slice hown2; have HO2 : Hid _ := hown2; have hg2 := with_mid hgrow; have hp0 := cell_of_block hg2 0; have hp1 := cell_of_block hg2 1; have hf0 := frozen_of_block hg2 0; have hf1 := frozen_of_block hg2 1; have HG2 : Hid _ := hg2; clear hg2; have hy1 := with_lt3 (w := w) hgrow; have hq0 := with_keep3 hgrow (by omega) hs0; have hq1 := with_keep3 hgrow (by omega) hs1; have hy2 : ¬ s = w1.heap.size := (by omega); have hy3 : ¬ w1.heap.size = s := (by omega); clear hown2))
  · obtain ⟨ca, cl, cr, crow, cbel⟩ : Copied w _ _ _ _ ns := copied2 (ov := .slice (some ⟨go, 0, none⟩) ord.length capo) hgrow HO2.out
    simp only [Nat.zero_add] at ca crow cr cbel
    have hp := Cho.two_pow_le _ hn
    clear hgrow HO2
    have HCA : Hid _ := ca
    have HCROW : Hid _ := crow
    clear ca crow
    go_wp2_with fail
    refine (build_calls (w.heap.size + 1) _ go capo ord cl (by omega) (by omega) h6 hn ord 0 t ns _ _ rfl (by omega) ht (HC.out.below cbel h0) (HOR.out.below cbel hgo) HCA.out HCROW.out (by omega)).mono ?_
    rintro e w3 ⟨rfl, nv3, hb3, hr3, bel3, _⟩
    obtain ⟨ao3, cap3, rfl⟩ := owns_slice hr3
    have q0 := cell_of_block hb3 0
    have q1 := cell_of_block hb3 1
    have hres := (bel3.block w.heap.size (by omega)).trans cr
    have r0 := cell_of_block hres 0
    have r1 := cell_of_block hres 1
    have f0 := frozen_of_block hres 0
    have f1 := frozen_of_block hres 1
    go_wp2_with fail
    refine bodyPost_ret (v := .tuple #[.agg #[.slice (some ⟨go, 0, none⟩) ord.length capo, .slice ao3 (Cho.build ord t ns).1.length cap3], .int .i64 (Cho.build ord t ns).2]) (by simp [results, Tryd.results72, go_sem, r0, r1]) rfl ⟨_, rfl, ?_, ?_⟩
    · exact with_end1 hr3
    · exact with_end2 cbel bel3
  · obtain ⟨ca, cl, cr, crow, cbel⟩ : Copied w _ _ _ _ ns := copied3a (ov := .slice (some ⟨go, 0, none⟩) ord.length capo) hgrow HO2.out
    simp only [Nat.zero_add] at ca crow cr cbel
    have hp := Cho.two_pow_le _ hn
    clear hgrow HO2
    have HCA : Hid _ := ca
    have HCROW : Hid _ := crow
    clear ca crow
    go_wp2_with fail
    refine (build_calls (w.heap.size + 1) _ go capo ord cl (by omega) (by omega) h6 hn ord 0 t ns _ _ rfl (by omega) ht (HC.out.below cbel h0) (HOR.out.below cbel hgo) HCA.out HCROW.out (by omega)).mono ?_
    rintro e w3 ⟨rfl, nv3, hb3, hr3, bel3, _⟩
    obtain ⟨ao3, cap3, rfl⟩ := owns_slice hr3
    have q0 := cell_of_block hb3 0
    have q1 := cell_of_block hb3 1
    have hres := (bel3.block w.heap.size (by omega)).trans cr
    have r0 := cell_of_block hres 0
    have r1 := cell_of_block hres 1
    have f0 := frozen_of_block hres 0
    have f1 := frozen_of_block hres 1
    go_wp2_with fail
    refine bodyPost_ret (v := .tuple #[.agg #[.slice (some ⟨go, 0, none⟩) ord.length capo, .slice ao3 (Cho.build ord t ns).1.length cap3], .int .i64 (Cho.build ord t ns).2]) (by simp [results, Tryd.results72, go_sem, r0, r1]) rfl ⟨_, rfl, ?_, ?_⟩
    · exact with_end1 hr3
    · exact with_end2 cbel bel3
  · obtain ⟨ca, cl, cr, crow, cbel⟩ : Copied w _ _ _ _ ns := copied3b (ov := .slice (some ⟨go, 0, none⟩) ord.length capo) hgrow HO2.out
    simp only [Nat.zero_add] at ca crow cr cbel
    have hp := Cho.two_pow_le _ hn
    clear hgrow HO2
    have HCA : Hid _ := ca
    have HCROW : Hid _ := crow
    clear ca crow
    go_wp2_with fail
    refine (build_calls (w.heap.size + 1) _ go capo ord cl (by omega) (by omega) h6 hn ord 0 t ns _ _ rfl (by omega) ht (HC.out.below cbel h0) (HOR.out.below cbel hgo) HCA.out HCROW.out (by omega)).mono ?_
    rintro e w3 ⟨rfl, nv3, hb3, hr3, bel3, _⟩
    obtain ⟨ao3, cap3, rfl⟩ := owns_slice hr3
    have q0 := cell_of_block hb3 0
    have q1 := cell_of_block hb3 1
    have hres := (bel3.block w.heap.size (by omega)).trans cr
    have r0 := cell_of_block hres 0
    have r1 := cell_of_block hres 1
    have f0 := frozen_of_block hres 0
    have f1 := frozen_of_block hres 1
    go_wp2_with fail
    refine bodyPost_ret (v := .tuple #[.agg #[.slice (some ⟨go, 0, none⟩) ord.length capo, .slice ao3 (Cho.build ord t ns).1.length cap3], .int .i64 (Cho.build ord t ns).2]) (by simp [results, Tryd.results72, go_sem, r0, r1]) rfl ⟨_, rfl, ?_, ?_⟩
    · exact with_end1 hr3
    · exact with_end2 cbel bel3
end Go.Proofs.YthoodkbdpnffdaaDoor

/-
  Own work: how a store lies in memory, and what a load from it or a store into it gives.
-/
namespace Go.Proofs.YthoodkbdpnffdaaDoor
open Go.RowKit
open Cho (U64 Tab full col Nd)

/-- A store, plainly: its variables and room, the newest handle, the slots (handles, links), its nodes. Its order is ord. -/
structure St where
  n : Nat
  room : Nat
  given : Nat
  hs : List Nat
  rs : List Nat
  ord : List Nat
  ns : List Nd

def hv (hs : List Nat) : List Value := hs.map fun h : Nat => .int .u32 (h : Int)
def lv (rs : List Nat) : List Value := rs.map fun r : Nat => .int .i64 (r : Int)
def cellsOf (st : St) (ov nv : Value) : List Value :=
  .int .i64 st.n :: .int .i64 st.room :: .int .u32 st.given :: (hv st.hs ++ (lv st.rs ++ [ov, nv]))

theorem hv_len (l : List Nat) : (hv l).length = l.length := by simp [hv]
theorem lv_len (l : List Nat) : (lv l).length = l.length := by simp [lv]
theorem hv_set (l : List Nat) (i h : Nat) : (hv l).set i (.int .u32 h) = hv (l.set i h) := by simp [hv, List.map_set]
theorem lv_set (l : List Nat) (i h : Nat) : (lv l).set i (.int .i64 h) = lv (l.set i h) := by simp [lv, List.map_set]

section
variable {st : St} {ov nv : Value}
theorem at_h (h30 : st.hs.length = 30) (i : Nat) (hi : i < 30) : (cellsOf st ov nv)[3 + i]? = some (.int .u32 (st.hs[i]'(by omega) : Nat)) := by
  have e : 3 + i = (i + 1 + 1) + 1 := by omega
  rw [e]
  simp only [cellsOf, List.getElem?_cons_succ]
  rw [List.getElem?_append_left (by simp [hv]; omega)]
  simp [hv, h30, hi]
theorem at_r (h30 : st.hs.length = 30) (r30 : st.rs.length = 30) (i : Nat) (hi : i < 30) : (cellsOf st ov nv)[33 + i]? = some (.int .i64 (st.rs[i]'(by omega) : Nat)) := by
  have e : 33 + i = (30 + i + 1 + 1) + 1 := by omega
  rw [e]
  simp only [cellsOf, List.getElem?_cons_succ]
  rw [List.getElem?_append_right (by simp [hv]; omega), List.getElem?_append_left (by simp [hv, lv]; omega)]
  simp [hv, lv, h30, r30, hi]
theorem at_63 (h30 : st.hs.length = 30) (r30 : st.rs.length = 30) : (cellsOf st ov nv)[63]? = some ov := by
  simp only [cellsOf, List.getElem?_cons_succ]
  rw [List.getElem?_append_right (by simp [hv]; omega), List.getElem?_append_right (by simp [hv, lv]; omega)]
  simp [hv, lv, h30, r30]
theorem at_64 (h30 : st.hs.length = 30) (r30 : st.rs.length = 30) : (cellsOf st ov nv)[64]? = some nv := by
  simp only [cellsOf, List.getElem?_cons_succ]
  rw [List.getElem?_append_right (by simp [hv]; omega), List.getElem?_append_right (by simp [hv, lv]; omega)]
  simp [hv, lv, h30, r30]
theorem set_2 (g : Nat) : (cellsOf st ov nv).set 2 (.int .u32 g) = cellsOf { st with given := g } ov nv := rfl
theorem set_h (h30 : st.hs.length = 30) (i g : Nat) (hi : i < 30) : (cellsOf st ov nv).set (3 + i) (.int .u32 g) = cellsOf { st with hs := st.hs.set i g } ov nv := by
  have e : 3 + i = (i + 1 + 1) + 1 := by omega
  rw [e]
  simp only [cellsOf, List.set_cons_succ]
  rw [List.set_append_left _ _ (by simp [hv]; omega), hv_set]
theorem set_r (h30 : st.hs.length = 30) (r30 : st.rs.length = 30) (i g : Nat) (hi : i < 30) : (cellsOf st ov nv).set (33 + i) (.int .i64 g) = cellsOf { st with rs := st.rs.set i g } ov nv := by
  have e : 33 + i = (30 + i + 1 + 1) + 1 := by omega
  rw [e]
  simp only [cellsOf, List.set_cons_succ]
  rw [List.set_append_right _ _ (by simp [hv]; omega), List.set_append_left _ _ (by simp [hv, lv]; omega)]
  rw [show 30 + i - (hv st.hs).length = i from by simp [hv]; omega, lv_set]
theorem set_tail (A B : List Value) (x y x' y' : Value) : ((A ++ (B ++ [x, y])).set (A.length + B.length) x').set (A.length + B.length + 1) y' = A ++ (B ++ [x', y']) := by
  rw [List.set_append_right _ _ (by omega), List.set_append_right _ _ (by omega), show A.length + B.length - A.length = B.length from by omega, show A.length + B.length + 1 - A.length = B.length + 1 from by omega]
  rw [List.set_append_right _ _ (by omega), List.set_append_right _ _ (by omega), show B.length - B.length = 0 from by omega, show B.length + 1 - B.length = 1 from by omega]
  rfl
theorem set_d (h30 : st.hs.length = 30) (r30 : st.rs.length = 30) (ov' nv' : Value) : ((cellsOf st ov nv).set 63 ov').set 64 nv' = cellsOf st ov' nv' := by
  have := set_tail (hv st.hs) (lv st.rs) ov nv ov' nv'
  rw [hv_len, lv_len, h30, r30] at this
  simp only [cellsOf, List.set_cons_succ]
  rw [this]
end

/-- A block of cells behind one store into it. -/
theorem block_set {w : World} {b j : Nat} {l : List Value} {T : TypeId} {x : Value} (h : w.heap[b]? = some (.cells l.toArray T (0, 0))) : (w.setCell ⟨b, j, none⟩ x).heap[b]? = some (.cells (l.set j x).toArray T (0, 0)) := by
  simp only [World.setCell, Array.getElem?_modify, h]; simp

/-- A store lies in block s. -/
structure StoreAt (w : World) (s : Nat) (st : St) : Prop where
  pos : 0 < s
  ex : ∃ go capo nv B, w.heap[s]? = some (.cells (cellsOf st (.slice (some ⟨go, 0, none⟩) st.ord.length capo) nv).toArray 93 (0, 0)) ∧
    OrdAt w go st.ord ∧ (∃ cur, w.heap[go]? = some (.cells cur 3 (0, 0))) ∧ st.ord.length ≤ capo ∧ w.ownsRow B 122 3 nv st.ns.length (flat st.ns)
  hs30 : st.hs.length = 30
  rs30 : st.rs.length = 30
  given : st.given < 4294967295
  n6 : st.n ≤ 6
  ordl : st.ord.length = st.n
  ord6 : ∀ v ∈ st.ord, v < st.n
  room : st.room ≤ 4000
  cols : Cols w
end Go.Proofs.YthoodkbdpnffdaaDoor
