/-
  Own work: 'With' answers the diagram grown by a table's nodes, as the plain function builds them, and turns no memory that there was (a walk).
-/
import Derived.Test.YthoodkbdpnffdabDoorWithA
namespace Go.Proofs.YthoodkbdpnffdabDoor
open Go.RowKit
open Cho (U64 Tab full col Nd)

theorem with_end1 {w w3 : World} {e : TypeId} {sz n : Nat} {v x y : Value} {xs : List Value} (h : w3.ownsRow (w.heap.size + 1) e sz v n xs) :
    ((w3.setCell ⟨w.heap.size, 0, none⟩ x).setCell ⟨w.heap.size, 1, none⟩ y).ownsRow w.heap.size e sz v n xs := by
  have hl := h.lt
  have hb : w3.ownsRow w.heap.size e sz v n xs := by
    obtain ⟨hlen, h | ⟨g, cap, cur, rfl, h1, h2⟩⟩ := h
    · exact ⟨hlen, .inl h⟩
    · exact ⟨hlen, .inr ⟨g, cap, cur, rfl, by omega, h2⟩⟩
  refine owns_kept hb fun g hg => ?_
  have := (hl g hg).1
  rw [block_set_other (by simp; omega), block_set_other (by simp; omega)]
theorem with_end2 {w W w3 : World} {x y : Value} (h : Below w.heap.size w W) (h3 : Below (w.heap.size + 1) W w3) :
    Below w.heap.size w ((w3.setCell ⟨w.heap.size, 0, none⟩ x).setCell ⟨w.heap.size, 1, none⟩ y) :=
  ((h.trans (h3.mono (by omega))).setCell (Nat.le_refl _) _).setCell (Nat.le_refl _) _

set_option maxRecDepth 100000 in
set_option maxHeartbeats 4000000 in
theorem with_calls (s off go capo B' : Nat) (ord : List Nat) (ns : List Nd) (nv : Value) (t : Nat) (w : World)
    (hs0 : w.cell? ⟨s, off, none⟩ = some (.slice (some ⟨go, 0, none⟩) ord.length capo)) (hs1 : w.cell? ⟨s, off + 1, none⟩ = some nv)
    (hr : w.ownsRow B' 78 3 nv ns.length (flat ns)) (hc : Cols w) (ho : OrdAt w go ord) (hsw : s < w.heap.size) (hgo : go < w.heap.size) (h0 : 0 < w.heap.size)
    (h6 : ∀ v ∈ ord, v < 6) (hn : ord.length ≤ 6) (ht : U64 t) (hl : ns.length ≤ 999000) :
    Calls Tryd.prog 26 #[.pointer (some ⟨s, off, none⟩), .int .u64 t] w fun e w' => ∃ nv',
      e = .returned (.tuple #[.agg #[.slice (some ⟨go, 0, none⟩) ord.length capo, nv'], .int .i64 (Cho.build ord t ns).2]) ∧
        w'.ownsRow w.heap.size 78 3 nv' (Cho.build ord t ns).1.length (flat (Cho.build ord t ns).1) ∧ Below w.heap.size w w' := by
  obtain ⟨ao, cap, rfl, hblk, hcells⟩ := row_cell hr
  clear hcells
  obtain ⟨i0, hi, hz0, hz1, hz2⟩ := info_parts Tryd.infoNode
  have HR : Hid (w.ownsRow B' 78 3 (.slice ao ns.length cap) ns.length (flat ns)) := hr
  have HC : Hid (Cols w) := hc
  have HOR : Hid (OrdAt w go ord) := ho
  have F1 : Hid (0 + ns.length ≤ maxLen) := by show 0 + ns.length ≤ maxLen; unfold maxLen; omega
  have F2 : Hid ((0 + ns.length) * 24 ≤ 140737488355328) := by show (0 + ns.length) * 24 ≤ 140737488355328; omega
  clear hr hc ho hblk
  go_enter Tryd.func26, Tryd.ntmps26
  go_wp2_with fail
  go_region_held3 (fun w' => w'.cell? ⟨s, off, none⟩ = some (.slice (some ⟨go, 0, none⟩) ord.length capo) ∧ w'.cell? ⟨s, off + 1, none⟩ = some (.slice ao ns.length cap))
    (first | exact ⟨hq0, hq1⟩ | exact ⟨with_al hq0, with_al hq1⟩ | exact ⟨with_dr (with_al (hs0)), with_dr (with_al (hs1))⟩ | exact ⟨with_dr (with_al (with_al (hs0))), with_dr (with_al (with_al (hs1)))⟩ | exact ⟨with_dr (with_al (with_al (with_al (hs0)))), with_dr (with_al (with_al (with_al (hs1))))⟩ | exact ⟨with_al (hs0), with_al (hs1)⟩ | exact ⟨with_al (with_al (hs0)), with_al (with_al (hs1))⟩ | exact ⟨with_al (with_al (with_al (hs0))), with_al (with_al (with_al (hs1)))⟩ | exact ⟨with_set (by omega) (with_set (by omega) hq0), with_set (by omega) (with_set (by omega) hq1)⟩ | go_keep)
    (first
      | (refine step_append_row (w := ((w.alloc (.cells #[.slice none 0 0, .slice none 0 0] 51)).alloc (.cells #[] 78)).drew) (by rfl) (.tmp 12) (.tmp 16) 49 (by rfl) (w.heap.size + 1) 78 i0 (.agg #[.int .i64 0, .int .i64 0, .int .i64 0]) 3 24 Tryd.underlying49 hi hz0 hz1 hz2 rfl (Nat.succ_pos 2) (.slice (some ⟨w.heap.size + 1, 0, none⟩) 0 0) 0 [] ?e1 (own_at1 w (.cells #[.slice none 0 0, .slice none 0 0] 51)) B' (.slice ao ns.length cap) ns.length (flat ns) ?e2 ((HR.out.alloc (.cells #[.slice none 0 0, .slice none 0 0] 51)).alloc (.cells #[] 78)) (flat_one ns) F1.out F2.out (le_al2 w _ _) ?_; (case e1 => simp [Act.eval]); (case e2 => simp [Act.eval]); intro v' w1 hown2 hgrow; obtain ⟨ao2, cap2, rfl⟩ := owns_slice hown2; have HO2 : Hid _ := hown2; have hy1 := with_lt2 (w := w) hgrow; have hq0 := with_keep2 hgrow (by omega) hs0; have hq1 := with_keep2 hgrow (by omega) hs1; have hy2 : ¬ s = w1.heap.size := (by omega); have hy3 : ¬ w1.heap.size = s := (by omega); clear hown2)
      | (refine step_append_row (w := (((w.alloc (.cells #[.slice none 0 0, .slice none 0 0] 51)).alloc (.cells #[] 78)).alloc (.cells #[.slice none 0 0, .slice none 0 0] 51)).drew) (by rfl) (.tmp 12) (.tmp 16) 49 (by rfl) (w.heap.size + 1) 78 i0 (.agg #[.int .i64 0, .int .i64 0, .int .i64 0]) 3 24 Tryd.underlying49 hi hz0 hz1 hz2 rfl (Nat.succ_pos 2) (.slice (some ⟨w.heap.size + 1, 0, none⟩) 0 0) 0 [] ?e1 ((own_at1 w (.cells #[.slice none 0 0, .slice none 0 0] 51)).alloc (.cells #[.slice none 0 0, .slice none 0 0] 51)) B' (.slice ao ns.length cap) ns.length (flat ns) ?e2 (((HR.out.alloc (.cells #[.slice none 0 0, .slice none 0 0] 51)).alloc (.cells #[] 78)).alloc (.cells #[.slice none 0 0, .slice none 0 0] 51)) (flat_one ns) F1.out F2.out (le_al3 w _ _ _) ?_; (case e1 => simp [Act.eval]); (case e2 => simp [Act.eval]); intro v' w1 hown2 hgrow; obtain ⟨ao2, cap2, rfl⟩ := owns_slice hown2; have HO2 : Hid _ := hown2; have hg2 := with_top hgrow; have hp0 := cell_of_block hg2 0; have hp1 := cell_of_block hg2 1; have hf0 := frozen_of_block hg2 0; have hf1 := frozen_of_block hg2 1; have HG2 : Hid _ := hg2; clear hg2; have hy1 := with_lt3 (w := w) hgrow; have hq0 := with_keep3 hgrow (by omega) hs0; have hq1 := with_keep3 hgrow (by omega) hs1; have hy2 : ¬ s = w1.heap.size := (by omega); have hy3 : ¬ w1.heap.size = s := (by omega); clear hown2)
      | (refine step_append_row (w := (((w.alloc (.cells #[.slice none 0 0, .slice none 0 0] 51)).alloc (.cells #[.slice none 0 0, .slice none 0 0] 51)).alloc (.cells #[] 78)).drew) (by rfl) (.tmp 12) (.tmp 16) 49 (by rfl) (w.heap.size + 1) 78 i0 (.agg #[.int .i64 0, .int .i64 0, .int .i64 0]) 3 24 Tryd.underlying49 hi hz0 hz1 hz2 rfl (Nat.succ_pos 2) (.slice (some ⟨w.heap.size + 1 + 1, 0, none⟩) 0 0) 0 [] ?e1 (own_at2 w (.cells #[.slice none 0 0, .slice none 0 0] 51) (.cells #[.slice none 0 0, .slice none 0 0] 51)) B' (.slice ao ns.length cap) ns.length (flat ns) ?e2 (((HR.out.alloc (.cells #[.slice none 0 0, .slice none 0 0] 51)).alloc (.cells #[.slice none 0 0, .slice none 0 0] 51)).alloc (.cells #[] 78)) (flat_one ns) F1.out F2.out (le_al3 w _ _ _) ?_; (case e1 => simp [Act.eval]); (case e2 => simp [Act.eval]); intro v' w1 hown2 hgrow; obtain ⟨ao2, cap2, rfl⟩ := owns_slice hown2; have HO2 : Hid _ := hown2; have hg2 := with_mid hgrow; have hp0 := cell_of_block hg2 0; have hp1 := cell_of_block hg2 1; have hf0 := frozen_of_block hg2 0; have hf1 := frozen_of_block hg2 1; have HG2 : Hid _ := hg2; clear hg2; have hy1 := with_lt3 (w := w) hgrow; have hq0 := with_keep3 hgrow (by omega) hs0; have hq1 := with_keep3 hgrow (by omega) hs1; have hy2 : ¬ s = w1.heap.size := (by omega); have hy3 : ¬ w1.heap.size = s := (by omega); clear hown2))
  · obtain ⟨ca, cl, cr, crow, cbel⟩ : Copied w _ _ _ _ ns := copied2 (ov := .slice (some ⟨go, 0, none⟩) ord.length capo) hgrow HO2.out
    simp only [Nat.zero_add] at ca crow cr cbel
    have hp := Cho.two_pow_le _ hn
    clear hgrow HO2
    have HCA : Hid _ := ca
    have HCROW : Hid _ := crow
    clear ca crow
    go_wp2_with fail
    refine (build_calls (w.heap.size + 1) _ go capo ord cl (by omega) (by omega) h6 hn ord 0 t ns _ _ rfl (by omega) ht (HC.out.below cbel h0) (HOR.out.below cbel hgo) HCA.out HCROW.out (by omega)).mono ?_
    rintro e w3 ⟨rfl, nv3, hb3, hr3, bel3, _⟩
    obtain ⟨ao3, cap3, rfl⟩ := owns_slice hr3
    have q0 := cell_of_block hb3 0
    have q1 := cell_of_block hb3 1
    have hres := (bel3.block w.heap.size (by omega)).trans cr
    have r0 := cell_of_block hres 0
    have r1 := cell_of_block hres 1
    have f0 := frozen_of_block hres 0
    have f1 := frozen_of_block hres 1
    go_wp2_with fail
    refine bodyPost_ret (v := .tuple #[.agg #[.slice (some ⟨go, 0, none⟩) ord.length capo, .slice ao3 (Cho.build ord t ns).1.length cap3], .int .i64 (Cho.build ord t ns).2]) (by simp [results, Tryd.results26, go_sem, r0, r1]) rfl ⟨_, rfl, ?_, ?_⟩
    · exact with_end1 hr3
    · exact with_end2 cbel bel3
  · obtain ⟨ca, cl, cr, crow, cbel⟩ : Copied w _ _ _ _ ns := copied3a (ov := .slice (some ⟨go, 0, none⟩) ord.length capo) hgrow HO2.out
    simp only [Nat.zero_add] at ca crow cr cbel
    have hp := Cho.two_pow_le _ hn
    clear hgrow HO2
    have HCA : Hid _ := ca
    have HCROW : Hid _ := crow
    clear ca crow
    go_wp2_with fail
    refine (build_calls (w.heap.size + 1) _ go capo ord cl (by omega) (by omega) h6 hn ord 0 t ns _ _ rfl (by omega) ht (HC.out.below cbel h0) (HOR.out.below cbel hgo) HCA.out HCROW.out (by omega)).mono ?_
    rintro e w3 ⟨rfl, nv3, hb3, hr3, bel3, _⟩
    obtain ⟨ao3, cap3, rfl⟩ := owns_slice hr3
    have q0 := cell_of_block hb3 0
    have q1 := cell_of_block hb3 1
    have hres := (bel3.block w.heap.size (by omega)).trans cr
    have r0 := cell_of_block hres 0
    have r1 := cell_of_block hres 1
    have f0 := frozen_of_block hres 0
    have f1 := frozen_of_block hres 1
    go_wp2_with fail
    refine bodyPost_ret (v := .tuple #[.agg #[.slice (some ⟨go, 0, none⟩) ord.length capo, .slice ao3 (Cho.build ord t ns).1.length cap3], .int .i64 (Cho.build ord t ns).2]) (by simp [results, Tryd.results26, go_sem, r0, r1]) rfl ⟨_, rfl, ?_, ?_⟩
    · exact with_end1 hr3
    · exact with_end2 cbel bel3
  · obtain ⟨ca, cl, cr, crow, cbel⟩ : Copied w _ _ _ _ ns := copied3b (ov := .slice (some ⟨go, 0, none⟩) ord.length capo) hgrow HO2.out
    simp only [Nat.zero_add] at ca crow cr cbel
    have hp := Cho.two_pow_le _ hn
    clear hgrow HO2
    have HCA : Hid _ := ca
    have HCROW : Hid _ := crow
    clear ca crow
    go_wp2_with fail
    refine (build_calls (w.heap.size + 1) _ go capo ord cl (by omega) (by omega) h6 hn ord 0 t ns _ _ rfl (by omega) ht (HC.out.below cbel h0) (HOR.out.below cbel hgo) HCA.out HCROW.out (by omega)).mono ?_
    rintro e w3 ⟨rfl, nv3, hb3, hr3, bel3, _⟩
    obtain ⟨ao3, cap3, rfl⟩ := owns_slice hr3
    have q0 := cell_of_block hb3 0
    have q1 := cell_of_block hb3 1
    have hres := (bel3.block w.heap.size (by omega)).trans cr
    have r0 := cell_of_block hres 0
    have r1 := cell_of_block hres 1
    have f0 := frozen_of_block hres 0
    have f1 := frozen_of_block hres 1
    go_wp2_with fail
    refine bodyPost_ret (v := .tuple #[.agg #[.slice (some ⟨go, 0, none⟩) ord.length capo, .slice ao3 (Cho.build ord t ns).1.length cap3], .int .i64 (Cho.build ord t ns).2]) (by simp [results, Tryd.results26, go_sem, r0, r1]) rfl ⟨_, rfl, ?_, ?_⟩
    · exact with_end1 hr3
    · exact with_end2 cbel bel3
end Go.Proofs.YthoodkbdpnffdabDoor
