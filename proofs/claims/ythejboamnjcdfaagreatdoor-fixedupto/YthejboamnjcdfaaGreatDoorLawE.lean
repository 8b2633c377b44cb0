/-
  Own work: a store more in a script (a walk over contracts).
-/
import Derived.Test.YthejboamnjcdfaaGreatDoorScrM
namespace Go.Proofs.YthejboamnjcdfaaGreatDoor
open Go.RowKit
open Cho (U64 Tab full col Nd Red)

theorem Tryz.infoPair : (Tryz.prog.info? 45).map (fun i => (i.zero, i.size, i.bytes)) = some (some (.agg #[.pointer none, .pointer none]), 2, 16) := by kernel_rfl

set_option maxRecDepth 100000 in
set_option maxHeartbeats 1000000 in
theorem lmade_bad (w0 w : World) (wb : Nat) (n room : Int) (sv : Value) (ps : List Pr) (h : Scr w0 w wb sv ps) (hbad : ¬ (1 ≤ n ∧ n ≤ 6 ∧ 1 ≤ room ∧ room ≤ 4000)) :
    Calls Tryz.prog 6 #[.pointer (some ⟨wb, 0, none⟩), .int .i64 n, .int .i64 room] w fun e w' => e = .returned (.bool true) ∧ Scr w0 w' wb sv ps := by
  have H : Hid (Scr w0 w wb sv ps) := h
  have HB : Hid (¬ (1 ≤ n ∧ n ≤ 6 ∧ 1 ≤ room ∧ room ≤ 4000)) := hbad
  clear h hbad
  go_enter Tryz.func6, Tryz.ntmps6
  go_wp2_with fail
  refine (new_bad n room _ HB.out).mono ?_
  rintro e w1 ⟨rfl, rfl⟩
  go_wp2_with fail
  refine (rnew_bad n room _ HB.out).mono ?_
  rintro e w1 ⟨rfl, rfl⟩
  go_wp2_with fail
  refine (num_calls 1 _).mono ?_
  rintro e w2 ⟨rfl, rfl⟩
  go_wp2_with fail
  refine (num_calls 1 _).mono ?_
  rintro e w2 ⟨rfl, rfl⟩
  go_wp2_with fail
  go_ret
  exact ⟨rfl, H.out⟩

theorem scr_mid {w0 w w1 : World} {wb : Nat} {sv : Value} {ps : List Pr} {o : Obj} (h : Scr w0 w wb sv ps) (hg : (w.alloc o).grownBy w1 sv.ownBlock) : w1.heap[wb]? = some (.cells #[sv, .slice none 0 0] 29 (0, 0)) := by
  have hw := lt_of_block h.blk
  exact (hg.block wb (by simp; omega) (owns_ne h.row h.blk (by decide))).trans ((Below.heap_alloc _ _ _ hw).trans h.blk)
/-- A pair more. -/
theorem scr_push {w0 w w1 : World} {wb : Nat} {sv sv' : Value} {ps : List Pr} {p : Pr} {o : Obj} (h : Scr w0 w wb sv ps) (hp : PairOk w0.heap.size w p) (ha : ∀ i (hi : i < ps.length), Apart ps[i] p)
    (hg : (w.alloc o).grownBy w1 sv.ownBlock) (hr : w1.ownsRow w0.heap.size 45 2 sv' (ps.length + 1) (prv ps ++ [.pointer (some ⟨p.x, 0, none⟩), .pointer (some ⟨p.y, 0, none⟩)])) :
    Scr w0 (w1.setCell ⟨wb, 0, none⟩ sv') wb sv' (ps ++ [p]) := by
  have hw := lt_of_block h.blk
  have hm := scr_mid h hg
  have hs := hg.size
  have hch : Ch (fun k => k = wb ∨ sv.ownBlock = some k) w (w1.setCell ⟨wb, 0, none⟩ sv') := by
    refine ⟨hg.os, hg.tape, hg.output, by simp at hs ⊢; omega, fun k hk hn => ?_⟩
    rw [block_set_other (fun e => hn (.inl e))]
    exact (hg.block k (by simp; omega) (fun e => hn (.inr e.symm))).trans (Below.heap_alloc _ _ _ hk)
  have hlen : (ps ++ [p]).length = ps.length + 1 := by simp
  refine ⟨?_, ?_, ?_, ?_, h.lo, ?_⟩
  · simp only [World.setCell, Array.getElem?_modify, hm]; simp
  · rw [hlen, ← prv_snoc]
    refine owns_kept hr fun g hgb => block_set_other ?_
    have := owns_ne hr hm (by decide)
    intro e; subst e; exact this hgb.symm
  · intro i hi
    by_cases e : i < ps.length
    · rw [List.getElem_append_left e]; exact scr_kept h (h.ok i e) hch
    · obtain rfl : i = ps.length := by rw [hlen] at hi; omega
      have : (ps ++ [p])[ps.length] = p := by simp
      rw [this]; exact scr_kept h hp hch
  · intro i j hi hj hij
    rw [hlen] at hi hj
    by_cases e1 : i < ps.length
    · rw [List.getElem_append_left e1]
      by_cases e2 : j < ps.length
      · rw [List.getElem_append_left e2]; exact h.apart i j e1 e2 hij
      · obtain rfl : j = ps.length := by omega
        have : (ps ++ [p])[ps.length] = p := by simp
        rw [this]; exact ha i e1
    · obtain rfl : i = ps.length := by omega
      have e2 : j < ps.length := by omega
      have : (ps ++ [p])[ps.length] = p := by simp
      rw [this, List.getElem_append_left e2]; exact (ha j e2).symm
  · refine ⟨hch.os.trans h.bel.os, hch.tape.trans h.bel.tape, hch.output.trans h.bel.output, Nat.le_trans h.bel.size hch.size, fun k hk => ?_⟩
    refine (hch.block k (Nat.lt_of_lt_of_le hk h.bel.size) ?_).trans (h.bel.block k hk)
    rintro (e | e)
    · have := h.lo; omega
    · have := (h.row.lt k e).1; omega
theorem pair_new {w0 w w1 w2 : World} {wb x y n room : Nat} {sv ov : Value} {ps : List Pr} (h : Scr w0 w wb sv ps) (hpos : 0 < w0.heap.size) (h1 : 1 ≤ n) (h6 : n ≤ 6) (hr4 : room ≤ 4000) (hst : StoreAt w1 x (St.empty n room)) (hx : w.heap.size ≤ x) (b1 : Below w.heap.size w w1)
    (href : RefAt w1.heap.size w2 y (RSt.empty n room) (.slice none 0 0) ov) (b2 : Below w1.heap.size w1 w2) :
    PairOk w0.heap.size w2 ⟨x, y, St.empty n room, RSt.empty n room, .slice none 0 0, ov⟩ ∧ ∀ i (hi : i < ps.length), Apart ps[i] ⟨x, y, St.empty n room, RSt.empty n room, .slice none 0 0, ov⟩ := by
  have hb := h.bel.size
  refine ⟨⟨⟨hst.below b2, inv_empty n room h1 h6, by simp [St.empty]⟩, href.mono (Nat.le_trans hb b1.size), sim_empty h1 h6 hr4, by simp only; omega, hpos⟩, fun i hi => ?_⟩
  have hp := h.ok i hi
  obtain ⟨c, hc⟩ := hp.blk
  have l1 := lt_of_block hc
  have l2 := lt_of_block hp.ref.block
  have l3 := href.lo
  have l4 := b1.size
  exact ⟨by simp only; omega, by simp only; omega, fun g _ h2 => by simp [Value.ownBlock] at h2⟩

set_option maxRecDepth 100000 in
set_option maxHeartbeats 1000000 in
theorem lmade_ok (w0 w : World) (wb n room : Nat) (sv : Value) (ps : List Pr) (h : Scr w0 w wb sv ps) (hcol : Cols w) (hpos : 0 < w0.heap.size) (hps : ps.length ≤ 5000000) (h1 : 1 ≤ n) (h6 : n ≤ 6) (hr1 : 1 ≤ room) (hr4 : room ≤ 4000) :
    Calls Tryz.prog 6 #[.pointer (some ⟨wb, 0, none⟩), .int .i64 n, .int .i64 room] w fun e w' => e = .returned (.bool true) ∧ ∃ sv' p, Scr w0 w' wb sv' (ps ++ [p]) ∧ p.r.given = 0 := by
  obtain ⟨i1, hi1, hy0, hy1, hy2⟩ := info_parts Tryz.infoPair
  have H : Hid (Scr w0 w wb sv ps) := h
  have HC : Hid (Cols w) := hcol
  clear h hcol
  go_enter Tryz.func6, Tryz.ntmps6
  go_wp2_with fail
  refine (new_calls n room _ h1 h6 hr1 hr4 HC.out).mono ?_
  rintro e w1 ⟨x, rfl, hst, hx, b1⟩
  have HX : Hid (StoreAt w1 x (St.empty n room) ∧ w.heap.size ≤ x ∧ Below w.heap.size w w1) := ⟨hst, hx, b1⟩
  clear hst hx b1
  go_wp2_with fail
  refine (rnew_calls n room _ h1 h6 hr1 hr4).mono ?_
  rintro e w2 ⟨y, ov, rfl, href, b2⟩
  have HY : Hid (RefAt w1.heap.size w2 y (RSt.empty n room) (.slice none 0 0) ov ∧ Below w1.heap.size w1 w2) := ⟨href, b2⟩
  clear href b2
  go_wp2_with fail
  refine (num_calls 0 _).mono ?_
  rintro e w3 ⟨rfl, rfl⟩
  go_wp2_with fail
  refine (num_calls 0 _).mono ?_
  rintro e w3 ⟨rfl, rfl⟩
  have B2 : Hid (Below w.heap.size w w3) := below_trans HX.out.2.2 HY.out.2
  have H2 : Hid (Scr w0 w3 wb sv ps) := H.out.below B2.out
  obtain ⟨asv, csv, rfl⟩ := owns_slice H2.out.row
  have c0 : w3.cell? ⟨wb, 0, none⟩ = some (.slice asv ps.length csv) := cell_of_block H2.out.blk 0
  have hwb := lt_of_block H2.out.blk
  obtain ⟨hnew, hap⟩ := pair_new H.out hpos h1 h6 hr4 HX.out.1 HX.out.2.1 HX.out.2.2 HY.out.1 HY.out.2
  have HNEW : Hid (PairOk w0.heap.size w3 ⟨x, y, St.empty n room, RSt.empty n room, .slice none 0 0, ov⟩) := hnew
  have HAP : Hid (∀ i (hi : i < ps.length), Apart ps[i] ⟨x, y, St.empty n room, RSt.empty n room, .slice none 0 0, ov⟩) := hap
  clear hnew hap
  have F1 : Hid (ps.length + 1 ≤ maxLen) := by show ps.length + 1 ≤ maxLen; unfold maxLen; omega
  have F2 : Hid ((ps.length + 1) * 16 ≤ 140737488355328) := by show (ps.length + 1) * 16 ≤ 140737488355328; omega
  have F3 : Hid (w0.heap.size ≤ (w3.alloc (.cells #[.pointer (some ⟨x, 0, none⟩), .pointer (some ⟨y, 0, none⟩)] 45)).heap.size) := by
    have := H2.out.bel.size
    show w0.heap.size ≤ (w3.alloc (.cells #[.pointer (some ⟨x, 0, none⟩), .pointer (some ⟨y, 0, none⟩)] 45)).heap.size
    simp; omega
  have O5 : Hid ((w3.alloc (.cells #[.pointer (some ⟨x, 0, none⟩), .pointer (some ⟨y, 0, none⟩)] 45)).ownsRow w0.heap.size 45 2 (.slice asv ps.length csv) ps.length (prv ps)) := H2.out.row.alloc _
  go_wp2_with (at_builtin; go_must (refine wpList_append_own _ rfl _ _ 26 rfl w0.heap.size 45 i1 _ 2 16 Tryz.underlying26 hi1 hy0 hy1 hy2 rfl (Nat.succ_pos 1) (.slice asv ps.length csv) ps.length (prv ps) ?e1 O5.out ⟨w3.heap.size, 0, none⟩ 1 1 [.pointer (some ⟨x, 0, none⟩), .pointer (some ⟨y, 0, none⟩)] ?e2 rfl (new_cells w3 [.pointer (some ⟨x, 0, none⟩), .pointer (some ⟨y, 0, none⟩)] _) ?e3 F1.out F2.out F3.out ?_); (case e1 => rfl); (case e2 => rfl); (case e3 => simp [Value.oneCell']); intro v' w4 hown hgrow _; have hm := scr_mid H2.out hgrow; have m0 := cell_of_block hm 0; have mf := frozen_of_block hm 0; have HF : Hid (Scr w0 (w4.setCell ⟨wb, 0, none⟩ v') wb v' (ps ++ [⟨x, y, St.empty n room, RSt.empty n room, .slice none 0 0, ov⟩])) := scr_push H2.out HNEW.out HAP.out hgrow hown; obtain ⟨av, cv, rfl⟩ := owns_slice hown; clear hm hown hgrow)
  go_ret
  exact ⟨rfl, _, _, HF.out, rfl⟩
end Go.Proofs.YthejboamnjcdfaaGreatDoor
