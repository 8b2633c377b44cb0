/-
  Own work: a store more in a script (a walk over contracts).
-/
import Derived.Test.YthoodkbdpnffdabGreatDoorScrM
import Derived.Deep.RegionHeld3
namespace Go.Proofs.YthoodkbdpnffdabGreatDoor
open Go.RowKit
open Cho (U64 Tab full col Nd Red)

theorem Tryz.infoPair : (Tryz.prog.info? 45).map (fun i => (i.zero, i.size, i.bytes)) = some (some (.agg #[.pointer none, .pointer none]), 2, 16) := by kernel_rfl

set_option maxRecDepth 100000 in
set_option maxHeartbeats 1000000 in
theorem lmade_bad (w0 w : World) (wb : Nat) (n room : Int) (sv lw : Value) (ps : List Pr) (ls : List (Value × Int)) (h : Scr w0 w wb sv lw ps ls) (hbad : ¬ (1 ≤ n ∧ n ≤ 6 ∧ 1 ≤ room ∧ room ≤ 4000)) :
    Calls Tryz.prog 5 #[.pointer (some ⟨wb, 0, none⟩), .int .i64 n, .int .i64 room] w fun e w' => e = .returned (.bool true) ∧ Scr w0 w' wb sv lw ps ls := by
  have H : Hid (Scr w0 w wb sv lw ps ls) := h
  have HB : Hid (¬ (1 ≤ n ∧ n ≤ 6 ∧ 1 ≤ room ∧ room ≤ 4000)) := hbad
  clear h hbad
  go_enter Tryz.func5, Tryz.ntmps5
  go_wp2_with fail
  refine (new_bad n room _ HB.out).mono ?_
  rintro e w1 ⟨rfl, rfl⟩
  go_wp2_with fail
  refine (rnew_bad n room _ HB.out).mono ?_
  rintro e w1 ⟨rfl, rfl⟩
  go_wp2_with fail
  refine (num_calls 1 _).mono ?_
  rintro e w2 ⟨rfl, rfl⟩
  go_wp2_with fail
  refine (num_calls 1 _).mono ?_
  rintro e w2 ⟨rfl, rfl⟩
  go_wp2_with fail
  go_ret
  exact ⟨rfl, H.out⟩

theorem scr_mid {w0 w w1 : World} {wb : Nat} {sv lw : Value} {ps : List Pr} {ls : List (Value × Int)} {o : Obj} (h : Scr w0 w wb sv lw ps ls) (hg : (w.alloc o).grownBy w1 sv.ownBlock) : w1.heap[wb]? = some (.cells #[sv, lw] 29 (0, 0)) := by
  have hw := lt_of_block h.blk
  exact (hg.block wb (by simp; omega) (owns_ne h.row h.blk (by decide))).trans ((Below.heap_alloc _ _ _ hw).trans h.blk)
/-- A pair more. -/
theorem scr_push {w0 w w1 : World} {wb : Nat} {sv sv' lw : Value} {ps : List Pr} {ls : List (Value × Int)} {p : Pr} {o : Obj} (h : Scr w0 w wb sv lw ps ls) (hp : PairOk w0.heap.size w p) (ha : ∀ i (hi : i < ps.length), Apart ps[i] p)
    (hg : (w.alloc o).grownBy w1 sv.ownBlock) (hr : w1.ownsRow w0.heap.size 45 2 sv' (ps.length + 1) (prv ps ++ [.pointer (some ⟨p.x, 0, none⟩), .pointer (some ⟨p.y, 0, none⟩)])) :
    Scr w0 (w1.setCell ⟨wb, 0, none⟩ sv') wb sv' lw (ps ++ [p]) ls := by
  have hw := lt_of_block h.blk
  have hm := scr_mid h hg
  have hs := hg.size
  have hch : Ch (fun k => k = wb ∨ sv.ownBlock = some k) w (w1.setCell ⟨wb, 0, none⟩ sv') := by
    refine ⟨hg.os, hg.tape, hg.output, by simp at hs ⊢; omega, fun k hk hn => ?_⟩
    rw [block_set_other (fun e => hn (.inl e))]
    exact (hg.block k (by simp; omega) (fun e => hn (.inr e.symm))).trans (Below.heap_alloc _ _ _ hk)
  have hlen : (ps ++ [p]).length = ps.length + 1 := by simp
  have hF : ∀ k c T, w.heap[k]? = some (.cells c T (0, 0)) → T ≠ 29 ∧ T ≠ 45 → ¬ (k = wb ∨ sv.ownBlock = some k) := by
    rintro k c T hk ⟨h1, h2⟩ (e | e)
    · exact kind_ne hk h.blk h1 e
    · obtain ⟨c', hc'⟩ := owns_kind h.row e
      exact kind_ne hk hc' h2 rfl
  refine ⟨?_, ?_, ?_, ?_, ?_, ?_, h.lo, ?_⟩
  · simp only [World.setCell, Array.getElem?_modify, hm]; simp
  · refine owns_kept h.lrow fun g hgb => ?_
    obtain ⟨c, hc⟩ := owns_kind h.lrow hgb
    exact hch.block g (lt_of_block hc) (hF g c _ hc (by decide))
  · exact fun q hq => (h.lok q hq).kept fun g c hc _ => hch.block g (lt_of_block hc) (hF g c _ hc (by decide))
  · rw [hlen, ← prv_snoc]
    refine owns_kept hr fun g hgb => block_set_other ?_
    have := owns_ne hr hm (by decide)
    intro e; subst e; exact this hgb.symm
  · intro i hi
    by_cases e : i < ps.length
    · rw [List.getElem_append_left e]; exact scr_kept h (h.ok i e) hch
    · obtain rfl : i = ps.length := by rw [hlen] at hi; omega
      have : (ps ++ [p])[ps.length] = p := by simp
      rw [this]; exact scr_kept h hp hch
  · intro i j hi hj hij
    rw [hlen] at hi hj
    by_cases e1 : i < ps.length
    · rw [List.getElem_append_left e1]
      by_cases e2 : j < ps.length
      · rw [List.getElem_append_left e2]; exact h.apart i j e1 e2 hij
      · obtain rfl : j = ps.length := by omega
        have : (ps ++ [p])[ps.length] = p := by simp
        rw [this]; exact ha i e1
    · obtain rfl : i = ps.length := by omega
      have e2 : j < ps.length := by omega
      have : (ps ++ [p])[ps.length] = p := by simp
      rw [this, List.getElem_append_left e2]; exact (ha j e2).symm
  · refine ⟨hch.os.trans h.bel.os, hch.tape.trans h.bel.tape, hch.output.trans h.bel.output, Nat.le_trans h.bel.size hch.size, fun k hk => ?_⟩
    refine (hch.block k (Nat.lt_of_lt_of_le hk h.bel.size) ?_).trans (h.bel.block k hk)
    rintro (e | e)
    · have := h.lo; omega
    · have := (h.row.lt k e).1; omega
theorem pair_new {w0 w w1 w2 : World} {wb x y n room : Nat} {sv lw ov : Value} {ps : List Pr} {ls : List (Value × Int)} (h : Scr w0 w wb sv lw ps ls) (hpos : 0 < w0.heap.size) (h1 : 1 ≤ n) (h6 : n ≤ 6) (hr4 : room ≤ 4000) (hst : StoreAt w1 x (St.empty n room)) (hx : w.heap.size ≤ x) (b1 : Below w.heap.size w w1)
    (href : RefAt w1.heap.size w2 y (RSt.empty n room) (.slice none 0 0) ov) (b2 : Below w1.heap.size w1 w2) :
    PairOk w0.heap.size w2 ⟨x, y, St.empty n room, RSt.empty n room, .slice none 0 0, ov⟩ ∧ ∀ i (hi : i < ps.length), Apart ps[i] ⟨x, y, St.empty n room, RSt.empty n room, .slice none 0 0, ov⟩ := by
  have hb := h.bel.size
  refine ⟨⟨⟨hst.below b2, inv_empty n room h1 h6, by simp [St.empty]⟩, href.mono (Nat.le_trans hb b1.size), sim_empty h1 h6 hr4, by simp only; omega, hpos⟩, fun i hi => ?_⟩
  have hp := h.ok i hi
  obtain ⟨c, hc⟩ := hp.blk
  have l1 := lt_of_block hc
  have l2 := lt_of_block hp.ref.block
  have l3 := href.lo
  have l4 := b1.size
  exact ⟨by simp only; omega, by simp only; omega, fun g _ h2 => by simp [Value.ownBlock] at h2⟩

set_option maxRecDepth 100000 in
set_option maxHeartbeats 1000000 in
theorem lmade_ok (w0 w : World) (wb n room : Nat) (sv lw : Value) (ps : List Pr) (ls : List (Value × Int)) (h : Scr w0 w wb sv lw ps ls) (hcol : Cols w) (hpos : 0 < w0.heap.size) (hps : ps.length ≤ 5000000) (h1 : 1 ≤ n) (h6 : n ≤ 6) (hr1 : 1 ≤ room) (hr4 : room ≤ 4000) :
    Calls Tryz.prog 5 #[.pointer (some ⟨wb, 0, none⟩), .int .i64 n, .int .i64 room] w fun e w' => e = .returned (.bool true) ∧ ∃ sv' p, Scr w0 w' wb sv' lw (ps ++ [p]) ls ∧ p.r.given = 0 := by
  obtain ⟨i1, hi1, hy0, hy1, hy2⟩ := info_parts Tryz.infoPair
  have H : Hid (Scr w0 w wb sv lw ps ls) := h
  have HC : Hid (Cols w) := hcol
  clear h hcol
  go_enter Tryz.func5, Tryz.ntmps5
  go_wp2_with fail
  refine (new_calls n room _ h1 h6 hr1 hr4 HC.out).mono ?_
  rintro e w1 ⟨x, rfl, hst, hx, b1⟩
  have HX : Hid (StoreAt w1 x (St.empty n room) ∧ w.heap.size ≤ x ∧ Below w.heap.size w w1) := ⟨hst, hx, b1⟩
  clear hst hx b1
  go_wp2_with fail
  refine (rnew_calls n room _ h1 h6 hr1 hr4).mono ?_
  rintro e w2 ⟨y, ov, rfl, href, b2⟩
  have HY : Hid (RefAt w1.heap.size w2 y (RSt.empty n room) (.slice none 0 0) ov ∧ Below w1.heap.size w1 w2) := ⟨href, b2⟩
  clear href b2
  go_wp2_with fail
  refine (num_calls 0 _).mono ?_
  rintro e w3 ⟨rfl, rfl⟩
  go_wp2_with fail
  refine (num_calls 0 _).mono ?_
  rintro e w3 ⟨rfl, rfl⟩
  have B2 : Hid (Below w.heap.size w w3) := below_trans HX.out.2.2 HY.out.2
  have H2 : Hid (Scr w0 w3 wb sv lw ps ls) := H.out.below B2.out
  obtain ⟨asv, csv, rfl⟩ := owns_slice H2.out.row
  have c0 : w3.cell? ⟨wb, 0, none⟩ = some (.slice asv ps.length csv) := cell_of_block H2.out.blk 0
  have hwb := lt_of_block H2.out.blk
  obtain ⟨hnew, hap⟩ := pair_new H.out hpos h1 h6 hr4 HX.out.1 HX.out.2.1 HX.out.2.2 HY.out.1 HY.out.2
  have HNEW : Hid (PairOk w0.heap.size w3 ⟨x, y, St.empty n room, RSt.empty n room, .slice none 0 0, ov⟩) := hnew
  have HAP : Hid (∀ i (hi : i < ps.length), Apart ps[i] ⟨x, y, St.empty n room, RSt.empty n room, .slice none 0 0, ov⟩) := hap
  clear hnew hap
  have F1 : Hid (ps.length + 1 ≤ maxLen) := by show ps.length + 1 ≤ maxLen; unfold maxLen; omega
  have F2 : Hid ((ps.length + 1) * 16 ≤ 140737488355328) := by show (ps.length + 1) * 16 ≤ 140737488355328; omega
  have F3 : Hid (w0.heap.size ≤ (w3.alloc (.cells #[.pointer (some ⟨x, 0, none⟩), .pointer (some ⟨y, 0, none⟩)] 45)).heap.size) := by
    have := H2.out.bel.size
    show w0.heap.size ≤ (w3.alloc (.cells #[.pointer (some ⟨x, 0, none⟩), .pointer (some ⟨y, 0, none⟩)] 45)).heap.size
    simp; omega
  have O5 : Hid ((w3.alloc (.cells #[.pointer (some ⟨x, 0, none⟩), .pointer (some ⟨y, 0, none⟩)] 45)).ownsRow w0.heap.size 45 2 (.slice asv ps.length csv) ps.length (prv ps)) := H2.out.row.alloc _
  go_wp2_with (at_builtin; go_must (refine wpList_append_own _ rfl _ _ 26 rfl w0.heap.size 45 i1 _ 2 16 Tryz.underlying26 hi1 hy0 hy1 hy2 rfl (Nat.succ_pos 1) (.slice asv ps.length csv) ps.length (prv ps) ?e1 O5.out ⟨w3.heap.size, 0, none⟩ 1 1 [.pointer (some ⟨x, 0, none⟩), .pointer (some ⟨y, 0, none⟩)] ?e2 rfl (new_cells w3 [.pointer (some ⟨x, 0, none⟩), .pointer (some ⟨y, 0, none⟩)] _) ?e3 F1.out F2.out F3.out ?_); (case e1 => rfl); (case e2 => rfl); (case e3 => simp [Value.oneCell']); intro v' w4 hown hgrow _; have hm := scr_mid H2.out hgrow; have m0 := cell_of_block hm 0; have mf := frozen_of_block hm 0; have HF : Hid (Scr w0 (w4.setCell ⟨wb, 0, none⟩ v') wb v' lw (ps ++ [⟨x, y, St.empty n room, RSt.empty n room, .slice none 0 0, ov⟩]) ls) := scr_push H2.out HNEW.out HAP.out hgrow hown; obtain ⟨av, cv, rfl⟩ := owns_slice hown; clear hm hown hgrow)
  go_ret
  exact ⟨rfl, _, _, HF.out, rfl⟩
end Go.Proofs.YthoodkbdpnffdabGreatDoor

/-
  Own work: one step of a script (a walk over contracts).
-/
namespace Go.Proofs.YthoodkbdpnffdabGreatDoor
open Go.RowKit
open Cho (U64 Tab full col Nd Red)

theorem Scr.cols {w0 w : World} {wb : Nat} {sv lw : Value} {ps : List Pr} {ls : List (Value × Int)} (h : Scr w0 w wb sv lw ps ls) (hc : Cols w0) : Cols w := fun i hi => (World.cell?_of_block (a := ⟨0, i, none⟩) (h.bel.block 0 (cols_pos hc))).trans (hc i hi)
/-- What a script has made, and how many handles any of its stores has given at most. -/
def ScrK (w0 w : World) (wb : Nat) (K : Nat) : Prop := ∃ sv lw ps ls, Scr w0 w wb sv lw ps ls ∧ 0 < ps.length ∧ ps.length ≤ K + 1 ∧ ls.length ≤ 4 * K ∧ ∀ i (h : i < ps.length), ps[i].r.given ≤ K
theorem scrK_step {w0 w w' : World} {wb K : Nat} {sv lw : Value} {ps : List Pr} {ls : List (Value × Int)} (h : Scr w0 w wb sv lw ps ls) (hl : ps.length ≤ K + 1) (hls : ls.length ≤ 4 * K) (hg : ∀ i (h : i < ps.length), ps[i].r.given ≤ K) {i : Nat} (hi : i < ps.length) (hs : ∃ p', PStep w0.heap.size w w' ps[i] p') : ScrK w0 w' wb (K + 1) := by
  obtain ⟨p', hs⟩ := hs
  refine ⟨sv, lw, ps.set i p', ls, scr_step h hi hs, by rw [List.length_set]; omega, by rw [List.length_set]; omega, by omega, fun j hj => ?_⟩
  have hj' : j < ps.length := by simpa using hj
  rw [List.getElem_set]
  split
  · have := hs.given; have := hg i hi; omega
  · have := hg j hj'; omega
theorem scrK_same {w0 w : World} {wb K : Nat} {sv lw : Value} {ps : List Pr} {ls : List (Value × Int)} (h : Scr w0 w wb sv lw ps ls) (hne : 0 < ps.length) (hl : ps.length ≤ K + 1) (hls : ls.length ≤ 4 * K) (hg : ∀ i (h : i < ps.length), ps[i].r.given ≤ K) : ScrK w0 w wb (K + 1) :=
  ⟨sv, lw, ps, ls, h, hne, by omega, by omega, fun i hi => by have := hg i hi; omega⟩
theorem scrK_push {w0 w : World} {wb K : Nat} {sv lw : Value} {ps : List Pr} {ls : List (Value × Int)} {p : Pr} (h : Scr w0 w wb sv lw (ps ++ [p]) ls) (hl : ps.length ≤ K + 1) (hls : ls.length ≤ 4 * K) (hg : ∀ i (h : i < ps.length), ps[i].r.given ≤ K) (hp : p.r.given = 0) : ScrK w0 w wb (K + 1) := by
  refine ⟨sv, lw, _, ls, h, by simp, by simp; omega, by omega, fun i hi => ?_⟩
  by_cases e : i < ps.length
  · rw [List.getElem_append_left e]; have := hg i e; omega
  · obtain rfl : i = ps.length := by simp at hi; omega
    have : (ps ++ [p])[ps.length] = p := by simp
    rw [this]; omega

theorem lmade_calls (w0 w : World) (wb K : Nat) (n room : Int) (sv lw : Value) (ps : List Pr) (ls : List (Value × Int)) (h : Scr w0 w wb sv lw ps ls) (hne : 0 < ps.length) (hl : ps.length ≤ K + 1) (hls : ls.length ≤ 4 * K) (hg : ∀ i (h : i < ps.length), ps[i].r.given ≤ K) (hc : Cols w0) (hK : K ≤ 3000000) :
    Calls Tryz.prog 5 #[.pointer (some ⟨wb, 0, none⟩), .int .i64 n, .int .i64 room] w fun e w' => e = .returned (.bool true) ∧ ScrK w0 w' wb (K + 1) := by
  by_cases hb : 1 ≤ n ∧ n ≤ 6 ∧ 1 ≤ room ∧ room ≤ 4000
  · obtain ⟨n', rfl⟩ : ∃ k : Nat, n = k := ⟨n.toNat, by omega⟩
    obtain ⟨r', rfl⟩ : ∃ k : Nat, room = k := ⟨room.toNat, by omega⟩
    refine (lmade_ok w0 w wb n' r' sv lw ps ls h (h.cols hc) (cols_pos hc) (by omega) (by omega) (by omega) (by omega) (by omega)).mono ?_
    rintro e w' ⟨rfl, sv', p, h1, h2⟩
    exact ⟨rfl, scrK_push h1 hl hls hg h2⟩
  · refine (lmade_bad w0 w wb n room sv lw ps ls h hb).mono ?_
    rintro e w' ⟨rfl, h1⟩
    exact ⟨rfl, scrK_same h1 hne hl hls hg⟩

set_option maxRecDepth 100000 in
set_option maxHeartbeats 1000000 in
theorem step_new (w0 w : World) (wb K : Nat) (sv lw : Value) (ps : List Pr) (ls : List (Value × Int)) (o : SOp) (h : Scr w0 w wb sv lw ps ls) (hne : 0 < ps.length) (hl : ps.length ≤ K + 1) (hls : ls.length ≤ 4 * K) (hg : ∀ i (h : i < ps.length), ps[i].r.given ≤ K) (hc : Cols w0) (hK : K ≤ 3000000) (hk : o.kind = 1) :
    Calls Tryz.prog 6 #[.pointer (some ⟨wb, 0, none⟩), o.val] w fun e w' => e = .returned (.bool true) ∧ ScrK w0 w' wb (K + 1) := by
  obtain ⟨kind, s, a, b, c, t, on, text⟩ := o
  obtain rfl : kind = 1 := hk
  have MC : Hid (Calls Tryz.prog 5 #[.pointer (some ⟨wb, 0, none⟩), .int .i64 a, .int .i64 b] (w.alloc (.cells (SOp.cells ⟨1, s, a, b, c, t, on, text⟩) 33)) fun e w' => e = .returned (.bool true) ∧ ScrK w0 w' wb (K + 1)) := lmade_calls w0 _ wb K a b sv lw ps ls (h.below (below_alloc _ _)) hne hl hls hg hc hK
  clear h hl hls hg hc
  unfold SOp.val SOp.cells
  go_enter Tryz.func6, Tryz.ntmps6
  go_wp2_with fail
  refine MC.out.mono ?_
  rintro e w1 ⟨rfl, h1⟩
  have H1 : Hid _ := h1
  clear h1
  go_wp2_with fail
  go_ret
  exact ⟨rfl, H1.out⟩

set_option maxRecDepth 100000 in
set_option maxHeartbeats 1000000 in
theorem step_low (w0 w : World) (wb K : Nat) (sv lw : Value) (ps : List Pr) (ls : List (Value × Int)) (o : SOp) (h : Scr w0 w wb sv lw ps ls) (hne : 0 < ps.length) (hl : ps.length ≤ K + 1) (hls : ls.length ≤ 4 * K) (hg : ∀ i (h : i < ps.length), ps[i].r.given ≤ K) (hk : o.kind < 1) :
    Calls Tryz.prog 6 #[.pointer (some ⟨wb, 0, none⟩), o.val] w fun e w' => e = .returned (.bool true) ∧ ScrK w0 w' wb (K + 1) := by
  obtain ⟨kind, s, a, b, c, t, on, text⟩ := o
  have hk1 : kind < 1 := hk
  have hk2 : (kind == 1) = false := by simp; omega
  have HE : Hid (ScrK w0 (w.alloc (.cells (SOp.cells ⟨kind, s, a, b, c, t, on, text⟩) 33)) wb (K + 1)) := scrK_same (h.below (below_alloc _ _)) hne hl hls hg
  obtain ⟨asv, csv, rfl⟩ := owns_slice h.row
  have c0 : w.cell? ⟨wb, 0, none⟩ = some (.slice asv ps.length csv) := cell_of_block h.blk 0
  have hwb := lt_of_block h.blk
  clear h hl hls hg hk
  unfold SOp.val SOp.cells
  go_enter Tryz.func6, Tryz.ntmps6
  go_wp2_with fail
  all_goals
    go_ret
    exact ⟨rfl, HE.out⟩

set_option maxRecDepth 100000 in
set_option maxHeartbeats 1000000 in
theorem step_makes (w0 w : World) (wb K : Nat) (sv lw : Value) (ps : List Pr) (ls : List (Value × Int)) (o : SOp) (h : Scr w0 w wb sv lw ps ls) (hne : 0 < ps.length) (hl : ps.length ≤ K + 1) (hls : ls.length ≤ 4 * K) (hg : ∀ i (h : i < ps.length), ps[i].r.given ≤ K) (hK : K ≤ 3000000) (hk : 2 ≤ o.kind ∧ o.kind ≤ 7) (hs1 : -9223372036854775808 ≤ o.s) (hs2 : o.s ≤ 9223372036854775807) :
    Calls Tryz.prog 6 #[.pointer (some ⟨wb, 0, none⟩), o.val] w fun e w' => e = .returned (.bool true) ∧ ScrK w0 w' wb (K + 1) := by
  obtain ⟨kind, s, a, b, c, t, on, text⟩ := o
  obtain ⟨hk1, hk2⟩ : 2 ≤ kind ∧ kind ≤ 7 := hk
  have hs1' : -9223372036854775808 ≤ s := hs1
  have hs2' : s ≤ 9223372036854775807 := hs2
  have b1 : (kind == 1) = false := by simp; omega
  have b2 : ((ps.length : Int) == 0) = false := by rw [beq_eq_false_iff_ne]; omega
  obtain ⟨g, csv, rfl, _, _⟩ := owns_form h.row hne
  have hpk := pkN_lt s ps.length hne
  have hPK : Hid (∀ W : World, Calls Tryz.prog 11 #[.int .i64 s, .int .i64 ps.length] W fun e w' => e = .returned (.int .i64 (pkN s ps.length : Nat)) ∧ w' = W) := fun W => lpick_calls s ps.length W hs1' hs2' hne (by omega)
  generalize pkN s ps.length = k at *
  have h0 := h.below (below_alloc w (.cells (SOp.cells ⟨kind, s, a, b, c, t, on, text⟩) 33))
  have q0 : (w.alloc (.cells (SOp.cells ⟨kind, s, a, b, c, t, on, text⟩) 33)).cell? ⟨wb, 0, none⟩ = some (.slice (some ⟨g, 0, none⟩) ps.length csv) := cell_of_block h0.blk 0
  have hO := heap_res w (.cells (SOp.cells ⟨kind, s, a, b, c, t, on, text⟩) 33)
  have q1 : (w.alloc (.cells (SOp.cells ⟨kind, s, a, b, c, t, on, text⟩) 33)).cell? ⟨w.heap.size, 1, none⟩ = some (.int .i64 s) := cell_of_block hO 1
  obtain ⟨e1, e2⟩ := prv_get ps k hpk
  have r0 := h0.row.cells (g := g) rfl _ _ e1
  have r1 := h0.row.cells (g := g) rfl _ _ e2
  rw [Addr.add_mid, Nat.zero_add] at r0 r1
  have hx : ps[k].x = ps[k].x := rfl
  have hgl := (h0.row.lt g rfl).2
  have hwb := lt_of_block h0.blk
  have hn0 := lt_of_block hO
  have H : Hid (Scr w0 (w.alloc (.cells (SOp.cells ⟨kind, s, a, b, c, t, on, text⟩) 33)) wb (.slice (some ⟨g, 0, none⟩) ps.length csv) lw ps ls) := h0
  have HG : Hid (∀ i (h : i < ps.length), ps[i].r.given ≤ K) := hg
  have HO : Hid ((w.alloc (.cells (SOp.cells ⟨kind, s, a, b, c, t, on, text⟩) 33)).heap[w.heap.size]? = some (.cells (SOp.cells ⟨kind, s, a, b, c, t, on, text⟩) 33 (0, 0))) := hO
  clear h h0 hg hs1 hs2 e1 e2 hO hx
  unfold SOp.val
  have c0' := q0
  unfold SOp.cells at c0'
  go_enter Tryz.func6, Tryz.ntmps6
  unfold SOp.cells
  go_wp2_with fail
  clear c0'
  have EC : Hid (SOp.cells ⟨kind, s, a, b, c, t, on, text⟩ = #[.int .i64 kind, .int .i64 s, .int .i64 a, .int .i64 b, .int .i64 c, .int .u64 (t : Nat), .bool on, text]) := rfl
  rw [← EC.out]
  generalize w.alloc (.cells (SOp.cells ⟨kind, s, a, b, c, t, on, text⟩) 33) = W at *
  have hkl : (k : Int) < (ps.length : Int) := by omega
  go_region_held3 (fun w' => w'.cell? ⟨wb, 0, none⟩ = some (.slice (some ⟨g, 0, none⟩) ps.length csv) ∧ w'.cell? ⟨w.heap.size, 1, none⟩ = some (.int .i64 s) ∧ w'.cell? ⟨g, k * 2, none⟩ = some (.pointer (some ⟨ps[k].x, 0, none⟩)) ∧ w'.cell? ⟨g, k * 2 + 1, none⟩ = some (.pointer (some ⟨ps[k].y, 0, none⟩)))
    (first | exact ⟨q0, q1, r0, r1⟩ | go_keep)
    (first | (go_at_call 11; refine (hPK.out _).mono ?_; rintro e w' ⟨rfl, rfl⟩))
  all_goals
    have BV : Hid (Below W.heap.size W (W.alloc (.cells #[.pointer (some ⟨ps[k].x, 0, none⟩), .pointer (some ⟨ps[k].y, 0, none⟩)] 45)).drew) := (below_alloc _ _).drew
    have hP : ((W.alloc (.cells #[.pointer (some ⟨ps[k].x, 0, none⟩), .pointer (some ⟨ps[k].y, 0, none⟩)] 45)).drew).heap[W.heap.size]? = some (.cells #[.pointer (some ⟨ps[k].x, 0, none⟩), .pointer (some ⟨ps[k].y, 0, none⟩)] 45 (0, 0)) := heap_res W _
    generalize (W.alloc (.cells #[.pointer (some ⟨ps[k].x, 0, none⟩), .pointer (some ⟨ps[k].y, 0, none⟩)] 45)).drew = V at *
    have hOV := (BV.out.block _ (lt_of_block HO.out)).trans HO.out
    have HS : Hid (Scr w0 V wb (.slice (some ⟨g, 0, none⟩) ps.length csv) lw ps ls) := H.out.below BV.out
    have g0 : V.cell? ⟨W.heap.size, 0, none⟩ = some (.pointer (some ⟨ps[k].x, 0, none⟩)) := cell_of_block hP 0
    have g1 : V.cell? ⟨W.heap.size, 1, none⟩ = some (.pointer (some ⟨ps[k].y, 0, none⟩)) := cell_of_block hP 1
    have f0 : V.cell? ⟨w.heap.size, 0, none⟩ = some (.int .i64 kind) := cell_of_block hOV 0
    have f1 : V.cell? ⟨w.heap.size, 1, none⟩ = some (.int .i64 s) := cell_of_block hOV 1
    have f2 : V.cell? ⟨w.heap.size, 2, none⟩ = some (.int .i64 a) := cell_of_block hOV 2
    have f3 : V.cell? ⟨w.heap.size, 3, none⟩ = some (.int .i64 b) := cell_of_block hOV 3
    have f4 : V.cell? ⟨w.heap.size, 4, none⟩ = some (.int .i64 c) := cell_of_block hOV 4
    have f5 : V.cell? ⟨w.heap.size, 5, none⟩ = some (.int .u64 (t : Nat)) := cell_of_block hOV 5
    have f6 : V.cell? ⟨w.heap.size, 6, none⟩ = some (.bool on) := cell_of_block hOV 6
    have f7 : V.cell? ⟨w.heap.size, 7, none⟩ = some text := cell_of_block hOV 7
    have hgk := HG.out k hpk
    have MC : Hid (Calls Tryz.prog 12 #[.agg #[.pointer (some ⟨ps[k].x, 0, none⟩), .pointer (some ⟨ps[k].y, 0, none⟩)], .agg #[.int .i64 kind, .int .i64 s, .int .i64 a, .int .i64 b, .int .i64 c, .int .u64 (t : Nat), .bool on, text]] V fun e w' => e = .returned (.bool true) ∧ ∃ p', PStep w0.heap.size V w' ps[k] p') := makes_calls w0.heap.size ps[k] ⟨kind, s, a, b, c, t, on, text⟩ V ⟨hk1, hk2⟩ (HS.out.ok k hpk) (by omega)
    have FIN : Hid (∀ w', (∃ p', PStep w0.heap.size V w' ps[k] p') → ScrK w0 w' wb (K + 1)) := fun w' h1 => scrK_step HS.out hl hls HG.out hpk h1
    clear q0 q1 r0 r1 hP hOV H HO BV HS HG hPK hgl hgk
    generalize ps[k].x = px at *
    generalize ps[k].y = py at *
    go_wp2_with fail
    refine MC.out.mono ?_
    rintro e w9 ⟨rfl, h9⟩
    have H9 : Hid (ScrK w0 w9 wb (K + 1)) := FIN.out w9 h9
    clear h9
    go_wp2_with fail
    go_ret
    exact ⟨rfl, H9.out⟩
end Go.Proofs.YthoodkbdpnffdabGreatDoor
