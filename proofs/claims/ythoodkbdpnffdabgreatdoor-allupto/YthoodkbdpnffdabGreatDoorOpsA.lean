/-
  Own work: one step of a script, of every kind up to those of orders; a whole script (walks over contracts).
-/
import Derived.Test.YthoodkbdpnffdabGreatDoorDgW
import Derived.Test.YthoodkbdpnffdabGreatDoorLawO
import Derived.Test.YthoodkbdpnffdabGreatDoorPlainD
import Derived.ChangeOld
import Derived.Deep.Slices
namespace Go.Proofs.YthoodkbdpnffdabGreatDoor
open Go.RowKit
open Cho (U64 Tab full col Nd Red)

theorem scrK_ostep {w0 w' : World} {wb K k g : Nat} {sv : Value} {ps : List Pr} {ls : List (Value × Int)} (hl : ps.length ≤ K + 1) (hls : ls.length ≤ 4 * K) (hne : 0 < ps.length) (hg : ∀ i (h : i < ps.length), ps[i].r.given ≤ K) (hgk : g ≤ K) (h : OStep w0 w' wb sv ps ls k g) : ScrK w0 w' wb (K + 1) := by
  obtain ⟨lw', p', ms, h1, h2, h3⟩ := h
  refine ⟨sv, lw', ps.set k p', ls ++ ms, h1, by rw [List.length_set]; omega, by rw [List.length_set]; omega, by rw [List.length_append]; omega, fun j hj => ?_⟩
  have hj' : j < ps.length := by simpa using hj
  rw [List.getElem_set]
  split
  · omega
  · have := hg j hj'; omega

set_option maxRecDepth 100000 in
set_option maxHeartbeats 1000000 in
theorem step_orders (w0 w : World) (wb K : Nat) (sv lw : Value) (ps : List Pr) (ls : List (Value × Int)) (o : SOp) (h : Scr w0 w wb sv lw ps ls) (hne : 0 < ps.length) (hl : ps.length ≤ K + 1) (hls : ls.length ≤ 4 * K) (hg : ∀ i (h : i < ps.length), ps[i].r.given ≤ K) (hK : K ≤ 3000000) (hk : 19 ≤ o.kind ∧ o.kind ≤ 21) (hs1 : -9223372036854775808 ≤ o.s) (hs2 : o.s ≤ 9223372036854775807) :
    Calls Tryz.prog 6 #[.pointer (some ⟨wb, 0, none⟩), o.val] w fun e w' => e = .returned (.bool true) ∧ ScrK w0 w' wb (K + 1) := by
  obtain ⟨kind, s, a, b, c, t, on, text⟩ := o
  obtain ⟨hk1, hk2⟩ : 19 ≤ kind ∧ kind ≤ 21 := hk
  have hs1' : -9223372036854775808 ≤ s := hs1
  have hs2' : s ≤ 9223372036854775807 := hs2
  have b1 : (kind == 1) = false := by simp; omega
  have b2 : ((ps.length : Int) == 0) = false := by rw [beq_eq_false_iff_ne]; omega
  obtain ⟨g, csv, rfl, _, _⟩ := owns_form h.row hne
  have hpk := pkN_lt s ps.length hne
  have hPK : Hid (∀ W : World, Calls Tryz.prog 11 #[.int .i64 s, .int .i64 ps.length] W fun e w' => e = .returned (.int .i64 (pkN s ps.length : Nat)) ∧ w' = W) := fun W => lpick_calls s ps.length W hs1' hs2' hne (by omega)
  generalize pkN s ps.length = k at *
  have h0 := h.below (below_alloc w (.cells (SOp.cells ⟨kind, s, a, b, c, t, on, text⟩) 33))
  have q0 : (w.alloc (.cells (SOp.cells ⟨kind, s, a, b, c, t, on, text⟩) 33)).cell? ⟨wb, 0, none⟩ = some (.slice (some ⟨g, 0, none⟩) ps.length csv) := cell_of_block h0.blk 0
  have hO := heap_res w (.cells (SOp.cells ⟨kind, s, a, b, c, t, on, text⟩) 33)
  have q1 : (w.alloc (.cells (SOp.cells ⟨kind, s, a, b, c, t, on, text⟩) 33)).cell? ⟨w.heap.size, 1, none⟩ = some (.int .i64 s) := cell_of_block hO 1
  obtain ⟨e1, e2⟩ := prv_get ps k hpk
  have r0 := h0.row.cells (g := g) rfl _ _ e1
  have r1 := h0.row.cells (g := g) rfl _ _ e2
  rw [Addr.add_mid, Nat.zero_add] at r0 r1
  have hx : ps[k].x = ps[k].x := rfl
  have hgl := (h0.row.lt g rfl).2
  have hwb := lt_of_block h0.blk
  have hn0 := lt_of_block hO
  have H : Hid (Scr w0 (w.alloc (.cells (SOp.cells ⟨kind, s, a, b, c, t, on, text⟩) 33)) wb (.slice (some ⟨g, 0, none⟩) ps.length csv) lw ps ls) := h0
  have HG : Hid (∀ i (h : i < ps.length), ps[i].r.given ≤ K) := hg
  have HO : Hid ((w.alloc (.cells (SOp.cells ⟨kind, s, a, b, c, t, on, text⟩) 33)).heap[w.heap.size]? = some (.cells (SOp.cells ⟨kind, s, a, b, c, t, on, text⟩) 33 (0, 0))) := hO
  clear h h0 hg hs1 hs2 e1 e2 hO hx
  unfold SOp.val
  have c0' := q0
  unfold SOp.cells at c0'
  go_enter Tryz.func6, Tryz.ntmps6
  unfold SOp.cells
  go_wp2_with fail
  clear c0'
  have EC : Hid (SOp.cells ⟨kind, s, a, b, c, t, on, text⟩ = #[.int .i64 kind, .int .i64 s, .int .i64 a, .int .i64 b, .int .i64 c, .int .u64 (t : Nat), .bool on, text]) := rfl
  rw [← EC.out]
  generalize w.alloc (.cells (SOp.cells ⟨kind, s, a, b, c, t, on, text⟩) 33) = W at *
  have hkl : (k : Int) < (ps.length : Int) := by omega
  go_region_held3 (fun w' => w'.cell? ⟨wb, 0, none⟩ = some (.slice (some ⟨g, 0, none⟩) ps.length csv) ∧ w'.cell? ⟨w.heap.size, 1, none⟩ = some (.int .i64 s) ∧ w'.cell? ⟨g, k * 2, none⟩ = some (.pointer (some ⟨ps[k].x, 0, none⟩)) ∧ w'.cell? ⟨g, k * 2 + 1, none⟩ = some (.pointer (some ⟨ps[k].y, 0, none⟩)))
    (first | exact ⟨q0, q1, r0, r1⟩ | go_keep)
    (first | (go_at_call 11; refine (hPK.out _).mono ?_; rintro e w' ⟨rfl, rfl⟩))
  all_goals
    have BV : Hid (Below W.heap.size W (W.alloc (.cells #[.pointer (some ⟨ps[k].x, 0, none⟩), .pointer (some ⟨ps[k].y, 0, none⟩)] 45)).drew) := (below_alloc _ _).drew
    have hP : ((W.alloc (.cells #[.pointer (some ⟨ps[k].x, 0, none⟩), .pointer (some ⟨ps[k].y, 0, none⟩)] 45)).drew).heap[W.heap.size]? = some (.cells #[.pointer (some ⟨ps[k].x, 0, none⟩), .pointer (some ⟨ps[k].y, 0, none⟩)] 45 (0, 0)) := heap_res W _
    generalize (W.alloc (.cells #[.pointer (some ⟨ps[k].x, 0, none⟩), .pointer (some ⟨ps[k].y, 0, none⟩)] 45)).drew = V at *
    have hOV := (BV.out.block _ (lt_of_block HO.out)).trans HO.out
    have HS : Hid (Scr w0 V wb (.slice (some ⟨g, 0, none⟩) ps.length csv) lw ps ls) := H.out.below BV.out
    have g0 : V.cell? ⟨W.heap.size, 0, none⟩ = some (.pointer (some ⟨ps[k].x, 0, none⟩)) := cell_of_block hP 0
    have g1 : V.cell? ⟨W.heap.size, 1, none⟩ = some (.pointer (some ⟨ps[k].y, 0, none⟩)) := cell_of_block hP 1
    have f0 : V.cell? ⟨w.heap.size, 0, none⟩ = some (.int .i64 kind) := cell_of_block hOV 0
    have f1 : V.cell? ⟨w.heap.size, 1, none⟩ = some (.int .i64 s) := cell_of_block hOV 1
    have f2 : V.cell? ⟨w.heap.size, 2, none⟩ = some (.int .i64 a) := cell_of_block hOV 2
    have f3 : V.cell? ⟨w.heap.size, 3, none⟩ = some (.int .i64 b) := cell_of_block hOV 3
    have f4 : V.cell? ⟨w.heap.size, 4, none⟩ = some (.int .i64 c) := cell_of_block hOV 4
    have f5 : V.cell? ⟨w.heap.size, 5, none⟩ = some (.int .u64 (t : Nat)) := cell_of_block hOV 5
    have f6 : V.cell? ⟨w.heap.size, 6, none⟩ = some (.bool on) := cell_of_block hOV 6
    have f7 : V.cell? ⟨w.heap.size, 7, none⟩ = some text := cell_of_block hOV 7
    have hgk := HG.out k hpk
    have MC : Hid (Calls Tryz.prog 15 #[.pointer (some ⟨wb, 0, none⟩), .agg #[.pointer (some ⟨ps[k].x, 0, none⟩), .pointer (some ⟨ps[k].y, 0, none⟩)], .agg #[.int .i64 kind, .int .i64 s, .int .i64 a, .int .i64 b, .int .i64 c, .int .u64 (t : Nat), .bool on, text]] V fun e w' => e = .returned (.bool true) ∧ OStep w0 w' wb (.slice (some ⟨g, 0, none⟩) ps.length csv) ps ls k ps[k].r.given) := orders_calls w0 V wb k _ lw ps ls ⟨kind, s, a, b, c, t, on, text⟩ hpk HS.out (by omega) ⟨hk1, hk2⟩
    have FIN : Hid (∀ w', OStep w0 w' wb (.slice (some ⟨g, 0, none⟩) ps.length csv) ps ls k ps[k].r.given → ScrK w0 w' wb (K + 1)) := fun w' h1 => scrK_ostep hl hls hne HG.out hgk h1
    clear q0 q1 r0 r1 hP hOV H HO BV HS HG hPK hgl hgk
    generalize ps[k].x = px at *
    generalize ps[k].y = py at *
    go_wp2_with fail
    refine MC.out.mono ?_
    rintro e w9 ⟨rfl, h9⟩
    have H9 : Hid (ScrK w0 w9 wb (K + 1)) := FIN.out w9 h9
    clear h9
    go_wp2_with fail
    go_ret
    exact ⟨rfl, H9.out⟩

theorem step_calls (w0 w : World) (wb K : Nat) (o : SOp) (h : ScrK w0 w wb K) (hc : Cols w0) (hK : K ≤ 3000000) (hk : o.kind ≤ 21) (hs1 : -9223372036854775808 ≤ o.s) (hs2 : o.s ≤ 9223372036854775807) :
    Calls Tryz.prog 6 #[.pointer (some ⟨wb, 0, none⟩), o.val] w fun e w' => e = .returned (.bool true) ∧ ScrK w0 w' wb (K + 1) := by
  obtain ⟨sv, lw, ps, ls, h1, hn, hl, hls, hg⟩ := h
  by_cases k1 : o.kind < 1
  · exact step_low w0 w wb K sv lw ps ls o h1 hn hl hls hg k1
  · by_cases k2 : o.kind = 1
    · exact step_new w0 w wb K sv lw ps ls o h1 hn hl hls hg hc hK k2
    · by_cases k3 : o.kind ≤ 7
      · exact step_makes w0 w wb K sv lw ps ls o h1 hn hl hls hg hK ⟨by omega, k3⟩ hs1 hs2
      · by_cases k4 : o.kind ≤ 15
        · exact step_asks w0 w wb K sv lw ps ls o h1 hn hl hls hg hK ⟨by omega, k4⟩ hs1 hs2
        · by_cases k5 : o.kind ≤ 18
          · exact step_fixes w0 w wb K sv lw ps ls o h1 hn hl hls hg hK ⟨by omega, k5⟩ hs1 hs2
          · exact step_orders w0 w wb K sv lw ps ls o h1 hn hl hls hg hK ⟨by omega, hk⟩ hs1 hs2

/-- A slice of steps that lay there in the world w0. -/
def SlOps (w0 : World) (ao : Option Addr) (l : List SOp) : Prop := ∀ i (hi : i < l.length), ∃ g o, ao = some ⟨g, o, none⟩ ∧ g < w0.heap.size ∧ ∀ j v, l[i].cells[j]? = some v → w0.cell? ⟨g, o + i * 8 + j, none⟩ = some v
theorem ScrK.looks {w0 w : World} {wb K : Nat} (h : ScrK w0 w wb K) (hK : K ≤ 3000000) : Calls Tryz.prog 7 #[.pointer (some ⟨wb, 0, none⟩)] w fun e w' => e = .returned (.bool true) ∧ ScrK w0 w' wb K := by
  obtain ⟨sv, lw, ps, ls, h1, hn, hl, hls, hg⟩ := h
  refine (looks_all wb _ lw ls w (cell_of_block h1.blk 1) h1.lrow (fun p hp => (h1.lok p hp).rowM) (by omega)).mono ?_
  rintro e w' ⟨rfl, q, rfl⟩
  exact ⟨rfl, sv, lw, ps, ls, h1.below (below_dr w q), hn, hl, hls, hg⟩
theorem ScrK.bel {w0 w : World} {wb K : Nat} (h : ScrK w0 w wb K) : Below w0.heap.size w0 w := by
  obtain ⟨sv, lw, ps, ls, h1, _⟩ := h; exact h1.bel
theorem ScrK.mono {w0 w : World} {wb K K' : Nat} (h : ScrK w0 w wb K) (hk : K ≤ K') : ScrK w0 w wb K' := by
  obtain ⟨sv, lw, ps, ls, h1, h2, h3, h4, h5⟩ := h
  exact ⟨sv, lw, ps, ls, h1, h2, by omega, by omega, fun i hi => by have := h5 i hi; omega⟩
theorem scr_first (w : World) : Scr w (w.alloc (.cells #[.slice none 0 0, .slice none 0 0] 29)) w.heap.size (.slice none 0 0) (.slice none 0 0) [] [] :=
  ⟨heap_res _ _, World.ownsRow_nil _ _ _ _, by simp, World.ownsRow_nil _ _ _ _, fun i h => absurd h (by simp), fun i j h => absurd h (by simp), Nat.le_refl _, below_alloc _ _⟩

set_option maxRecDepth 100000 in
set_option maxHeartbeats 1000000 in
theorem played_calls (last cap : Nat) (ao : Option Addr) (l : List SOp) (w : World) (hc : Cols w) (hl : SlOps w ao l) (hlast : last ≤ 21) (hll : l.length ≤ 2000000) (hs : ∀ o ∈ l, -9223372036854775808 ≤ o.s ∧ o.s ≤ 9223372036854775807) :
    Calls Tryz.prog 4 #[.slice ao l.length cap, .int .i64 last] w fun e w' => e = .returned (.bool true) ∧ Below w.heap.size w w' := by
  have HC : Hid (Cols w) := hc
  have HL : Hid (SlOps w ao l) := hl
  have HSB : Hid (∀ o ∈ l, -9223372036854775808 ≤ o.s ∧ o.s ≤ 9223372036854775807) := hs
  have MC : Hid (Calls Tryz.prog 5 #[.pointer (some ⟨w.heap.size, 0, none⟩), .int .i64 3, .int .i64 20] (w.alloc (.cells #[.slice none 0 0, .slice none 0 0] 29)) fun e w' => e = .returned (.bool true) ∧ ScrK w w' w.heap.size 0) := by
    refine (lmade_ok w _ w.heap.size 3 20 _ _ [] [] (scr_first w) ((scr_first w).cols hc) (cols_pos hc) (by simp) (by omega) (by omega) (by omega) (by omega)).mono ?_
    rintro e w' ⟨rfl, sv', p, h1, h2⟩
    refine ⟨rfl, sv', _, _, _, h1, by simp, by simp, by simp, fun i hi => ?_⟩
    obtain rfl : i = 0 := by simp at hi; omega
    exact Nat.le_of_eq h2
  clear hc hl hs
  go_enter Tryz.func4, Tryz.ntmps4
  go_wp2_with fail
  refine MC.out.mono ?_
  rintro e w1 ⟨rfl, h1⟩
  have H1 : Hid (ScrK w w1 w.heap.size 0) := h1
  clear h1 MC
  go_wp2_with fail
  go_loopw [6, 7] (fun x6 x7 wr => ∃ i : Nat, i ≤ l.length ∧ x7 = .int .i64 i ∧ Hid (ScrK w wr w.heap.size i)) (fun _ x7 _ => l.length - (intOf x7).toNat)
  case atStart => exact ⟨0, Nat.zero_le _, rfl, H1⟩
  case round =>
    obtain ⟨i, hi, rfl, HR⟩ := hrel
    by_cases hlt : i < l.length
    · obtain ⟨g, o, rfl, hg, hcell⟩ := HL.out i hlt
      have hb := HSB.out _ (List.getElem_mem hlt)
      have hcw : ∀ j v, l[i].cells[j]? = some v → wr.cell? ⟨g, o + i * 8 + j, none⟩ = some v := fun j v hv => (HR.out.bel.cell (p := ⟨g, o + i * 8 + j, none⟩) hg).trans (hcell j v hv)
      have SC : Hid (l[i].kind ≤ 21 → Calls Tryz.prog 6 #[.pointer (some ⟨w.heap.size, 0, none⟩), l[i].val] wr fun e w' => e = .returned (.bool true) ∧ ScrK w w' w.heap.size (i + 1)) := fun hk => step_calls w wr w.heap.size i l[i] HR.out HC.out (by omega) hk hb.1 hb.2
      clear hcell hb
      generalize l[i] = op at *
      obtain ⟨kind, s, a, b, c, t, on, text⟩ := op
      have f0 : wr.cell? ⟨g, o + i * 8, none⟩ = some (.int .i64 kind) := hcw 0 _ rfl
      have f1 : wr.cell? ⟨g, o + i * 8 + 1, none⟩ = some (.int .i64 s) := hcw 1 _ rfl
      have f2 : wr.cell? ⟨g, o + i * 8 + 2, none⟩ = some (.int .i64 a) := hcw 2 _ rfl
      have f3 : wr.cell? ⟨g, o + i * 8 + 3, none⟩ = some (.int .i64 b) := hcw 3 _ rfl
      have f4 : wr.cell? ⟨g, o + i * 8 + 4, none⟩ = some (.int .i64 c) := hcw 4 _ rfl
      have f5 : wr.cell? ⟨g, o + i * 8 + 5, none⟩ = some (.int .u64 (t : Nat)) := hcw 5 _ rfl
      have f6 : wr.cell? ⟨g, o + i * 8 + 6, none⟩ = some (.bool on) := hcw 6 _ rfl
      have f7 : wr.cell? ⟨g, o + i * 8 + 7, none⟩ = some text := hcw 7 _ rfl
      clear hcw
      by_cases hkl : kind ≤ (last : Int)
      · have hnl : ¬ (last : Int) < kind := by omega
        have SC2 : Hid (Calls Tryz.prog 6 #[.pointer (some ⟨w.heap.size, 0, none⟩), .agg #[.int .i64 kind, .int .i64 s, .int .i64 a, .int .i64 b, .int .i64 c, .int .u64 (t : Nat), .bool on, text]] wr fun e w' => e = .returned (.bool true) ∧ ScrK w w' w.heap.size (i + 1)) := SC.out (show kind ≤ 21 by omega)
        clear SC
        go_wp2_with fail
        refine SC2.out.mono ?_
        rintro e w2 ⟨rfl, h2⟩
        have H2 : Hid (ScrK w w2 w.heap.size (i + 1)) := h2
        clear h2
        go_wp2_with fail
        refine (H2.out.looks (by omega)).mono ?_
        rintro e w3 ⟨rfl, h3⟩
        have H3 : Hid (ScrK w w3 w.heap.size (i + 1)) := h3
        clear h3
        go_wp2_with fail
        exact ⟨⟨i + 1, hlt, by go_num, H3⟩, by simp [intOf]; omega⟩
      · have hnl : (last : Int) < kind := by omega
        clear SC
        have H2 : Hid (ScrK w wr w.heap.size (i + 1)) := HR.out.mono (Nat.le_succ _)
        go_wp2_with fail
        exact ⟨⟨i + 1, hlt, by go_num, H2⟩, by simp [intOf]; omega⟩
    · go_wp2_with fail
      go_ret
      exact ⟨rfl, HR.out.bel⟩

end Go.Proofs.YthoodkbdpnffdabGreatDoor

/-
  Own work: what a script that came in gives the walks.
-/
namespace Go.Proofs.YthoodkbdpnffdabGreatDoor
open Go.ChangeShapes Go.WideShapes Go.ChangeAt Go.WideMaps Go.WideElems Go.RowKit
open Cho (U64)

theorem laidOutAll : laidOutB Tryz.prog = true := by kernel_rfl
theorem cellsOp : Tryz.prog.cellsOf 33 = 8 := by kernel_rfl
theorem cellsI : Tryz.prog.cellsOf 3 = 1 := by kernel_rfl
theorem cellsU : Tryz.prog.cellsOf 31 = 1 := by kernel_rfl
theorem cellsB : Tryz.prog.cellsOf 4 = 1 := by kernel_rfl
theorem cellsS : Tryz.prog.cellsOf 9 = 1 := by kernel_rfl

set_option maxRecDepth 100000 in
/-- The eight cells of a step. -/
theorem op_cells {H : Type} {enc : TypeId × Value → H} {W : World} {n : Nat} {cs : List Value} {x : DataW H × List MemPlace} (h : DataW.trod enc Tryz.prog W 0 (fun _ => true) true n 33 cs = some x) :
    ∃ o : SOp, cs = o.cells.toList ∧ -9223372036854775808 ≤ o.s ∧ o.s ≤ 9223372036854775807 := by
  obtain ⟨xs, k, _, _, hlen, hxl, hf⟩ := DataW.trod_struct Tryz.underlying33 h
  rw [cellsOp] at hlen
  match cs, hlen with
  | [c0, c1, c2, c3, c4, c5, c6, c7], _ =>
    have hx : xs.length = 8 := hxl
    have get : ∀ i (hi : i < 8), ∃ y, xs[i]? = some y := fun i hi => ⟨xs[i]'(by omega), List.getElem?_eq_getElem (by omega)⟩
    obtain ⟨y0, e0⟩ := get 0 (by decide)
    obtain ⟨y1, e1⟩ := get 1 (by decide)
    obtain ⟨y2, e2⟩ := get 2 (by decide)
    obtain ⟨y3, e3⟩ := get 3 (by decide)
    obtain ⟨y4, e4⟩ := get 4 (by decide)
    obtain ⟨y5, e5⟩ := get 5 (by decide)
    obtain ⟨y6, e6⟩ := get 6 (by decide)
    have g0 : DataW.trod enc Tryz.prog W 0 (fun _ => true) true k 3 [c0] = xs[0]? := by
      have h9 : DataW.trod enc Tryz.prog W 0 (fun _ => true) true k 3 (([c0, c1, c2, c3, c4, c5, c6, c7].drop 0).take (Tryz.prog.cellsOf 3)) = xs[0]? := hf 0 _ rfl
      rw [cellsI] at h9
      exact h9
    have g1 : DataW.trod enc Tryz.prog W 0 (fun _ => true) true k 3 [c1] = xs[1]? := by
      have h9 : DataW.trod enc Tryz.prog W 0 (fun _ => true) true k 3 (([c0, c1, c2, c3, c4, c5, c6, c7].drop 1).take (Tryz.prog.cellsOf 3)) = xs[1]? := hf 1 _ rfl
      rw [cellsI] at h9
      exact h9
    have g2 : DataW.trod enc Tryz.prog W 0 (fun _ => true) true k 3 [c2] = xs[2]? := by
      have h9 : DataW.trod enc Tryz.prog W 0 (fun _ => true) true k 3 (([c0, c1, c2, c3, c4, c5, c6, c7].drop 2).take (Tryz.prog.cellsOf 3)) = xs[2]? := hf 2 _ rfl
      rw [cellsI] at h9
      exact h9
    have g3 : DataW.trod enc Tryz.prog W 0 (fun _ => true) true k 3 [c3] = xs[3]? := by
      have h9 : DataW.trod enc Tryz.prog W 0 (fun _ => true) true k 3 (([c0, c1, c2, c3, c4, c5, c6, c7].drop 3).take (Tryz.prog.cellsOf 3)) = xs[3]? := hf 3 _ rfl
      rw [cellsI] at h9
      exact h9
    have g4 : DataW.trod enc Tryz.prog W 0 (fun _ => true) true k 3 [c4] = xs[4]? := by
      have h9 : DataW.trod enc Tryz.prog W 0 (fun _ => true) true k 3 (([c0, c1, c2, c3, c4, c5, c6, c7].drop 4).take (Tryz.prog.cellsOf 3)) = xs[4]? := hf 4 _ rfl
      rw [cellsI] at h9
      exact h9
    have g5 : DataW.trod enc Tryz.prog W 0 (fun _ => true) true k 31 [c5] = xs[5]? := by
      have h9 : DataW.trod enc Tryz.prog W 0 (fun _ => true) true k 31 (([c0, c1, c2, c3, c4, c5, c6, c7].drop 5).take (Tryz.prog.cellsOf 31)) = xs[5]? := hf 5 _ rfl
      rw [cellsU] at h9
      exact h9
    have g6 : DataW.trod enc Tryz.prog W 0 (fun _ => true) true k 4 [c6] = xs[6]? := by
      have h9 : DataW.trod enc Tryz.prog W 0 (fun _ => true) true k 4 (([c0, c1, c2, c3, c4, c5, c6, c7].drop 6).take (Tryz.prog.cellsOf 4)) = xs[6]? := hf 6 _ rfl
      rw [cellsB] at h9
      exact h9
    rw [e0] at g0
    rw [e1] at g1
    rw [e2] at g2
    rw [e3] at g3
    rw [e4] at g4
    rw [e5] at g5
    rw [e6] at g6
    obtain ⟨a0, h0, _, w0⟩ := DataW.trod_int Tryz.underlying3 g0
    obtain ⟨a1, h1, _, w1⟩ := DataW.trod_int Tryz.underlying3 g1
    obtain ⟨a2, h2, _, w2⟩ := DataW.trod_int Tryz.underlying3 g2
    obtain ⟨a3, h3, _, w3⟩ := DataW.trod_int Tryz.underlying3 g3
    obtain ⟨a4, h4, _, w4⟩ := DataW.trod_int Tryz.underlying3 g4
    obtain ⟨a5, h5, _, w5⟩ := DataW.trod_int Tryz.underlying31 g5
    obtain ⟨a6, h6, _⟩ := DataW.trod_bool Tryz.underlying4 g6
    obtain ⟨t, e, ut⟩ := u64_bd w5
    have b1 := i64_bd w1
    simp only [List.cons.injEq, and_true] at h0 h1 h2 h3 h4 h5 h6
    refine ⟨⟨a0, a1, a2, a3, a4, t, a6, c7⟩, ?_, b1.1, b1.2⟩
    subst h0 h1 h2 h3 h4 h5 h6 e
    rfl

theorem slice_ops {H : Type} {enc : TypeId × Value → H} {W : World} {a1 : Option Addr} {len1 cap1 : Nat} {d : DataW H} {ps : List MemPlace}
    (h : DataW.Trod enc Tryz.prog W 0 (fun _ => true) true 22 (.slice a1 len1 cap1) d ps) :
    ∃ l : List SOp, l.length = len1 ∧ SlOps W a1 l ∧ (∀ o ∈ l, -9223372036854775808 ≤ o.s ∧ o.s ≤ 9223372036854775807) ∧ len1 ≤ Rows.uptoBulk d := by
  obtain ⟨fuel, hf⟩ := h
  rcases Deep.open_slice Tryz.underlying22 hf with ⟨hcs, _⟩ | ⟨a, len, cap, m, n, D, Pl, hcs, _, hle, _, hm, hx, hel⟩
  · simp [Value.cells] at hcs
    obtain ⟨rfl, rfl, rfl⟩ := hcs
    exact ⟨[], rfl, fun i hi => absurd hi (by simp), by simp, Nat.zero_le _⟩
  · simp [Value.cells] at hcs
    obtain ⟨rfl, rfl, rfl⟩ := hcs
    have hm' : m = cap1 := by simpa using hm
    subst hm'
    rw [cellsOp] at hel
    have each : ∀ i, i < len1 → ∃ o : SOp, W.cells? 0 (a.add (i * 8)) 8 = some o.cells.toList ∧ -9223372036854775808 ≤ o.s ∧ o.s ≤ 9223372036854775807 := by
      intro i hi
      obtain ⟨cs, h1, h2⟩ := hel i (by omega)
      obtain ⟨o, rfl, h3, h4⟩ := op_cells h2
      exact ⟨o, h1, h3, h4⟩
    haveI : Inhabited SOp := ⟨⟨0, 0, 0, 0, 0, 0, false, .bool false⟩⟩
    obtain ⟨f, hfn⟩ := Deep.choose_lt each
    refine ⟨(List.range len1).map f, by simp, ?_, ?_, ?_⟩
    · intro i hi
      have hi' : i < len1 := by simpa using hi
      obtain ⟨_, _, hcell⟩ := World.cells?_some (hfn i hi').1
      obtain ⟨b, off, spot⟩ := a
      have h0 := hcell 0 (by decide)
      obtain ⟨_, _, hcell0⟩ := World.cells?_some (hfn 0 (by omega)).1
      have h00 := hcell0 0 (by decide)
      have hspot : spot = none := by
        have h1 : W.cell? (⟨b, off, spot⟩ : Addr) = (f 0).cells[0]? := by
          rw [Deep.add_add] at h00
          simpa [Addr.add] using h00
        exact World.cell?_spot (h1.trans (show (f 0).cells[0]? = some (Value.int .i64 (f 0).kind) from rfl))
      subst hspot
      have hlt : b < W.heap.size := by
        have := World.block_lt_of_cell? W _ (show W.cell? (((⟨b, off, none⟩ : Addr).add (i * 8)).add 0) = some (Value.int .i64 (f i).kind) from h0)
        simpa [Addr.add_mid] using this
      refine ⟨b, off, rfl, hlt, fun j v hv => ?_⟩
      have e : ((List.range len1).map f)[i] = f i := by simp
      rw [e] at hv
      have hj : j < 8 := by
        obtain ⟨hj, _⟩ := Array.getElem?_eq_some_iff.1 hv
        exact hj
      have := hcell j hj
      rw [Deep.add_add, Addr.add_mid] at this
      rw [Nat.add_assoc, this]
      simpa using hv
    · intro o ho
      obtain ⟨i, hi, rfl⟩ := List.mem_map.1 ho
      exact (hfn i (List.mem_range.1 hi)).2
    · simp only [Prod.mk.injEq] at hx
      rw [hx.1]
      have lenle : ∀ l : List (DataW H), l.length ≤ Rows.uptoBulkAll l := by
        intro l
        induction l with
        | nil => simp [Rows.uptoBulkAll]
        | cons x r ih =>
          have h1 : 1 ≤ Rows.uptoBulk x := by
            cases x with
            | lit l => cases l <;> simp [Rows.uptoBulk]
            | nil => simp [Rows.uptoBulk]
            | ptr d => simp [Rows.uptoBulk]
            | slice elems spare => simp [Rows.uptoBulk]
            | agg parts => simp [Rows.uptoBulk]
            | iface t d => simp [Rows.uptoBulk]
            | map entries => simp [Rows.uptoBulk]
            | held h => simp [Rows.uptoBulk]
          simp only [Rows.uptoBulkAll, List.length_cons]; omega
      have := lenle ((List.range len1).map D)
      simp only [List.length_map, List.length_range] at this
      simp only [Rows.uptoBulk]
      omega
end Go.Proofs.YthoodkbdpnffdabGreatDoor
