/-
  Own work: one step of a script, of every kind; a whole script (walks over contracts).
-/
import Derived.Test.YthejboamnjcdfaaGreatDoorLawF
namespace Go.Proofs.YthejboamnjcdfaaGreatDoor
open Go.RowKit
open Cho (U64 Tab full col Nd Red)

set_option maxRecDepth 100000 in
set_option maxHeartbeats 1000000 in
theorem step_asks (w0 w : World) (wb K : Nat) (sv : Value) (ps : List Pr) (o : SOp) (h : Scr w0 w wb sv ps) (hne : 0 < ps.length) (hl : ps.length ≤ K + 1) (hg : ∀ i (h : i < ps.length), ps[i].r.given ≤ K) (hK : K ≤ 3000000) (hk : 8 ≤ o.kind ∧ o.kind ≤ 15) (hs1 : -9223372036854775808 ≤ o.s) (hs2 : o.s ≤ 9223372036854775807) :
    Calls Tryz.prog 7 #[.pointer (some ⟨wb, 0, none⟩), o.val] w fun e w' => e = .returned (.bool true) ∧ ScrK w0 w' wb (K + 1) := by
  obtain ⟨kind, s, a, b, c, t, on, text⟩ := o
  obtain ⟨hk1, hk2⟩ : 8 ≤ kind ∧ kind ≤ 15 := hk
  have hs1' : -9223372036854775808 ≤ s := hs1
  have hs2' : s ≤ 9223372036854775807 := hs2
  have b1 : (kind == 1) = false := by simp; omega
  have b2 : ((ps.length : Int) == 0) = false := by rw [beq_eq_false_iff_ne]; omega
  obtain ⟨g, csv, rfl, _, _⟩ := owns_form h.row hne
  have hpk := pkN_lt s ps.length hne
  have hPK : Hid (∀ W : World, Calls Tryz.prog 12 #[.int .i64 s, .int .i64 ps.length] W fun e w' => e = .returned (.int .i64 (pkN s ps.length : Nat)) ∧ w' = W) := fun W => lpick_calls s ps.length W hs1' hs2' hne (by omega)
  generalize pkN s ps.length = k at *
  have h0 := h.below (below_alloc w (.cells (SOp.cells ⟨kind, s, a, b, c, t, on, text⟩) 33))
  have q0 : (w.alloc (.cells (SOp.cells ⟨kind, s, a, b, c, t, on, text⟩) 33)).cell? ⟨wb, 0, none⟩ = some (.slice (some ⟨g, 0, none⟩) ps.length csv) := cell_of_block h0.blk 0
  have hO := heap_res w (.cells (SOp.cells ⟨kind, s, a, b, c, t, on, text⟩) 33)
  have q1 : (w.alloc (.cells (SOp.cells ⟨kind, s, a, b, c, t, on, text⟩) 33)).cell? ⟨w.heap.size, 1, none⟩ = some (.int .i64 s) := cell_of_block hO 1
  obtain ⟨e1, e2⟩ := prv_get ps k hpk
  have r0 := h0.row.cells (g := g) rfl _ _ e1
  have r1 := h0.row.cells (g := g) rfl _ _ e2
  rw [Addr.add_mid, Nat.zero_add] at r0 r1
  have hx : ps[k].x = ps[k].x := rfl
  have hgl := (h0.row.lt g rfl).2
  have hwb := lt_of_block h0.blk
  have hn0 := lt_of_block hO
  have H : Hid (Scr w0 (w.alloc (.cells (SOp.cells ⟨kind, s, a, b, c, t, on, text⟩) 33)) wb (.slice (some ⟨g, 0, none⟩) ps.length csv) ps) := h0
  have HG : Hid (∀ i (h : i < ps.length), ps[i].r.given ≤ K) := hg
  have HO : Hid ((w.alloc (.cells (SOp.cells ⟨kind, s, a, b, c, t, on, text⟩) 33)).heap[w.heap.size]? = some (.cells (SOp.cells ⟨kind, s, a, b, c, t, on, text⟩) 33 (0, 0))) := hO
  clear h h0 hg hs1 hs2 e1 e2 hO hx
  unfold SOp.val
  have c0' := q0
  unfold SOp.cells at c0'
  go_enter Tryz.func7, Tryz.ntmps7
  unfold SOp.cells
  go_wp2_with fail
  clear c0'
  have EC : Hid (SOp.cells ⟨kind, s, a, b, c, t, on, text⟩ = #[.int .i64 kind, .int .i64 s, .int .i64 a, .int .i64 b, .int .i64 c, .int .u64 (t : Nat), .bool on, text]) := rfl
  rw [← EC.out]
  generalize w.alloc (.cells (SOp.cells ⟨kind, s, a, b, c, t, on, text⟩) 33) = W at *
  have hkl : (k : Int) < (ps.length : Int) := by omega
  go_region_held3 (fun w' => w'.cell? ⟨wb, 0, none⟩ = some (.slice (some ⟨g, 0, none⟩) ps.length csv) ∧ w'.cell? ⟨w.heap.size, 1, none⟩ = some (.int .i64 s) ∧ w'.cell? ⟨g, k * 2, none⟩ = some (.pointer (some ⟨ps[k].x, 0, none⟩)) ∧ w'.cell? ⟨g, k * 2 + 1, none⟩ = some (.pointer (some ⟨ps[k].y, 0, none⟩)))
    (first | exact ⟨q0, q1, r0, r1⟩ | go_keep)
    (first | (go_at_call 12; refine (hPK.out _).mono ?_; rintro e w' ⟨rfl, rfl⟩))
  all_goals
    have BV : Hid (Below W.heap.size W (W.alloc (.cells #[.pointer (some ⟨ps[k].x, 0, none⟩), .pointer (some ⟨ps[k].y, 0, none⟩)] 45)).drew) := (below_alloc _ _).drew
    have hP : ((W.alloc (.cells #[.pointer (some ⟨ps[k].x, 0, none⟩), .pointer (some ⟨ps[k].y, 0, none⟩)] 45)).drew).heap[W.heap.size]? = some (.cells #[.pointer (some ⟨ps[k].x, 0, none⟩), .pointer (some ⟨ps[k].y, 0, none⟩)] 45 (0, 0)) := heap_res W _
    generalize (W.alloc (.cells #[.pointer (some ⟨ps[k].x, 0, none⟩), .pointer (some ⟨ps[k].y, 0, none⟩)] 45)).drew = V at *
    have hOV := (BV.out.block _ (lt_of_block HO.out)).trans HO.out
    have HS : Hid (Scr w0 V wb (.slice (some ⟨g, 0, none⟩) ps.length csv) ps) := H.out.below BV.out
    have g0 : V.cell? ⟨W.heap.size, 0, none⟩ = some (.pointer (some ⟨ps[k].x, 0, none⟩)) := cell_of_block hP 0
    have g1 : V.cell? ⟨W.heap.size, 1, none⟩ = some (.pointer (some ⟨ps[k].y, 0, none⟩)) := cell_of_block hP 1
    have f0 : V.cell? ⟨w.heap.size, 0, none⟩ = some (.int .i64 kind) := cell_of_block hOV 0
    have f1 : V.cell? ⟨w.heap.size, 1, none⟩ = some (.int .i64 s) := cell_of_block hOV 1
    have f2 : V.cell? ⟨w.heap.size, 2, none⟩ = some (.int .i64 a) := cell_of_block hOV 2
    have f3 : V.cell? ⟨w.heap.size, 3, none⟩ = some (.int .i64 b) := cell_of_block hOV 3
    have f4 : V.cell? ⟨w.heap.size, 4, none⟩ = some (.int .i64 c) := cell_of_block hOV 4
    have f5 : V.cell? ⟨w.heap.size, 5, none⟩ = some (.int .u64 (t : Nat)) := cell_of_block hOV 5
    have f6 : V.cell? ⟨w.heap.size, 6, none⟩ = some (.bool on) := cell_of_block hOV 6
    have f7 : V.cell? ⟨w.heap.size, 7, none⟩ = some text := cell_of_block hOV 7
    have MC : Hid (Calls Tryz.prog 14 #[.agg #[.pointer (some ⟨ps[k].x, 0, none⟩), .pointer (some ⟨ps[k].y, 0, none⟩)], .agg #[.int .i64 kind, .int .i64 s, .int .i64 a, .int .i64 b, .int .i64 c, .int .u64 (t : Nat), .bool on, text]] V fun e w' => e = .returned (.bool true) ∧ ∃ p', PStep w0.heap.size V w' ps[k] p') := asks_calls w0.heap.size ps[k] ⟨kind, s, a, b, c, t, on, text⟩ V ⟨hk1, hk2⟩ (HS.out.ok k hpk)
    have FIN : Hid (∀ w', (∃ p', PStep w0.heap.size V w' ps[k] p') → ScrK w0 w' wb (K + 1)) := fun w' h1 => scrK_step HS.out hl HG.out hpk h1
    clear q0 q1 r0 r1 hP hOV H HO BV HS HG hPK hgl
    generalize ps[k].x = px at *
    generalize ps[k].y = py at *
    go_wp2_with fail
    refine MC.out.mono ?_
    rintro e w9 ⟨rfl, h9⟩
    have H9 : Hid (ScrK w0 w9 wb (K + 1)) := FIN.out w9 h9
    clear h9
    go_wp2_with fail
    go_ret
    exact ⟨rfl, H9.out⟩
set_option maxRecDepth 100000 in
set_option maxHeartbeats 1000000 in
theorem step_fixes (w0 w : World) (wb K : Nat) (sv : Value) (ps : List Pr) (o : SOp) (h : Scr w0 w wb sv ps) (hne : 0 < ps.length) (hl : ps.length ≤ K + 1) (hg : ∀ i (h : i < ps.length), ps[i].r.given ≤ K) (hK : K ≤ 3000000) (hk : 16 ≤ o.kind ∧ o.kind ≤ 18) (hs1 : -9223372036854775808 ≤ o.s) (hs2 : o.s ≤ 9223372036854775807) :
    Calls Tryz.prog 7 #[.pointer (some ⟨wb, 0, none⟩), o.val] w fun e w' => e = .returned (.bool true) ∧ ScrK w0 w' wb (K + 1) := by
  obtain ⟨kind, s, a, b, c, t, on, text⟩ := o
  obtain ⟨hk1, hk2⟩ : 16 ≤ kind ∧ kind ≤ 18 := hk
  have hs1' : -9223372036854775808 ≤ s := hs1
  have hs2' : s ≤ 9223372036854775807 := hs2
  have b1 : (kind == 1) = false := by simp; omega
  have b2 : ((ps.length : Int) == 0) = false := by rw [beq_eq_false_iff_ne]; omega
  obtain ⟨g, csv, rfl, _, _⟩ := owns_form h.row hne
  have hpk := pkN_lt s ps.length hne
  have hPK : Hid (∀ W : World, Calls Tryz.prog 12 #[.int .i64 s, .int .i64 ps.length] W fun e w' => e = .returned (.int .i64 (pkN s ps.length : Nat)) ∧ w' = W) := fun W => lpick_calls s ps.length W hs1' hs2' hne (by omega)
  generalize pkN s ps.length = k at *
  have h0 := h.below (below_alloc w (.cells (SOp.cells ⟨kind, s, a, b, c, t, on, text⟩) 33))
  have q0 : (w.alloc (.cells (SOp.cells ⟨kind, s, a, b, c, t, on, text⟩) 33)).cell? ⟨wb, 0, none⟩ = some (.slice (some ⟨g, 0, none⟩) ps.length csv) := cell_of_block h0.blk 0
  have hO := heap_res w (.cells (SOp.cells ⟨kind, s, a, b, c, t, on, text⟩) 33)
  have q1 : (w.alloc (.cells (SOp.cells ⟨kind, s, a, b, c, t, on, text⟩) 33)).cell? ⟨w.heap.size, 1, none⟩ = some (.int .i64 s) := cell_of_block hO 1
  obtain ⟨e1, e2⟩ := prv_get ps k hpk
  have r0 := h0.row.cells (g := g) rfl _ _ e1
  have r1 := h0.row.cells (g := g) rfl _ _ e2
  rw [Addr.add_mid, Nat.zero_add] at r0 r1
  have hx : ps[k].x = ps[k].x := rfl
  have hgl := (h0.row.lt g rfl).2
  have hwb := lt_of_block h0.blk
  have hn0 := lt_of_block hO
  have H : Hid (Scr w0 (w.alloc (.cells (SOp.cells ⟨kind, s, a, b, c, t, on, text⟩) 33)) wb (.slice (some ⟨g, 0, none⟩) ps.length csv) ps) := h0
  have HG : Hid (∀ i (h : i < ps.length), ps[i].r.given ≤ K) := hg
  have HO : Hid ((w.alloc (.cells (SOp.cells ⟨kind, s, a, b, c, t, on, text⟩) 33)).heap[w.heap.size]? = some (.cells (SOp.cells ⟨kind, s, a, b, c, t, on, text⟩) 33 (0, 0))) := hO
  clear h h0 hg hs1 hs2 e1 e2 hO hx
  unfold SOp.val
  have c0' := q0
  unfold SOp.cells at c0'
  go_enter Tryz.func7, Tryz.ntmps7
  unfold SOp.cells
  go_wp2_with fail
  clear c0'
  have EC : Hid (SOp.cells ⟨kind, s, a, b, c, t, on, text⟩ = #[.int .i64 kind, .int .i64 s, .int .i64 a, .int .i64 b, .int .i64 c, .int .u64 (t : Nat), .bool on, text]) := rfl
  rw [← EC.out]
  generalize w.alloc (.cells (SOp.cells ⟨kind, s, a, b, c, t, on, text⟩) 33) = W at *
  have hkl : (k : Int) < (ps.length : Int) := by omega
  go_region_held3 (fun w' => w'.cell? ⟨wb, 0, none⟩ = some (.slice (some ⟨g, 0, none⟩) ps.length csv) ∧ w'.cell? ⟨w.heap.size, 1, none⟩ = some (.int .i64 s) ∧ w'.cell? ⟨g, k * 2, none⟩ = some (.pointer (some ⟨ps[k].x, 0, none⟩)) ∧ w'.cell? ⟨g, k * 2 + 1, none⟩ = some (.pointer (some ⟨ps[k].y, 0, none⟩)))
    (first | exact ⟨q0, q1, r0, r1⟩ | go_keep)
    (first | (go_at_call 12; refine (hPK.out _).mono ?_; rintro e w' ⟨rfl, rfl⟩))
  all_goals
    have BV : Hid (Below W.heap.size W (W.alloc (.cells #[.pointer (some ⟨ps[k].x, 0, none⟩), .pointer (some ⟨ps[k].y, 0, none⟩)] 45)).drew) := (below_alloc _ _).drew
    have hP : ((W.alloc (.cells #[.pointer (some ⟨ps[k].x, 0, none⟩), .pointer (some ⟨ps[k].y, 0, none⟩)] 45)).drew).heap[W.heap.size]? = some (.cells #[.pointer (some ⟨ps[k].x, 0, none⟩), .pointer (some ⟨ps[k].y, 0, none⟩)] 45 (0, 0)) := heap_res W _
    generalize (W.alloc (.cells #[.pointer (some ⟨ps[k].x, 0, none⟩), .pointer (some ⟨ps[k].y, 0, none⟩)] 45)).drew = V at *
    have hOV := (BV.out.block _ (lt_of_block HO.out)).trans HO.out
    have HS : Hid (Scr w0 V wb (.slice (some ⟨g, 0, none⟩) ps.length csv) ps) := H.out.below BV.out
    have g0 : V.cell? ⟨W.heap.size, 0, none⟩ = some (.pointer (some ⟨ps[k].x, 0, none⟩)) := cell_of_block hP 0
    have g1 : V.cell? ⟨W.heap.size, 1, none⟩ = some (.pointer (some ⟨ps[k].y, 0, none⟩)) := cell_of_block hP 1
    have f0 : V.cell? ⟨w.heap.size, 0, none⟩ = some (.int .i64 kind) := cell_of_block hOV 0
    have f1 : V.cell? ⟨w.heap.size, 1, none⟩ = some (.int .i64 s) := cell_of_block hOV 1
    have f2 : V.cell? ⟨w.heap.size, 2, none⟩ = some (.int .i64 a) := cell_of_block hOV 2
    have f3 : V.cell? ⟨w.heap.size, 3, none⟩ = some (.int .i64 b) := cell_of_block hOV 3
    have f4 : V.cell? ⟨w.heap.size, 4, none⟩ = some (.int .i64 c) := cell_of_block hOV 4
    have f5 : V.cell? ⟨w.heap.size, 5, none⟩ = some (.int .u64 (t : Nat)) := cell_of_block hOV 5
    have f6 : V.cell? ⟨w.heap.size, 6, none⟩ = some (.bool on) := cell_of_block hOV 6
    have f7 : V.cell? ⟨w.heap.size, 7, none⟩ = some text := cell_of_block hOV 7
    have hgk := HG.out k hpk
    have MC : Hid (Calls Tryz.prog 15 #[.agg #[.pointer (some ⟨ps[k].x, 0, none⟩), .pointer (some ⟨ps[k].y, 0, none⟩)], .agg #[.int .i64 kind, .int .i64 s, .int .i64 a, .int .i64 b, .int .i64 c, .int .u64 (t : Nat), .bool on, text]] V fun e w' => e = .returned (.bool true) ∧ ∃ p', PStep w0.heap.size V w' ps[k] p') := fixes_calls w0.heap.size ps[k] ⟨kind, s, a, b, c, t, on, text⟩ V ⟨hk1, hk2⟩ (HS.out.ok k hpk) (by omega)
    have FIN : Hid (∀ w', (∃ p', PStep w0.heap.size V w' ps[k] p') → ScrK w0 w' wb (K + 1)) := fun w' h1 => scrK_step HS.out hl HG.out hpk h1
    clear q0 q1 r0 r1 hP hOV H HO BV HS HG hPK hgl hgk
    generalize ps[k].x = px at *
    generalize ps[k].y = py at *
    go_wp2_with fail
    refine MC.out.mono ?_
    rintro e w9 ⟨rfl, h9⟩
    have H9 : Hid (ScrK w0 w9 wb (K + 1)) := FIN.out w9 h9
    clear h9
    go_wp2_with fail
    go_ret
    exact ⟨rfl, H9.out⟩

theorem step_calls (w0 w : World) (wb K : Nat) (o : SOp) (h : ScrK w0 w wb K) (hc : Cols w0) (hK : K ≤ 3000000) (hk : o.kind ≤ 18) (hs1 : -9223372036854775808 ≤ o.s) (hs2 : o.s ≤ 9223372036854775807) :
    Calls Tryz.prog 7 #[.pointer (some ⟨wb, 0, none⟩), o.val] w fun e w' => e = .returned (.bool true) ∧ ScrK w0 w' wb (K + 1) := by
  obtain ⟨sv, ps, h1, hn, hl, hg⟩ := h
  by_cases k1 : o.kind < 1
  · exact step_low w0 w wb K sv ps o h1 hn hl hg k1
  · by_cases k2 : o.kind = 1
    · exact step_new w0 w wb K sv ps o h1 hn hl hg hc hK k2
    · by_cases k3 : o.kind ≤ 7
      · exact step_makes w0 w wb K sv ps o h1 hn hl hg hK ⟨by omega, k3⟩ hs1 hs2
      · by_cases k4 : o.kind ≤ 15
        · exact step_asks w0 w wb K sv ps o h1 hn hl hg hK ⟨by omega, k4⟩ hs1 hs2
        · exact step_fixes w0 w wb K sv ps o h1 hn hl hg hK ⟨by omega, hk⟩ hs1 hs2

set_option maxHeartbeats 400000 in
theorem looks_calls (wb : Nat) (sv : Value) (w : World) (hb : w.heap[wb]? = some (.cells #[sv, .slice none 0 0] 29 (0, 0))) :
    Calls Tryz.prog 8 #[.pointer (some ⟨wb, 0, none⟩)] w fun e w' => e = .returned (.bool true) ∧ w' = w := by
  have c1 : w.cell? ⟨wb, 1, none⟩ = some (.slice none 0 0) := cell_of_block hb 1
  clear hb
  go_enter Tryz.func8, Tryz.ntmps8
  go_wp2_with fail
  go_loopw [3] (fun x3 wr => x3 = .int .i64 0 ∧ wr = w) (fun _ _ => 0)
  case atStart => exact ⟨rfl, rfl⟩
  case round =>
    obtain ⟨rfl, rfl⟩ := hrel
    go_wp2_with fail
    go_ret
    exact ⟨rfl, rfl⟩

/-- A slice of steps that lay there in the world w0. -/
def SlOps (w0 : World) (ao : Option Addr) (l : List SOp) : Prop := ∀ i (hi : i < l.length), ∃ g o, ao = some ⟨g, o, none⟩ ∧ g < w0.heap.size ∧ ∀ j v, l[i].cells[j]? = some v → w0.cell? ⟨g, o + i * 8 + j, none⟩ = some v
theorem ScrK.looks {w0 w : World} {wb K : Nat} (h : ScrK w0 w wb K) : Calls Tryz.prog 8 #[.pointer (some ⟨wb, 0, none⟩)] w fun e w' => e = .returned (.bool true) ∧ w' = w := by
  obtain ⟨sv, ps, h1, _⟩ := h
  exact looks_calls wb sv w h1.blk
theorem ScrK.bel {w0 w : World} {wb K : Nat} (h : ScrK w0 w wb K) : Below w0.heap.size w0 w := by
  obtain ⟨sv, ps, h1, _⟩ := h; exact h1.bel
theorem ScrK.mono {w0 w : World} {wb K K' : Nat} (h : ScrK w0 w wb K) (hk : K ≤ K') : ScrK w0 w wb K' := by
  obtain ⟨sv, ps, h1, h2, h3, h4⟩ := h
  exact ⟨sv, ps, h1, h2, by omega, fun i hi => by have := h4 i hi; omega⟩
theorem scr_first (w : World) : Scr w (w.alloc (.cells #[.slice none 0 0, .slice none 0 0] 29)) w.heap.size (.slice none 0 0) [] :=
  ⟨heap_res _ _, World.ownsRow_nil _ _ _ _, fun i h => absurd h (by simp), fun i j h => absurd h (by simp), Nat.le_refl _, below_alloc _ _⟩

set_option maxRecDepth 100000 in
set_option maxHeartbeats 1000000 in
theorem played_calls (last cap : Nat) (ao : Option Addr) (l : List SOp) (w : World) (hc : Cols w) (hl : SlOps w ao l) (hlast : last ≤ 18) (hll : l.length ≤ 2000000) (hs : ∀ o ∈ l, -9223372036854775808 ≤ o.s ∧ o.s ≤ 9223372036854775807) :
    Calls Tryz.prog 5 #[.slice ao l.length cap, .int .i64 last] w fun e w' => e = .returned (.bool true) ∧ Below w.heap.size w w' := by
  have HC : Hid (Cols w) := hc
  have HL : Hid (SlOps w ao l) := hl
  have HSB : Hid (∀ o ∈ l, -9223372036854775808 ≤ o.s ∧ o.s ≤ 9223372036854775807) := hs
  have MC : Hid (Calls Tryz.prog 6 #[.pointer (some ⟨w.heap.size, 0, none⟩), .int .i64 3, .int .i64 20] (w.alloc (.cells #[.slice none 0 0, .slice none 0 0] 29)) fun e w' => e = .returned (.bool true) ∧ ScrK w w' w.heap.size 0) := by
    refine (lmade_ok w _ w.heap.size 3 20 _ [] (scr_first w) ((scr_first w).cols hc) (cols_pos hc) (by simp) (by omega) (by omega) (by omega) (by omega)).mono ?_
    rintro e w' ⟨rfl, sv', p, h1, h2⟩
    refine ⟨rfl, sv', _, h1, by simp, by simp, fun i hi => ?_⟩
    obtain rfl : i = 0 := by simp at hi; omega
    exact Nat.le_of_eq h2
  clear hc hl hs
  go_enter Tryz.func5, Tryz.ntmps5
  go_wp2_with fail
  refine MC.out.mono ?_
  rintro e w1 ⟨rfl, h1⟩
  have H1 : Hid (ScrK w w1 w.heap.size 0) := h1
  clear h1 MC
  go_wp2_with fail
  go_loopw [6, 7] (fun x6 x7 wr => ∃ i : Nat, i ≤ l.length ∧ x7 = .int .i64 i ∧ Hid (ScrK w wr w.heap.size i)) (fun _ x7 _ => l.length - (intOf x7).toNat)
  case atStart => exact ⟨0, Nat.zero_le _, rfl, H1⟩
  case round =>
    obtain ⟨i, hi, rfl, HR⟩ := hrel
    by_cases hlt : i < l.length
    · obtain ⟨g, o, rfl, hg, hcell⟩ := HL.out i hlt
      have hb := HSB.out _ (List.getElem_mem hlt)
      have hcw : ∀ j v, l[i].cells[j]? = some v → wr.cell? ⟨g, o + i * 8 + j, none⟩ = some v := fun j v hv => (HR.out.bel.cell (p := ⟨g, o + i * 8 + j, none⟩) hg).trans (hcell j v hv)
      have SC : Hid (l[i].kind ≤ 18 → Calls Tryz.prog 7 #[.pointer (some ⟨w.heap.size, 0, none⟩), l[i].val] wr fun e w' => e = .returned (.bool true) ∧ ScrK w w' w.heap.size (i + 1)) := fun hk => step_calls w wr w.heap.size i l[i] HR.out HC.out (by omega) hk hb.1 hb.2
      clear hcell hb
      generalize l[i] = op at *
      obtain ⟨kind, s, a, b, c, t, on, text⟩ := op
      have f0 : wr.cell? ⟨g, o + i * 8, none⟩ = some (.int .i64 kind) := hcw 0 _ rfl
      have f1 : wr.cell? ⟨g, o + i * 8 + 1, none⟩ = some (.int .i64 s) := hcw 1 _ rfl
      have f2 : wr.cell? ⟨g, o + i * 8 + 2, none⟩ = some (.int .i64 a) := hcw 2 _ rfl
      have f3 : wr.cell? ⟨g, o + i * 8 + 3, none⟩ = some (.int .i64 b) := hcw 3 _ rfl
      have f4 : wr.cell? ⟨g, o + i * 8 + 4, none⟩ = some (.int .i64 c) := hcw 4 _ rfl
      have f5 : wr.cell? ⟨g, o + i * 8 + 5, none⟩ = some (.int .u64 (t : Nat)) := hcw 5 _ rfl
      have f6 : wr.cell? ⟨g, o + i * 8 + 6, none⟩ = some (.bool on) := hcw 6 _ rfl
      have f7 : wr.cell? ⟨g, o + i * 8 + 7, none⟩ = some text := hcw 7 _ rfl
      clear hcw
      by_cases hkl : kind ≤ (last : Int)
      · have hnl : ¬ (last : Int) < kind := by omega
        have SC2 : Hid (Calls Tryz.prog 7 #[.pointer (some ⟨w.heap.size, 0, none⟩), .agg #[.int .i64 kind, .int .i64 s, .int .i64 a, .int .i64 b, .int .i64 c, .int .u64 (t : Nat), .bool on, text]] wr fun e w' => e = .returned (.bool true) ∧ ScrK w w' w.heap.size (i + 1)) := SC.out (show kind ≤ 18 by omega)
        clear SC
        go_wp2_with fail
        refine SC2.out.mono ?_
        rintro e w2 ⟨rfl, h2⟩
        have H2 : Hid (ScrK w w2 w.heap.size (i + 1)) := h2
        clear h2
        go_wp2_with fail
        refine H2.out.looks.mono ?_
        rintro e w3 ⟨rfl, rfl⟩
        go_wp2_with fail
        exact ⟨⟨i + 1, hlt, by go_num, H2⟩, by simp [intOf]; omega⟩
      · have hnl : (last : Int) < kind := by omega
        clear SC
        have H2 : Hid (ScrK w wr w.heap.size (i + 1)) := HR.out.mono (Nat.le_succ _)
        go_wp2_with fail
        exact ⟨⟨i + 1, hlt, by go_num, H2⟩, by simp [intOf]; omega⟩
    · go_wp2_with fail
      go_ret
      exact ⟨rfl, HR.out.bel⟩

set_option maxHeartbeats 400000 in
theorem made_walk (cap : Nat) (ao : Option Addr) (l : List SOp) (w : World) (hc : Cols w) (hl : SlOps w ao l) (hll : l.length ≤ 2000000) (hs : ∀ o ∈ l, -9223372036854775808 ≤ o.s ∧ o.s ≤ 9223372036854775807) :
    Calls Tryz.prog 3 #[.slice ao l.length cap] w fun e w' => e = .returned (.bool true) ∧ Below w.heap.size w w' := by
  have PC : Hid (Calls Tryz.prog 5 #[.slice ao l.length cap, .int .i64 ((15 : Nat) : Int)] w fun e w' => e = .returned (.bool true) ∧ Below w.heap.size w w') := played_calls 15 cap ao l w hc hl (by omega) hll hs
  clear hc hl hs
  go_enter Tryz.func3, Tryz.ntmps3
  go_wp2_with fail
  refine PC.out.mono ?_
  rintro e w1 ⟨rfl, h1⟩
  have H1 : Hid _ := h1
  clear h1
  go_wp2_with fail
  go_ret
  exact ⟨rfl, H1.out⟩
set_option maxHeartbeats 400000 in
theorem fixed_walk (cap : Nat) (ao : Option Addr) (l : List SOp) (w : World) (hc : Cols w) (hl : SlOps w ao l) (hll : l.length ≤ 2000000) (hs : ∀ o ∈ l, -9223372036854775808 ≤ o.s ∧ o.s ≤ 9223372036854775807) :
    Calls Tryz.prog 4 #[.slice ao l.length cap] w fun e w' => e = .returned (.bool true) ∧ Below w.heap.size w w' := by
  have PC : Hid (Calls Tryz.prog 5 #[.slice ao l.length cap, .int .i64 ((18 : Nat) : Int)] w fun e w' => e = .returned (.bool true) ∧ Below w.heap.size w w') := played_calls 18 cap ao l w hc hl (by omega) hll hs
  clear hc hl hs
  go_enter Tryz.func4, Tryz.ntmps4
  go_wp2_with fail
  refine PC.out.mono ?_
  rintro e w1 ⟨rfl, h1⟩
  have H1 : Hid _ := h1
  clear h1
  go_wp2_with fail
  go_ret
  exact ⟨rfl, H1.out⟩
end Go.Proofs.YthejboamnjcdfaaGreatDoor
