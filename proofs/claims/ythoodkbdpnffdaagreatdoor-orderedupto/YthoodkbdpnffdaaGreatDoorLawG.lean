/-
  Own work: one step of a script, of every kind; a whole script (walks over contracts).
-/
import Derived.Test.YthoodkbdpnffdaaGreatDoorLawF
namespace Go.Proofs.YthoodkbdpnffdaaGreatDoor
open Go.RowKit
open Cho (U64 Tab full col Nd Red)

set_option maxRecDepth 100000 in
set_option maxHeartbeats 1000000 in
theorem step_asks (w0 w : World) (wb K : Nat) (sv lw : Value) (ps : List Pr) (ls : List (Value × Int)) (o : SOp) (h : Scr w0 w wb sv lw ps ls) (hne : 0 < ps.length) (hl : ps.length ≤ K + 1) (hls : ls.length ≤ 4 * K) (hg : ∀ i (h : i < ps.length), ps[i].r.given ≤ K) (hK : K ≤ 3000000) (hk : 8 ≤ o.kind ∧ o.kind ≤ 15) (hs1 : -9223372036854775808 ≤ o.s) (hs2 : o.s ≤ 9223372036854775807) :
    Calls Tryz.prog 8 #[.pointer (some ⟨wb, 0, none⟩), o.val] w fun e w' => e = .returned (.bool true) ∧ ScrK w0 w' wb (K + 1) := by
  obtain ⟨kind, s, a, b, c, t, on, text⟩ := o
  obtain ⟨hk1, hk2⟩ : 8 ≤ kind ∧ kind ≤ 15 := hk
  have hs1' : -9223372036854775808 ≤ s := hs1
  have hs2' : s ≤ 9223372036854775807 := hs2
  have b1 : (kind == 1) = false := by simp; omega
  have b2 : ((ps.length : Int) == 0) = false := by rw [beq_eq_false_iff_ne]; omega
  obtain ⟨g, csv, rfl, _, _⟩ := owns_form h.row hne
  have hpk := pkN_lt s ps.length hne
  have hPK : Hid (∀ W : World, Calls Tryz.prog 13 #[.int .i64 s, .int .i64 ps.length] W fun e w' => e = .returned (.int .i64 (pkN s ps.length : Nat)) ∧ w' = W) := fun W => lpick_calls s ps.length W hs1' hs2' hne (by omega)
  generalize pkN s ps.length = k at *
  have h0 := h.below (below_alloc w (.cells (SOp.cells ⟨kind, s, a, b, c, t, on, text⟩) 33))
  have q0 : (w.alloc (.cells (SOp.cells ⟨kind, s, a, b, c, t, on, text⟩) 33)).cell? ⟨wb, 0, none⟩ = some (.slice (some ⟨g, 0, none⟩) ps.length csv) := cell_of_block h0.blk 0
  have hO := heap_res w (.cells (SOp.cells ⟨kind, s, a, b, c, t, on, text⟩) 33)
  have q1 : (w.alloc (.cells (SOp.cells ⟨kind, s, a, b, c, t, on, text⟩) 33)).cell? ⟨w.heap.size, 1, none⟩ = some (.int .i64 s) := cell_of_block hO 1
  obtain ⟨e1, e2⟩ := prv_get ps k hpk
  have r0 := h0.row.cells (g := g) rfl _ _ e1
  have r1 := h0.row.cells (g := g) rfl _ _ e2
  rw [Addr.add_mid, Nat.zero_add] at r0 r1
  have hx : ps[k].x = ps[k].x := rfl
  have hgl := (h0.row.lt g rfl).2
  have hwb := lt_of_block h0.blk
  have hn0 := lt_of_block hO
  have H : Hid (Scr w0 (w.alloc (.cells (SOp.cells ⟨kind, s, a, b, c, t, on, text⟩) 33)) wb (.slice (some ⟨g, 0, none⟩) ps.length csv) lw ps ls) := h0
  have HG : Hid (∀ i (h : i < ps.length), ps[i].r.given ≤ K) := hg
  have HO : Hid ((w.alloc (.cells (SOp.cells ⟨kind, s, a, b, c, t, on, text⟩) 33)).heap[w.heap.size]? = some (.cells (SOp.cells ⟨kind, s, a, b, c, t, on, text⟩) 33 (0, 0))) := hO
  clear h h0 hg hs1 hs2 e1 e2 hO hx
  unfold SOp.val
  have c0' := q0
  unfold SOp.cells at c0'
  go_enter Tryz.func8, Tryz.ntmps8
  unfold SOp.cells
  go_wp2_with fail
  clear c0'
  have EC : Hid (SOp.cells ⟨kind, s, a, b, c, t, on, text⟩ = #[.int .i64 kind, .int .i64 s, .int .i64 a, .int .i64 b, .int .i64 c, .int .u64 (t : Nat), .bool on, text]) := rfl
  rw [← EC.out]
  generalize w.alloc (.cells (SOp.cells ⟨kind, s, a, b, c, t, on, text⟩) 33) = W at *
  have hkl : (k : Int) < (ps.length : Int) := by omega
  go_region_held3 (fun w' => w'.cell? ⟨wb, 0, none⟩ = some (.slice (some ⟨g, 0, none⟩) ps.length csv) ∧ w'.cell? ⟨w.heap.size, 1, none⟩ = some (.int .i64 s) ∧ w'.cell? ⟨g, k * 2, none⟩ = some (.pointer (some ⟨ps[k].x, 0, none⟩)) ∧ w'.cell? ⟨g, k * 2 + 1, none⟩ = some (.pointer (some ⟨ps[k].y, 0, none⟩)))
    (first | exact ⟨q0, q1, r0, r1⟩ | go_keep)
    (first | (go_at_call 13; refine (hPK.out _).mono ?_; rintro e w' ⟨rfl, rfl⟩))
  all_goals
    have BV : Hid (Below W.heap.size W (W.alloc (.cells #[.pointer (some ⟨ps[k].x, 0, none⟩), .pointer (some ⟨ps[k].y, 0, none⟩)] 45)).drew) := (below_alloc _ _).drew
    have hP : ((W.alloc (.cells #[.pointer (some ⟨ps[k].x, 0, none⟩), .pointer (some ⟨ps[k].y, 0, none⟩)] 45)).drew).heap[W.heap.size]? = some (.cells #[.pointer (some ⟨ps[k].x, 0, none⟩), .pointer (some ⟨ps[k].y, 0, none⟩)] 45 (0, 0)) := heap_res W _
    generalize (W.alloc (.cells #[.pointer (some ⟨ps[k].x, 0, none⟩), .pointer (some ⟨ps[k].y, 0, none⟩)] 45)).drew = V at *
    have hOV := (BV.out.block _ (lt_of_block HO.out)).trans HO.out
    have HS : Hid (Scr w0 V wb (.slice (some ⟨g, 0, none⟩) ps.length csv) lw ps ls) := H.out.below BV.out
    have g0 : V.cell? ⟨W.heap.size, 0, none⟩ = some (.pointer (some ⟨ps[k].x, 0, none⟩)) := cell_of_block hP 0
    have g1 : V.cell? ⟨W.heap.size, 1, none⟩ = some (.pointer (some ⟨ps[k].y, 0, none⟩)) := cell_of_block hP 1
    have f0 : V.cell? ⟨w.heap.size, 0, none⟩ = some (.int .i64 kind) := cell_of_block hOV 0
    have f1 : V.cell? ⟨w.heap.size, 1, none⟩ = some (.int .i64 s) := cell_of_block hOV 1
    have f2 : V.cell? ⟨w.heap.size, 2, none⟩ = some (.int .i64 a) := cell_of_block hOV 2
    have f3 : V.cell? ⟨w.heap.size, 3, none⟩ = some (.int .i64 b) := cell_of_block hOV 3
    have f4 : V.cell? ⟨w.heap.size, 4, none⟩ = some (.int .i64 c) := cell_of_block hOV 4
    have f5 : V.cell? ⟨w.heap.size, 5, none⟩ = some (.int .u64 (t : Nat)) := cell_of_block hOV 5
    have f6 : V.cell? ⟨w.heap.size, 6, none⟩ = some (.bool on) := cell_of_block hOV 6
    have f7 : V.cell? ⟨w.heap.size, 7, none⟩ = some text := cell_of_block hOV 7
    have MC : Hid (Calls Tryz.prog 15 #[.agg #[.pointer (some ⟨ps[k].x, 0, none⟩), .pointer (some ⟨ps[k].y, 0, none⟩)], .agg #[.int .i64 kind, .int .i64 s, .int .i64 a, .int .i64 b, .int .i64 c, .int .u64 (t : Nat), .bool on, text]] V fun e w' => e = .returned (.bool true) ∧ ∃ p', PStep w0.heap.size V w' ps[k] p') := asks_calls w0.heap.size ps[k] ⟨kind, s, a, b, c, t, on, text⟩ V ⟨hk1, hk2⟩ (HS.out.ok k hpk)
    have FIN : Hid (∀ w', (∃ p', PStep w0.heap.size V w' ps[k] p') → ScrK w0 w' wb (K + 1)) := fun w' h1 => scrK_step HS.out hl hls HG.out hpk h1
    clear q0 q1 r0 r1 hP hOV H HO BV HS HG hPK hgl
    generalize ps[k].x = px at *
    generalize ps[k].y = py at *
    go_wp2_with fail
    refine MC.out.mono ?_
    rintro e w9 ⟨rfl, h9⟩
    have H9 : Hid (ScrK w0 w9 wb (K + 1)) := FIN.out w9 h9
    clear h9
    go_wp2_with fail
    go_ret
    exact ⟨rfl, H9.out⟩
set_option maxRecDepth 100000 in
set_option maxHeartbeats 1000000 in
theorem step_fixes (w0 w : World) (wb K : Nat) (sv lw : Value) (ps : List Pr) (ls : List (Value × Int)) (o : SOp) (h : Scr w0 w wb sv lw ps ls) (hne : 0 < ps.length) (hl : ps.length ≤ K + 1) (hls : ls.length ≤ 4 * K) (hg : ∀ i (h : i < ps.length), ps[i].r.given ≤ K) (hK : K ≤ 3000000) (hk : 16 ≤ o.kind ∧ o.kind ≤ 18) (hs1 : -9223372036854775808 ≤ o.s) (hs2 : o.s ≤ 9223372036854775807) :
    Calls Tryz.prog 8 #[.pointer (some ⟨wb, 0, none⟩), o.val] w fun e w' => e = .returned (.bool true) ∧ ScrK w0 w' wb (K + 1) := by
  obtain ⟨kind, s, a, b, c, t, on, text⟩ := o
  obtain ⟨hk1, hk2⟩ : 16 ≤ kind ∧ kind ≤ 18 := hk
  have hs1' : -9223372036854775808 ≤ s := hs1
  have hs2' : s ≤ 9223372036854775807 := hs2
  have b1 : (kind == 1) = false := by simp; omega
  have b2 : ((ps.length : Int) == 0) = false := by rw [beq_eq_false_iff_ne]; omega
  obtain ⟨g, csv, rfl, _, _⟩ := owns_form h.row hne
  have hpk := pkN_lt s ps.length hne
  have hPK : Hid (∀ W : World, Calls Tryz.prog 13 #[.int .i64 s, .int .i64 ps.length] W fun e w' => e = .returned (.int .i64 (pkN s ps.length : Nat)) ∧ w' = W) := fun W => lpick_calls s ps.length W hs1' hs2' hne (by omega)
  generalize pkN s ps.length = k at *
  have h0 := h.below (below_alloc w (.cells (SOp.cells ⟨kind, s, a, b, c, t, on, text⟩) 33))
  have q0 : (w.alloc (.cells (SOp.cells ⟨kind, s, a, b, c, t, on, text⟩) 33)).cell? ⟨wb, 0, none⟩ = some (.slice (some ⟨g, 0, none⟩) ps.length csv) := cell_of_block h0.blk 0
  have hO := heap_res w (.cells (SOp.cells ⟨kind, s, a, b, c, t, on, text⟩) 33)
  have q1 : (w.alloc (.cells (SOp.cells ⟨kind, s, a, b, c, t, on, text⟩) 33)).cell? ⟨w.heap.size, 1, none⟩ = some (.int .i64 s) := cell_of_block hO 1
  obtain ⟨e1, e2⟩ := prv_get ps k hpk
  have r0 := h0.row.cells (g := g) rfl _ _ e1
  have r1 := h0.row.cells (g := g) rfl _ _ e2
  rw [Addr.add_mid, Nat.zero_add] at r0 r1
  have hx : ps[k].x = ps[k].x := rfl
  have hgl := (h0.row.lt g rfl).2
  have hwb := lt_of_block h0.blk
  have hn0 := lt_of_block hO
  have H : Hid (Scr w0 (w.alloc (.cells (SOp.cells ⟨kind, s, a, b, c, t, on, text⟩) 33)) wb (.slice (some ⟨g, 0, none⟩) ps.length csv) lw ps ls) := h0
  have HG : Hid (∀ i (h : i < ps.length), ps[i].r.given ≤ K) := hg
  have HO : Hid ((w.alloc (.cells (SOp.cells ⟨kind, s, a, b, c, t, on, text⟩) 33)).heap[w.heap.size]? = some (.cells (SOp.cells ⟨kind, s, a, b, c, t, on, text⟩) 33 (0, 0))) := hO
  clear h h0 hg hs1 hs2 e1 e2 hO hx
  unfold SOp.val
  have c0' := q0
  unfold SOp.cells at c0'
  go_enter Tryz.func8, Tryz.ntmps8
  unfold SOp.cells
  go_wp2_with fail
  clear c0'
  have EC : Hid (SOp.cells ⟨kind, s, a, b, c, t, on, text⟩ = #[.int .i64 kind, .int .i64 s, .int .i64 a, .int .i64 b, .int .i64 c, .int .u64 (t : Nat), .bool on, text]) := rfl
  rw [← EC.out]
  generalize w.alloc (.cells (SOp.cells ⟨kind, s, a, b, c, t, on, text⟩) 33) = W at *
  have hkl : (k : Int) < (ps.length : Int) := by omega
  go_region_held3 (fun w' => w'.cell? ⟨wb, 0, none⟩ = some (.slice (some ⟨g, 0, none⟩) ps.length csv) ∧ w'.cell? ⟨w.heap.size, 1, none⟩ = some (.int .i64 s) ∧ w'.cell? ⟨g, k * 2, none⟩ = some (.pointer (some ⟨ps[k].x, 0, none⟩)) ∧ w'.cell? ⟨g, k * 2 + 1, none⟩ = some (.pointer (some ⟨ps[k].y, 0, none⟩)))
    (first | exact ⟨q0, q1, r0, r1⟩ | go_keep)
    (first | (go_at_call 13; refine (hPK.out _).mono ?_; rintro e w' ⟨rfl, rfl⟩))
  all_goals
    have BV : Hid (Below W.heap.size W (W.alloc (.cells #[.pointer (some ⟨ps[k].x, 0, none⟩), .pointer (some ⟨ps[k].y, 0, none⟩)] 45)).drew) := (below_alloc _ _).drew
    have hP : ((W.alloc (.cells #[.pointer (some ⟨ps[k].x, 0, none⟩), .pointer (some ⟨ps[k].y, 0, none⟩)] 45)).drew).heap[W.heap.size]? = some (.cells #[.pointer (some ⟨ps[k].x, 0, none⟩), .pointer (some ⟨ps[k].y, 0, none⟩)] 45 (0, 0)) := heap_res W _
    generalize (W.alloc (.cells #[.pointer (some ⟨ps[k].x, 0, none⟩), .pointer (some ⟨ps[k].y, 0, none⟩)] 45)).drew = V at *
    have hOV := (BV.out.block _ (lt_of_block HO.out)).trans HO.out
    have HS : Hid (Scr w0 V wb (.slice (some ⟨g, 0, none⟩) ps.length csv) lw ps ls) := H.out.below BV.out
    have g0 : V.cell? ⟨W.heap.size, 0, none⟩ = some (.pointer (some ⟨ps[k].x, 0, none⟩)) := cell_of_block hP 0
    have g1 : V.cell? ⟨W.heap.size, 1, none⟩ = some (.pointer (some ⟨ps[k].y, 0, none⟩)) := cell_of_block hP 1
    have f0 : V.cell? ⟨w.heap.size, 0, none⟩ = some (.int .i64 kind) := cell_of_block hOV 0
    have f1 : V.cell? ⟨w.heap.size, 1, none⟩ = some (.int .i64 s) := cell_of_block hOV 1
    have f2 : V.cell? ⟨w.heap.size, 2, none⟩ = some (.int .i64 a) := cell_of_block hOV 2
    have f3 : V.cell? ⟨w.heap.size, 3, none⟩ = some (.int .i64 b) := cell_of_block hOV 3
    have f4 : V.cell? ⟨w.heap.size, 4, none⟩ = some (.int .i64 c) := cell_of_block hOV 4
    have f5 : V.cell? ⟨w.heap.size, 5, none⟩ = some (.int .u64 (t : Nat)) := cell_of_block hOV 5
    have f6 : V.cell? ⟨w.heap.size, 6, none⟩ = some (.bool on) := cell_of_block hOV 6
    have f7 : V.cell? ⟨w.heap.size, 7, none⟩ = some text := cell_of_block hOV 7
    have hgk := HG.out k hpk
    have MC : Hid (Calls Tryz.prog 16 #[.agg #[.pointer (some ⟨ps[k].x, 0, none⟩), .pointer (some ⟨ps[k].y, 0, none⟩)], .agg #[.int .i64 kind, .int .i64 s, .int .i64 a, .int .i64 b, .int .i64 c, .int .u64 (t : Nat), .bool on, text]] V fun e w' => e = .returned (.bool true) ∧ ∃ p', PStep w0.heap.size V w' ps[k] p') := fixes_calls w0.heap.size ps[k] ⟨kind, s, a, b, c, t, on, text⟩ V ⟨hk1, hk2⟩ (HS.out.ok k hpk) (by omega)
    have FIN : Hid (∀ w', (∃ p', PStep w0.heap.size V w' ps[k] p') → ScrK w0 w' wb (K + 1)) := fun w' h1 => scrK_step HS.out hl hls HG.out hpk h1
    clear q0 q1 r0 r1 hP hOV H HO BV HS HG hPK hgl hgk
    generalize ps[k].x = px at *
    generalize ps[k].y = py at *
    go_wp2_with fail
    refine MC.out.mono ?_
    rintro e w9 ⟨rfl, h9⟩
    have H9 : Hid (ScrK w0 w9 wb (K + 1)) := FIN.out w9 h9
    clear h9
    go_wp2_with fail
    go_ret
    exact ⟨rfl, H9.out⟩
end Go.Proofs.YthoodkbdpnffdaaGreatDoor
