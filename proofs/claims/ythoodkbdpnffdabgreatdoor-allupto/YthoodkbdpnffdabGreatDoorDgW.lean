/-
  Own work: one step of a script, of every kind; a whole script (walks over contracts).
-/
import Derived.Test.YthoodkbdpnffdabGreatDoorLawF
import Derived.Test.YthoodkbdpnffdabGreatDoorScrM
import Derived.Test.YthoodkbdpnffdabGreatDoorPairM
import Derived.Test.YthoodkbdpnffdabGreatDoorMoveW
import Derived.Test.YthoodkbdpnffdabGreatDoorKeepA
import Derived.Test.YthoodkbdpnffdabGreatDoorTakeW
namespace Go.Proofs.YthoodkbdpnffdabGreatDoor
open Go.RowKit
open Cho (U64 Tab full col Nd Red)

set_option maxRecDepth 100000 in
set_option maxHeartbeats 1000000 in
theorem step_asks (w0 w : World) (wb K : Nat) (sv lw : Value) (ps : List Pr) (ls : List (Value × Int)) (o : SOp) (h : Scr w0 w wb sv lw ps ls) (hne : 0 < ps.length) (hl : ps.length ≤ K + 1) (hls : ls.length ≤ 4 * K) (hg : ∀ i (h : i < ps.length), ps[i].r.given ≤ K) (hK : K ≤ 3000000) (hk : 8 ≤ o.kind ∧ o.kind ≤ 15) (hs1 : -9223372036854775808 ≤ o.s) (hs2 : o.s ≤ 9223372036854775807) :
    Calls Tryz.prog 6 #[.pointer (some ⟨wb, 0, none⟩), o.val] w fun e w' => e = .returned (.bool true) ∧ ScrK w0 w' wb (K + 1) := by
  obtain ⟨kind, s, a, b, c, t, on, text⟩ := o
  obtain ⟨hk1, hk2⟩ : 8 ≤ kind ∧ kind ≤ 15 := hk
  have hs1' : -9223372036854775808 ≤ s := hs1
  have hs2' : s ≤ 9223372036854775807 := hs2
  have b1 : (kind == 1) = false := by simp; omega
  have b2 : ((ps.length : Int) == 0) = false := by rw [beq_eq_false_iff_ne]; omega
  obtain ⟨g, csv, rfl, _, _⟩ := owns_form h.row hne
  have hpk := pkN_lt s ps.length hne
  have hPK : Hid (∀ W : World, Calls Tryz.prog 11 #[.int .i64 s, .int .i64 ps.length] W fun e w' => e = .returned (.int .i64 (pkN s ps.length : Nat)) ∧ w' = W) := fun W => lpick_calls s ps.length W hs1' hs2' hne (by omega)
  generalize pkN s ps.length = k at *
  have h0 := h.below (below_alloc w (.cells (SOp.cells ⟨kind, s, a, b, c, t, on, text⟩) 33))
  have q0 : (w.alloc (.cells (SOp.cells ⟨kind, s, a, b, c, t, on, text⟩) 33)).cell? ⟨wb, 0, none⟩ = some (.slice (some ⟨g, 0, none⟩) ps.length csv) := cell_of_block h0.blk 0
  have hO := heap_res w (.cells (SOp.cells ⟨kind, s, a, b, c, t, on, text⟩) 33)
  have q1 : (w.alloc (.cells (SOp.cells ⟨kind, s, a, b, c, t, on, text⟩) 33)).cell? ⟨w.heap.size, 1, none⟩ = some (.int .i64 s) := cell_of_block hO 1
  obtain ⟨e1, e2⟩ := prv_get ps k hpk
  have r0 := h0.row.cells (g := g) rfl _ _ e1
  have r1 := h0.row.cells (g := g) rfl _ _ e2
  rw [Addr.add_mid, Nat.zero_add] at r0 r1
  have hx : ps[k].x = ps[k].x := rfl
  have hgl := (h0.row.lt g rfl).2
  have hwb := lt_of_block h0.blk
  have hn0 := lt_of_block hO
  have H : Hid (Scr w0 (w.alloc (.cells (SOp.cells ⟨kind, s, a, b, c, t, on, text⟩) 33)) wb (.slice (some ⟨g, 0, none⟩) ps.length csv) lw ps ls) := h0
  have HG : Hid (∀ i (h : i < ps.length), ps[i].r.given ≤ K) := hg
  have HO : Hid ((w.alloc (.cells (SOp.cells ⟨kind, s, a, b, c, t, on, text⟩) 33)).heap[w.heap.size]? = some (.cells (SOp.cells ⟨kind, s, a, b, c, t, on, text⟩) 33 (0, 0))) := hO
  clear h h0 hg hs1 hs2 e1 e2 hO hx
  unfold SOp.val
  have c0' := q0
  unfold SOp.cells at c0'
  go_enter Tryz.func6, Tryz.ntmps6
  unfold SOp.cells
  go_wp2_with fail
  clear c0'
  have EC : Hid (SOp.cells ⟨kind, s, a, b, c, t, on, text⟩ = #[.int .i64 kind, .int .i64 s, .int .i64 a, .int .i64 b, .int .i64 c, .int .u64 (t : Nat), .bool on, text]) := rfl
  rw [← EC.out]
  generalize w.alloc (.cells (SOp.cells ⟨kind, s, a, b, c, t, on, text⟩) 33) = W at *
  have hkl : (k : Int) < (ps.length : Int) := by omega
  go_region_held3 (fun w' => w'.cell? ⟨wb, 0, none⟩ = some (.slice (some ⟨g, 0, none⟩) ps.length csv) ∧ w'.cell? ⟨w.heap.size, 1, none⟩ = some (.int .i64 s) ∧ w'.cell? ⟨g, k * 2, none⟩ = some (.pointer (some ⟨ps[k].x, 0, none⟩)) ∧ w'.cell? ⟨g, k * 2 + 1, none⟩ = some (.pointer (some ⟨ps[k].y, 0, none⟩)))
    (first | exact ⟨q0, q1, r0, r1⟩ | go_keep)
    (first | (go_at_call 11; refine (hPK.out _).mono ?_; rintro e w' ⟨rfl, rfl⟩))
  all_goals
    have BV : Hid (Below W.heap.size W (W.alloc (.cells #[.pointer (some ⟨ps[k].x, 0, none⟩), .pointer (some ⟨ps[k].y, 0, none⟩)] 45)).drew) := (below_alloc _ _).drew
    have hP : ((W.alloc (.cells #[.pointer (some ⟨ps[k].x, 0, none⟩), .pointer (some ⟨ps[k].y, 0, none⟩)] 45)).drew).heap[W.heap.size]? = some (.cells #[.pointer (some ⟨ps[k].x, 0, none⟩), .pointer (some ⟨ps[k].y, 0, none⟩)] 45 (0, 0)) := heap_res W _
    generalize (W.alloc (.cells #[.pointer (some ⟨ps[k].x, 0, none⟩), .pointer (some ⟨ps[k].y, 0, none⟩)] 45)).drew = V at *
    have hOV := (BV.out.block _ (lt_of_block HO.out)).trans HO.out
    have HS : Hid (Scr w0 V wb (.slice (some ⟨g, 0, none⟩) ps.length csv) lw ps ls) := H.out.below BV.out
    have g0 : V.cell? ⟨W.heap.size, 0, none⟩ = some (.pointer (some ⟨ps[k].x, 0, none⟩)) := cell_of_block hP 0
    have g1 : V.cell? ⟨W.heap.size, 1, none⟩ = some (.pointer (some ⟨ps[k].y, 0, none⟩)) := cell_of_block hP 1
    have f0 : V.cell? ⟨w.heap.size, 0, none⟩ = some (.int .i64 kind) := cell_of_block hOV 0
    have f1 : V.cell? ⟨w.heap.size, 1, none⟩ = some (.int .i64 s) := cell_of_block hOV 1
    have f2 : V.cell? ⟨w.heap.size, 2, none⟩ = some (.int .i64 a) := cell_of_block hOV 2
    have f3 : V.cell? ⟨w.heap.size, 3, none⟩ = some (.int .i64 b) := cell_of_block hOV 3
    have f4 : V.cell? ⟨w.heap.size, 4, none⟩ = some (.int .i64 c) := cell_of_block hOV 4
    have f5 : V.cell? ⟨w.heap.size, 5, none⟩ = some (.int .u64 (t : Nat)) := cell_of_block hOV 5
    have f6 : V.cell? ⟨w.heap.size, 6, none⟩ = some (.bool on) := cell_of_block hOV 6
    have f7 : V.cell? ⟨w.heap.size, 7, none⟩ = some text := cell_of_block hOV 7
    have MC : Hid (Calls Tryz.prog 13 #[.agg #[.pointer (some ⟨ps[k].x, 0, none⟩), .pointer (some ⟨ps[k].y, 0, none⟩)], .agg #[.int .i64 kind, .int .i64 s, .int .i64 a, .int .i64 b, .int .i64 c, .int .u64 (t : Nat), .bool on, text]] V fun e w' => e = .returned (.bool true) ∧ ∃ p', PStep w0.heap.size V w' ps[k] p') := asks_calls w0.heap.size ps[k] ⟨kind, s, a, b, c, t, on, text⟩ V ⟨hk1, hk2⟩ (HS.out.ok k hpk)
    have FIN : Hid (∀ w', (∃ p', PStep w0.heap.size V w' ps[k] p') → ScrK w0 w' wb (K + 1)) := fun w' h1 => scrK_step HS.out hl hls HG.out hpk h1
    clear q0 q1 r0 r1 hP hOV H HO BV HS HG hPK hgl
    generalize ps[k].x = px at *
    generalize ps[k].y = py at *
    go_wp2_with fail
    refine MC.out.mono ?_
    rintro e w9 ⟨rfl, h9⟩
    have H9 : Hid (ScrK w0 w9 wb (K + 1)) := FIN.out w9 h9
    clear h9
    go_wp2_with fail
    go_ret
    exact ⟨rfl, H9.out⟩
set_option maxRecDepth 100000 in
set_option maxHeartbeats 1000000 in
theorem step_fixes (w0 w : World) (wb K : Nat) (sv lw : Value) (ps : List Pr) (ls : List (Value × Int)) (o : SOp) (h : Scr w0 w wb sv lw ps ls) (hne : 0 < ps.length) (hl : ps.length ≤ K + 1) (hls : ls.length ≤ 4 * K) (hg : ∀ i (h : i < ps.length), ps[i].r.given ≤ K) (hK : K ≤ 3000000) (hk : 16 ≤ o.kind ∧ o.kind ≤ 18) (hs1 : -9223372036854775808 ≤ o.s) (hs2 : o.s ≤ 9223372036854775807) :
    Calls Tryz.prog 6 #[.pointer (some ⟨wb, 0, none⟩), o.val] w fun e w' => e = .returned (.bool true) ∧ ScrK w0 w' wb (K + 1) := by
  obtain ⟨kind, s, a, b, c, t, on, text⟩ := o
  obtain ⟨hk1, hk2⟩ : 16 ≤ kind ∧ kind ≤ 18 := hk
  have hs1' : -9223372036854775808 ≤ s := hs1
  have hs2' : s ≤ 9223372036854775807 := hs2
  have b1 : (kind == 1) = false := by simp; omega
  have b2 : ((ps.length : Int) == 0) = false := by rw [beq_eq_false_iff_ne]; omega
  obtain ⟨g, csv, rfl, _, _⟩ := owns_form h.row hne
  have hpk := pkN_lt s ps.length hne
  have hPK : Hid (∀ W : World, Calls Tryz.prog 11 #[.int .i64 s, .int .i64 ps.length] W fun e w' => e = .returned (.int .i64 (pkN s ps.length : Nat)) ∧ w' = W) := fun W => lpick_calls s ps.length W hs1' hs2' hne (by omega)
  generalize pkN s ps.length = k at *
  have h0 := h.below (below_alloc w (.cells (SOp.cells ⟨kind, s, a, b, c, t, on, text⟩) 33))
  have q0 : (w.alloc (.cells (SOp.cells ⟨kind, s, a, b, c, t, on, text⟩) 33)).cell? ⟨wb, 0, none⟩ = some (.slice (some ⟨g, 0, none⟩) ps.length csv) := cell_of_block h0.blk 0
  have hO := heap_res w (.cells (SOp.cells ⟨kind, s, a, b, c, t, on, text⟩) 33)
  have q1 : (w.alloc (.cells (SOp.cells ⟨kind, s, a, b, c, t, on, text⟩) 33)).cell? ⟨w.heap.size, 1, none⟩ = some (.int .i64 s) := cell_of_block hO 1
  obtain ⟨e1, e2⟩ := prv_get ps k hpk
  have r0 := h0.row.cells (g := g) rfl _ _ e1
  have r1 := h0.row.cells (g := g) rfl _ _ e2
  rw [Addr.add_mid, Nat.zero_add] at r0 r1
  have hx : ps[k].x = ps[k].x := rfl
  have hgl := (h0.row.lt g rfl).2
  have hwb := lt_of_block h0.blk
  have hn0 := lt_of_block hO
  have H : Hid (Scr w0 (w.alloc (.cells (SOp.cells ⟨kind, s, a, b, c, t, on, text⟩) 33)) wb (.slice (some ⟨g, 0, none⟩) ps.length csv) lw ps ls) := h0
  have HG : Hid (∀ i (h : i < ps.length), ps[i].r.given ≤ K) := hg
  have HO : Hid ((w.alloc (.cells (SOp.cells ⟨kind, s, a, b, c, t, on, text⟩) 33)).heap[w.heap.size]? = some (.cells (SOp.cells ⟨kind, s, a, b, c, t, on, text⟩) 33 (0, 0))) := hO
  clear h h0 hg hs1 hs2 e1 e2 hO hx
  unfold SOp.val
  have c0' := q0
  unfold SOp.cells at c0'
  go_enter Tryz.func6, Tryz.ntmps6
  unfold SOp.cells
  go_wp2_with fail
  clear c0'
  have EC : Hid (SOp.cells ⟨kind, s, a, b, c, t, on, text⟩ = #[.int .i64 kind, .int .i64 s, .int .i64 a, .int .i64 b, .int .i64 c, .int .u64 (t : Nat), .bool on, text]) := rfl
  rw [← EC.out]
  generalize w.alloc (.cells (SOp.cells ⟨kind, s, a, b, c, t, on, text⟩) 33) = W at *
  have hkl : (k : Int) < (ps.length : Int) := by omega
  go_region_held3 (fun w' => w'.cell? ⟨wb, 0, none⟩ = some (.slice (some ⟨g, 0, none⟩) ps.length csv) ∧ w'.cell? ⟨w.heap.size, 1, none⟩ = some (.int .i64 s) ∧ w'.cell? ⟨g, k * 2, none⟩ = some (.pointer (some ⟨ps[k].x, 0, none⟩)) ∧ w'.cell? ⟨g, k * 2 + 1, none⟩ = some (.pointer (some ⟨ps[k].y, 0, none⟩)))
    (first | exact ⟨q0, q1, r0, r1⟩ | go_keep)
    (first | (go_at_call 11; refine (hPK.out _).mono ?_; rintro e w' ⟨rfl, rfl⟩))
  all_goals
    have BV : Hid (Below W.heap.size W (W.alloc (.cells #[.pointer (some ⟨ps[k].x, 0, none⟩), .pointer (some ⟨ps[k].y, 0, none⟩)] 45)).drew) := (below_alloc _ _).drew
    have hP : ((W.alloc (.cells #[.pointer (some ⟨ps[k].x, 0, none⟩), .pointer (some ⟨ps[k].y, 0, none⟩)] 45)).drew).heap[W.heap.size]? = some (.cells #[.pointer (some ⟨ps[k].x, 0, none⟩), .pointer (some ⟨ps[k].y, 0, none⟩)] 45 (0, 0)) := heap_res W _
    generalize (W.alloc (.cells #[.pointer (some ⟨ps[k].x, 0, none⟩), .pointer (some ⟨ps[k].y, 0, none⟩)] 45)).drew = V at *
    have hOV := (BV.out.block _ (lt_of_block HO.out)).trans HO.out
    have HS : Hid (Scr w0 V wb (.slice (some ⟨g, 0, none⟩) ps.length csv) lw ps ls) := H.out.below BV.out
    have g0 : V.cell? ⟨W.heap.size, 0, none⟩ = some (.pointer (some ⟨ps[k].x, 0, none⟩)) := cell_of_block hP 0
    have g1 : V.cell? ⟨W.heap.size, 1, none⟩ = some (.pointer (some ⟨ps[k].y, 0, none⟩)) := cell_of_block hP 1
    have f0 : V.cell? ⟨w.heap.size, 0, none⟩ = some (.int .i64 kind) := cell_of_block hOV 0
    have f1 : V.cell? ⟨w.heap.size, 1, none⟩ = some (.int .i64 s) := cell_of_block hOV 1
    have f2 : V.cell? ⟨w.heap.size, 2, none⟩ = some (.int .i64 a) := cell_of_block hOV 2
    have f3 : V.cell? ⟨w.heap.size, 3, none⟩ = some (.int .i64 b) := cell_of_block hOV 3
    have f4 : V.cell? ⟨w.heap.size, 4, none⟩ = some (.int .i64 c) := cell_of_block hOV 4
    have f5 : V.cell? ⟨w.heap.size, 5, none⟩ = some (.int .u64 (t : Nat)) := cell_of_block hOV 5
    have f6 : V.cell? ⟨w.heap.size, 6, none⟩ = some (.bool on) := cell_of_block hOV 6
    have f7 : V.cell? ⟨w.heap.size, 7, none⟩ = some text := cell_of_block hOV 7
    have hgk := HG.out k hpk
    have MC : Hid (Calls Tryz.prog 14 #[.agg #[.pointer (some ⟨ps[k].x, 0, none⟩), .pointer (some ⟨ps[k].y, 0, none⟩)], .agg #[.int .i64 kind, .int .i64 s, .int .i64 a, .int .i64 b, .int .i64 c, .int .u64 (t : Nat), .bool on, text]] V fun e w' => e = .returned (.bool true) ∧ ∃ p', PStep w0.heap.size V w' ps[k] p') := fixes_calls w0.heap.size ps[k] ⟨kind, s, a, b, c, t, on, text⟩ V ⟨hk1, hk2⟩ (HS.out.ok k hpk) (by omega)
    have FIN : Hid (∀ w', (∃ p', PStep w0.heap.size V w' ps[k] p') → ScrK w0 w' wb (K + 1)) := fun w' h1 => scrK_step HS.out hl hls HG.out hpk h1
    clear q0 q1 r0 r1 hP hOV H HO BV HS HG hPK hgl hgk
    generalize ps[k].x = px at *
    generalize ps[k].y = py at *
    go_wp2_with fail
    refine MC.out.mono ?_
    rintro e w9 ⟨rfl, h9⟩
    have H9 : Hid (ScrK w0 w9 wb (K + 1)) := FIN.out w9 h9
    clear h9
    go_wp2_with fail
    go_ret
    exact ⟨rfl, H9.out⟩
end Go.Proofs.YthoodkbdpnffdabGreatDoor

/-
  Own work: a list that came out is its owner's: the script's own (a walk).
-/
namespace Go.Proofs.YthoodkbdpnffdabGreatDoor
open Go.RowKit
open Cho (U64 Tab full col)

theorem Tryz.infoList : (Tryz.prog.info? 51).map (fun i => (i.zero, i.size, i.bytes)) = some (some (.agg #[.slice none 0 0, .int .i64 0]), 2, 32) := by kernel_rfl
theorem lsv_app (a b : List (Value × Int)) : lsv (a ++ b) = lsv a ++ lsv b := by
  induction a with
  | nil => rfl
  | cons p a ih => simp only [List.cons_append, lsv, ih]
theorem Mine.put {b : Nat} {w : World} {g i cap : Nat} {m : Int} (h : Mine b w g i cap m []) (hi : i < cap) : Mine b (w.setCell ⟨g, i, none⟩ (.int .i64 m)) g (i + 1) cap m [] := by
  obtain ⟨cur, hg, _, hm, hs, hc⟩ := h.ex
  refine ⟨⟨cur.setIfInBounds i (.int .i64 m), ?_, hi, hm, by simpa using hs, fun j hj => ?_⟩, h.lo, by simp⟩
  · simp only [World.setCell, Array.getElem?_modify, hg]; simp
  · rw [Array.getElem?_setIfInBounds]
    by_cases e : i = j
    · subst e; rw [if_pos rfl, if_pos (by omega)]
    · rw [if_neg e]; exact hc j (by omega)
theorem Mine.at' {b : Nat} {w : World} {g i cap : Nat} {m : Int} {vs : List Value} (h : Mine b w g i cap m vs) {j : Nat} (hj : j < cap) : ∃ u, w.cell? ⟨g, j, none⟩ = some u := by
  obtain ⟨cur, hg, _, hm, hs, hc⟩ := h.ex
  rw [cell_of_block hg]
  exact ⟨cur[j]'(by omega), by simp [show j < cur.size by omega]⟩
theorem Mine.fr {b : Nat} {w : World} {g i cap : Nat} {m : Int} {vs : List Value} (h : Mine b w g i cap m vs) (j : Nat) : w.frozen? ⟨g, j, none⟩ = false := by
  obtain ⟨cur, hg, _⟩ := h.ex
  exact frozen_of_block hg j
/-- What 'own' leaves. -/
structure Owned (b B : Nat) (w w' : World) (wb g : Nat) (sv lw : Value) (ls : List (Value × Int)) (lw' : Value) (ms : List (Value × Int)) : Prop where
  blk : w'.heap[wb]? = some (.cells #[sv, lw'] 29 (0, 0))
  row : w'.ownsRow B 51 2 lw' (ls ++ ms).length (lsv (ls ++ ms))
  len : ms.length = 4
  all : ∀ p ∈ ms, RowK b w' p.1 p.2
  ch : Ch (fun k => k = g ∨ k = wb ∨ lw.ownBlock = some k) w w'

theorem Mine.last {b : Nat} {w : World} {g n cap : Nat} {m : Int} {vs : List Value} {v : Value} (h : Mine b w g n cap m (vs ++ [v])) : ∃ ao n' cap', v = .slice ao n' cap' := by
  obtain ⟨g, n, cap, cur, rfl, _⟩ := (h.all v (by simp)).ex
  exact ⟨_, _, _, rfl⟩
theorem marks_new (w : World) (k : Nat) (m : Int) (l : List Value) (hl : l = marks k m) (T : TypeId) : ∀ j u, (marks k m)[j]? = some u → (w.alloc (.cells l.toArray T)).cell? ((⟨w.heap.size, 0, none⟩ : Addr).add j) = some u := by
  subst hl; exact new_cells w _ T
theorem own_end {b B wb g n cap : Nat} {sv lw v' v1 v2 v3 : Value} {m : Int} {ls : List (Value × Int)} {w w3 w4 : World} {o : Obj} (hblk : w.heap[wb]? = some (.cells #[sv, lw] 29 (0, 0))) (hrow : w.ownsRow B 51 2 lw ls.length (lsv ls))
    (hg : ∃ cur, w.heap[g]? = some (.cells cur 3 (0, 0))) (hgr : w.grownBy w3 (some g)) (hM : Mine b w3 g n cap m [v1, v2, v3]) (hn : n ≤ 6)
    (hown : w4.ownsRow B 51 2 v' (ls.length + 4) (lsv ls ++ [.slice (some ⟨g, 0, none⟩) n cap, .int .i64 m, v1, .int .i64 m, v2, .int .i64 m, v3, .int .i64 m])) (hg4 : (w3.alloc o).grownBy w4 lw.ownBlock) :
    w4.cell? ⟨wb, 1, none⟩ = some lw ∧ w4.frozen? ⟨wb, 1, none⟩ = false ∧ Owned b B w (w4.setCell ⟨wb, 1, none⟩ v') wb g sv lw ls v' [(.slice (some ⟨g, 0, none⟩) n cap, m), (v1, m), (v2, m), (v3, m)] := by
  obtain ⟨cur, hcur⟩ := hg
  have hwb := lt_of_block hblk
  have h3 : w3.heap[wb]? = some (.cells #[sv, lw] 29 (0, 0)) := (hgr.block wb hwb (by intro e; exact kind_ne hblk hcur (by decide) (by simpa using e))).trans hblk
  have hr3 : w3.ownsRow B 51 2 lw ls.length (lsv ls) := owns_kept hrow fun k hk => by
    obtain ⟨c, hc⟩ := owns_kind hrow hk
    exact hgr.block k (lt_of_block hc) (by intro e; exact kind_ne hc hcur (by decide) (by simpa using e))
  have hs3 := hgr.size
  have h4 : w4.heap[wb]? = some (.cells #[sv, lw] 29 (0, 0)) := (hg4.block wb (by simp; omega) (owns_ne hr3 h3 (by decide))).trans ((Below.heap_alloc _ _ _ (lt_of_block h3)).trans h3)
  have hv' : ∀ k, v'.ownBlock = some k → k ≠ wb := fun k hk e => by
    obtain ⟨c, hc⟩ := owns_kind hown hk
    exact kind_ne hc h4 (by decide) e
  have hkeep : ∀ (k : Nat) (c : Array Value), w3.heap[k]? = some (.cells c 3 (0, 0)) → (w4.setCell ⟨wb, 1, none⟩ v').heap[k]? = w3.heap[k]? := by
    intro k c hk
    rw [block_set_other (fun e => kind_ne hk h3 (by decide) e)]
    exact (hg4.block k (by have := lt_of_block hk; simp; omega) (owns_ne hr3 hk (by decide))).trans (Below.heap_alloc _ _ _ (lt_of_block hk))
  refine ⟨cell_of_block h4 1, frozen_of_block h4 1, ?_, ?_, rfl, ?_, ?_⟩
  · simp only [World.setCell, Array.getElem?_modify, h4]; simp
  · rw [lsv_app]
    have e : (ls ++ [((.slice (some ⟨g, 0, none⟩) n cap : Value), m), (v1, m), (v2, m), (v3, m)]).length = ls.length + 4 := by simp
    rw [e]
    exact owns_kept hown fun k hk => block_set_other (hv' k hk)
  · intro p hp
    have hall : ∀ v, RowK b w3 v m → RowK b (w4.setCell ⟨wb, 1, none⟩ v') v m := fun v hv => hv.kept fun k c hk _ => hkeep k c hk
    simp only [List.mem_cons, List.not_mem_nil, or_false] at hp
    rcases hp with rfl | rfl | rfl | rfl
    · exact hall _ (hM.self (by omega))
    · exact hall _ (hM.all _ (by simp))
    · exact hall _ (hM.all _ (by simp))
    · exact hall _ (hM.all _ (by simp))
  · have hs4 := hg4.size
    refine ⟨hg4.os.trans hgr.os, hg4.tape.trans hgr.tape, hg4.output.trans hgr.output, by simp at hs4 ⊢; omega, fun k hk hn => ?_⟩
    rw [block_set_other (fun e => hn (.inr (.inl e)))]
    refine (hg4.block k (by simp; omega) (fun e => hn (.inr (.inr e.symm)))).trans ((Below.heap_alloc _ _ _ (by omega)).trans ?_)
    exact hgr.block k hk (fun e => hn (.inl (by simpa using e)))

set_option maxRecDepth 100000 in
set_option maxHeartbeats 4000000 in
theorem own_calls (b B wb g n cap : Nat) (sv lw : Value) (ls : List (Value × Int)) (w : World) (hblk : w.heap[wb]? = some (.cells #[sv, lw] 29 (0, 0))) (hrow : w.ownsRow B 51 2 lw ls.length (lsv ls)) (hB : B ≤ b)
    (hg : ∃ cur, w.heap[g]? = some (.cells cur 3 (0, 0)) ∧ n ≤ cap ∧ cap ≤ maxLen ∧ cur.size = cap) (hlo : b ≤ g) (hn : n ≤ 6) (hll : ls.length ≤ 15000000) :
    Calls Tryz.prog 56 #[.pointer (some ⟨wb, 0, none⟩), .slice (some ⟨g, 0, none⟩) n cap] w fun e w' => e = .returned (.tuple #[]) ∧ ∃ lw' ms, Owned b B w w' wb g sv lw ls lw' ms := by
  obtain ⟨i0, hi0, hz0, hz1, hz2⟩ := info_parts Tryz.infoInt
  obtain ⟨i1, hi1, hy0, hy1, hy2⟩ := info_parts Tryz.infoList
  obtain ⟨al, cl, rfl⟩ := owns_slice hrow
  have c1 : w.cell? ⟨wb, 1, none⟩ = some (.slice al ls.length cl) := cell_of_block hblk 1
  have HBK : Hid (w.heap[wb]? = some (.cells #[sv, .slice al ls.length cl] 29 (0, 0))) := hblk
  have HROW : Hid (w.ownsRow B 51 2 (.slice al ls.length cl) ls.length (lsv ls)) := hrow
  have HG : Hid (∃ cur, w.heap[g]? = some (.cells cur 3 (0, 0))) := by obtain ⟨cur, h1, _⟩ := hg; exact ⟨cur, h1⟩
  have hgs : g < w.heap.size := by obtain ⟨cur, h1, _⟩ := hg; exact lt_of_block h1
  have hnc : n ≤ cap := by obtain ⟨cur, h1, h2, _⟩ := hg; exact h2
  have HR3 : Hid (∀ W, w.grownBy W (some g) → W.ownsRow B 51 2 (.slice al ls.length cl) ls.length (lsv ls) ∧ W.cell? ⟨wb, 1, none⟩ = some (.slice al ls.length cl)) := by
    intro W hW
    obtain ⟨cur, hcur, _⟩ := hg
    refine ⟨owns_kept hrow fun k hk => ?_, ?_⟩
    · obtain ⟨c, hc⟩ := owns_kind hrow hk
      exact hW.block k (lt_of_block hc) (by intro e; exact kind_ne hc hcur (by decide) (by simpa using e))
    · exact (World.cell?_of_block (a := ⟨wb, 1, none⟩) (hW.block wb (lt_of_block hblk) (by intro e; exact kind_ne hblk hcur (by decide) (by simpa using e)))).trans c1
  have M0 : Hid (∀ m, Mine b w g 0 cap m []) := by
    intro m
    obtain ⟨cur, h1, h2, h3, h4⟩ := hg
    exact ⟨⟨cur, h1, Nat.zero_le _, h3, h4, fun i hi => absurd hi (Nat.not_lt_zero _)⟩, hlo, by simp⟩
  clear hblk hrow hg
  go_enter Tryz.func56, Tryz.ntmps56
  go_wp2_with fail
  generalize (-1 - (ls.length : Int)) = m
  go_loopw [5] (fun x5 wr => ∃ i : Nat, i ≤ n ∧ x5 = .int .i64 i ∧ Hid (Mine b wr g i cap m []) ∧ Hid (w.grownBy wr (some g))) (fun x5 _ => n - (intOf x5).toNat)
  case atStart => exact ⟨0, Nat.zero_le _, rfl, M0.out _, grown_refl _ _⟩
  case round =>
    obtain ⟨i, hi, rfl, MR, GR⟩ := hrel
    by_cases hlt : i < n
    · obtain ⟨u, hu⟩ := MR.out.at' (j := i) (by omega)
      have hf := MR.out.fr i
      go_wp2_with fail
      exact ⟨⟨i + 1, hlt, by go_num, MR.out.put (by omega), grown_set GR.out⟩, by simp [intOf]; omega⟩
    · have hin : i = n := by omega
      subst hin
      have hsz := GR.out.size
      have M1 : Hid (Mine b (wr.alloc (.cells #[.int .i64 m] 3)) g i cap m []) := MR.out.below (below_alloc _ _)
      have Z1 : Hid (b ≤ (wr.alloc (.cells #[.int .i64 m] 3)).heap.size) := by show b ≤ (wr.alloc (.cells #[.int .i64 m] 3)).heap.size; simp; omega
      have F1 : Hid (ls.length + 4 ≤ maxLen) := by show ls.length + 4 ≤ maxLen; unfold maxLen; omega
      have F2 : Hid ((ls.length + 4) * 32 ≤ 140737488355328) := by show (ls.length + 4) * 32 ≤ 140737488355328; omega
      go_wp2_with (first
        | (at_builtin; (refine wpList_append_mark rfl _ _ 49 rfl i0 _ Tryz.underlying49 hi0 hz0 hz1 hz2 b g i cap m [] ?e1 M1.out ⟨wr.heap.size, 0, none⟩ 1 1 ?e2 (marks_new wr 1 m [.int .i64 m] rfl _) (by omega) Z1.out ?_); (case e1 => rfl); (case e2 => rfl); intro v1 w1 hm1 hg1; obtain ⟨a1, n1, k1, rfl⟩ := hm1.last; have M2 : Hid (Mine b (w1.alloc (.cells #[.int .i64 m, .int .i64 m] 3)) g i cap m [.slice a1 n1 k1]) := hm1.below (below_alloc _ _); have G1 : Hid (w.grownBy w1 (some g)) := grown_trans GR.out (grown_trans (grown_of_below (below_alloc _ _)) hg1); have hs1 := G1.out.size; have Z2 : Hid (b ≤ (w1.alloc (.cells #[.int .i64 m, .int .i64 m] 3)).heap.size) := (by show b ≤ (w1.alloc (.cells #[.int .i64 m, .int .i64 m] 3)).heap.size; simp; omega); clear hm1 hg1)
        | (at_builtin; (refine wpList_append_mark rfl _ _ 49 rfl i0 _ Tryz.underlying49 hi0 hz0 hz1 hz2 b g i cap m [.slice a1 n1 k1] ?e1 M2.out ⟨w1.heap.size, 0, none⟩ 2 2 ?e2 (marks_new w1 2 m [.int .i64 m, .int .i64 m] rfl _) (by omega) Z2.out ?_); (case e1 => rfl); (case e2 => rfl); intro v2 w2 hm2 hg2; obtain ⟨a2, n2, k2, rfl⟩ := hm2.last; have M3 : Hid (Mine b (w2.alloc (.cells #[.int .i64 m, .int .i64 m, .int .i64 m] 3)) g i cap m [.slice a1 n1 k1, .slice a2 n2 k2]) := hm2.below (below_alloc _ _); have G2 : Hid (w.grownBy w2 (some g)) := grown_trans G1.out (grown_trans (grown_of_below (below_alloc _ _)) hg2); have hs2 := G2.out.size; have Z3 : Hid (b ≤ (w2.alloc (.cells #[.int .i64 m, .int .i64 m, .int .i64 m] 3)).heap.size) := (by show b ≤ (w2.alloc (.cells #[.int .i64 m, .int .i64 m, .int .i64 m] 3)).heap.size; simp; omega); clear hm2 hg2)
        | (at_builtin; (refine wpList_append_mark rfl _ _ 49 rfl i0 _ Tryz.underlying49 hi0 hz0 hz1 hz2 b g i cap m [.slice a1 n1 k1, .slice a2 n2 k2] ?e1 M3.out ⟨w2.heap.size, 0, none⟩ 3 3 ?e2 (marks_new w2 3 m [.int .i64 m, .int .i64 m, .int .i64 m] rfl _) (by omega) Z3.out ?_); (case e1 => rfl); (case e2 => rfl); intro v3 w3 hm3 hg3; obtain ⟨a3, n3, k3, rfl⟩ := hm3.last; have M4 : Hid (Mine b w3 g i cap m [.slice a1 n1 k1, .slice a2 n2 k2, .slice a3 n3 k3]) := hm3; have G3 : Hid (w.grownBy w3 (some g)) := grown_trans G2.out (grown_trans (grown_of_below (below_alloc _ _)) hg3); have hs3 := G3.out.size; have c3 := (HR3.out w3 G3.out).2; have O3 : Hid ((w3.alloc (.cells #[.slice (some ⟨g, 0, none⟩) i cap, .int .i64 m, .slice a1 n1 k1, .int .i64 m, .slice a2 n2 k2, .int .i64 m, .slice a3 n3 k3, .int .i64 m] 51)).ownsRow B 51 2 (.slice al ls.length cl) ls.length (lsv ls)) := (HR3.out w3 G3.out).1.alloc _; have Z4 : Hid (B ≤ (w3.alloc (.cells #[.slice (some ⟨g, 0, none⟩) i cap, .int .i64 m, .slice a1 n1 k1, .int .i64 m, .slice a2 n2 k2, .int .i64 m, .slice a3 n3 k3, .int .i64 m] 51)).heap.size) := (by show B ≤ (w3.alloc (.cells #[.slice (some ⟨g, 0, none⟩) i cap, .int .i64 m, .slice a1 n1 k1, .int .i64 m, .slice a2 n2 k2, .int .i64 m, .slice a3 n3 k3, .int .i64 m] 51)).heap.size; simp; omega); clear hm3 hg3)
        | (at_builtin; go_must (refine wpList_append_own _ rfl _ _ 27 rfl B 51 i1 _ 2 32 Tryz.underlying27 hi1 hy0 hy1 hy2 rfl (Nat.succ_pos 1) (.slice al ls.length cl) ls.length (lsv ls) ?e1 O3.out ⟨w3.heap.size, 0, none⟩ 4 4 [.slice (some ⟨g, 0, none⟩) i cap, .int .i64 m, .slice a1 n1 k1, .int .i64 m, .slice a2 n2 k2, .int .i64 m, .slice a3 n3 k3, .int .i64 m] ?e2 rfl (new_cells w3 [.slice (some ⟨g, 0, none⟩) i cap, .int .i64 m, .slice a1 n1 k1, .int .i64 m, .slice a2 n2 k2, .int .i64 m, .slice a3 n3 k3, .int .i64 m] _) ?e3 F1.out F2.out Z4.out ?_); (case e1 => rfl); (case e2 => rfl); (case e3 => simp [Value.oneCell']); intro v' w4 hown hgrow _; have HE := own_end HBK.out HROW.out HG.out G3.out M4.out hn hown hgrow; have HF : Hid (Owned b B w (w4.setCell ⟨wb, 1, none⟩ v') wb g sv (.slice al ls.length cl) ls v' [(.slice (some ⟨g, 0, none⟩) i cap, m), (.slice a1 n1 k1, m), (.slice a2 n2 k2, m), (.slice a3 n3 k3, m)]) := HE.2.2; have m0 := HE.1; have mf := HE.2.1; obtain ⟨av, cv, rfl⟩ := owns_slice hown; clear HE hown hgrow))
      go_end0
      exact ⟨rfl, _, _, HF.out⟩
end Go.Proofs.YthoodkbdpnffdabGreatDoor

/-
  Own work: a diagram in memory and its links; what the calls that answer a diagram leave (contracts).
-/
namespace Go.Proofs.YthoodkbdpnffdabGreatDoor
open Go.RowKit
open Cho (U64 Tab full col Nd Red Dg DgOk)

theorem OrdV.kept {w w' : World} {g n cap : Nat} {ord : List Nat} (h : OrdV w g n cap ord) (hk : w'.heap[g]? = w.heap[g]?) : OrdV w' g n cap ord := by
  obtain ⟨h1, h2, h3, cur, h4⟩ := h
  exact ⟨h1, h2, fun i hi => (World.cell?_of_block (a := ⟨g, i, none⟩) hk).trans (h3 i hi), cur, hk.trans h4⟩
theorem OrdV.lt {w : World} {g n cap : Nat} {ord : List Nat} (h : OrdV w g n cap ord) : g < w.heap.size := by
  obtain ⟨_, _, _, cur, h4⟩ := h; exact lt_of_block h4
theorem row_kind {w : World} {B : Nat} {e : TypeId} {sz : Nat} {v : Value} {n : Nat} {xs : List Value} (h : w.ownsRow B e sz v n xs) {g : Nat} (hg : v.ownBlock = some g) : ∃ c, w.heap[g]? = some (.cells c e (0, 0)) := by
  obtain ⟨_, ⟨rfl, _⟩ | ⟨g', cap, cu, rfl, _, hg2, _⟩⟩ := h
  · simp [Value.ownBlock] at hg
  · obtain rfl : g' = g := by simpa [Value.ownBlock] using hg
    exact ⟨cu, hg2⟩
/-- It stays, where blocks of its kinds do. -/
theorem DgV.kept {w w' : World} {g n cap : Nat} {kv lw : Value} {d : Dg} (h : DgV w g n cap kv lw d) (hk : ∀ (k : Nat) (c : Array Value) (T : TypeId), w.heap[k]? = some (.cells c T (0, 0)) → T = 3 ∨ T = 153 ∨ T = 59 → w'.heap[k]? = w.heap[k]?) : DgV w' g n cap kv lw d := by
  refine ⟨?_, owns_kept h.row fun q hq => ?_, owns_kept h.lrow fun q hq => ?_⟩
  · obtain ⟨_, _, _, cur, hcur⟩ := h.ord
    exact h.ord.kept (hk _ _ _ hcur (.inl rfl))
  · obtain ⟨c, hc⟩ := row_kind h.row hq
    exact hk _ _ _ hc (.inr (.inl rfl))
  · obtain ⟨c, hc⟩ := row_kind h.lrow hq
    exact hk _ _ _ hc (.inr (.inr rfl))
theorem DgV.below {w w' : World} {g n cap : Nat} {kv lw : Value} {d : Dg} (h : DgV w g n cap kv lw d) (hb : Below w.heap.size w w') : DgV w' g n cap kv lw d := h.kept fun k _ _ hk _ => hb.block k (lt_of_block hk)
/-- The diagram whose fields lie in block s from off on, with the links that lie in block g from o on. -/
structure DgAt (n : Nat) (w : World) (s off g o : Nat) (d : Dg) : Prop where
  ex : ∃ go capo nv, w.cell? ⟨s, off, none⟩ = some (.slice (some ⟨go, 0, none⟩) d.ord.length capo) ∧ w.cell? ⟨s, off + 1, none⟩ = some nv ∧ OrdV w go d.ord.length capo d.ord ∧ w.ownsRow 0 153 3 nv d.ns.length (flat d.ns)
  links : ∀ i (hi : i < d.ls.length), w.cell? ⟨g, o + i, none⟩ = some (.int .i64 (d.ls[i] : Nat))
  cols : Cols w
  ok : DgOk n d
  few : d.ns.length ≤ 4000
  l30 : d.ls.length = 30
theorem DgAt.below {n : Nat} {w w' : World} {s off g o : Nat} {d : Dg} (h : DgAt n w s off g o d) (hb : Below w.heap.size w w') : DgAt n w' s off g o d := by
  obtain ⟨go, capo, nv, h1, h2, h3, h4⟩ := h.ex
  have kc : ∀ A v, w.cell? A = some v → w'.cell? A = some v := fun A v hv => (hb.cell (World.block_lt_of_cell? w _ hv)).trans hv
  exact ⟨⟨go, capo, nv, kc _ _ h1, kc _ _ h2, h3.kept (hb.block _ h3.lt), owns_kept h4 fun q hq => hb.block q (h4.lt q hq).2⟩, fun i hi => kc _ _ (h.links i hi), h.cols.below hb (cols_pos h.cols), h.ok, h.few, h.l30⟩
theorem DgAt.glt {n : Nat} {w : World} {s off g o : Nat} {d : Dg} (h : DgAt n w s off g o d) : g < w.heap.size := World.block_lt_of_cell? w _ (h.links 0 (by rw [h.l30]; omega))
theorem DgAt.slt {n : Nat} {w : World} {s off g o : Nat} {d : Dg} (h : DgAt n w s off g o d) : s < w.heap.size := by
  obtain ⟨go, capo, nv, h1, _⟩ := h.ex; exact World.block_lt_of_cell? w _ h1
/-- What a call answers that answers a diagram. -/
def Ans (w : World) (d : Dg) (e : Ending) (w' : World) : Prop := ∃ g cap ak ck al cl, e = .returned (.tuple #[.agg #[.slice (some ⟨g, 0, none⟩) d.ord.length cap, .slice ak d.ns.length ck], .slice (some ⟨al, 0, none⟩) d.ls.length cl]) ∧ DgV w' g d.ord.length cap (.slice ak d.ns.length ck) (.slice (some ⟨al, 0, none⟩) d.ls.length cl) d ∧ Below w.heap.size w w'

theorem keepD {n s off g o capl : Nat} {w : World} {d : Dg} (h : DgAt n w s off g o d) :
    Calls Tryz.prog 80 #[.pointer (some ⟨s, off, none⟩), .slice (some ⟨g, o, none⟩) d.ls.length capl] w (Ans w d.keep) := by
  obtain ⟨go, capo, nv, h1, h2, h3, h4⟩ := h.ex
  have hfew := h.few
  have hl30 := h.l30
  refine (keep_calls s off 0 go capo g o capl d.ord d.ns nv d.ls w h1 h2 h4 h.links h.glt h.ok.ls h.ok.red.wf (by omega) (by omega)).mono ?_
  rintro e w' ⟨kv, lw, rfl, hr, hl, hb⟩
  obtain ⟨ak, ck, rfl⟩ := owns_slice hr
  obtain ⟨al, cl, rfl, _, _⟩ := owns_form hl (by omega)
  have el : d.keep.ls.length = d.ls.length := by simp [Dg.keep]
  refine ⟨go, capo, ak, ck, al, cl, ?_, ⟨h3.kept (hb.block _ h3.lt), ?_, ?_⟩, hb⟩
  · rw [el]; rfl
  · exact owns_low hr (Nat.zero_le _)
  · rw [el]; exact owns_low hl (Nat.zero_le _)
theorem moveD {n s off g o capl f t : Nat} {w : World} {d : Dg} (h : DgAt n w s off g o d) (hf : f < n) (ht : t < n) :
    Calls Tryz.prog 101 #[.pointer (some ⟨s, off, none⟩), .int .i64 f, .int .i64 t, .slice (some ⟨g, o, none⟩) d.ls.length capl] w (Ans w (d.move f t)) := by
  obtain ⟨go, capo, nv, h1, h2, h3, h4⟩ := h.ex
  have hl30 := h.l30
  have hn6 : d.ord.length ≤ 6 := by rw [h.ok.o.len]; exact h.ok.o.n6
  have hv6 : ∀ x ∈ d.ns, x.1 < 6 := fun x hx => h.ok.o.v6 _ (h.ok.red.var x hx)
  refine (move_calls s off 0 go capo g o capl f t d.ord d.ns nv d.ls w h1 h2 h4 h3.2.2.1 h.cols h.links h.ok.ls h.ok.red.wf hv6 h.few (by omega) hn6 h.ok.o.v6 (by rw [h.ok.o.len]; exact hf) (by rw [h.ok.o.len]; exact ht)).mono ?_
  rintro e w' ⟨g', cap', kv, lw, rfl, hd, hb⟩
  have el : (d.move f t).ls.length = d.ls.length := (Cho.move_same h.ok hf ht).len
  have eo : (d.move f t).ord.length = d.ord.length := Cho.mv_len d.ord f t
  obtain ⟨ak, ck, rfl⟩ := owns_slice hd.row
  obtain ⟨al, cl, rfl, _, _⟩ := owns_form hd.lrow (by show 0 < (d.move f t).ls.length; omega)
  refine ⟨g', cap', ak, ck, al, cl, ?_, ?_, hb⟩
  · rw [eo]
  · rw [eo]; exact hd

/-- Behind a statement that keeps such an answer in a new variable, whatever its order. -/
structure Kq (W V : World) (q g n cap : Nat) (kv lw : Value) (d : Dg) : Prop where
  dia : V.heap[q]? = some (.cells #[.slice (some ⟨g, 0, none⟩) n cap, kv] 54 (0, 0))
  lo : W.heap.size ≤ q
  dg : DgV V g n cap kv lw d
  bel : Below W.heap.size W V
theorem kq_a {W w' : World} {g n cap : Nat} {kv lw : Value} {d : Dg} (hd : DgV w' g n cap kv lw d) (hb : Below W.drew.heap.size W.drew w') :
    Kq W (w'.alloc (.cells #[.slice (some ⟨g, 0, none⟩) n cap, kv] 54)) w'.heap.size g n cap kv lw d := by
  have hs := hb.size
  exact ⟨heap_res _ _, hs, hd.below ((Below.refl _ _).alloc (Nat.le_refl _) _), ((Below.refl _ W).drew.trans hb).alloc hs _⟩
theorem kq_at {W w' : World} (hb : Below (W.alloc (.cells #[.slice none 0 0, .slice none 0 0] 54)).drew.heap.size (W.alloc (.cells #[.slice none 0 0, .slice none 0 0] 54)).drew w') : w'.heap[W.heap.size]? = some (.cells #[.slice none 0 0, .slice none 0 0] 54 (0, 0)) :=
  (hb.block _ (by simp)).trans (heap_res _ _)
theorem kq_b {W w' : World} {g n cap : Nat} {kv lw : Value} {d : Dg} (hd : DgV w' g n cap kv lw d) (hb : Below (W.alloc (.cells #[.slice none 0 0, .slice none 0 0] 54)).drew.heap.size (W.alloc (.cells #[.slice none 0 0, .slice none 0 0] 54)).drew w') :
    Kq W ((w'.setCell ⟨W.heap.size, 0, none⟩ (.slice (some ⟨g, 0, none⟩) n cap)).setCell ⟨W.heap.size, 1, none⟩ kv) W.heap.size g n cap kv lw d := by
  have hq := kq_at hb
  have e : (W.alloc (.cells #[.slice none 0 0, .slice none 0 0] 54)).drew.heap.size = W.heap.size + 1 := by simp
  rw [e] at hb
  refine ⟨two_set hq, Nat.le_refl _, hd.kept fun k c T hk hT => ?_, ?_⟩
  · have hne : k ≠ W.heap.size := by
      rintro rfl
      rw [hq] at hk
      simp at hk
      rcases hT with rfl | rfl | rfl <;> simp at hk
    rw [block_set_other hne, block_set_other hne]
  · exact ((((Below.refl _ W).alloc (Nat.le_refl _) _).drew.trans (hb.mono (by omega))).setCell (Nat.le_refl _) _).setCell (Nat.le_refl _) _
end Go.Proofs.YthoodkbdpnffdabGreatDoor
