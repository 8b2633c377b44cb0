/-
  Own work: 'Keep' leaves the nodes that are called for, as the plain function does (a walk).
-/
import Derived.Test.YthoodkbdpnffdabDoorPlainI
import Derived.Test.YthoodkbdpnffdabDoorWithW
namespace Go.Proofs.YthoodkbdpnffdabDoor
open Go.RowKit
open Cho (U64 Tab full col Nd)

theorem Tryd.infoLink : (Tryd.prog.info? 46).map (fun i => (i.zero, i.size, i.bytes)) = some (some (.int .i64 0), 1, 8) := by kernel_rfl
theorem made_links (n : Nat) : madeCells #[Value.int .i64 0] n = (lv (List.replicate n 0)).toArray := by
  unfold madeCells lv
  apply Array.ext
  · simp
  · intro i h1 h2
    simp [Nat.mod_one]

/-- While Keep goes over the nodes: its result's block, the marks, the kept diagram, where links have moved to. -/
structure Keeping (w wr : World) (d : Nat) (n : Nat) (ov kv : Value) (R : List Bool) (mv : List Nat) (ks : List Nd) : Prop where
  res : wr.heap[w.heap.size]? = some (.cells #[.slice none 0 0, .slice none 0 0] 51 (0, 0))
  marks : wr.heap[w.heap.size + 1]? = some (.cells (bc R).toArray 4 (0, 0))
  dia : wr.heap[d]? = some (.cells #[ov, kv] 51 (0, 0))
  mov : wr.heap[d + 1]? = some (.cells (lv mv).toArray 46 (0, 0))
  row : wr.ownsRow (d + 2) 78 3 kv ks.length (flat ks)
  lo : w.heap.size + 2 ≤ d
  rlen : R.length = n + 2
  mlen : mv.length = n + 2
  bel : Below w.heap.size w wr

theorem Keeping.size {w wr : World} {d n : Nat} {ov kv : Value} {R : List Bool} {mv : List Nat} {ks : List Nd} (h : Keeping w wr d n ov kv R mv ks) : d + 1 < wr.heap.size := lt_of_block h.mov
/-- New blocks turn nothing of it. -/
theorem Keeping.alloc {w wr : World} {d n : Nat} {ov kv : Value} {R : List Bool} {mv : List Nat} {ks : List Nd} (h : Keeping w wr d n ov kv R mv ks) (o : Obj) : Keeping w (wr.alloc o) d n ov kv R mv ks := by
  have hs := h.size
  have hlo := h.lo
  exact ⟨(Below.heap_alloc _ _ _ (by omega)).trans h.res, (Below.heap_alloc _ _ _ (by omega)).trans h.marks, (Below.heap_alloc _ _ _ (by omega)).trans h.dia, (Below.heap_alloc _ _ _ (by omega)).trans h.mov, h.row.alloc o, h.lo, h.rlen, h.mlen, h.bel.alloc (by omega) o⟩
theorem lv_get (l : List Nat) (i : Nat) (h : i < l.length) : (lv l)[i]? = some (.int .i64 (l.getD i 0 : Nat)) := by simp [lv, List.getD, h]
theorem Keeping.mark {w wr : World} {d n : Nat} {ov kv : Value} {R : List Bool} {mv : List Nat} {ks : List Nd} (h : Keeping w wr d n ov kv R mv ks) (i : Nat) (hi : i < n + 2) : wr.cell? ⟨w.heap.size + 1, i, none⟩ = some (.bool (R.getD i false)) := by
  rw [cell_of_block h.marks, List.getElem?_toArray, bc_get _ _ (by rw [h.rlen]; exact hi)]
theorem Keeping.moved {w wr : World} {d n : Nat} {ov kv : Value} {R : List Bool} {mv : List Nat} {ks : List Nd} (h : Keeping w wr d n ov kv R mv ks) (i : Nat) (hi : i < n + 2) : wr.cell? ⟨d + 1, i, none⟩ = some (.int .i64 (mv.getD i 0 : Nat)) := by
  rw [cell_of_block h.mov, List.getElem?_toArray, lv_get _ _ (by rw [h.mlen]; exact hi)]
/-- A link moves. -/
theorem Keeping.set {w wr : World} {d n : Nat} {ov kv : Value} {R : List Bool} {mv : List Nat} {ks : List Nd} (h : Keeping w wr d n ov kv R mv ks) (i x : Nat) : Keeping w (wr.setCell ⟨d + 1, i, none⟩ (.int .i64 x)) d n ov kv R (mv.set i x) ks := by
  have hlo := h.lo
  refine ⟨(block_set_other (by simp; omega)).trans h.res, (block_set_other (by simp; omega)).trans h.marks, (block_set_other (by simp)).trans h.dia, ?_, ?_, h.lo, h.rlen, by simp [h.mlen], h.bel.setCell (by simp; omega) _⟩
  · rw [block_set h.mov, lv_set]
  · exact owns_kept h.row fun g hg => block_set_other (by have := (h.row.lt g hg).1; simp; omega)
/-- A node is added behind. -/
theorem Keeping.add {w wr w1 : World} {d n : Nat} {ov kv kv' : Value} {R : List Bool} {mv : List Nat} {ks : List Nd} {q : Nd} {o : Obj} (h : Keeping w wr d n ov kv R mv ks)
    (hr : w1.ownsRow (d + 2) 78 3 kv' (ks.length + 1) (flat ks ++ nodeCells q)) (hg : (wr.alloc o).drew.grownBy w1 kv.ownBlock) : Keeping w (w1.setCell ⟨d, 1, none⟩ kv') d n ov kv' R mv (ks ++ [q]) := by
  have hlo := h.lo
  have hs := h.size
  have hlt := h.row.lt
  have nb : ∀ b, b < d + 2 → some b ≠ kv.ownBlock := fun b hb e => by have := (hlt b e.symm).1; omega
  have kp : ∀ b o', b < d + 2 → wr.heap[b]? = some o' → w1.heap[b]? = some o' := fun b o' hb ho =>
    (hg.block b (by have := lt_of_block ho; simp; omega) (nb b hb)).trans ((Below.heap_alloc _ _ _ (lt_of_block ho)).trans ho)
  refine ⟨(block_set_other (by simp; omega)).trans (kp _ _ (by omega) h.res), (block_set_other (by simp; omega)).trans (kp _ _ (by omega) h.marks), block_set1 (kp _ _ (by omega) h.dia), (block_set_other (by simp)).trans (kp _ _ (by omega) h.mov), ?_, h.lo, h.rlen, h.mlen, ?_⟩
  · have e : flat ks ++ nodeCells q = flat (ks ++ [q]) := (flat_snoc ks q).symm
    rw [e] at hr
    simp only [List.length_append, List.length_cons, List.length_nil]
    exact owns_kept hr fun g hgb => block_set_other (by have := (hr.lt g hgb).1; simp; omega)
  · exact ((h.bel.alloc (by omega) o).drew.grown hg (by simp; omega) (fun k hk => by have := (hlt k hk).1; omega)).setCell (by simp; omega) _
theorem Keeping.mid {w wr w1 : World} {d n : Nat} {ov kv : Value} {R : List Bool} {mv : List Nat} {ks : List Nd} {o : Obj} (h : Keeping w wr d n ov kv R mv ks) (hg : (wr.alloc o).drew.grownBy w1 kv.ownBlock) : w1.heap[d]? = some (.cells #[ov, kv] 51 (0, 0)) := by
  have hs := h.size
  exact (hg.block d (by simp; omega) (fun e => by have := (h.row.lt d e.symm).1; omega)).trans ((Below.heap_alloc _ _ _ (by omega)).trans h.dia)

theorem keeping0 {w w1 : World} {ov : Value} {R : List Bool} {ns : List Nd} (hm : Marks (w.alloc (.cells #[.slice none 0 0, .slice none 0 0] 51)) w1 R ns.length) :
    Keeping w ((w1.alloc (.cells #[ov, .slice none 0 0] 51)).alloc (.cells ((madeCells #[Value.int .i64 0] (ns.length + 2)).setIfInBounds 1 (.int .i64 1)) 46)) w1.heap.size ns.length ov (.slice none 0 0) R (Cho.keepTo ns R 0).1 (Cho.keepTo ns R 0).2 := by
  have hlen1 : (w.alloc (.cells #[.slice none 0 0, .slice none 0 0] 51)).heap.size = w.heap.size + 1 := by simp
  have hsz := lt_of_block hm.at'
  rw [hlen1] at hsz
  refine ⟨?_, ?_, ?_, ?_, ?_, by omega, hm.len, Cho.keepTo_len _ _ _, ?_⟩
  · rw [Below.heap_alloc _ _ _ (by simp; omega), Below.heap_alloc _ _ _ (by omega), hm.bel.block _ (by rw [hlen1]; omega)]
    exact heap_res _ _
  · rw [Below.heap_alloc _ _ _ (by simp; omega), Below.heap_alloc _ _ _ (by omega), ← hlen1]
    exact hm.at'
  · rw [Below.heap_alloc _ _ _ (by simp)]
    exact heap_res _ _
  · rw [show w1.heap.size + 1 = (w1.alloc (.cells #[ov, .slice none 0 0] 51)).heap.size from by simp, heap_res]
    rw [made_links]
    simp only [Cho.keepTo]
    rw [← lv_set]
    simp
  · exact World.ownsRow_nil _ _ _ _
  · exact ((((Below.refl _ w).alloc (Nat.le_refl _) _).trans (hm.bel.mono (by rw [hlen1]; omega))).alloc (by omega) _).alloc (by simp; omega) _

theorem owns_low {w : World} {B B' : Nat} {e : TypeId} {sz : Nat} {v : Value} {n : Nat} {xs : List Value} (h : w.ownsRow B e sz v n xs) (hb : B' ≤ B) : w.ownsRow B' e sz v n xs := by
  obtain ⟨hlen, h | ⟨g, cap, cur, rfl, h1, h2⟩⟩ := h
  · exact ⟨hlen, .inl h⟩
  · exact ⟨hlen, .inr ⟨g, cap, cur, rfl, by omega, h2⟩⟩
theorem owns_far {w : World} {B : Nat} {e : TypeId} {sz : Nat} {v x : Value} {n q i : Nat} {xs : List Value} (h : w.ownsRow B e sz v n xs) (hq : q < B) : (w.setCell ⟨q, i, none⟩ x).ownsRow B e sz v n xs :=
  owns_kept h fun g hg => block_set_other (by have := (h.lt g hg).1; simp; omega)
theorem owns_below {w w' : World} {B C : Nat} {e : TypeId} {sz : Nat} {v : Value} {n : Nat} {xs : List Value} (h : w.ownsRow B e sz v n xs) (hb : Below C w w') (hc : C = w.heap.size) : w'.ownsRow B e sz v n xs :=
  owns_kept h fun g hg => hb.block g (by have := (h.lt g hg).2; omega)
theorem own_link (W : World) : (W.alloc (.cells #[] 46)).ownsRow W.heap.size 46 1 (.slice (some ⟨W.heap.size, 0, none⟩) 0 0) 0 [] :=
  World.ownsRow_made W #[] 0 (Nat.le_refl _) (by simp) rfl
theorem lv_snoc (l : List Nat) (x : Nat) : lv l ++ [.int .i64 (x : Int)] = lv (l ++ [x]) := by simp [lv]

theorem set_far {w : World} {s j q i : Nat} {x y : Value} (hq : s ≠ q) (h : w.cell? ⟨s, j, none⟩ = some x) : (w.setCell ⟨q, i, none⟩ y).cell? ⟨s, j, none⟩ = some x :=
  (World.cell?_of_block (block_set_other hq)).trans h
theorem grown_far {W w4 : World} {o : Obj} {s j : Nat} {x v : Value} (hg : (W.alloc o).drew.grownBy w4 v.ownBlock) (hne : v.ownBlock ≠ some s) (h : W.cell? ⟨s, j, none⟩ = some x) : w4.cell? ⟨s, j, none⟩ = some x := by
  have hs := World.block_lt_of_cell? W _ h
  simp only at hs
  exact (World.cell?_of_block (a := ⟨s, j, none⟩) (hg.block s (by simp; omega) (fun e => hne e.symm))).trans ((cell_alloc_old hs o j).trans h)

end Go.Proofs.YthoodkbdpnffdabDoor
