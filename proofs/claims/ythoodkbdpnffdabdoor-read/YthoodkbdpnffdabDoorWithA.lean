/-
  Own work: laws for the statement of 'With' that copies the nodes, whatever its order.
-/
import Derived.Test.YthoodkbdpnffdabDoorBuildW
import Derived.Laws.AppendOwnNone
namespace Go.Proofs.YthoodkbdpnffdabDoor
open Go.RowKit
open Cho (U64 Tab full col Nd)

/-- 'append' of a row that is owned (nil too) onto a row that is owned, as one step of a region that draws its order. -/
theorem step_append_row {P : Program} {ops : Array Oper} {o : Oper} {a : Act} {w : World} {K : Act → World → Prop} {Q : Exit → Act → World → Prop} {E : Prop}
    (hg : o.guard = none) (s x : Operand) (t : TypeId) (hop : o.op = Op.call { callee := Callee.builtin Builtin.append, args := #[s, x], argTypes := #[t, t] })
    (base : Nat) (e : TypeId) (i : TypeInfo) (z : Value) (size bytes : Nat) (ht : P.underlying t = some (.slice e)) (hi : P.info? e = some i) (hz : i.zero = some z)
    (hsize : i.size = size) (hby : i.bytes = bytes) (hzs : z.cells.size = size) (hsz : 0 < size)
    (v : Value) (n : Nat) (xs : List Value) (hs : a.eval s = v) (hown : w.ownsRow base e size v n xs)
    (B' : Nat) (u : Value) (m : Nat) (news : List Value) (hx : a.eval x = u) (hu : w.ownsRow B' e size u m news) (h1 : ∀ u ∈ news, u.oneCell' = true)
    (h63 : n + m ≤ maxLen) (hbytes : (n + m) * bytes ≤ 140737488355328) (hbase : base ≤ w.heap.size)
    (hK : ∀ v' w', w'.ownsRow base e size v' (n + m) (xs ++ news) → w.grownBy w' v.ownBlock → K (a.put o.dst v') w') :
    if Region.wanted o (yielded ops a.tmps) = true then Oper.wp P o a w K Q else E := by
  have hw : Region.wanted o (yielded ops a.tmps) = true := by simp [Region.wanted, hg]
  rw [if_pos hw]
  have hc := fun g => hu.cells (g := g)
  obtain ⟨hl, ⟨rfl, rfl⟩ | ⟨g, cap, cur, rfl, _⟩⟩ := hu
  · obtain rfl : news = [] := List.eq_nil_of_length_eq_zero (by simpa using hl)
    have hrun := run_append_owned_none (P := P) (w := w) base t o.type e i size ht hi v n xs hown
    unfold Oper.wp
    simp [execOp, hop, resolve, invoke, builtin, hs, hx, hrun, Result.andThen]
    exact hK v w (by simpa using hown) ⟨rfl, rfl, rfl, Nat.le_refl _, fun _ _ _ => rfl⟩
  · exact wp_append_own w s x t hop base e i z size bytes ht hi hz hsize hby hzs hsz v n xs hs hown ⟨g, 0, none⟩ m cap news hx hl (hc g rfl) h1 h63 hbytes hbase fun v' w' h2 h3 _ => hK v' w' h2 h3

theorem flat_one (ns : List Nd) : ∀ u ∈ flat ns, u.oneCell' = true := by
  intro u hu
  simp only [flat, List.mem_flatMap] at hu
  obtain ⟨n, _, hn⟩ := hu
  simp only [nodeCells, List.mem_cons, List.not_mem_nil, or_false] at hn
  rcases hn with rfl | rfl | rfl <;> rfl

theorem own_empty {B k : Nat} (W : World) (h : B ≤ k) (hk : W.heap.size = k) : (W.alloc (.cells #[] 78)).ownsRow B 78 3 (.slice (some ⟨k, 0, none⟩) 0 0) 0 [] := by
  subst hk; exact World.ownsRow_made W #[] 0 h (by simp) rfl
theorem own_at1 (w : World) (o : Obj) : ((w.alloc o).alloc (.cells #[] 78)).ownsRow (w.heap.size + 1) 78 3 (.slice (some ⟨w.heap.size + 1, 0, none⟩) 0 0) 0 [] :=
  own_empty _ (by omega) (by simp)
theorem own_at2 (w : World) (o o' : Obj) : (((w.alloc o).alloc o').alloc (.cells #[] 78)).ownsRow (w.heap.size + 1) 78 3 (.slice (some ⟨w.heap.size + 1 + 1, 0, none⟩) 0 0) 0 [] :=
  own_empty _ (by omega) (by simp)
theorem owns_slice {w : World} {B : Nat} {e : TypeId} {sz : Nat} {v : Value} {n : Nat} {xs : List Value} (h : w.ownsRow B e sz v n xs) : ∃ ao cap, v = .slice ao n cap := by
  obtain ⟨hl, ⟨rfl, rfl⟩ | ⟨g, cap, cur, rfl, h1, h2, h3⟩⟩ := h
  · exact ⟨none, 0, rfl⟩
  · exact ⟨_, cap, rfl⟩
theorem with_lt2 {w w1 : World} {a b : Obj} {r : Option Nat} (hg : ((w.alloc a).alloc b).drew.grownBy w1 r) : w.heap.size + 2 ≤ w1.heap.size := by
  have := hg.size; simp at this; omega
theorem with_lt3 {w w1 : World} {a b c : Obj} {r : Option Nat} (hg : (((w.alloc a).alloc b).alloc c).drew.grownBy w1 r) : w.heap.size + 3 ≤ w1.heap.size := by
  have := hg.size; simp at this; omega
theorem le_al2 (w : World) (a b : Obj) : w.heap.size + 1 ≤ ((w.alloc a).alloc b).drew.heap.size := by simp
theorem le_al3 (w : World) (a b c : Obj) : w.heap.size + 1 ≤ (((w.alloc a).alloc b).alloc c).drew.heap.size := by simp <;> omega
theorem with_keep2 {w w1 : World} {a b : Obj} {s k n c j : Nat} {x : Value} (hg : ((w.alloc a).alloc b).drew.grownBy w1 (Value.slice (some ⟨k, 0, none⟩) n c).ownBlock) (hk : w.heap.size < k) (h : w.cell? ⟨s, j, none⟩ = some x) : w1.cell? ⟨s, j, none⟩ = some x := by
  have hs := World.block_lt_of_cell? w _ h
  simp at hs
  have e : w1.cell? ⟨s, j, none⟩ = ((w.alloc a).alloc b).cell? ⟨s, j, none⟩ := World.cell?_of_block (hg.block s (by simp; omega) (by simp [Value.ownBlock]; omega))
  rw [e, cell_alloc_old (by simp; omega), cell_alloc_old hs, h]
theorem with_keep3 {w w1 : World} {a b d : Obj} {s k n c j : Nat} {x : Value} (hg : (((w.alloc a).alloc b).alloc d).drew.grownBy w1 (Value.slice (some ⟨k, 0, none⟩) n c).ownBlock) (hk : w.heap.size < k) (h : w.cell? ⟨s, j, none⟩ = some x) : w1.cell? ⟨s, j, none⟩ = some x := by
  have hs := World.block_lt_of_cell? w _ h
  simp at hs
  have e : w1.cell? ⟨s, j, none⟩ = (((w.alloc a).alloc b).alloc d).cell? ⟨s, j, none⟩ := World.cell?_of_block (hg.block s (by simp; omega) (by simp [Value.ownBlock]; omega))
  rw [e, cell_alloc_old (by simp; omega), cell_alloc_old (by simp; omega), cell_alloc_old hs, h]
theorem with_al {w : World} {a : Obj} {s j : Nat} {x : Value} (h : w.cell? ⟨s, j, none⟩ = some x) : (w.alloc a).cell? ⟨s, j, none⟩ = some x := by
  have hs := World.block_lt_of_cell? w _ h
  simp at hs
  rw [cell_alloc_old hs, h]
theorem with_dr {w : World} {s j : Nat} {x : Value} (h : w.cell? ⟨s, j, none⟩ = some x) : w.drew.cell? ⟨s, j, none⟩ = some x := h
theorem with_top {w w1 : World} {a b o : Obj} {n c : Nat} (hg : (((w.alloc a).alloc b).alloc o).drew.grownBy w1 (Value.slice (some ⟨w.heap.size + 1, 0, none⟩) n c).ownBlock) : w1.heap[w.heap.size + 1 + 1]? = some o := by
  have h := hg.block (w.heap.size + 1 + 1) (by simp) (by simp [Value.ownBlock])
  rw [h]
  show (((w.heap.push a).push b).push o)[w.heap.size + 1 + 1]? = some o
  rw [show w.heap.size + 1 + 1 = ((w.heap.push a).push b).size from by simp, Array.getElem?_push_size]
theorem with_mid {w w1 : World} {a b o : Obj} {n c : Nat} (hg : (((w.alloc a).alloc o).alloc b).drew.grownBy w1 (Value.slice (some ⟨w.heap.size + 1 + 1, 0, none⟩) n c).ownBlock) : w1.heap[w.heap.size + 1]? = some o := by
  have h := hg.block (w.heap.size + 1) (by simp) (by simp [Value.ownBlock])
  rw [h]
  show (((w.heap.push a).push o).push b)[w.heap.size + 1]? = some o
  rw [Array.getElem?_push, if_neg (by simp), show w.heap.size + 1 = (w.heap.push a).size from by simp, Array.getElem?_push_size]
theorem with_set {w : World} {s j q i : Nat} {x y : Value} (hq : s < q) (h : w.cell? ⟨s, j, none⟩ = some x) : (w.setCell ⟨q, i, none⟩ y).cell? ⟨s, j, none⟩ = some x :=
  (World.cell?_of_block (block_set_other (by simp; omega))).trans h
/-- What holds behind the statement that makes the copy, whatever its order. -/
structure Copied (w W : World) (q : Nat) (ov nv : Value) (ns : List Nd) : Prop where
  at' : W.heap[q]? = some (.cells #[ov, nv] 51 (0, 0))
  lo : w.heap.size + 1 ≤ q
  res : W.heap[w.heap.size]? = some (.cells #[.slice none 0 0, .slice none 0 0] 51 (0, 0))
  row : W.ownsRow (w.heap.size + 1) 78 3 nv ns.length (flat ns)
  bel : Below w.heap.size w W
theorem heap_res (w : World) (o : Obj) : (w.alloc o).heap[w.heap.size]? = some o := by
  show (w.heap.push o)[w.heap.size]? = some o
  exact Array.getElem?_push_size
theorem two_set {w : World} {b : Nat} {x y x' y' : Value} {T : TypeId} (h : w.heap[b]? = some (.cells #[x, y] T (0, 0))) : ((w.setCell ⟨b, 0, none⟩ x').setCell ⟨b, 1, none⟩ y').heap[b]? = some (.cells #[x', y'] T (0, 0)) := by
  simp only [World.setCell, Array.getElem?_modify, h]; simp
theorem copied2 {w w1 : World} {ov nv : Value} {ns : List Nd} {n c : Nat}
    (hg : ((w.alloc (.cells #[.slice none 0 0, .slice none 0 0] 51)).alloc (.cells #[] 78)).drew.grownBy w1 (Value.slice (some ⟨w.heap.size + 1, 0, none⟩) n c).ownBlock)
    (ho : w1.ownsRow (w.heap.size + 1) 78 3 nv (0 + ns.length) ([] ++ flat ns)) :
    Copied w (w1.alloc (.cells #[ov, nv] 51)) w1.heap.size ov nv ns := by
  have hs := with_lt2 hg
  refine ⟨heap_res _ _, by omega, ?_, ?_, ?_⟩
  · rw [Below.heap_alloc _ _ _ (by omega), hg.block _ (by simp; omega) (by simp [Value.ownBlock])]
    exact (Below.heap_alloc _ _ _ (by simp)).trans (heap_res _ _)
  · simpa using ho.alloc _
  · exact ((((Below.refl _ w).alloc (Nat.le_refl _) _).alloc (by simp) _).drew.grown hg (by simp; omega) (fun k hk => by simp [Value.ownBlock] at hk; omega)).alloc (by omega) _
theorem copied3a {w w1 : World} {ov nv : Value} {ns : List Nd} {n c : Nat}
    (hg : (((w.alloc (.cells #[.slice none 0 0, .slice none 0 0] 51)).alloc (.cells #[] 78)).alloc (.cells #[.slice none 0 0, .slice none 0 0] 51)).drew.grownBy w1 (Value.slice (some ⟨w.heap.size + 1, 0, none⟩) n c).ownBlock)
    (ho : w1.ownsRow (w.heap.size + 1) 78 3 nv (0 + ns.length) ([] ++ flat ns)) :
    Copied w ((w1.setCell ⟨w.heap.size + 1 + 1, 0, none⟩ ov).setCell ⟨w.heap.size + 1 + 1, 1, none⟩ nv) (w.heap.size + 1 + 1) ov nv ns := by
  have hq := with_top hg
  refine ⟨two_set hq, by omega, ?_, ?_, ?_⟩
  · rw [block_set_other (by simp; omega), block_set_other (by simp; omega), hg.block _ (by simp; omega) (by simp [Value.ownBlock])]
    exact (Below.heap_alloc _ _ _ (by simp; omega)).trans ((Below.heap_alloc _ _ _ (by simp)).trans (heap_res _ _))
  · have ho' : w1.ownsRow (w.heap.size + 1) 78 3 nv ns.length (flat ns) := by simpa using ho
    refine owns_kept ho' fun g hgb => ?_
    have hne : g ≠ w.heap.size + 1 + 1 := by
      rintro rfl
      obtain ⟨_, ⟨rfl, _⟩ | ⟨g', cap, cur, rfl, _, h2, _⟩⟩ := ho'
      · simp [Value.ownBlock] at hgb
      · obtain rfl : g' = w.heap.size + 1 + 1 := by simpa [Value.ownBlock] using hgb
        rw [hq] at h2; simp at h2
    rw [block_set_other (by simpa using hne), block_set_other (by simpa using hne)]
  · exact ((((((Below.refl _ w).alloc (Nat.le_refl _) _).alloc (by simp) _).alloc (by simp; omega) _).drew.grown hg (by simp; omega) (fun k hk => by simp [Value.ownBlock] at hk; omega)).setCell (by simp; omega) _).setCell (by simp; omega) _
theorem copied3b {w w1 : World} {ov nv : Value} {ns : List Nd} {n c : Nat}
    (hg : (((w.alloc (.cells #[.slice none 0 0, .slice none 0 0] 51)).alloc (.cells #[.slice none 0 0, .slice none 0 0] 51)).alloc (.cells #[] 78)).drew.grownBy w1 (Value.slice (some ⟨w.heap.size + 1 + 1, 0, none⟩) n c).ownBlock)
    (ho : w1.ownsRow (w.heap.size + 1) 78 3 nv (0 + ns.length) ([] ++ flat ns)) :
    Copied w ((w1.setCell ⟨w.heap.size + 1, 0, none⟩ ov).setCell ⟨w.heap.size + 1, 1, none⟩ nv) (w.heap.size + 1) ov nv ns := by
  have hq := with_mid hg
  refine ⟨two_set hq, by omega, ?_, ?_, ?_⟩
  · rw [block_set_other (by simp), block_set_other (by simp), hg.block _ (by simp; omega) (by simp [Value.ownBlock]; omega)]
    exact (Below.heap_alloc _ _ _ (by simp; omega)).trans ((Below.heap_alloc _ _ _ (by simp)).trans (heap_res _ _))
  · have ho' : w1.ownsRow (w.heap.size + 1) 78 3 nv ns.length (flat ns) := by simpa using ho
    refine owns_kept ho' fun g hgb => ?_
    have hne : g ≠ w.heap.size + 1 := by
      rintro rfl
      obtain ⟨_, ⟨rfl, _⟩ | ⟨g', cap, cur, rfl, _, h2, _⟩⟩ := ho'
      · simp [Value.ownBlock] at hgb
      · obtain rfl : g' = w.heap.size + 1 := by simpa [Value.ownBlock] using hgb
        rw [hq] at h2; simp at h2
    rw [block_set_other (by simpa using hne), block_set_other (by simpa using hne)]
  · exact ((((((Below.refl _ w).alloc (Nat.le_refl _) _).alloc (by simp) _).alloc (by simp; omega) _).drew.grown hg (by simp; omega) (fun k hk => by simp [Value.ownBlock] at hk; omega)).setCell (by simp) _).setCell (by simp) _
theorem with_far {w w1 : World} {W : World} {s k n c j : Nat} (hg : W.grownBy w1 (Value.slice (some ⟨k, 0, none⟩) n c).ownBlock) (hs : s < w.heap.size) (hk : w.heap.size ≤ k := by simp <;> omega) (hW : w.heap.size ≤ W.heap.size := by simp <;> omega) :
    w1.cell? ⟨s, j, none⟩ = W.cell? ⟨s, j, none⟩ :=
  World.cell?_of_block (hg.block s (by omega) (by simp [Value.ownBlock]; omega))

end Go.Proofs.YthoodkbdpnffdabDoor
