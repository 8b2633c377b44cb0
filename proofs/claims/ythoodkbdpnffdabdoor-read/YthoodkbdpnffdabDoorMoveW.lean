/-
  Own work: a store's order, as a list of its own; an order with one variable moved (walks).
-/
import Derived.Test.YthoodkbdpnffdabDoorNewW
import Derived.Test.YthoodkbdpnffdabDoorKeepA
import Derived.Test.YthoodkbdpnffdabDoorPlainQ
import Derived.Test.YthoodkbdpnffdabDoorStoreM
namespace Go.Proofs.YthoodkbdpnffdabDoor
open Go.RowKit
open Cho (U64 Tab full col Nd Red)

/-- A row of numbers that was made since the world w. -/
structure OwnI (w wr : World) (g n cap : Nat) (l : List Nat) : Prop where
  bel : Below w.heap.size w wr
  row : wr.ownsRow w.heap.size 3 1 (.slice (some ⟨g, 0, none⟩) n cap) l.length (lv l)
theorem owns_put {w : World} {B : Nat} {e : TypeId} {g n cap i : Nat} {xs : List Value} (h : w.ownsRow B e 1 (.slice (some ⟨g, 0, none⟩) n cap) n xs) (u : Value) : (w.setCell ⟨g, i, none⟩ u).ownsRow B e 1 (.slice (some ⟨g, 0, none⟩) n cap) n (xs.set i u) := by
  obtain ⟨h1, h2⟩ := h
  refine ⟨by simpa using h1, ?_⟩
  rcases h2 with ⟨h2, _⟩ | ⟨g', cap', cur, e1, hB, hg, hn, hm, hs, ht⟩
  · simp at h2
  · simp only [Value.slice.injEq, Option.some.injEq, Addr.mk.injEq, and_true, true_and] at e1
    obtain ⟨rfl, rfl⟩ := e1
    right
    refine ⟨g, cap, cur.setIfInBounds i u, rfl, hB, ?_, hn, hm, by simpa using hs, ?_⟩
    · simp only [World.setCell, Array.getElem?_modify, hg]; simp
    · rw [← ht]
      simp only [Array.toList_setIfInBounds, Nat.mul_one]
      rw [List.take_set]
theorem OwnI.len {w wr : World} {g n cap : Nat} {l : List Nat} (h : OwnI w wr g n cap l) : n = l.length := by
  obtain ⟨_, ⟨e, _⟩ | ⟨g', cap', cur, e1, _⟩⟩ := h.row
  · simp at e
  · simp only [Value.slice.injEq] at e1; exact e1.2.1
theorem OwnI.put {w wr : World} {g n cap : Nat} {l : List Nat} (h : OwnI w wr g n cap l) (i x : Nat) : OwnI w (wr.setCell ⟨g, i, none⟩ (.int .i64 (x : Nat))) g n cap (l.set i x) := by
  obtain rfl := h.len
  refine ⟨h.bel.setCell (h.row.lt g rfl).1 _, ?_⟩
  have := owns_put (i := i) h.row (.int .i64 (x : Nat))
  rw [lv_set] at this
  simpa using this
theorem OwnI.cell {w wr : World} {g n cap : Nat} {l : List Nat} (h : OwnI w wr g n cap l) (i : Nat) (hi : i < l.length) : wr.cell? ⟨g, i, none⟩ = some (.int .i64 (l.getD i 0 : Nat)) := by
  have := h.row.cells (g := g) rfl i (.int .i64 (l.getD i 0 : Nat)) (by simp [lv, List.getD, hi])
  rw [Addr.add_mid, Nat.zero_add] at this
  exact this
theorem OwnI.blk {w wr : World} {g n cap : Nat} {l : List Nat} (h : OwnI w wr g n cap l) : ∃ cur, wr.heap[g]? = some (.cells cur 3 (0, 0)) ∧ w.heap.size ≤ g ∧ n ≤ cap := by
  obtain rfl := h.len
  obtain ⟨_, ⟨e, _⟩ | ⟨g', cap', cur, e1, hB, hg, hn, _⟩⟩ := h.row
  · simp at e
  · simp only [Value.slice.injEq, Option.some.injEq, Addr.mk.injEq, and_true, true_and] at e1
    obtain ⟨rfl, rfl⟩ := e1
    exact ⟨cur, hg, hB, hn⟩
theorem OwnI.below {w wr w1 : World} {g n cap : Nat} {l : List Nat} (h : OwnI w wr g n cap l) (hb : Below wr.heap.size wr w1) : OwnI w w1 g n cap l :=
  ⟨h.bel.trans (hb.mono h.bel.size), owns_kept h.row fun g hg => hb.block g (h.row.lt g hg).2⟩
theorem own_int (W : World) : (W.alloc (.cells #[] 3)).ownsRow W.heap.size 3 1 (.slice (some ⟨W.heap.size, 0, none⟩) 0 0) 0 [] :=
  World.ownsRow_made W #[] 0 (Nat.le_refl _) (by simp) rfl
theorem ord_copy {w w1 : World} {v' : Value} {l : List Nat} {o : Obj} (h0 : 0 < l.length) (hown : w1.ownsRow w.heap.size 3 1 v' (0 + l.length) ([] ++ lv l)) (hg : (w.alloc o).grownBy w1 (some w.heap.size)) :
    ∃ g cap, v' = .slice (some ⟨g, 0, none⟩) l.length cap ∧ OwnI w w1 g l.length cap l := by
  rw [Nat.zero_add, List.nil_append] at hown
  obtain ⟨g, cap, rfl, hB, cur, hcur⟩ := owns_form hown h0
  refine ⟨g, cap, rfl, ?_, hown⟩
  exact ((Below.refl _ w).alloc (Nat.le_refl _) o).grown hg (by simp) (fun k hk => by simp at hk; omega)
theorem ord_src {w : World} {go : Nat} {ord : List Nat} (h : OrdAt w go ord) : ∀ j u, (lv ord)[j]? = some u → w.cell? ((⟨go, 0, none⟩ : Addr).add j) = some u := by
  intro j u hu
  have hj : j < ord.length := by
    apply Classical.byContradiction
    intro hn
    rw [List.getElem?_eq_none (by simp [lv]; omega)] at hu; cases hu
  rw [Addr.add_mid, Nat.zero_add, h j hj]
  simpa [lv, hj] using hu
theorem ord_one (l : List Nat) : ∀ u ∈ lv l, u.oneCell' = true := by
  intro u hu
  obtain ⟨x, _, rfl⟩ := List.mem_map.1 hu
  rfl

end Go.Proofs.YthoodkbdpnffdabDoor

/-
  Own work: 'Move' builds all functions anew by an order with one variable moved (a walk).
-/
namespace Go.Proofs.YthoodkbdpnffdabDoor
open Go.RowKit
open Cho (U64 Tab full col Nd Red Dg)

/-- While Move goes over the links: its result's block, the new diagram in block d by the order in block g, the links there. -/
structure Mving (w wr : World) (d g n cap : Nat) (kv lw : Value) (ord : List Nat) (ks : List Nd) (ls : List Nat) : Prop where
  res : wr.heap[w.heap.size]? = some (.cells #[.slice none 0 0, .slice none 0 0] 51 (0, 0))
  dia : wr.heap[d]? = some (.cells #[.slice (some ⟨g, 0, none⟩) n cap, kv] 51 (0, 0))
  oat : OrdAt wr g ord
  oblk : ∃ cur, wr.heap[g]? = some (.cells cur 3 (0, 0))
  olt : w.heap.size < g ∧ g < d
  row : wr.ownsRow d 78 3 kv ks.length (flat ks)
  lrow : wr.ownsRow d 46 1 lw ls.length (lv ls)
  bel : Below w.heap.size w wr
theorem Mving.lt {w wr : World} {d g n cap : Nat} {kv lw : Value} {ord : List Nat} {ks : List Nd} {ls : List Nat} (h : Mving w wr d g n cap kv lw ord ks ls) : d < wr.heap.size := lt_of_block h.dia
/-- Where nothing old turns. -/
theorem Mving.below {w wr w1 : World} {d g n cap : Nat} {kv lw : Value} {ord : List Nat} {ks : List Nd} {ls : List Nat} (h : Mving w wr d g n cap kv lw ord ks ls) (hb : Below wr.heap.size wr w1) : Mving w w1 d g n cap kv lw ord ks ls := by
  have hd := h.lt
  have ho := h.olt
  obtain ⟨cur, hcur⟩ := h.oblk
  have kp : ∀ k, k < wr.heap.size → w1.heap[k]? = wr.heap[k]? := fun k hk => hb.block k hk
  exact ⟨(kp _ (by omega)).trans h.res, (kp _ hd).trans h.dia, fun i hi => (World.cell?_of_block (a := ⟨g, i, none⟩) (kp g (by omega))).trans (h.oat i hi), ⟨cur, (kp g (by omega)).trans hcur⟩, ho, owns_kept h.row fun q hq => kp q (h.row.lt q hq).2, owns_kept h.lrow fun q hq => kp q (h.lrow.lt q hq).2, h.bel.trans (hb.mono h.bel.size)⟩
/-- A table's nodes are built. -/
theorem Mving.built {w wr w1 : World} {d g n cap : Nat} {kv kv' lw : Value} {ord : List Nat} {ks ks' : List Nd} {ls : List Nat} (h : Mving w wr d g n cap kv lw ord ks ls)
    (hd' : w1.heap[d]? = some (.cells #[.slice (some ⟨g, 0, none⟩) n cap, kv'] 51 (0, 0))) (hr : w1.ownsRow d 78 3 kv' ks'.length (flat ks')) (hb : Below d wr w1) (hk : Kd d wr w1) : Mving w w1 d g n cap kv' lw ord ks' ls := by
  have hd := h.lt
  have ho := h.olt
  obtain ⟨cur, hcur⟩ := h.oblk
  refine ⟨(hb.block _ (by omega)).trans h.res, hd', fun i hi => (World.cell?_of_block (a := ⟨g, i, none⟩) (hb.block g ho.2)).trans (h.oat i hi), ⟨cur, (hb.block g ho.2).trans hcur⟩, ho, hr, owns_kept h.lrow fun q hq => ?_, h.bel.trans (hb.mono (by omega))⟩
  obtain ⟨_, ⟨rfl, _⟩ | ⟨g', cap', cu, rfl, _, hg2, _⟩⟩ := h.lrow
  · simp [Value.ownBlock] at hq
  · obtain rfl : g' = q := by simpa [Value.ownBlock] using hq
    refine hk g' cu _ hg2 (by decide) ?_
    rintro rfl
    rw [h.dia] at hg2; simp at hg2
/-- A link more. -/
theorem Mving.led {w wr w1 : World} {d g n cap : Nat} {kv lw lw' : Value} {ord : List Nat} {ks : List Nd} {ls : List Nat} {x : Nat} {o : Obj} (h : Mving w wr d g n cap kv lw ord ks ls)
    (hr : w1.ownsRow d 46 1 lw' (ls.length + 1) (lv ls ++ [.int .i64 (x : Nat)])) (hg : (wr.alloc o).grownBy w1 lw.ownBlock) : Mving w w1 d g n cap kv lw' ord ks (ls ++ [x]) := by
  have hd := h.lt
  have ho := h.olt
  obtain ⟨cur, hcur⟩ := h.oblk
  have kp : ∀ (k : Nat) (c : Array Value) (T : TypeId), wr.heap[k]? = some (.cells c T (0, 0)) → T ≠ 46 → w1.heap[k]? = wr.heap[k]? := by
    intro k c T hk hT
    have hkw := lt_of_block hk
    refine (hg.block k (by simp; omega) ?_).trans (Below.heap_alloc _ _ _ hkw)
    intro e
    obtain ⟨_, ⟨rfl, _⟩ | ⟨g', cap', cu, rfl, _, hg2, _⟩⟩ := h.lrow
    · simp [Value.ownBlock] at e
    · obtain rfl : k = g' := by simpa [Value.ownBlock] using e
      rw [hk] at hg2; simp at hg2; exact hT hg2.2
  refine ⟨(kp _ _ _ h.res (by decide)).trans h.res, (kp _ _ _ h.dia (by decide)).trans h.dia, fun i hi => (World.cell?_of_block (a := ⟨g, i, none⟩) (kp g _ _ hcur (by decide))).trans (h.oat i hi), ⟨cur, (kp g _ _ hcur (by decide)).trans hcur⟩, ho, owns_kept h.row fun q hq => ?_, ?_, ?_⟩
  · obtain ⟨_, ⟨rfl, _⟩ | ⟨g', cap', cu, rfl, _, hg2, _⟩⟩ := h.row
    · simp [Value.ownBlock] at hq
    · obtain rfl : g' = q := by simpa [Value.ownBlock] using hq
      exact kp g' _ _ hg2 (by decide)
  · rw [lv_snoc] at hr
    simpa using hr
  · exact (h.bel.alloc (by omega) o).grown hg (by simp; omega) (fun q hq => by have := (h.lrow.lt q hq).1; omega)
theorem mving0 {w w1 : World} {g n cap : Nat} {ord : List Nat} (l : OwnI (w.alloc (.cells #[.slice none 0 0, .slice none 0 0] 51)) w1 g n cap ord) :
    Mving w ((w1.alloc (.cells #[.slice (some ⟨g, 0, none⟩) n cap, .slice none 0 0] 51)).alloc (.cells #[] 46)) w1.heap.size g n cap (.slice none 0 0) (.slice (some ⟨w1.heap.size + 1, 0, none⟩) 0 0) ord [] [] := by
  obtain ⟨cur, hcur, hgB, hcap⟩ := l.blk
  have hgl := lt_of_block hcur
  have hs := l.bel.size
  simp only [World.alloc, Array.size_push] at hgB hs
  have kp : ∀ k, k < w1.heap.size → ((w1.alloc (.cells #[.slice (some ⟨g, 0, none⟩) n cap, .slice none 0 0] 51)).alloc (.cells #[] 46)).heap[k]? = w1.heap[k]? := fun k hk =>
    (Below.heap_alloc _ _ _ (by simp; omega)).trans (Below.heap_alloc _ _ _ hk)
  refine ⟨(kp _ (by omega)).trans ((l.bel.block _ (by simp)).trans (heap_res _ _)), (Below.heap_alloc _ _ _ (by simp)).trans (heap_res _ _), ?_, ⟨cur, (kp g hgl).trans hcur⟩, ⟨by omega, hgl⟩, World.ownsRow_nil _ _ _ _, ?_, ?_⟩
  · intro i hi
    refine (World.cell?_of_block (a := ⟨g, i, none⟩) (kp g hgl)).trans ((l.cell i hi).trans ?_)
    simp [List.getD, hi]
  · have := World.ownsRow_made (w1.alloc (.cells #[.slice (some ⟨g, 0, none⟩) n cap, .slice none 0 0] 51)) (e := 46) (size := 1) (base := w1.heap.size) #[] 0 (by simp) (by simp) rfl
    simpa [lv] using this
  · exact ((((Below.refl _ w).alloc (Nat.le_refl _) _).trans (l.bel.mono (by simp))).alloc (by omega) _).alloc (by simp; omega) _

/-- What holds of an order's list in memory. -/
def OrdV (w : World) (g n cap : Nat) (ord : List Nat) : Prop := n = ord.length ∧ n ≤ cap ∧ OrdAt w g ord ∧ ∃ cur, w.heap[g]? = some (.cells cur 3 (0, 0))
/-- A diagram that a call answers, with its links. -/
structure DgV (w : World) (g n cap : Nat) (kv lw : Value) (d : Dg) : Prop where
  ord : OrdV w g n cap d.ord
  row : w.ownsRow 0 78 3 kv d.ns.length (flat d.ns)
  lrow : w.ownsRow 0 46 1 lw d.ls.length (lv d.ls)
theorem tabTo_bld (ns : List Nd) (l k : Nat) : tabTo ns l k = Cho.bld (Cho.ev ns l) k := by
  induction k with
  | zero => rfl
  | succ k ih => simp only [tabTo, Cho.bld, ih]
theorem bldsTo_len (ord ts : List Nat) (h : ord.length ≤ 6) (k : Nat) : (Cho.bldsTo ord ts k).1.length ≤ 63 * k ∧ (Cho.bldsTo ord ts k).2.length = k := by
  induction k with
  | zero => simp [Cho.bldsTo]
  | succ k ih =>
    have := Cho.build_len ord (ts.getD k 0) (Cho.bldsTo ord ts k).1
    have hp := Cho.two_pow_le _ h
    simp only [Cho.bldsTo, List.length_append, List.length_cons, List.length_nil]
    omega

end Go.Proofs.YthoodkbdpnffdabDoor
