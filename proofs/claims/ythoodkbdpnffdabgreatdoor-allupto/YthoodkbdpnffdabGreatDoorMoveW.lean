/-
  Own work: a store's order, as a list of its own; an order with one variable moved (walks).
-/
import Derived.Test.YthoodkbdpnffdabGreatDoorInv
import Derived.Test.YthoodkbdpnffdabGreatDoorKeepA
import Derived.Test.YthoodkbdpnffdabGreatDoorPlainQ
import Derived.Test.YthoodkbdpnffdabGreatDoorStoreM
namespace Go.Proofs.YthoodkbdpnffdabGreatDoor
open Go.RowKit
open Cho (U64 Tab full col Nd Red)

/-- A row of numbers that was made since the world w. -/
structure OwnI (w wr : World) (g n cap : Nat) (l : List Nat) : Prop where
  bel : Below w.heap.size w wr
  row : wr.ownsRow w.heap.size 3 1 (.slice (some ⟨g, 0, none⟩) n cap) l.length (lv l)
theorem owns_put {w : World} {B : Nat} {e : TypeId} {g n cap i : Nat} {xs : List Value} (h : w.ownsRow B e 1 (.slice (some ⟨g, 0, none⟩) n cap) n xs) (u : Value) : (w.setCell ⟨g, i, none⟩ u).ownsRow B e 1 (.slice (some ⟨g, 0, none⟩) n cap) n (xs.set i u) := by
  obtain ⟨h1, h2⟩ := h
  refine ⟨by simpa using h1, ?_⟩
  rcases h2 with ⟨h2, _⟩ | ⟨g', cap', cur, e1, hB, hg, hn, hm, hs, ht⟩
  · simp at h2
  · simp only [Value.slice.injEq, Option.some.injEq, Addr.mk.injEq, and_true, true_and] at e1
    obtain ⟨rfl, rfl⟩ := e1
    right
    refine ⟨g, cap, cur.setIfInBounds i u, rfl, hB, ?_, hn, hm, by simpa using hs, ?_⟩
    · simp only [World.setCell, Array.getElem?_modify, hg]; simp
    · rw [← ht]
      simp only [Array.toList_setIfInBounds, Nat.mul_one]
      rw [List.take_set]
theorem OwnI.len {w wr : World} {g n cap : Nat} {l : List Nat} (h : OwnI w wr g n cap l) : n = l.length := by
  obtain ⟨_, ⟨e, _⟩ | ⟨g', cap', cur, e1, _⟩⟩ := h.row
  · simp at e
  · simp only [Value.slice.injEq] at e1; exact e1.2.1
theorem OwnI.put {w wr : World} {g n cap : Nat} {l : List Nat} (h : OwnI w wr g n cap l) (i x : Nat) : OwnI w (wr.setCell ⟨g, i, none⟩ (.int .i64 (x : Nat))) g n cap (l.set i x) := by
  obtain rfl := h.len
  refine ⟨h.bel.setCell (h.row.lt g rfl).1 _, ?_⟩
  have := owns_put (i := i) h.row (.int .i64 (x : Nat))
  rw [lv_set] at this
  simpa using this
theorem OwnI.cell {w wr : World} {g n cap : Nat} {l : List Nat} (h : OwnI w wr g n cap l) (i : Nat) (hi : i < l.length) : wr.cell? ⟨g, i, none⟩ = some (.int .i64 (l.getD i 0 : Nat)) := by
  have := h.row.cells (g := g) rfl i (.int .i64 (l.getD i 0 : Nat)) (by simp [lv, List.getD, hi])
  rw [Addr.add_mid, Nat.zero_add] at this
  exact this
theorem OwnI.blk {w wr : World} {g n cap : Nat} {l : List Nat} (h : OwnI w wr g n cap l) : ∃ cur, wr.heap[g]? = some (.cells cur 3 (0, 0)) ∧ w.heap.size ≤ g ∧ n ≤ cap := by
  obtain rfl := h.len
  obtain ⟨_, ⟨e, _⟩ | ⟨g', cap', cur, e1, hB, hg, hn, _⟩⟩ := h.row
  · simp at e
  · simp only [Value.slice.injEq, Option.some.injEq, Addr.mk.injEq, and_true, true_and] at e1
    obtain ⟨rfl, rfl⟩ := e1
    exact ⟨cur, hg, hB, hn⟩
theorem OwnI.below {w wr w1 : World} {g n cap : Nat} {l : List Nat} (h : OwnI w wr g n cap l) (hb : Below wr.heap.size wr w1) : OwnI w w1 g n cap l :=
  ⟨h.bel.trans (hb.mono h.bel.size), owns_kept h.row fun g hg => hb.block g (h.row.lt g hg).2⟩
theorem own_int (W : World) : (W.alloc (.cells #[] 3)).ownsRow W.heap.size 3 1 (.slice (some ⟨W.heap.size, 0, none⟩) 0 0) 0 [] :=
  World.ownsRow_made W #[] 0 (Nat.le_refl _) (by simp) rfl
theorem ord_copy {w w1 : World} {v' : Value} {l : List Nat} {o : Obj} (h0 : 0 < l.length) (hown : w1.ownsRow w.heap.size 3 1 v' (0 + l.length) ([] ++ lv l)) (hg : (w.alloc o).grownBy w1 (some w.heap.size)) :
    ∃ g cap, v' = .slice (some ⟨g, 0, none⟩) l.length cap ∧ OwnI w w1 g l.length cap l := by
  rw [Nat.zero_add, List.nil_append] at hown
  obtain ⟨g, cap, rfl, hB, cur, hcur⟩ := owns_form hown h0
  refine ⟨g, cap, rfl, ?_, hown⟩
  exact ((Below.refl _ w).alloc (Nat.le_refl _) o).grown hg (by simp) (fun k hk => by simp at hk; omega)
theorem ord_src {w : World} {go : Nat} {ord : List Nat} (h : OrdAt w go ord) : ∀ j u, (lv ord)[j]? = some u → w.cell? ((⟨go, 0, none⟩ : Addr).add j) = some u := by
  intro j u hu
  have hj : j < ord.length := by
    apply Classical.byContradiction
    intro hn
    rw [List.getElem?_eq_none (by simp [lv]; omega)] at hu; cases hu
  rw [Addr.add_mid, Nat.zero_add, h j hj]
  simpa [lv, hj] using hu
theorem ord_one (l : List Nat) : ∀ u ∈ lv l, u.oneCell' = true := by
  intro u hu
  obtain ⟨x, _, rfl⟩ := List.mem_map.1 hu
  rfl

set_option maxRecDepth 100000 in
set_option maxHeartbeats 400000 in
theorem dorder_calls (s off go capo : Nat) (ord : List Nat) (w : World) (h0 : w.cell? ⟨s, off, none⟩ = some (.slice (some ⟨go, 0, none⟩) ord.length capo)) (ho : OrdAt w go ord) (hn1 : 1 ≤ ord.length) (hn6 : ord.length ≤ 6) :
    Calls Tryz.prog 100 #[.pointer (some ⟨s, off, none⟩)] w fun e w' => ∃ g cap, e = .returned (.slice (some ⟨g, 0, none⟩) ord.length cap) ∧ OwnI w w' g ord.length cap ord := by
  obtain ⟨i0, hi, hz0, hz1, hz2⟩ := info_parts Tryz.infoInt
  have hs := World.block_lt_of_cell? w _ h0
  simp only at hs
  have hgo : go < w.heap.size := World.block_lt_of_cell? w _ (ho 0 (by omega))
  have h0' : (w.alloc (.cells #[] 3)).cell? ⟨s, off, none⟩ = some (.slice (some ⟨go, 0, none⟩) ord.length capo) := with_al h0
  have HSRC : Hid (∀ j u, (lv ord)[j]? = some u → (w.alloc (.cells #[] 3)).cell? ((⟨go, 0, none⟩ : Addr).add j) = some u) := ord_src (fun i hi => with_al (ho i hi))
  have F1 : Hid (0 + ord.length ≤ maxLen) := by show 0 + ord.length ≤ maxLen; unfold maxLen; omega
  have F2 : Hid ((0 + ord.length) * 8 ≤ 140737488355328) := by show (0 + ord.length) * 8 ≤ 140737488355328; omega
  have F4 : Hid ((lv ord).length = ord.length * 1) := by show (lv ord).length = ord.length * 1; simp [lv]
  clear ho
  go_enter Tryz.func100, Tryz.ntmps100
  go_wp2_with (at_builtin; go_must (refine wpList_append_own _ rfl _ _ 49 rfl w.heap.size 3 i0 _ 1 8 Tryz.underlying49 hi hz0 hz1 hz2 rfl (Nat.succ_pos 0) (.slice (some ⟨w.heap.size, 0, none⟩) 0 0) 0 [] ?e1 (own_int w) ⟨go, 0, none⟩ ord.length capo (lv ord) ?e2 F4.out HSRC.out (ord_one ord) F1.out F2.out (by simp) ?_); (case e1 => rfl); (case e2 => rfl); intro v' w1 hown hgrow _; obtain ⟨g1, cap1, rfl, l1⟩ := ord_copy (by omega) hown hgrow; have L1 : Hid (OwnI w w1 g1 ord.length cap1 ord) := l1; clear hown hgrow l1)
  go_ret
  exact ⟨g1, cap1, rfl, L1.out⟩

set_option maxHeartbeats 400000 in
theorem hasLevel_calls (s off n capo k : Nat) (ao : Option Addr) (w : World) (h0 : w.cell? ⟨s, off, none⟩ = some (.slice ao n capo)) (hk : k < n) :
    Calls Tryz.prog 130 #[.pointer (some ⟨s, off, none⟩), .int .i64 k] w fun e w' => e = .returned (.bool true) ∧ w' = w := by
  have h1 : decide ((0 : Int) ≤ (k : Int)) = true := by simp
  have h2 : decide ((k : Int) < (n : Int)) = true := by simp; omega
  go_enter Tryz.func130, Tryz.ntmps130
  go_wp2_with fail
  go_ret
  exact ⟨rfl, rfl⟩

set_option maxRecDepth 100000 in
set_option maxHeartbeats 1000000 in
theorem dmoved_calls (s off go capo f t : Nat) (ord : List Nat) (w : World) (h0 : w.cell? ⟨s, off, none⟩ = some (.slice (some ⟨go, 0, none⟩) ord.length capo)) (ho : OrdAt w go ord) (hn6 : ord.length ≤ 6) (hf : f < ord.length) (ht : t < ord.length) :
    Calls Tryz.prog 118 #[.pointer (some ⟨s, off, none⟩), .int .i64 f, .int .i64 t] w fun e w' => ∃ g cap, e = .returned (.slice (some ⟨g, 0, none⟩) ord.length cap) ∧ OwnI w w' g ord.length cap (Cho.mv ord f t) := by
  have hs := World.block_lt_of_cell? w _ h0
  simp only at hs
  have HO : Hid (Calls Tryz.prog 100 #[.pointer (some ⟨s, off, none⟩)] w fun e w' => ∃ g cap, e = .returned (.slice (some ⟨g, 0, none⟩) ord.length cap) ∧ OwnI w w' g ord.length cap ord) := dorder_calls s off go capo ord w h0 ho (by omega) hn6
  clear ho
  go_enter Tryz.func118, Tryz.ntmps118
  go_wp2_with fail
  refine HO.out.mono ?_
  rintro e w1 ⟨g, cap, rfl, l1⟩
  have L1 : Hid (OwnI w w1 g ord.length cap ord) := l1
  have h0' : w1.cell? ⟨s, off, none⟩ = some (.slice (some ⟨go, 0, none⟩) ord.length capo) := (l1.bel.cell (p := ⟨s, off, none⟩) hs).trans h0
  have HL : Hid (∀ k, k < ord.length → Calls Tryz.prog 130 #[.pointer (some ⟨s, off, none⟩), .int .i64 (k : Nat)] w1 fun e w' => e = .returned (.bool true) ∧ w' = w1) := fun k hk => hasLevel_calls s off ord.length capo k _ w1 h0' hk
  have efD : ord.getD f 0 = ord[f] := by simp [List.getD, hf]
  have cf := l1.cell f hf
  rw [efD] at cf
  have EFD : Hid (ord.getD f 0 = ord[f]) := efD
  clear efD
  generalize ord[f] = v at *
  clear l1 HO
  go_wp2_with fail
  refine (HL.out f hf).mono ?_
  rintro e w2 ⟨rfl, rfl⟩
  go_wp2_with fail
  refine (HL.out t ht).mono ?_
  rintro e w2 ⟨rfl, rfl⟩
  clear HL h0'
  have hgw := L1.out.blk
  obtain ⟨cur, hcur, hgB, hcap⟩ := hgw
  have hgl := lt_of_block hcur
  clear hcur cur
  go_wp2_with fail
  go_loopw [9] (fun x wr => ∃ j : Nat, j ≤ t - f ∧ x = .int .i64 ((f + j : Nat) : Int) ∧ Hid (OwnI w wr g ord.length cap (Cho.shUp ord f j))) (fun x _ => t - (intOf x).toNat)
  case atStart => exact ⟨0, Nat.zero_le _, rfl, L1⟩
  case round =>
    obtain ⟨j, hj, rfl, LR⟩ := hrel
    clear L1
    by_cases hjt : f + j < t
    · have hlen := Cho.shUp_len ord f j
      have c1 := LR.out.cell (f + j + 1) (by rw [hlen]; omega)
      have c2 := LR.out.cell (f + j) (by rw [hlen]; omega)
      obtain ⟨cur, hcur, _, _⟩ := LR.out.blk
      have fz := frozen_of_block hcur (f + j)
      have hgl2 := lt_of_block hcur
      have NX : Hid (OwnI w (wr.setCell ⟨g, f + j, none⟩ (.int .i64 ((Cho.shUp ord f j).getD (f + j + 1) 0 : Nat))) g ord.length cap (Cho.shUp ord f (j + 1))) := LR.out.put _ _
      clear hcur
      generalize (Cho.shUp ord f j).getD (f + j + 1) 0 = x1 at *
      generalize (Cho.shUp ord f j).getD (f + j) 0 = x2 at *
      go_wp2_with fail
      exact ⟨⟨j + 1, by omega, by go_num, NX⟩, by simp [intOf]; omega⟩
    · have ej : j = t - f := by omega
      subst ej
      clear hjt hj
      have HLU : Hid ((Cho.shUp ord f (t - f)).length = ord.length) := Cho.shUp_len ord f (t - f)
      have HMV : Hid (Cho.mv ord f t = (Cho.shDn (Cho.shUp ord f (t - f)) f (f - t)).set t (ord.getD f 0)) := rfl
      generalize Cho.shUp ord f (t - f) = U at *
      have hnlt : ¬ (f : Int) + ((t - f : Nat) : Int) < (t : Int) := by omega
      go_wp2_with fail
      go_loopw [10] (fun x wr => ∃ j : Nat, j ≤ f - t ∧ x = .int .i64 ((f - j : Nat) : Int) ∧ Hid (OwnI w wr g ord.length cap (Cho.shDn U f j))) (fun x _ => (intOf x).toNat - t)
      case atStart => exact ⟨0, Nat.zero_le _, rfl, LR⟩
      case round =>
        obtain ⟨j, hj, rfl, LR2⟩ := hrel
        clear LR
        obtain ⟨cur, hcur, _, _⟩ := LR2.out.blk
        have hgl2 := lt_of_block hcur
        have hlen : (Cho.shDn U f j).length = ord.length := (Cho.shDn_len U f j).trans HLU.out
        by_cases hjt : t < f - j
        · have c1 := LR2.out.cell (f - j - 1) (by rw [hlen]; omega)
          have c2 := LR2.out.cell (f - j) (by rw [hlen]; omega)
          have fz := frozen_of_block hcur (f - j)
          have NX : Hid (OwnI w (wr.setCell ⟨g, f - j, none⟩ (.int .i64 ((Cho.shDn U f j).getD (f - j - 1) 0 : Nat))) g ord.length cap (Cho.shDn U f (j + 1))) := LR2.out.put _ _
          clear hcur
          generalize (Cho.shDn U f j).getD (f - j - 1) 0 = x1 at *
          generalize (Cho.shDn U f j).getD (f - j) 0 = x2 at *
          generalize hm : f - j = m at *
          have em : (f - (j + 1) : Nat) = m - 1 := by omega
          have EM : Hid (f - (j + 1) = m - 1) := em
          clear em
          go_wp2_with fail
          refine ⟨⟨j + 1, by omega, ?_, NX⟩, by simp [intOf]; omega⟩
          rw [EM.out]; go_num
        · have ej : j = f - t := by omega
          subst ej
          have c2 := LR2.out.cell t (by rw [hlen]; omega)
          have fz := frozen_of_block hcur t
          have NX : Hid (OwnI w (wr.setCell ⟨g, t, none⟩ (.int .i64 (v : Nat))) g ord.length cap (Cho.mv ord f t)) := by
            show OwnI _ _ _ _ _ _
            rw [HMV.out, EFD.out]; exact LR2.out.put _ _
          clear hcur
          generalize (Cho.shDn U f (f - t)).getD t 0 = x2 at *
          go_wp2_with fail
          go_ret
          exact ⟨g, cap, rfl, NX.out⟩
end Go.Proofs.YthoodkbdpnffdabGreatDoor

/-
  Own work: 'Move' builds all functions anew by an order with one variable moved (a walk).
-/
namespace Go.Proofs.YthoodkbdpnffdabGreatDoor
open Go.RowKit
open Cho (U64 Tab full col Nd Red Dg)

/-- While Move goes over the links: its result's block, the new diagram in block d by the order in block g, the links there. -/
structure Mving (w wr : World) (d g n cap : Nat) (kv lw : Value) (ord : List Nat) (ks : List Nd) (ls : List Nat) : Prop where
  res : wr.heap[w.heap.size]? = some (.cells #[.slice none 0 0, .slice none 0 0] 54 (0, 0))
  dia : wr.heap[d]? = some (.cells #[.slice (some ⟨g, 0, none⟩) n cap, kv] 54 (0, 0))
  oat : OrdAt wr g ord
  oblk : ∃ cur, wr.heap[g]? = some (.cells cur 3 (0, 0))
  olt : w.heap.size < g ∧ g < d
  row : wr.ownsRow d 153 3 kv ks.length (flat ks)
  lrow : wr.ownsRow d 59 1 lw ls.length (lv ls)
  bel : Below w.heap.size w wr
theorem Mving.lt {w wr : World} {d g n cap : Nat} {kv lw : Value} {ord : List Nat} {ks : List Nd} {ls : List Nat} (h : Mving w wr d g n cap kv lw ord ks ls) : d < wr.heap.size := lt_of_block h.dia
/-- Where nothing old turns. -/
theorem Mving.below {w wr w1 : World} {d g n cap : Nat} {kv lw : Value} {ord : List Nat} {ks : List Nd} {ls : List Nat} (h : Mving w wr d g n cap kv lw ord ks ls) (hb : Below wr.heap.size wr w1) : Mving w w1 d g n cap kv lw ord ks ls := by
  have hd := h.lt
  have ho := h.olt
  obtain ⟨cur, hcur⟩ := h.oblk
  have kp : ∀ k, k < wr.heap.size → w1.heap[k]? = wr.heap[k]? := fun k hk => hb.block k hk
  exact ⟨(kp _ (by omega)).trans h.res, (kp _ hd).trans h.dia, fun i hi => (World.cell?_of_block (a := ⟨g, i, none⟩) (kp g (by omega))).trans (h.oat i hi), ⟨cur, (kp g (by omega)).trans hcur⟩, ho, owns_kept h.row fun q hq => kp q (h.row.lt q hq).2, owns_kept h.lrow fun q hq => kp q (h.lrow.lt q hq).2, h.bel.trans (hb.mono h.bel.size)⟩
/-- A table's nodes are built. -/
theorem Mving.built {w wr w1 : World} {d g n cap : Nat} {kv kv' lw : Value} {ord : List Nat} {ks ks' : List Nd} {ls : List Nat} (h : Mving w wr d g n cap kv lw ord ks ls)
    (hd' : w1.heap[d]? = some (.cells #[.slice (some ⟨g, 0, none⟩) n cap, kv'] 54 (0, 0))) (hr : w1.ownsRow d 153 3 kv' ks'.length (flat ks')) (hb : Below d wr w1) (hk : Kd d wr w1) : Mving w w1 d g n cap kv' lw ord ks' ls := by
  have hd := h.lt
  have ho := h.olt
  obtain ⟨cur, hcur⟩ := h.oblk
  refine ⟨(hb.block _ (by omega)).trans h.res, hd', fun i hi => (World.cell?_of_block (a := ⟨g, i, none⟩) (hb.block g ho.2)).trans (h.oat i hi), ⟨cur, (hb.block g ho.2).trans hcur⟩, ho, hr, owns_kept h.lrow fun q hq => ?_, h.bel.trans (hb.mono (by omega))⟩
  obtain ⟨_, ⟨rfl, _⟩ | ⟨g', cap', cu, rfl, _, hg2, _⟩⟩ := h.lrow
  · simp [Value.ownBlock] at hq
  · obtain rfl : g' = q := by simpa [Value.ownBlock] using hq
    refine hk g' cu _ hg2 (by decide) ?_
    rintro rfl
    rw [h.dia] at hg2; simp at hg2
/-- A link more. -/
theorem Mving.led {w wr w1 : World} {d g n cap : Nat} {kv lw lw' : Value} {ord : List Nat} {ks : List Nd} {ls : List Nat} {x : Nat} {o : Obj} (h : Mving w wr d g n cap kv lw ord ks ls)
    (hr : w1.ownsRow d 59 1 lw' (ls.length + 1) (lv ls ++ [.int .i64 (x : Nat)])) (hg : (wr.alloc o).grownBy w1 lw.ownBlock) : Mving w w1 d g n cap kv lw' ord ks (ls ++ [x]) := by
  have hd := h.lt
  have ho := h.olt
  obtain ⟨cur, hcur⟩ := h.oblk
  have kp : ∀ (k : Nat) (c : Array Value) (T : TypeId), wr.heap[k]? = some (.cells c T (0, 0)) → T ≠ 59 → w1.heap[k]? = wr.heap[k]? := by
    intro k c T hk hT
    have hkw := lt_of_block hk
    refine (hg.block k (by simp; omega) ?_).trans (Below.heap_alloc _ _ _ hkw)
    intro e
    obtain ⟨_, ⟨rfl, _⟩ | ⟨g', cap', cu, rfl, _, hg2, _⟩⟩ := h.lrow
    · simp [Value.ownBlock] at e
    · obtain rfl : k = g' := by simpa [Value.ownBlock] using e
      rw [hk] at hg2; simp at hg2; exact hT hg2.2
  refine ⟨(kp _ _ _ h.res (by decide)).trans h.res, (kp _ _ _ h.dia (by decide)).trans h.dia, fun i hi => (World.cell?_of_block (a := ⟨g, i, none⟩) (kp g _ _ hcur (by decide))).trans (h.oat i hi), ⟨cur, (kp g _ _ hcur (by decide)).trans hcur⟩, ho, owns_kept h.row fun q hq => ?_, ?_, ?_⟩
  · obtain ⟨_, ⟨rfl, _⟩ | ⟨g', cap', cu, rfl, _, hg2, _⟩⟩ := h.row
    · simp [Value.ownBlock] at hq
    · obtain rfl : g' = q := by simpa [Value.ownBlock] using hq
      exact kp g' _ _ hg2 (by decide)
  · rw [lv_snoc] at hr
    simpa using hr
  · exact (h.bel.alloc (by omega) o).grown hg (by simp; omega) (fun q hq => by have := (h.lrow.lt q hq).1; omega)
theorem mving0 {w w1 : World} {g n cap : Nat} {ord : List Nat} (l : OwnI (w.alloc (.cells #[.slice none 0 0, .slice none 0 0] 54)) w1 g n cap ord) :
    Mving w ((w1.alloc (.cells #[.slice (some ⟨g, 0, none⟩) n cap, .slice none 0 0] 54)).alloc (.cells #[] 59)) w1.heap.size g n cap (.slice none 0 0) (.slice (some ⟨w1.heap.size + 1, 0, none⟩) 0 0) ord [] [] := by
  obtain ⟨cur, hcur, hgB, hcap⟩ := l.blk
  have hgl := lt_of_block hcur
  have hs := l.bel.size
  simp only [World.alloc, Array.size_push] at hgB hs
  have kp : ∀ k, k < w1.heap.size → ((w1.alloc (.cells #[.slice (some ⟨g, 0, none⟩) n cap, .slice none 0 0] 54)).alloc (.cells #[] 59)).heap[k]? = w1.heap[k]? := fun k hk =>
    (Below.heap_alloc _ _ _ (by simp; omega)).trans (Below.heap_alloc _ _ _ hk)
  refine ⟨(kp _ (by omega)).trans ((l.bel.block _ (by simp)).trans (heap_res _ _)), (Below.heap_alloc _ _ _ (by simp)).trans (heap_res _ _), ?_, ⟨cur, (kp g hgl).trans hcur⟩, ⟨by omega, hgl⟩, World.ownsRow_nil _ _ _ _, ?_, ?_⟩
  · intro i hi
    refine (World.cell?_of_block (a := ⟨g, i, none⟩) (kp g hgl)).trans ((l.cell i hi).trans ?_)
    simp [List.getD, hi]
  · have := World.ownsRow_made (w1.alloc (.cells #[.slice (some ⟨g, 0, none⟩) n cap, .slice none 0 0] 54)) (e := 59) (size := 1) (base := w1.heap.size) #[] 0 (by simp) (by simp) rfl
    simpa [lv] using this
  · exact ((((Below.refl _ w).alloc (Nat.le_refl _) _).trans (l.bel.mono (by simp))).alloc (by omega) _).alloc (by simp; omega) _

/-- What holds of an order's list in memory. -/
def OrdV (w : World) (g n cap : Nat) (ord : List Nat) : Prop := n = ord.length ∧ n ≤ cap ∧ OrdAt w g ord ∧ ∃ cur, w.heap[g]? = some (.cells cur 3 (0, 0))
/-- A diagram that a call answers, with its links. -/
structure DgV (w : World) (g n cap : Nat) (kv lw : Value) (d : Dg) : Prop where
  ord : OrdV w g n cap d.ord
  row : w.ownsRow 0 153 3 kv d.ns.length (flat d.ns)
  lrow : w.ownsRow 0 59 1 lw d.ls.length (lv d.ls)
theorem tabTo_bld (ns : List Nd) (l k : Nat) : tabTo ns l k = Cho.bld (Cho.ev ns l) k := by
  induction k with
  | zero => rfl
  | succ k ih => simp only [tabTo, Cho.bld, ih]
theorem bldsTo_len (ord ts : List Nat) (h : ord.length ≤ 6) (k : Nat) : (Cho.bldsTo ord ts k).1.length ≤ 63 * k ∧ (Cho.bldsTo ord ts k).2.length = k := by
  induction k with
  | zero => simp [Cho.bldsTo]
  | succ k ih =>
    have := Cho.build_len ord (ts.getD k 0) (Cho.bldsTo ord ts k).1
    have hp := Cho.two_pow_le _ h
    simp only [Cho.bldsTo, List.length_append, List.length_cons, List.length_nil]
    omega

set_option maxRecDepth 100000 in
set_option maxHeartbeats 4000000 in
theorem move_calls (s off B go capo g o capl f t : Nat) (ord : List Nat) (ns : List Nd) (nv : Value) (ls : List Nat) (w : World) (h0 : w.cell? ⟨s, off, none⟩ = some (.slice (some ⟨go, 0, none⟩) ord.length capo)) (h1 : w.cell? ⟨s, off + 1, none⟩ = some nv) (hr : w.ownsRow B 153 3 nv ns.length (flat ns))
    (ho : OrdAt w go ord) (hc : Cols w) (hl : ∀ i (hi : i < ls.length), w.cell? ⟨g, o + i, none⟩ = some (.int .i64 (ls[i] : Nat))) (hlt : ∀ l ∈ ls, l < ns.length + 2) (hw : Cho.Wf ns) (hv : ∀ n ∈ ns, n.1 < 6) (hn : ns.length ≤ 4000) (hls : ls.length ≤ 30) (hn6 : ord.length ≤ 6) (ho6 : ∀ v ∈ ord, v < 6) (hf : f < ord.length) (ht : t < ord.length) :
    Calls Tryz.prog 101 #[.pointer (some ⟨s, off, none⟩), .int .i64 f, .int .i64 t, .slice (some ⟨g, o, none⟩) ls.length capl] w fun e w' => ∃ g' cap' kv lw,
      e = .returned (.tuple #[.agg #[.slice (some ⟨g', 0, none⟩) ord.length cap', kv], lw]) ∧ DgV w' g' ord.length cap' kv lw ((⟨ord, ns, ls⟩ : Dg).move f t) ∧ Below w.heap.size w w' := by
  obtain ⟨i0, hi0, hz0, hz1, hz2⟩ := info_parts Tryz.infoLink
  have hs := World.block_lt_of_cell? w _ h1
  simp only at hs
  have hgo : go < w.heap.size := World.block_lt_of_cell? w _ (ho 0 (by omega))
  have HO : Hid (Calls Tryz.prog 118 #[.pointer (some ⟨s, off, none⟩), .int .i64 f, .int .i64 t] (w.alloc (.cells #[.slice none 0 0, .slice none 0 0] 54)) fun e w' => ∃ g cap, e = .returned (.slice (some ⟨g, 0, none⟩) ord.length cap) ∧ OwnI (w.alloc (.cells #[.slice none 0 0, .slice none 0 0] 54)) w' g ord.length cap (Cho.mv ord f t)) :=
    dmoved_calls s off go capo f t ord _ (with_al h0) (fun i hi => with_al (ho i hi)) hn6 hf ht
  have HL : Hid (∀ i (hi : i < ls.length), w.cell? ⟨g, o + i, none⟩ = some (.int .i64 (ls[i] : Nat))) := hl
  have hp := Cho.mv_perm ord f t hn6 hf ht
  have HM6 : Hid (∀ v ∈ Cho.mv ord f t, v < 6) := fun v hv => ho6 v (hp.mem_iff.1 hv)
  have HML : Hid ((Cho.mv ord f t).length = ord.length) := Cho.mv_len ord f t
  have HCOL : Hid (Cols w) := hc
  have HTAB : Hid (∀ W i (hi : i < ls.length), Below w.heap.size w W → Calls Tryz.prog 85 #[.pointer (some ⟨s, off, none⟩), .int .i64 (ls[i] : Nat)] W fun e w' => e = .returned (.int .u64 ((⟨ord, ns, ls⟩ : Dg).tabs.getD i 0 : Nat)) ∧ Below W.heap.size W w') := by
    intro W i hi hb
    have := dtable_calls s off B ord.length capo _ ns nv ls[i] W ((hb.cell (p := ⟨s, off, none⟩) hs).trans h0) ((hb.cell (p := ⟨s, off + 1, none⟩) hs).trans h1) (owns_kept hr fun q hq => hb.block q (hr.lt q hq).2) hw hv (hlt _ (List.getElem_mem hi)) hn6 (by omega)
    rw [tabTo_bld] at this
    rw [show (⟨ord, ns, ls⟩ : Dg).tabs.getD i 0 = Cho.bld (Cho.ev ns ls[i]) (2 ^ ord.length) from by simp [Dg.tabs, List.getD, hi]]
    exact this
  have HMVE : Hid ((⟨ord, ns, ls⟩ : Dg).move f t = ⟨Cho.mv ord f t, (Cho.bldsTo (Cho.mv ord f t) (⟨ord, ns, ls⟩ : Dg).tabs ls.length).1, (Cho.bldsTo (Cho.mv ord f t) (⟨ord, ns, ls⟩ : Dg).tabs ls.length).2⟩) := rfl
  have HTU : Hid (∀ i, i < ls.length → U64 ((⟨ord, ns, ls⟩ : Dg).tabs.getD i 0)) := by
    intro i hi
    rw [show (⟨ord, ns, ls⟩ : Dg).tabs.getD i 0 = Cho.bld (Cho.ev ns ls[i]) (2 ^ ord.length) from by simp [Dg.tabs, List.getD, hi]]
    exact Cho.bld_u64 _ _ (Cho.two_pow_le _ hn6)
  clear hr ho hc hl hlt hw hv hp ho6
  generalize (⟨ord, ns, ls⟩ : Dg).tabs = ts at *
  generalize (⟨ord, ns, ls⟩ : Dg).move f t = mvd at *
  generalize Cho.mv ord f t = mo at *
  go_enter Tryz.func101, Tryz.ntmps101
  go_wp2_with fail
  refine HO.out.mono ?_
  rintro e w1 ⟨g1, cap1, rfl, l1⟩
  have M0 : Hid (Mving w ((w1.alloc (.cells #[.slice (some ⟨g1, 0, none⟩) ord.length cap1, .slice none 0 0] 54)).alloc (.cells #[] 59)) w1.heap.size g1 ord.length cap1 (.slice none 0 0) (.slice (some ⟨w1.heap.size + 1, 0, none⟩) 0 0) mo (Cho.bldsTo mo ts 0).1 (Cho.bldsTo mo ts 0).2) := mving0 l1
  have hcap1 : ord.length ≤ cap1 := by obtain ⟨_, _, _, h⟩ := l1.blk; exact h
  clear l1 HO
  go_wp2_with fail
  go_loopw [11, 24] (fun x11 x24 wr => ∃ (k : Nat) (kv : Value), k ≤ ls.length ∧ x24 = .int .i64 k ∧ Hid (Mving w wr w1.heap.size g1 ord.length cap1 kv x11 mo (Cho.bldsTo mo ts k).1 (Cho.bldsTo mo ts k).2)) (fun _ x24 _ => ls.length - (intOf x24).toNat)
  case atStart => exact ⟨0, _, Nat.zero_le _, rfl, M0⟩
  case round =>
    obtain ⟨k, kv, hk, rfl, MR⟩ := hrel
    clear M0
    obtain ⟨al, cl, rfl⟩ := owns_slice MR.out.lrow
    obtain ⟨ak, ck, rfl⟩ := owns_slice MR.out.row
    have hbl := bldsTo_len mo ts (by rw [HML.out]; exact hn6) k
    have hdlt := MR.out.lt
    by_cases hkl : k < ls.length
    · have e1 : wr.cell? ⟨g, o + k, none⟩ = some (.int .i64 (ls[k] : Nat)) := by
        have h := HL.out k hkl
        have hgw := World.block_lt_of_cell? w _ h
        exact (MR.out.bel.cell (p := ⟨g, o + k, none⟩) hgw).trans h
      have HT : Hid (Calls Tryz.prog 85 #[.pointer (some ⟨s, off, none⟩), .int .i64 (ls[k] : Nat)] wr fun e w' => e = .returned (.int .u64 (ts.getD k 0 : Nat)) ∧ Below wr.heap.size wr w') := HTAB.out wr k hkl MR.out.bel
      have HNX : Hid (Cho.bldsTo mo ts (k + 1) = ((Cho.build mo (ts.getD k 0) (Cho.bldsTo mo ts k).1).1, (Cho.bldsTo mo ts k).2 ++ [(Cho.build mo (ts.getD k 0) (Cho.bldsTo mo ts k).1).2])) := rfl
      have HUK := HTU.out k hkl
      have HUK' : Hid (U64 (ts.getD k 0)) := HUK
      clear HUK
      generalize ls[k] = lk at *
      generalize ts.getD k 0 = tk at *
      generalize hST : Cho.bldsTo mo ts k = ST at *
      clear hST
      obtain ⟨ks, l2⟩ := ST
      simp only at *
      obtain ⟨hbl1, rfl⟩ := hbl
      go_wp2_with fail
      refine HT.out.mono ?_
      rintro e w2 ⟨rfl, b2⟩
      have M2 : Hid (Mving w w2 w1.heap.size g1 ord.length cap1 (.slice ak ks.length ck) (.slice al l2.length cl) mo ks l2) := MR.out.below b2
      have HB : Hid (Calls Tryz.prog 119 #[.pointer (some ⟨w1.heap.size, 0, none⟩), .int .i64 ((0 : Nat) : Int), .int .u64 (tk : Nat)] w2 fun e w' => e = .returned (.int .i64 (Cho.build mo tk ks).2) ∧
        ∃ nv', w'.heap[w1.heap.size]? = some (.cells #[.slice (some ⟨g1, 0, none⟩) mo.length cap1, nv'] 54 (0, 0)) ∧
          w'.ownsRow w1.heap.size 153 3 nv' (Cho.build mo tk ks).1.length (flat (Cho.build mo tk ks).1) ∧ Below w1.heap.size w2 w' ∧ Kd w1.heap.size w2 w') := by
        have hdia := M2.out.dia
        rw [← HML.out] at hdia
        have hp2 := Cho.two_pow_le _ (by rw [HML.out]; exact hn6 : mo.length ≤ 6)
        exact build_calls w1.heap.size w1.heap.size g1 cap1 mo (Nat.le_refl _) M2.out.olt.2 (by have := M2.out.olt; omega) HM6.out (by rw [HML.out]; exact hn6) mo 0 tk ks _ w2 rfl (Nat.zero_le _) HUK'.out (HCOL.out.below M2.out.bel (cols_pos HCOL.out)) M2.out.oat hdia M2.out.row (by omega)
      clear MR HT b2
      go_wp2_with fail
      refine HB.out.mono ?_
      rintro e w3 ⟨rfl, nv3, hd3, hr3, b3, k3⟩
      rw [HML.out] at hd3
      have M3 : Hid (Mving w w3 w1.heap.size g1 ord.length cap1 nv3 (.slice al l2.length cl) mo (Cho.build mo tk ks).1 l2) := M2.out.built hd3 hr3 b3 k3
      clear M2 HB hd3 hr3 b3 k3
      generalize hBL : Cho.build mo tk ks = BL at *
      clear hBL
      obtain ⟨ks3, x3⟩ := BL
      simp only at *
      have hd3 := M3.out.lt
      have F1 : Hid (l2.length + 1 ≤ maxLen) := by show l2.length + 1 ≤ maxLen; unfold maxLen; omega
      have F2 : Hid ((l2.length + 1) * 8 ≤ 140737488355328) := by show (l2.length + 1) * 8 ≤ 140737488355328; omega
      have F3 : Hid (w1.heap.size ≤ (w3.alloc (.cells #[.int .i64 (x3 : Nat)] 59)).heap.size) := by show w1.heap.size ≤ (w3.alloc (.cells #[.int .i64 (x3 : Nat)] 59)).heap.size; simp; omega
      have O3 : Hid ((w3.alloc (.cells #[.int .i64 (x3 : Nat)] 59)).ownsRow w1.heap.size 59 1 (.slice al l2.length cl) l2.length (lv l2)) := M3.out.lrow.alloc _
      go_wp2_with (at_builtin; go_must (refine wpList_append_own _ rfl _ _ 110 rfl w1.heap.size 59 i0 _ 1 8 Tryz.underlying110 hi0 hz0 hz1 hz2 rfl (Nat.succ_pos 0) (.slice al l2.length cl) l2.length (lv l2) ?e1 O3.out ⟨w3.heap.size, 0, none⟩ 1 1 [.int .i64 (x3 : Nat)] ?e2 rfl (new_cells w3 [.int .i64 (x3 : Nat)] _) ?e3 F1.out F2.out F3.out ?_); (case e1 => rfl); (case e2 => rfl); (case e3 => simp [Value.oneCell']); intro v' w4 hown hgrow _; have M4 : Hid (Mving w w4 w1.heap.size g1 ord.length cap1 nv3 v' mo ks3 (l2 ++ [x3])) := M3.out.led hown hgrow; clear hown hgrow)
      refine ⟨⟨l2.length + 1, nv3, hkl, by go_num, ?_⟩, by simp [intOf]; omega⟩
      rw [HNX.out]
      exact M4
    · have ek : k = ls.length := by omega
      subst ek
      have r0 := cell_of_block MR.out.res 0
      have r1 := cell_of_block MR.out.res 1
      have f0 := frozen_of_block MR.out.res 0
      have f1 := frozen_of_block MR.out.res 1
      have d0 := cell_of_block MR.out.dia 0
      have d1 := cell_of_block MR.out.dia 1
      have holt := MR.out.olt
      have hne : ¬ w.heap.size = w1.heap.size := by omega
      generalize hST : Cho.bldsTo mo ts ls.length = ST at *
      clear hST
      obtain ⟨ks, l2⟩ := ST
      simp only at *
      have FIN : Hid (∀ W, W = (wr.setCell ⟨w.heap.size, 0, none⟩ (.slice (some ⟨g1, 0, none⟩) ord.length cap1)).setCell ⟨w.heap.size, 1, none⟩ (.slice ak ks.length ck) → DgV W g1 ord.length cap1 (.slice ak ks.length ck) (.slice al l2.length cl) mvd ∧ Below w.heap.size w W) := by
        rintro W rfl
        rw [HMVE.out]
        have kp : ∀ q, q ≠ w.heap.size → ((wr.setCell ⟨w.heap.size, 0, none⟩ (.slice (some ⟨g1, 0, none⟩) ord.length cap1)).setCell ⟨w.heap.size, 1, none⟩ (.slice ak ks.length ck)).heap[q]? = wr.heap[q]? := fun q hq => by rw [block_set_other hq, block_set_other hq]
        obtain ⟨cur, hcur⟩ := MR.out.oblk
        refine ⟨⟨⟨HML.out.symm, hcap1, fun i hi => (World.cell?_of_block (a := ⟨g1, i, none⟩) (kp g1 (by omega))).trans (MR.out.oat i hi), cur, (kp g1 (by omega)).trans hcur⟩, ?_, ?_⟩, (MR.out.bel.setCell (Nat.le_refl _) _).setCell (Nat.le_refl _) _⟩
        · exact owns_low (owns_kept MR.out.row fun q hq => kp q (by have := (MR.out.row.lt q hq).1; omega)) (Nat.zero_le _)
        · exact owns_low (owns_kept MR.out.lrow fun q hq => kp q (by have := (MR.out.lrow.lt q hq).1; omega)) (Nat.zero_le _)
      clear MR
      go_wp2_with fail
      refine bodyPost_ret (v := .tuple #[.agg #[.slice (some ⟨g1, 0, none⟩) ord.length cap1, .slice ak ks.length ck], .slice al l2.length cl]) (by simp [results, Tryz.results101, go_sem, r0, r1]) rfl ⟨_, _, _, _, rfl, FIN.out _ rfl⟩
end Go.Proofs.YthoodkbdpnffdabGreatDoor
