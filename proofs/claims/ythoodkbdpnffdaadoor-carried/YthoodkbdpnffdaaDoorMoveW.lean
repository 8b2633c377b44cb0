/-
  Own work: 'Move' builds all functions anew by an order with one variable moved (a walk).
-/
import Derived.Test.YthoodkbdpnffdaaDoorOrderW
import Derived.Test.YthoodkbdpnffdaaDoorStoreM
namespace Go.Proofs.YthoodkbdpnffdaaDoor
open Go.RowKit
open Cho (U64 Tab full col Nd Red Dg)

/-- While Move goes over the links: its result's block, the new diagram in block d by the order in block g, the links there. -/
structure Mving (w wr : World) (d g n cap : Nat) (kv lw : Value) (ord : List Nat) (ks : List Nd) (ls : List Nat) : Prop where
  res : wr.heap[w.heap.size]? = some (.cells #[.slice none 0 0, .slice none 0 0] 91 (0, 0))
  dia : wr.heap[d]? = some (.cells #[.slice (some ⟨g, 0, none⟩) n cap, kv] 91 (0, 0))
  oat : OrdAt wr g ord
  oblk : ∃ cur, wr.heap[g]? = some (.cells cur 3 (0, 0))
  olt : w.heap.size < g ∧ g < d
  row : wr.ownsRow d 122 3 kv ks.length (flat ks)
  lrow : wr.ownsRow d 81 1 lw ls.length (lv ls)
  bel : Below w.heap.size w wr
theorem Mving.lt {w wr : World} {d g n cap : Nat} {kv lw : Value} {ord : List Nat} {ks : List Nd} {ls : List Nat} (h : Mving w wr d g n cap kv lw ord ks ls) : d < wr.heap.size := lt_of_block h.dia
/-- Where nothing old turns. -/
theorem Mving.below {w wr w1 : World} {d g n cap : Nat} {kv lw : Value} {ord : List Nat} {ks : List Nd} {ls : List Nat} (h : Mving w wr d g n cap kv lw ord ks ls) (hb : Below wr.heap.size wr w1) : Mving w w1 d g n cap kv lw ord ks ls := by
  have hd := h.lt
  have ho := h.olt
  obtain ⟨cur, hcur⟩ := h.oblk
  have kp : ∀ k, k < wr.heap.size → w1.heap[k]? = wr.heap[k]? := fun k hk => hb.block k hk
  exact ⟨(kp _ (by omega)).trans h.res, (kp _ hd).trans h.dia, fun i hi => (World.cell?_of_block (a := ⟨g, i, none⟩) (kp g (by omega))).trans (h.oat i hi), ⟨cur, (kp g (by omega)).trans hcur⟩, ho, owns_kept h.row fun q hq => kp q (h.row.lt q hq).2, owns_kept h.lrow fun q hq => kp q (h.lrow.lt q hq).2, h.bel.trans (hb.mono h.bel.size)⟩
/-- A table's nodes are built. -/
theorem Mving.built {w wr w1 : World} {d g n cap : Nat} {kv kv' lw : Value} {ord : List Nat} {ks ks' : List Nd} {ls : List Nat} (h : Mving w wr d g n cap kv lw ord ks ls)
    (hd' : w1.heap[d]? = some (.cells #[.slice (some ⟨g, 0, none⟩) n cap, kv'] 91 (0, 0))) (hr : w1.ownsRow d 122 3 kv' ks'.length (flat ks')) (hb : Below d wr w1) (hk : Kd d wr w1) : Mving w w1 d g n cap kv' lw ord ks' ls := by
  have hd := h.lt
  have ho := h.olt
  obtain ⟨cur, hcur⟩ := h.oblk
  refine ⟨(hb.block _ (by omega)).trans h.res, hd', fun i hi => (World.cell?_of_block (a := ⟨g, i, none⟩) (hb.block g ho.2)).trans (h.oat i hi), ⟨cur, (hb.block g ho.2).trans hcur⟩, ho, hr, owns_kept h.lrow fun q hq => ?_, h.bel.trans (hb.mono (by omega))⟩
  obtain ⟨_, ⟨rfl, _⟩ | ⟨g', cap', cu, rfl, _, hg2, _⟩⟩ := h.lrow
  · simp [Value.ownBlock] at hq
  · obtain rfl : g' = q := by simpa [Value.ownBlock] using hq
    refine hk g' cu _ hg2 (by decide) ?_
    rintro rfl
    rw [h.dia] at hg2; simp at hg2
/-- A link more. -/
theorem Mving.led {w wr w1 : World} {d g n cap : Nat} {kv lw lw' : Value} {ord : List Nat} {ks : List Nd} {ls : List Nat} {x : Nat} {o : Obj} (h : Mving w wr d g n cap kv lw ord ks ls)
    (hr : w1.ownsRow d 81 1 lw' (ls.length + 1) (lv ls ++ [.int .i64 (x : Nat)])) (hg : (wr.alloc o).grownBy w1 lw.ownBlock) : Mving w w1 d g n cap kv lw' ord ks (ls ++ [x]) := by
  have hd := h.lt
  have ho := h.olt
  obtain ⟨cur, hcur⟩ := h.oblk
  have kp : ∀ (k : Nat) (c : Array Value) (T : TypeId), wr.heap[k]? = some (.cells c T (0, 0)) → T ≠ 81 → w1.heap[k]? = wr.heap[k]? := by
    intro k c T hk hT
    have hkw := lt_of_block hk
    refine (hg.block k (by simp; omega) ?_).trans (Below.heap_alloc _ _ _ hkw)
    intro e
    obtain ⟨_, ⟨rfl, _⟩ | ⟨g', cap', cu, rfl, _, hg2, _⟩⟩ := h.lrow
    · simp [Value.ownBlock] at e
    · obtain rfl : k = g' := by simpa [Value.ownBlock] using e
      rw [hk] at hg2; simp at hg2; exact hT hg2.2
  refine ⟨(kp _ _ _ h.res (by decide)).trans h.res, (kp _ _ _ h.dia (by decide)).trans h.dia, fun i hi => (World.cell?_of_block (a := ⟨g, i, none⟩) (kp g _ _ hcur (by decide))).trans (h.oat i hi), ⟨cur, (kp g _ _ hcur (by decide)).trans hcur⟩, ho, owns_kept h.row fun q hq => ?_, ?_, ?_⟩
  · obtain ⟨_, ⟨rfl, _⟩ | ⟨g', cap', cu, rfl, _, hg2, _⟩⟩ := h.row
    · simp [Value.ownBlock] at hq
    · obtain rfl : g' = q := by simpa [Value.ownBlock] using hq
      exact kp g' _ _ hg2 (by decide)
  · rw [lv_snoc] at hr
    simpa using hr
  · exact (h.bel.alloc (by omega) o).grown hg (by simp; omega) (fun q hq => by have := (h.lrow.lt q hq).1; omega)
theorem mving0 {w w1 : World} {g n cap : Nat} {ord : List Nat} (l : OwnI (w.alloc (.cells #[.slice none 0 0, .slice none 0 0] 91)) w1 g n cap ord) :
    Mving w ((w1.alloc (.cells #[.slice (some ⟨g, 0, none⟩) n cap, .slice none 0 0] 91)).alloc (.cells #[] 81)) w1.heap.size g n cap (.slice none 0 0) (.slice (some ⟨w1.heap.size + 1, 0, none⟩) 0 0) ord [] [] := by
  obtain ⟨cur, hcur, hgB, hcap⟩ := l.blk
  have hgl := lt_of_block hcur
  have hs := l.bel.size
  simp only [World.alloc, Array.size_push] at hgB hs
  have kp : ∀ k, k < w1.heap.size → ((w1.alloc (.cells #[.slice (some ⟨g, 0, none⟩) n cap, .slice none 0 0] 91)).alloc (.cells #[] 81)).heap[k]? = w1.heap[k]? := fun k hk =>
    (Below.heap_alloc _ _ _ (by simp; omega)).trans (Below.heap_alloc _ _ _ hk)
  refine ⟨(kp _ (by omega)).trans ((l.bel.block _ (by simp)).trans (heap_res _ _)), (Below.heap_alloc _ _ _ (by simp)).trans (heap_res _ _), ?_, ⟨cur, (kp g hgl).trans hcur⟩, ⟨by omega, hgl⟩, World.ownsRow_nil _ _ _ _, ?_, ?_⟩
  · intro i hi
    refine (World.cell?_of_block (a := ⟨g, i, none⟩) (kp g hgl)).trans ((l.cell i hi).trans ?_)
    simp [List.getD, hi]
  · have := World.ownsRow_made (w1.alloc (.cells #[.slice (some ⟨g, 0, none⟩) n cap, .slice none 0 0] 91)) (e := 81) (size := 1) (base := w1.heap.size) #[] 0 (by simp) (by simp) rfl
    simpa [lv] using this
  · exact ((((Below.refl _ w).alloc (Nat.le_refl _) _).trans (l.bel.mono (by simp))).alloc (by omega) _).alloc (by simp; omega) _

/-- What holds of an order's list in memory. -/
def OrdV (w : World) (g n cap : Nat) (ord : List Nat) : Prop := n = ord.length ∧ n ≤ cap ∧ OrdAt w g ord ∧ ∃ cur, w.heap[g]? = some (.cells cur 3 (0, 0))
/-- A diagram that a call answers, with its links. -/
structure DgV (w : World) (g n cap : Nat) (kv lw : Value) (d : Dg) : Prop where
  ord : OrdV w g n cap d.ord
  row : w.ownsRow 0 122 3 kv d.ns.length (flat d.ns)
  lrow : w.ownsRow 0 81 1 lw d.ls.length (lv d.ls)
theorem tabTo_bld (ns : List Nd) (l k : Nat) : tabTo ns l k = Cho.bld (Cho.ev ns l) k := by
  induction k with
  | zero => rfl
  | succ k ih => simp only [tabTo, Cho.bld, ih]
theorem bldsTo_len (ord ts : List Nat) (h : ord.length ≤ 6) (k : Nat) : (Cho.bldsTo ord ts k).1.length ≤ 63 * k ∧ (Cho.bldsTo ord ts k).2.length = k := by
  induction k with
  | zero => simp [Cho.bldsTo]
  | succ k ih =>
    have := Cho.build_len ord (ts.getD k 0) (Cho.bldsTo ord ts k).1
    have hp := Cho.two_pow_le _ h
    simp only [Cho.bldsTo, List.length_append, List.length_cons, List.length_nil]
    omega

set_option maxRecDepth 100000 in
set_option maxHeartbeats 4000000 in
theorem move_calls (s off B go capo g o capl f t : Nat) (ord : List Nat) (ns : List Nd) (nv : Value) (ls : List Nat) (w : World) (h0 : w.cell? ⟨s, off, none⟩ = some (.slice (some ⟨go, 0, none⟩) ord.length capo)) (h1 : w.cell? ⟨s, off + 1, none⟩ = some nv) (hr : w.ownsRow B 122 3 nv ns.length (flat ns))
    (ho : OrdAt w go ord) (hc : Cols w) (hl : ∀ i (hi : i < ls.length), w.cell? ⟨g, o + i, none⟩ = some (.int .i64 (ls[i] : Nat))) (hlt : ∀ l ∈ ls, l < ns.length + 2) (hw : Cho.Wf ns) (hv : ∀ n ∈ ns, n.1 < 6) (hn : ns.length ≤ 4000) (hls : ls.length ≤ 30) (hn6 : ord.length ≤ 6) (ho6 : ∀ v ∈ ord, v < 6) (hf : f < ord.length) (ht : t < ord.length) :
    Calls Tryd.prog 65 #[.pointer (some ⟨s, off, none⟩), .int .i64 f, .int .i64 t, .slice (some ⟨g, o, none⟩) ls.length capl] w fun e w' => ∃ g' cap' kv lw,
      e = .returned (.tuple #[.agg #[.slice (some ⟨g', 0, none⟩) ord.length cap', kv], lw]) ∧ DgV w' g' ord.length cap' kv lw ((⟨ord, ns, ls⟩ : Dg).move f t) ∧ Below w.heap.size w w' := by
  obtain ⟨i0, hi0, hz0, hz1, hz2⟩ := info_parts Tryd.infoLink
  have hs := World.block_lt_of_cell? w _ h1
  simp only at hs
  have hgo : go < w.heap.size := World.block_lt_of_cell? w _ (ho 0 (by omega))
  have HO : Hid (Calls Tryd.prog 75 #[.pointer (some ⟨s, off, none⟩), .int .i64 f, .int .i64 t] (w.alloc (.cells #[.slice none 0 0, .slice none 0 0] 91)) fun e w' => ∃ g cap, e = .returned (.slice (some ⟨g, 0, none⟩) ord.length cap) ∧ OwnI (w.alloc (.cells #[.slice none 0 0, .slice none 0 0] 91)) w' g ord.length cap (Cho.mv ord f t)) :=
    dmoved_calls s off go capo f t ord _ (with_al h0) (fun i hi => with_al (ho i hi)) hn6 hf ht
  have HL : Hid (∀ i (hi : i < ls.length), w.cell? ⟨g, o + i, none⟩ = some (.int .i64 (ls[i] : Nat))) := hl
  have hp := Cho.mv_perm ord f t hn6 hf ht
  have HM6 : Hid (∀ v ∈ Cho.mv ord f t, v < 6) := fun v hv => ho6 v (hp.mem_iff.1 hv)
  have HML : Hid ((Cho.mv ord f t).length = ord.length) := Cho.mv_len ord f t
  have HCOL : Hid (Cols w) := hc
  have HTAB : Hid (∀ W i (hi : i < ls.length), Below w.heap.size w W → Calls Tryd.prog 70 #[.pointer (some ⟨s, off, none⟩), .int .i64 (ls[i] : Nat)] W fun e w' => e = .returned (.int .u64 ((⟨ord, ns, ls⟩ : Dg).tabs.getD i 0 : Nat)) ∧ Below W.heap.size W w') := by
    intro W i hi hb
    have := dtable_calls s off B ord.length capo _ ns nv ls[i] W ((hb.cell (p := ⟨s, off, none⟩) hs).trans h0) ((hb.cell (p := ⟨s, off + 1, none⟩) hs).trans h1) (owns_kept hr fun q hq => hb.block q (hr.lt q hq).2) hw hv (hlt _ (List.getElem_mem hi)) hn6 (by omega)
    rw [tabTo_bld] at this
    rw [show (⟨ord, ns, ls⟩ : Dg).tabs.getD i 0 = Cho.bld (Cho.ev ns ls[i]) (2 ^ ord.length) from by simp [Dg.tabs, List.getD, hi]]
    exact this
  have HMVE : Hid ((⟨ord, ns, ls⟩ : Dg).move f t = ⟨Cho.mv ord f t, (Cho.bldsTo (Cho.mv ord f t) (⟨ord, ns, ls⟩ : Dg).tabs ls.length).1, (Cho.bldsTo (Cho.mv ord f t) (⟨ord, ns, ls⟩ : Dg).tabs ls.length).2⟩) := rfl
  have HTU : Hid (∀ i, i < ls.length → U64 ((⟨ord, ns, ls⟩ : Dg).tabs.getD i 0)) := by
    intro i hi
    rw [show (⟨ord, ns, ls⟩ : Dg).tabs.getD i 0 = Cho.bld (Cho.ev ns ls[i]) (2 ^ ord.length) from by simp [Dg.tabs, List.getD, hi]]
    exact Cho.bld_u64 _ _ (Cho.two_pow_le _ hn6)
  clear hr ho hc hl hlt hw hv hp ho6
  generalize (⟨ord, ns, ls⟩ : Dg).tabs = ts at *
  generalize (⟨ord, ns, ls⟩ : Dg).move f t = mvd at *
  generalize Cho.mv ord f t = mo at *
  go_enter Tryd.func65, Tryd.ntmps65
  go_wp2_with fail
  refine HO.out.mono ?_
  rintro e w1 ⟨g1, cap1, rfl, l1⟩
  have M0 : Hid (Mving w ((w1.alloc (.cells #[.slice (some ⟨g1, 0, none⟩) ord.length cap1, .slice none 0 0] 91)).alloc (.cells #[] 81)) w1.heap.size g1 ord.length cap1 (.slice none 0 0) (.slice (some ⟨w1.heap.size + 1, 0, none⟩) 0 0) mo (Cho.bldsTo mo ts 0).1 (Cho.bldsTo mo ts 0).2) := mving0 l1
  have hcap1 : ord.length ≤ cap1 := by obtain ⟨_, _, _, h⟩ := l1.blk; exact h
  clear l1 HO
  go_wp2_with fail
  go_loopw [11, 24] (fun x11 x24 wr => ∃ (k : Nat) (kv : Value), k ≤ ls.length ∧ x24 = .int .i64 k ∧ Hid (Mving w wr w1.heap.size g1 ord.length cap1 kv x11 mo (Cho.bldsTo mo ts k).1 (Cho.bldsTo mo ts k).2)) (fun _ x24 _ => ls.length - (intOf x24).toNat)
  case atStart => exact ⟨0, _, Nat.zero_le _, rfl, M0⟩
  case round =>
    obtain ⟨k, kv, hk, rfl, MR⟩ := hrel
    clear M0
    obtain ⟨al, cl, rfl⟩ := owns_slice MR.out.lrow
    obtain ⟨ak, ck, rfl⟩ := owns_slice MR.out.row
    have hbl := bldsTo_len mo ts (by rw [HML.out]; exact hn6) k
    have hdlt := MR.out.lt
    by_cases hkl : k < ls.length
    · have e1 : wr.cell? ⟨g, o + k, none⟩ = some (.int .i64 (ls[k] : Nat)) := by
        have h := HL.out k hkl
        have hgw := World.block_lt_of_cell? w _ h
        exact (MR.out.bel.cell (p := ⟨g, o + k, none⟩) hgw).trans h
      have HT : Hid (Calls Tryd.prog 70 #[.pointer (some ⟨s, off, none⟩), .int .i64 (ls[k] : Nat)] wr fun e w' => e = .returned (.int .u64 (ts.getD k 0 : Nat)) ∧ Below wr.heap.size wr w') := HTAB.out wr k hkl MR.out.bel
      have HNX : Hid (Cho.bldsTo mo ts (k + 1) = ((Cho.build mo (ts.getD k 0) (Cho.bldsTo mo ts k).1).1, (Cho.bldsTo mo ts k).2 ++ [(Cho.build mo (ts.getD k 0) (Cho.bldsTo mo ts k).1).2])) := rfl
      have HUK := HTU.out k hkl
      have HUK' : Hid (U64 (ts.getD k 0)) := HUK
      clear HUK
      generalize ls[k] = lk at *
      generalize ts.getD k 0 = tk at *
      generalize hST : Cho.bldsTo mo ts k = ST at *
      clear hST
      obtain ⟨ks, l2⟩ := ST
      simp only at *
      obtain ⟨hbl1, rfl⟩ := hbl
      go_wp2_with fail
      refine HT.out.mono ?_
      rintro e w2 ⟨rfl, b2⟩
      have M2 : Hid (Mving w w2 w1.heap.size g1 ord.length cap1 (.slice ak ks.length ck) (.slice al l2.length cl) mo ks l2) := MR.out.below b2
      have HB : Hid (Calls Tryd.prog 76 #[.pointer (some ⟨w1.heap.size, 0, none⟩), .int .i64 ((0 : Nat) : Int), .int .u64 (tk : Nat)] w2 fun e w' => e = .returned (.int .i64 (Cho.build mo tk ks).2) ∧
        ∃ nv', w'.heap[w1.heap.size]? = some (.cells #[.slice (some ⟨g1, 0, none⟩) mo.length cap1, nv'] 91 (0, 0)) ∧
          w'.ownsRow w1.heap.size 122 3 nv' (Cho.build mo tk ks).1.length (flat (Cho.build mo tk ks).1) ∧ Below w1.heap.size w2 w' ∧ Kd w1.heap.size w2 w') := by
        have hdia := M2.out.dia
        rw [← HML.out] at hdia
        have hp2 := Cho.two_pow_le _ (by rw [HML.out]; exact hn6 : mo.length ≤ 6)
        exact build_calls w1.heap.size w1.heap.size g1 cap1 mo (Nat.le_refl _) M2.out.olt.2 (by have := M2.out.olt; omega) HM6.out (by rw [HML.out]; exact hn6) mo 0 tk ks _ w2 rfl (Nat.zero_le _) HUK'.out (HCOL.out.below M2.out.bel (cols_pos HCOL.out)) M2.out.oat hdia M2.out.row (by omega)
      clear MR HT b2
      go_wp2_with fail
      refine HB.out.mono ?_
      rintro e w3 ⟨rfl, nv3, hd3, hr3, b3, k3⟩
      rw [HML.out] at hd3
      have M3 : Hid (Mving w w3 w1.heap.size g1 ord.length cap1 nv3 (.slice al l2.length cl) mo (Cho.build mo tk ks).1 l2) := M2.out.built hd3 hr3 b3 k3
      clear M2 HB hd3 hr3 b3 k3
      generalize hBL : Cho.build mo tk ks = BL at *
      clear hBL
      obtain ⟨ks3, x3⟩ := BL
      simp only at *
      have hd3 := M3.out.lt
      have F1 : Hid (l2.length + 1 ≤ maxLen) := by show l2.length + 1 ≤ maxLen; unfold maxLen; omega
      have F2 : Hid ((l2.length + 1) * 8 ≤ 140737488355328) := by show (l2.length + 1) * 8 ≤ 140737488355328; omega
      have F3 : Hid (w1.heap.size ≤ (w3.alloc (.cells #[.int .i64 (x3 : Nat)] 81)).heap.size) := by show w1.heap.size ≤ (w3.alloc (.cells #[.int .i64 (x3 : Nat)] 81)).heap.size; simp; omega
      have O3 : Hid ((w3.alloc (.cells #[.int .i64 (x3 : Nat)] 81)).ownsRow w1.heap.size 81 1 (.slice al l2.length cl) l2.length (lv l2)) := M3.out.lrow.alloc _
      go_wp2_with (at_builtin; go_must (refine wpList_append_own _ rfl _ _ 101 rfl w1.heap.size 81 i0 _ 1 8 Tryd.underlying101 hi0 hz0 hz1 hz2 rfl (Nat.succ_pos 0) (.slice al l2.length cl) l2.length (lv l2) ?e1 O3.out ⟨w3.heap.size, 0, none⟩ 1 1 [.int .i64 (x3 : Nat)] ?e2 rfl (new_cells w3 [.int .i64 (x3 : Nat)] _) ?e3 F1.out F2.out F3.out ?_); (case e1 => rfl); (case e2 => rfl); (case e3 => simp [Value.oneCell']); intro v' w4 hown hgrow _; have M4 : Hid (Mving w w4 w1.heap.size g1 ord.length cap1 nv3 v' mo ks3 (l2 ++ [x3])) := M3.out.led hown hgrow; clear hown hgrow)
      refine ⟨⟨l2.length + 1, nv3, hkl, by go_num, ?_⟩, by simp [intOf]; omega⟩
      rw [HNX.out]
      exact M4
    · have ek : k = ls.length := by omega
      subst ek
      have r0 := cell_of_block MR.out.res 0
      have r1 := cell_of_block MR.out.res 1
      have f0 := frozen_of_block MR.out.res 0
      have f1 := frozen_of_block MR.out.res 1
      have d0 := cell_of_block MR.out.dia 0
      have d1 := cell_of_block MR.out.dia 1
      have holt := MR.out.olt
      have hne : ¬ w.heap.size = w1.heap.size := by omega
      generalize hST : Cho.bldsTo mo ts ls.length = ST at *
      clear hST
      obtain ⟨ks, l2⟩ := ST
      simp only at *
      have FIN : Hid (∀ W, W = (wr.setCell ⟨w.heap.size, 0, none⟩ (.slice (some ⟨g1, 0, none⟩) ord.length cap1)).setCell ⟨w.heap.size, 1, none⟩ (.slice ak ks.length ck) → DgV W g1 ord.length cap1 (.slice ak ks.length ck) (.slice al l2.length cl) mvd ∧ Below w.heap.size w W) := by
        rintro W rfl
        rw [HMVE.out]
        have kp : ∀ q, q ≠ w.heap.size → ((wr.setCell ⟨w.heap.size, 0, none⟩ (.slice (some ⟨g1, 0, none⟩) ord.length cap1)).setCell ⟨w.heap.size, 1, none⟩ (.slice ak ks.length ck)).heap[q]? = wr.heap[q]? := fun q hq => by rw [block_set_other hq, block_set_other hq]
        obtain ⟨cur, hcur⟩ := MR.out.oblk
        refine ⟨⟨⟨HML.out.symm, hcap1, fun i hi => (World.cell?_of_block (a := ⟨g1, i, none⟩) (kp g1 (by omega))).trans (MR.out.oat i hi), cur, (kp g1 (by omega)).trans hcur⟩, ?_, ?_⟩, (MR.out.bel.setCell (Nat.le_refl _) _).setCell (Nat.le_refl _) _⟩
        · exact owns_low (owns_kept MR.out.row fun q hq => kp q (by have := (MR.out.row.lt q hq).1; omega)) (Nat.zero_le _)
        · exact owns_low (owns_kept MR.out.lrow fun q hq => kp q (by have := (MR.out.lrow.lt q hq).1; omega)) (Nat.zero_le _)
      clear MR
      go_wp2_with fail
      refine bodyPost_ret (v := .tuple #[.agg #[.slice (some ⟨g1, 0, none⟩) ord.length cap1, .slice ak ks.length ck], .slice al l2.length cl]) (by simp [results, Tryd.results65, go_sem, r0, r1]) rfl ⟨_, _, _, _, rfl, FIN.out _ rfl⟩
end Go.Proofs.YthoodkbdpnffdaaDoor
