/-
  Own work: 'Keep' leaves the nodes that are called for, as the plain function does (a walk).
-/
import Derived.Test.YthoodkbdpnffdaaDoorReachW
import Derived.Test.YthoodkbdpnffdaaDoorStoreA
import Derived.Test.YthoodkbdpnffdaaDoorPlainJ
namespace Go.Proofs.YthoodkbdpnffdaaDoor
open Go.RowKit
open Cho (U64 Tab full col Nd)

theorem Tryd.infoLink : (Tryd.prog.info? 81).map (fun i => (i.zero, i.size, i.bytes)) = some (some (.int .i64 0), 1, 8) := by kernel_rfl
theorem made_links (n : Nat) : madeCells #[Value.int .i64 0] n = (lv (List.replicate n 0)).toArray := by
  unfold madeCells lv
  apply Array.ext
  · simp
  · intro i h1 h2
    simp [Nat.mod_one]

/-- While Keep goes over the nodes: its result's block, the marks, the kept diagram, where links have moved to. -/
structure Keeping (w wr : World) (d : Nat) (n : Nat) (ov kv : Value) (R : List Bool) (mv : List Nat) (ks : List Nd) : Prop where
  res : wr.heap[w.heap.size]? = some (.cells #[.slice none 0 0, .slice none 0 0] 91 (0, 0))
  marks : wr.heap[w.heap.size + 1]? = some (.cells (bc R).toArray 4 (0, 0))
  dia : wr.heap[d]? = some (.cells #[ov, kv] 91 (0, 0))
  mov : wr.heap[d + 1]? = some (.cells (lv mv).toArray 81 (0, 0))
  row : wr.ownsRow (d + 2) 122 3 kv ks.length (flat ks)
  lo : w.heap.size + 2 ≤ d
  rlen : R.length = n + 2
  mlen : mv.length = n + 2
  bel : Below w.heap.size w wr

theorem Keeping.size {w wr : World} {d n : Nat} {ov kv : Value} {R : List Bool} {mv : List Nat} {ks : List Nd} (h : Keeping w wr d n ov kv R mv ks) : d + 1 < wr.heap.size := lt_of_block h.mov
/-- New blocks turn nothing of it. -/
theorem Keeping.alloc {w wr : World} {d n : Nat} {ov kv : Value} {R : List Bool} {mv : List Nat} {ks : List Nd} (h : Keeping w wr d n ov kv R mv ks) (o : Obj) : Keeping w (wr.alloc o) d n ov kv R mv ks := by
  have hs := h.size
  have hlo := h.lo
  exact ⟨(Below.heap_alloc _ _ _ (by omega)).trans h.res, (Below.heap_alloc _ _ _ (by omega)).trans h.marks, (Below.heap_alloc _ _ _ (by omega)).trans h.dia, (Below.heap_alloc _ _ _ (by omega)).trans h.mov, h.row.alloc o, h.lo, h.rlen, h.mlen, h.bel.alloc (by omega) o⟩
theorem lv_get (l : List Nat) (i : Nat) (h : i < l.length) : (lv l)[i]? = some (.int .i64 (l.getD i 0 : Nat)) := by simp [lv, List.getD, h]
theorem Keeping.mark {w wr : World} {d n : Nat} {ov kv : Value} {R : List Bool} {mv : List Nat} {ks : List Nd} (h : Keeping w wr d n ov kv R mv ks) (i : Nat) (hi : i < n + 2) : wr.cell? ⟨w.heap.size + 1, i, none⟩ = some (.bool (R.getD i false)) := by
  rw [cell_of_block h.marks, List.getElem?_toArray, bc_get _ _ (by rw [h.rlen]; exact hi)]
theorem Keeping.moved {w wr : World} {d n : Nat} {ov kv : Value} {R : List Bool} {mv : List Nat} {ks : List Nd} (h : Keeping w wr d n ov kv R mv ks) (i : Nat) (hi : i < n + 2) : wr.cell? ⟨d + 1, i, none⟩ = some (.int .i64 (mv.getD i 0 : Nat)) := by
  rw [cell_of_block h.mov, List.getElem?_toArray, lv_get _ _ (by rw [h.mlen]; exact hi)]
/-- A link moves. -/
theorem Keeping.set {w wr : World} {d n : Nat} {ov kv : Value} {R : List Bool} {mv : List Nat} {ks : List Nd} (h : Keeping w wr d n ov kv R mv ks) (i x : Nat) : Keeping w (wr.setCell ⟨d + 1, i, none⟩ (.int .i64 x)) d n ov kv R (mv.set i x) ks := by
  have hlo := h.lo
  refine ⟨(block_set_other (by simp; omega)).trans h.res, (block_set_other (by simp; omega)).trans h.marks, (block_set_other (by simp)).trans h.dia, ?_, ?_, h.lo, h.rlen, by simp [h.mlen], h.bel.setCell (by simp; omega) _⟩
  · rw [block_set h.mov, lv_set]
  · exact owns_kept h.row fun g hg => block_set_other (by have := (h.row.lt g hg).1; simp; omega)
/-- A node is added behind. -/
theorem Keeping.add {w wr w1 : World} {d n : Nat} {ov kv kv' : Value} {R : List Bool} {mv : List Nat} {ks : List Nd} {q : Nd} {o : Obj} (h : Keeping w wr d n ov kv R mv ks)
    (hr : w1.ownsRow (d + 2) 122 3 kv' (ks.length + 1) (flat ks ++ nodeCells q)) (hg : (wr.alloc o).drew.grownBy w1 kv.ownBlock) : Keeping w (w1.setCell ⟨d, 1, none⟩ kv') d n ov kv' R mv (ks ++ [q]) := by
  have hlo := h.lo
  have hs := h.size
  have hlt := h.row.lt
  have nb : ∀ b, b < d + 2 → some b ≠ kv.ownBlock := fun b hb e => by have := (hlt b e.symm).1; omega
  have kp : ∀ b o', b < d + 2 → wr.heap[b]? = some o' → w1.heap[b]? = some o' := fun b o' hb ho =>
    (hg.block b (by have := lt_of_block ho; simp; omega) (nb b hb)).trans ((Below.heap_alloc _ _ _ (lt_of_block ho)).trans ho)
  refine ⟨(block_set_other (by simp; omega)).trans (kp _ _ (by omega) h.res), (block_set_other (by simp; omega)).trans (kp _ _ (by omega) h.marks), block_set1 (kp _ _ (by omega) h.dia), (block_set_other (by simp)).trans (kp _ _ (by omega) h.mov), ?_, h.lo, h.rlen, h.mlen, ?_⟩
  · have e : flat ks ++ nodeCells q = flat (ks ++ [q]) := (flat_snoc ks q).symm
    rw [e] at hr
    simp only [List.length_append, List.length_cons, List.length_nil]
    exact owns_kept hr fun g hgb => block_set_other (by have := (hr.lt g hgb).1; simp; omega)
  · exact ((h.bel.alloc (by omega) o).drew.grown hg (by simp; omega) (fun k hk => by have := (hlt k hk).1; omega)).setCell (by simp; omega) _
theorem Keeping.mid {w wr w1 : World} {d n : Nat} {ov kv : Value} {R : List Bool} {mv : List Nat} {ks : List Nd} {o : Obj} (h : Keeping w wr d n ov kv R mv ks) (hg : (wr.alloc o).drew.grownBy w1 kv.ownBlock) : w1.heap[d]? = some (.cells #[ov, kv] 91 (0, 0)) := by
  have hs := h.size
  exact (hg.block d (by simp; omega) (fun e => by have := (h.row.lt d e.symm).1; omega)).trans ((Below.heap_alloc _ _ _ (by omega)).trans h.dia)

theorem keeping0 {w w1 : World} {ov : Value} {R : List Bool} {ns : List Nd} (hm : Marks (w.alloc (.cells #[.slice none 0 0, .slice none 0 0] 91)) w1 R ns.length) :
    Keeping w ((w1.alloc (.cells #[ov, .slice none 0 0] 91)).alloc (.cells ((madeCells #[Value.int .i64 0] (ns.length + 2)).setIfInBounds 1 (.int .i64 1)) 81)) w1.heap.size ns.length ov (.slice none 0 0) R (Cho.keepTo ns R 0).1 (Cho.keepTo ns R 0).2 := by
  have hlen1 : (w.alloc (.cells #[.slice none 0 0, .slice none 0 0] 91)).heap.size = w.heap.size + 1 := by simp
  have hsz := lt_of_block hm.at'
  rw [hlen1] at hsz
  refine ⟨?_, ?_, ?_, ?_, ?_, by omega, hm.len, Cho.keepTo_len _ _ _, ?_⟩
  · rw [Below.heap_alloc _ _ _ (by simp; omega), Below.heap_alloc _ _ _ (by omega), hm.bel.block _ (by rw [hlen1]; omega)]
    exact heap_res _ _
  · rw [Below.heap_alloc _ _ _ (by simp; omega), Below.heap_alloc _ _ _ (by omega), ← hlen1]
    exact hm.at'
  · rw [Below.heap_alloc _ _ _ (by simp)]
    exact heap_res _ _
  · rw [show w1.heap.size + 1 = (w1.alloc (.cells #[ov, .slice none 0 0] 91)).heap.size from by simp, heap_res]
    rw [made_links]
    simp only [Cho.keepTo]
    rw [← lv_set]
    simp
  · exact World.ownsRow_nil _ _ _ _
  · exact ((((Below.refl _ w).alloc (Nat.le_refl _) _).trans (hm.bel.mono (by rw [hlen1]; omega))).alloc (by omega) _).alloc (by simp; omega) _

theorem owns_low {w : World} {B B' : Nat} {e : TypeId} {sz : Nat} {v : Value} {n : Nat} {xs : List Value} (h : w.ownsRow B e sz v n xs) (hb : B' ≤ B) : w.ownsRow B' e sz v n xs := by
  obtain ⟨hlen, h | ⟨g, cap, cur, rfl, h1, h2⟩⟩ := h
  · exact ⟨hlen, .inl h⟩
  · exact ⟨hlen, .inr ⟨g, cap, cur, rfl, by omega, h2⟩⟩
theorem owns_far {w : World} {B : Nat} {e : TypeId} {sz : Nat} {v x : Value} {n q i : Nat} {xs : List Value} (h : w.ownsRow B e sz v n xs) (hq : q < B) : (w.setCell ⟨q, i, none⟩ x).ownsRow B e sz v n xs :=
  owns_kept h fun g hg => block_set_other (by have := (h.lt g hg).1; simp; omega)
theorem owns_below {w w' : World} {B C : Nat} {e : TypeId} {sz : Nat} {v : Value} {n : Nat} {xs : List Value} (h : w.ownsRow B e sz v n xs) (hb : Below C w w') (hc : C = w.heap.size) : w'.ownsRow B e sz v n xs :=
  owns_kept h fun g hg => hb.block g (by have := (h.lt g hg).2; omega)
theorem own_link (W : World) : (W.alloc (.cells #[] 81)).ownsRow W.heap.size 81 1 (.slice (some ⟨W.heap.size, 0, none⟩) 0 0) 0 [] :=
  World.ownsRow_made W #[] 0 (Nat.le_refl _) (by simp) rfl
theorem lv_snoc (l : List Nat) (x : Nat) : lv l ++ [.int .i64 (x : Int)] = lv (l ++ [x]) := by simp [lv]

theorem set_far {w : World} {s j q i : Nat} {x y : Value} (hq : s ≠ q) (h : w.cell? ⟨s, j, none⟩ = some x) : (w.setCell ⟨q, i, none⟩ y).cell? ⟨s, j, none⟩ = some x :=
  (World.cell?_of_block (block_set_other hq)).trans h
theorem grown_far {W w4 : World} {o : Obj} {s j : Nat} {x v : Value} (hg : (W.alloc o).drew.grownBy w4 v.ownBlock) (hne : v.ownBlock ≠ some s) (h : W.cell? ⟨s, j, none⟩ = some x) : w4.cell? ⟨s, j, none⟩ = some x := by
  have hs := World.block_lt_of_cell? W _ h
  simp only at hs
  exact (World.cell?_of_block (a := ⟨s, j, none⟩) (hg.block s (by simp; omega) (fun e => hne e.symm))).trans ((cell_alloc_old hs o j).trans h)

set_option maxRecDepth 100000 in
set_option maxHeartbeats 4000000 in
theorem keep_calls (s off B go capo g o capl : Nat) (ord : List Nat) (ns : List Nd) (nv : Value) (ls : List Nat) (w : World) (h0 : w.cell? ⟨s, off, none⟩ = some (.slice (some ⟨go, 0, none⟩) ord.length capo)) (h1 : w.cell? ⟨s, off + 1, none⟩ = some nv) (hr : w.ownsRow B 122 3 nv ns.length (flat ns))
    (hl : ∀ i (hi : i < ls.length), w.cell? ⟨g, o + i, none⟩ = some (.int .i64 (ls[i] : Nat))) (hg : g < w.heap.size) (hlt : ∀ l ∈ ls, l < ns.length + 2) (hw : Cho.Wf ns) (hn : ns.length ≤ 1000000) (hls : ls.length ≤ 30) :
    Calls Tryd.prog 56 #[.pointer (some ⟨s, off, none⟩), .slice (some ⟨g, o, none⟩) ls.length capl] w fun e w' => ∃ kv lv',
      e = .returned (.tuple #[.agg #[.slice (some ⟨go, 0, none⟩) ord.length capo, kv], lv']) ∧
      w'.ownsRow w.heap.size 122 3 kv (Cho.keepTo ns (Cho.reached ns ls) ns.length).2.length (flat (Cho.keepTo ns (Cho.reached ns ls) ns.length).2) ∧
      w'.ownsRow w.heap.size 81 1 lv' ls.length (lv (ls.map fun l => (Cho.keepTo ns (Cho.reached ns ls) ns.length).1.getD l 0)) ∧ Below w.heap.size w w' := by
  have hs := World.block_lt_of_cell? w _ h1
  simp only at hs
  obtain ⟨ao, cap, rfl, hblk, hcells⟩ := row_cell hr
  have HCELLS : Hid (∀ k (hk : k < ns.length), ∃ g, ao = some ⟨g, 0, none⟩ ∧ g < w.heap.size ∧ ns.length ≤ cap ∧ w.cell? ⟨g, k * 3, none⟩ = some (.int .i64 (ns[k].1 : Nat)) ∧ w.cell? ⟨g, k * 3 + 1, none⟩ = some (.int .i64 (ns[k].2.1 : Nat)) ∧ w.cell? ⟨g, k * 3 + 2, none⟩ = some (.int .i64 (ns[k].2.2 : Nat))) := hcells
  have HR : Hid (w.ownsRow B 122 3 (.slice ao ns.length cap) ns.length (flat ns)) := hr
  have HL : Hid (∀ i (hi : i < ls.length), w.cell? ⟨g, o + i, none⟩ = some (.int .i64 (ls[i] : Nat))) := hl
  have HLT : Hid (∀ l ∈ ls, l < ns.length + 2) := hlt
  have HW : Hid (Cho.Wf ns) := hw
  clear hr hblk hcells hl hlt hw
  go_enter Tryd.func56, Tryd.ntmps56
  go_wp2_with fail
  refine (reached_calls s off B g o capl ns _ ls _ (with_al h1) (HR.out.alloc _) (fun i hi => with_al (HL.out i hi)) (by simp; omega) HLT.out HW.out hn hls).mono ?_
  rintro e w1 ⟨rfl, hm⟩
  have hlen1 : (w.alloc (.cells #[.slice none 0 0, .slice none 0 0] 91)).heap.size = w.heap.size + 1 := by simp
  have HM : Hid (Marks (w.alloc (.cells #[.slice none 0 0, .slice none 0 0] 91)) w1 (Cho.reached ns ls) ns.length) := hm
  have hbw : Below w.heap.size w w1 := ((Below.refl _ w).alloc (Nat.le_refl _) _).trans (hm.bel.mono (by rw [hlen1]; omega))
  have hsz1 : w.heap.size + 1 < w1.heap.size := by have := lt_of_block hm.at'; rw [hlen1] at this; exact this
  rw [hlen1]
  have c0 : w1.cell? ⟨s, off, none⟩ = some (.slice (some ⟨go, 0, none⟩) ord.length capo) := (hbw.cell (p := ⟨s, off, none⟩) hs).trans h0
  have c1 : w1.cell? ⟨s, off + 1, none⟩ = some (.slice ao ns.length cap) := (hbw.cell (p := ⟨s, off + 1, none⟩) hs).trans h1
  have hmk := fun w => run_make_row' (P := Tryd.prog) 101 81 (.int .i64 0) 8 Tryd.underlying101 Tryd.infoLink rfl .i64 .i64 (ns.length + 2) (by omega) (by omega) w
  have ec : (((ns.length + 2 : Nat)) : Int) = (ns.length : Int) + 2 := by omega
  rw [ec] at hmk
  have hs1 : s < w1.heap.size := by omega
  have hs2 : s < w1.heap.size + 1 := by omega
  have hne1 : ¬ s = w1.heap.size := by omega
  have hne2 : ¬ s = w1.heap.size + 1 := by omega
  have HK0 : Hid (Keeping w ((w1.alloc (.cells #[.slice (some ⟨go, 0, none⟩) ord.length capo, .slice none 0 0] 91)).alloc (.cells ((madeCells #[Value.int .i64 0] (ns.length + 2)).setIfInBounds 1 (.int .i64 1)) 81)) w1.heap.size ns.length (.slice (some ⟨go, 0, none⟩) ord.length capo) (.slice none 0 0) (Cho.reached ns ls) (Cho.keepTo ns (Cho.reached ns ls) 0).1 (Cho.keepTo ns (Cho.reached ns ls) 0).2) := keeping0 hm
  have HB1 : Hid (Below w.heap.size w w1) := hbw
  have hmc1 : (madeCells #[Value.int .i64 0] (ns.length + 2))[1]? = some (.int .i64 0) := by rw [made_links]; simp [lv]
  have hmcs : 1 < (madeCells #[Value.int .i64 0] (ns.length + 2)).size := by rw [size_madeCells]; omega
  generalize madeCells #[Value.int .i64 0] (ns.length + 2) = mc at *
  clear hm hlen1 ec hbw HM HR
  go_wp2_with fail
  clear hmk c0 c1
  generalize hRR : Cho.reached ns ls = R at *
  have HRR : Hid (Cho.reached ns ls = R) := hRR
  clear hRR
  go_loopw [32] (fun x32 wr => ∃ (k : Nat) (kv : Value), k ≤ ns.length ∧ x32 = .int .i64 k ∧ Hid (Keeping w wr w1.heap.size ns.length (.slice (some ⟨go, 0, none⟩) ord.length capo) kv R (Cho.keepTo ns R k).1 (Cho.keepTo ns R k).2)) (fun x32 _ => ns.length - (intOf x32).toNat)
  case atStart => exact ⟨0, _, Nat.zero_le _, rfl, HK0⟩
  case round =>
    obtain ⟨k, kv, hk, rfl, KR⟩ := hrel
    clear HK0
    obtain ⟨ak, capk, rfl⟩ := owns_slice KR.out.row
    have hszr := KR.out.size
    have hlo' := KR.out.lo
    have hlt2 : w.heap.size + 1 < wr.heap.size := by omega
    have hlt3 : w1.heap.size < wr.heap.size := by omega
    have hlt4 : w1.heap.size + 1 < wr.heap.size := by omega
    have hlt5 : w.heap.size < wr.heap.size := by omega
    have hneA : ¬ w.heap.size + 1 = w1.heap.size + 1 := by omega
    have hneB : ¬ w.heap.size + 1 = w1.heap.size := by omega
    have old : ∀ b j, b < w.heap.size → wr.cell? ⟨b, j, none⟩ = w.cell? ⟨b, j, none⟩ := fun b j hb => KR.out.bel.cell (p := ⟨b, j, none⟩) hb
    by_cases hkn : k < ns.length
    · obtain ⟨gn, hao, hgw, hcap, g0, g1, g2⟩ := HCELLS.out k hkn
      have e0 := (old gn (k * 3) hgw).trans g0
      have e1 := (old gn (k * 3 + 1) hgw).trans g1
      have e2 := (old gn (k * 3 + 2) hgw).trans g2
      have mk := KR.out.mark (2 + k) (by omega)
      have hwk := HW.out k hkn
      have mv1 := KR.out.moved ns[k].2.1 (by omega)
      have mv2 := KR.out.moved ns[k].2.2 (by omega)
      have mvk := KR.out.moved (2 + k) (by omega)
      have frm : ∀ j, wr.frozen? ⟨w1.heap.size + 1, j, none⟩ = false := fun j => frozen_of_block KR.out.mov j
      have hfew := Cho.keepTo_few ns R k
      have hdef : Cho.keepTo ns R (k + 1) = if R.getD (2 + k) false then ((Cho.keepTo ns R k).1.set (2 + k) (2 + (Cho.keepTo ns R k).2.length), (Cho.keepTo ns R k).2 ++ [(ns[k].1, (Cho.keepTo ns R k).1.getD ns[k].2.1 0, (Cho.keepTo ns R k).1.getD ns[k].2.2 0)]) else Cho.keepTo ns R k := by
        have hnode : ns.getD k (0, 0, 0) = ns[k] := by simp [List.getD, hkn]
        rw [Nat.add_comm 2 k, ← hnode]; rfl
      have HDEF : Hid (Cho.keepTo ns R (k + 1) = if R.getD (2 + k) false then ((Cho.keepTo ns R k).1.set (2 + k) (2 + (Cho.keepTo ns R k).2.length), (Cho.keepTo ns R k).2 ++ [(ns[k].1, (Cho.keepTo ns R k).1.getD ns[k].2.1 0, (Cho.keepTo ns R k).1.getD ns[k].2.2 0)]) else Cho.keepTo ns R k) := hdef
      clear hdef g0 g1 g2 old
      generalize ns[k] = q at *
      obtain ⟨qv, no, yes⟩ := q
      simp only at *
      generalize Cho.keepTo ns R k = ST at *
      obtain ⟨mv, ks⟩ := ST
      simp only at *
      subst hao
      clear HCELLS
      cases hb : R.getD (2 + k) false
      · rw [hb] at mk HDEF
        have HD2 : Hid (Cho.keepTo ns R (k + 1) = (mv, ks)) := HDEF.out
        clear HDEF mv1 mv2 mvk
        go_wp2_with fail
        refine ⟨⟨k + 1, .slice ak ks.length capk, hkn, by go_num, ?_⟩, by simp [intOf]; omega⟩
        show Keeping _ _ _ _ _ _ _ _ _
        rw [HD2.out]
        exact KR.out.alloc _
      · rw [hb] at mk HDEF
        have HD2 : Hid (Cho.keepTo ns R (k + 1) = (mv.set (2 + k) (2 + ks.length), ks ++ [(qv, mv.getD no 0, mv.getD yes 0)])) := HDEF.out
        clear HDEF
        have d1 := cell_of_block KR.out.dia 1
        go_wp2_with fail
        have KR2 : Hid (Keeping w ((wr.setCell ⟨w1.heap.size + 1, 2 + k, none⟩ (.int .i64 (2 + (ks.length : Int)))).alloc (.cells #[.int .i64 qv, .int .i64 no, .int .i64 yes] 122)) w1.heap.size ns.length (.slice (some ⟨go, 0, none⟩) ord.length capo) (.slice ak ks.length capk) R (mv.set (2 + k) (2 + ks.length)) ks) := by
          have := (KR.out.set (2 + k) (2 + ks.length)).alloc (.cells #[.int .i64 qv, .int .i64 no, .int .i64 yes] 122)
          rw [show (((2 + ks.length : Nat)) : Int) = 2 + (ks.length : Int) from by omega] at this
          exact this
        have hszw : (wr.setCell ⟨w1.heap.size + 1, 2 + k, none⟩ (.int .i64 (2 + (ks.length : Int)))).heap.size = wr.heap.size := by simp [World.setCell]
        have hnb := heap_res (wr.setCell ⟨w1.heap.size + 1, 2 + k, none⟩ (.int .i64 (2 + (ks.length : Int)))) (.cells #[.int .i64 qv, .int .i64 no, .int .i64 yes] 122)
        rw [hszw] at hnb
        generalize (wr.setCell ⟨w1.heap.size + 1, 2 + k, none⟩ (.int .i64 (2 + (ks.length : Int)))).alloc (.cells #[.int .i64 qv, .int .i64 no, .int .i64 yes] 122) = W3 at *
        have n0 := cell_of_block hnb 0
        have n1 := cell_of_block hnb 1
        have n2 := cell_of_block hnb 2
        have hw3 := lt_of_block hnb
        have hm1 := KR2.out.moved no (by omega)
        have hm2 := KR2.out.moved yes (by omega)
        have em : ∀ x, x < k + 2 → (mv.set (2 + k) (2 + ks.length)).getD x 0 = mv.getD x 0 := fun x hx => by simp only [List.getD, List.getElem?_set]; rw [if_neg (by omega)]
        rw [em no (by omega)] at hm1
        rw [em yes (by omega)] at hm2
        have d2 := cell_of_block KR2.out.dia 1
        have hl1 : w1.heap.size < W3.heap.size := by omega
        have hl2 : w1.heap.size + 1 < W3.heap.size := by omega
        have hrl : ∀ g, (Value.slice ak ks.length capk).ownBlock = some g → w1.heap.size + 2 ≤ g ∧ g < wr.heap.size := fun g hg => KR.out.row.lt g hg
        have hob1 : (Value.slice ak ks.length capk).ownBlock ≠ some (w1.heap.size + 1) := fun e => by have := hrl _ e; omega
        have hob2 : (Value.slice ak ks.length capk).ownBlock ≠ some wr.heap.size := fun e => by have := hrl _ e; omega
        have hfa : w1.heap.size + 1 ≠ w1.heap.size := by omega
        have hfb : wr.heap.size ≠ w1.heap.size := by omega
        clear KR em mv1 mv2 mvk frm d1 hnb hszw e0 e1 e2 mk hrl
        generalize hmno : mv.getD no 0 = mno at *
        generalize hmyes : mv.getD yes 0 = myes at *
        clear hmno hmyes
        have bd1 : (no : Int) < (ns.length : Int) + 2 := by omega
        have bd2 : (yes : Int) < (ns.length : Int) + 2 := by omega
        obtain ⟨i0, hi, hz0, hz1, hz2⟩ := info_parts Tryd.infoNode
        have HO : Hid (((W3.alloc (.cells #[.int .i64 qv, .int .i64 mno, .int .i64 myes] 122)).drew).ownsRow (w1.heap.size + 2) 122 3 (.slice ak ks.length capk) ks.length (flat ks)) := KR2.out.row.alloc _
        have HNEW : Hid (∀ j u, (nodeCells (qv, mno, myes))[j]? = some u → ((W3.alloc (.cells #[.int .i64 qv, .int .i64 mno, .int .i64 myes] 122)).drew).cell? ((⟨W3.heap.size, 0, none⟩ : Addr).add j) = some u) := new_cells W3 (nodeCells (qv, mno, myes)) 122
        refine wp_region_noPanic ?_
        refine wp_region_held_drew (S := fun w' => w'.cell? ⟨wr.heap.size, 0, none⟩ = some (.int .i64 qv) ∧ w'.cell? ⟨wr.heap.size, 1, none⟩ = some (.int .i64 no) ∧ w'.cell? ⟨wr.heap.size, 2, none⟩ = some (.int .i64 yes) ∧ w'.cell? ⟨w1.heap.size + 1, no, none⟩ = some (.int .i64 mno) ∧ w'.cell? ⟨w1.heap.size + 1, yes, none⟩ = some (.int .i64 myes)) (by kernel_rfl) ⟨n0, n1, n2, hm1, hm2⟩ (fun hHeld => ?_)
        refine wpAnyH_take (i := 0) (v := ?_) rfl (by kernel_rfl) (by kernel_rfl) (by kernel_rfl) (fun _ _ _ h => h) (Or.inl ⟨by rfl, ?_⟩) (by assumption) ?_
        rotate_left
        focus (intro w hSw; (try dsimp only at hSw); go_simp; try with_reducible rfl)
        try simp only [Act.put, List.getElem_toArray, List.getElem_cons_zero, List.setIfInBounds_toArray, List.set_cons_zero, List.set_cons_succ]
        refine wpAnyH_take (i := 2) (v := ?_) rfl (by kernel_rfl) (by kernel_rfl) (by kernel_rfl) (fun _ _ _ h => h) (Or.inl ⟨by rfl, ?_⟩) (by assumption) ?_
        rotate_left
        focus (intro w hSw; (try dsimp only at hSw); go_simp; try with_reducible rfl)
        try simp only [Act.put, List.getElem_toArray, List.getElem_cons_zero, List.getElem_cons_succ, List.setIfInBounds_toArray, List.set_cons_zero, List.set_cons_succ]
        refine wpAnyH_take (i := 3) (v := ?_) rfl (by kernel_rfl) (by kernel_rfl) (by kernel_rfl) (fun _ _ _ h => h) (Or.inl ⟨by rfl, ?_⟩) (by assumption) ?_
        rotate_left
        focus (intro w hSw; (try dsimp only at hSw); go_simp; try with_reducible rfl)
        try simp only [Act.put, List.getElem_toArray, List.getElem_cons_zero, List.getElem_cons_succ, List.setIfInBounds_toArray, List.set_cons_zero, List.set_cons_succ]
        refine wpAnyH_take (i := 4) (v := ?_) rfl (by kernel_rfl) (by kernel_rfl) (by kernel_rfl) (fun _ _ _ h => h) (Or.inl ⟨by rfl, ?_⟩) (by assumption) ?_
        rotate_left
        focus (intro w hSw; (try dsimp only at hSw); go_simp; try with_reducible rfl)
        try simp only [Act.put, List.getElem_toArray, List.getElem_cons_zero, List.getElem_cons_succ, List.setIfInBounds_toArray, List.set_cons_zero, List.set_cons_succ]
        refine wpAnyH_take (i := 5) (v := ?_) rfl (by kernel_rfl) (by kernel_rfl) (by kernel_rfl) (fun _ _ _ h => h) (Or.inl ⟨by rfl, ?_⟩) (by assumption) ?_
        rotate_left
        focus (intro w hSw; (try dsimp only at hSw); go_simp; try with_reducible rfl)
        try simp only [Act.put, List.getElem_toArray, List.getElem_cons_zero, List.getElem_cons_succ, List.setIfInBounds_toArray, List.set_cons_zero, List.set_cons_succ]
        refine wpAnyH_take (i := 6) (v := ?_) rfl (by kernel_rfl) (by kernel_rfl) (by kernel_rfl) (fun _ _ _ h => h) (Or.inl ⟨by rfl, ?_⟩) (by assumption) ?_
        rotate_left
        focus (intro w hSw; (try dsimp only at hSw); go_simp; try with_reducible rfl)
        try simp only [Act.put, List.getElem_toArray, List.getElem_cons_zero, List.getElem_cons_succ, List.setIfInBounds_toArray, List.set_cons_zero, List.set_cons_succ]
        refine wpAnyH_take (i := 7) (v := ?_) rfl (by kernel_rfl) (by kernel_rfl) (by kernel_rfl) (fun _ _ _ h => h) (Or.inl ⟨by rfl, ?_⟩) (by assumption) ?_
        rotate_left
        focus (intro w hSw; (try dsimp only at hSw); go_simp; try with_reducible rfl)
        try simp only [Act.put, List.getElem_toArray, List.getElem_cons_zero, List.getElem_cons_succ, List.setIfInBounds_toArray, List.set_cons_zero, List.set_cons_succ]
        refine wpAnyH_take (i := 8) (v := ?_) rfl (by kernel_rfl) (by kernel_rfl) (by kernel_rfl) (fun _ _ _ h => h) (Or.inl ⟨by rfl, ?_⟩) (by assumption) ?_
        rotate_left
        focus (intro w hSw; (try dsimp only at hSw); go_simp; try with_reducible rfl)
        try simp only [Act.put, List.getElem_toArray, List.getElem_cons_zero, List.getElem_cons_succ, List.setIfInBounds_toArray, List.set_cons_zero, List.set_cons_succ]
        refine wpAnyH_take (i := 9) (v := ?_) rfl (by kernel_rfl) (by kernel_rfl) (by kernel_rfl) (fun _ _ _ h => h) (Or.inl ⟨by rfl, ?_⟩) (by assumption) ?_
        rotate_left
        focus (intro w hSw; (try dsimp only at hSw); go_simp; try with_reducible rfl)
        try simp only [Act.put, List.getElem_toArray, List.getElem_cons_zero, List.getElem_cons_succ, List.setIfInBounds_toArray, List.set_cons_zero, List.set_cons_succ]
        refine wpAnyH_take (i := 10) (v := ?_) rfl (by kernel_rfl) (by kernel_rfl) (by kernel_rfl) (fun _ _ _ h => h) (Or.inl ⟨by rfl, ?_⟩) (by assumption) ?_
        rotate_left
        focus (intro w hSw; (try dsimp only at hSw); go_simp; try with_reducible rfl)
        try simp only [Act.put, List.getElem_toArray, List.getElem_cons_zero, List.getElem_cons_succ, List.setIfInBounds_toArray, List.set_cons_zero, List.set_cons_succ]
        refine wpAnyH_take (i := 11) (v := ?_) rfl (by kernel_rfl) (by kernel_rfl) (by kernel_rfl) (fun _ _ _ h => h) (Or.inl ⟨by rfl, ?_⟩) (by assumption) ?_
        rotate_left
        focus (intro w hSw; (try dsimp only at hSw); go_simp; try with_reducible rfl)
        try simp only [Act.put, List.getElem_toArray, List.getElem_cons_zero, List.getElem_cons_succ, List.setIfInBounds_toArray, List.set_cons_zero, List.set_cons_succ]
        refine wpAnyH_take (i := 12) (v := ?_) rfl (by kernel_rfl) (by kernel_rfl) (by kernel_rfl) (fun _ _ _ h => h) (Or.inl ⟨by rfl, ?_⟩) (by assumption) ?_
        rotate_left
        focus (intro w hSw; (try dsimp only at hSw); go_simp; try with_reducible rfl)
        try simp only [Act.put, List.getElem_toArray, List.getElem_cons_zero, List.getElem_cons_succ, List.setIfInBounds_toArray, List.set_cons_zero, List.set_cons_succ]
        refine wpAnyH_take (i := 13) (v := ?_) rfl (by kernel_rfl) (by kernel_rfl) (by kernel_rfl) (fun _ _ _ h => h) (Or.inl ⟨by rfl, ?_⟩) (by assumption) ?_
        rotate_left
        focus (intro w hSw; (try dsimp only at hSw); go_simp; try with_reducible rfl)
        try simp only [Act.put, List.getElem_toArray, List.getElem_cons_zero, List.getElem_cons_succ, List.setIfInBounds_toArray, List.set_cons_zero, List.set_cons_succ]
        refine wpAnyH_take (i := 14) (v := ?_) rfl (by kernel_rfl) (by kernel_rfl) (by kernel_rfl) (fun _ _ _ h => h) (Or.inl ⟨by rfl, ?_⟩) (by assumption) ?_
        rotate_left
        focus (intro w hSw; (try dsimp only at hSw); go_simp; try with_reducible rfl)
        try simp only [Act.put, List.getElem_toArray, List.getElem_cons_zero, List.getElem_cons_succ, List.setIfInBounds_toArray, List.set_cons_zero, List.set_cons_succ]
        refine wpAnyH_ready (rs := [1, 15]) (by kernel_rfl) (by simp) ?_
        refine AllReadyH.cons rfl (fun K hK => ?_) (AllReadyH.cons rfl (fun K hK => ?_) AllReadyH.nil)
        · go_simp
          refine hK.out _ _ ⟨n0, n1, n2, hm1, hm2⟩ (fun hHeld => ?_)
          clear hK K
          try simp only [Act.put, List.getElem_toArray, List.getElem_cons_zero, List.getElem_cons_succ, List.setIfInBounds_toArray, List.set_cons_zero, List.set_cons_succ]
          refine wpAnyH_ready (rs := [15]) (by kernel_rfl) (by simp) ?_
          refine AllReadyH.cons rfl (fun K hK => ?_) AllReadyH.nil
          go_simp
          refine hK.out _ _ ⟨with_al n0, with_al n1, with_al n2, with_al hm1, with_al hm2⟩ (fun hHeld => ?_)
          clear hK K
          try simp only [Act.put, List.getElem_toArray, List.getElem_cons_zero, List.getElem_cons_succ, List.setIfInBounds_toArray, List.set_cons_zero, List.set_cons_succ]
          refine wpAnyH_ready (rs := [16]) (by kernel_rfl) (by simp) ?_
          refine AllReadyH.cons rfl (fun K hK => ?_) AllReadyH.nil
          refine step_append_own rfl (.tmp 51) (.tmp 65) 89 rfl (w1.heap.size + 2) 122 i0 _ 3 24 Tryd.underlying89 hi hz0 hz1 hz2 rfl (by decide) _ ks.length (flat ks) ?e1 HO.out ⟨W3.heap.size, 0, none⟩ 1 1 (nodeCells (qv, mno, myes)) ?e2 rfl HNEW.out (by simp [nodeCells, Value.oneCell']) (by unfold maxLen; omega) (by omega) (by simp; omega) ?_; (case e1 => simp [Act.eval]); (case e2 => simp [Act.eval]); intro v' w4 hown2 hgrow; have S4 : Hid (w4.cell? ⟨wr.heap.size, 0, none⟩ = some (.int .i64 qv) ∧ w4.cell? ⟨wr.heap.size, 1, none⟩ = some (.int .i64 no) ∧ w4.cell? ⟨wr.heap.size, 2, none⟩ = some (.int .i64 yes) ∧ w4.cell? ⟨w1.heap.size + 1, no, none⟩ = some (.int .i64 mno) ∧ w4.cell? ⟨w1.heap.size + 1, yes, none⟩ = some (.int .i64 myes)) := ⟨grown_far hgrow hob2 n0, grown_far hgrow hob2 n1, grown_far hgrow hob2 n2, grown_far hgrow hob1 hm1, grown_far hgrow hob1 hm2⟩; obtain ⟨ak2, capk2, rfl⟩ := owns_slice hown2; have hb1 := KR2.out.mid hgrow; have cc1 := cell_of_block hb1 1; have ff1 := frozen_of_block hb1 1; have HG : Hid (_ ∧ _) := ⟨hgrow, hown2⟩; clear hgrow hown2 hb1
          refine hK.out _ _ S4.out (fun hHeld => ?_)
          clear hK K
          try simp only [Act.put, List.getElem_toArray, List.getElem_cons_zero, List.getElem_cons_succ, List.setIfInBounds_toArray, List.set_cons_zero, List.set_cons_succ]
          refine wpAnyH_take (i := 17) (v := ?_) rfl (by kernel_rfl) (by kernel_rfl) (by kernel_rfl) (fun _ _ _ h => h) (Or.inl ⟨by rfl, ?_⟩) (by assumption) ?_
          rotate_left
          focus (intro w hSw; (try dsimp only at hSw); go_simp; try with_reducible rfl)
          try simp only [Act.put, List.getElem_toArray, List.getElem_cons_zero, List.getElem_cons_succ, List.setIfInBounds_toArray, List.set_cons_zero, List.set_cons_succ]
          refine wpAnyH_ready (rs := [18]) (by kernel_rfl) (by simp) ?_
          refine AllReadyH.cons rfl (fun K hK => ?_) AllReadyH.nil
          go_simp
          refine hK.out _ _ ⟨set_far hfb S4.out.1, set_far hfb S4.out.2.1, set_far hfb S4.out.2.2.1, set_far hfa S4.out.2.2.2.1, set_far hfa S4.out.2.2.2.2⟩ (fun hHeld => ?_)
          clear hK K
          try simp only [Act.put, List.getElem_toArray, List.getElem_cons_zero, List.getElem_cons_succ, List.setIfInBounds_toArray, List.set_cons_zero, List.set_cons_succ]
          refine wpAnyH_done (by kernel_rfl) ?_ _
          refine NoPanic.normal ?_
          go_wp2_with fail
          refine ⟨⟨k + 1, .slice ak2 (ks.length + 1) capk2, hkn, by go_num, ?_⟩, by simp [intOf]; omega⟩
          show Keeping _ _ _ _ _ _ _ _ _
          rw [HD2.out]
          exact KR2.out.add HG.out.2 HG.out.1
        · go_simp
          refine hK.out _ _ ⟨with_al n0, with_al n1, with_al n2, with_al hm1, with_al hm2⟩ (fun hHeld => ?_)
          clear hK K
          try simp only [Act.put, List.getElem_toArray, List.getElem_cons_zero, List.getElem_cons_succ, List.setIfInBounds_toArray, List.set_cons_zero, List.set_cons_succ]
          refine wpAnyH_ready (rs := [1]) (by kernel_rfl) (by simp) ?_
          refine AllReadyH.cons rfl (fun K hK => ?_) AllReadyH.nil
          go_simp
          refine hK.out _ _ ⟨with_al n0, with_al n1, with_al n2, with_al hm1, with_al hm2⟩ (fun hHeld => ?_)
          clear hK K
          try simp only [Act.put, List.getElem_toArray, List.getElem_cons_zero, List.getElem_cons_succ, List.setIfInBounds_toArray, List.set_cons_zero, List.set_cons_succ]
          refine wpAnyH_ready (rs := [16]) (by kernel_rfl) (by simp) ?_
          refine AllReadyH.cons rfl (fun K hK => ?_) AllReadyH.nil
          refine step_append_own rfl (.tmp 51) (.tmp 65) 89 rfl (w1.heap.size + 2) 122 i0 _ 3 24 Tryd.underlying89 hi hz0 hz1 hz2 rfl (by decide) _ ks.length (flat ks) ?e1 HO.out ⟨W3.heap.size, 0, none⟩ 1 1 (nodeCells (qv, mno, myes)) ?e2 rfl HNEW.out (by simp [nodeCells, Value.oneCell']) (by unfold maxLen; omega) (by omega) (by simp; omega) ?_; (case e1 => simp [Act.eval]); (case e2 => simp [Act.eval]); intro v' w4 hown2 hgrow; have S4 : Hid (w4.cell? ⟨wr.heap.size, 0, none⟩ = some (.int .i64 qv) ∧ w4.cell? ⟨wr.heap.size, 1, none⟩ = some (.int .i64 no) ∧ w4.cell? ⟨wr.heap.size, 2, none⟩ = some (.int .i64 yes) ∧ w4.cell? ⟨w1.heap.size + 1, no, none⟩ = some (.int .i64 mno) ∧ w4.cell? ⟨w1.heap.size + 1, yes, none⟩ = some (.int .i64 myes)) := ⟨grown_far hgrow hob2 n0, grown_far hgrow hob2 n1, grown_far hgrow hob2 n2, grown_far hgrow hob1 hm1, grown_far hgrow hob1 hm2⟩; obtain ⟨ak2, capk2, rfl⟩ := owns_slice hown2; have hb1 := KR2.out.mid hgrow; have cc1 := cell_of_block hb1 1; have ff1 := frozen_of_block hb1 1; have HG : Hid (_ ∧ _) := ⟨hgrow, hown2⟩; clear hgrow hown2 hb1
          refine hK.out _ _ S4.out (fun hHeld => ?_)
          clear hK K
          try simp only [Act.put, List.getElem_toArray, List.getElem_cons_zero, List.getElem_cons_succ, List.setIfInBounds_toArray, List.set_cons_zero, List.set_cons_succ]
          refine wpAnyH_take (i := 17) (v := ?_) rfl (by kernel_rfl) (by kernel_rfl) (by kernel_rfl) (fun _ _ _ h => h) (Or.inl ⟨by rfl, ?_⟩) (by assumption) ?_
          rotate_left
          focus (intro w hSw; (try dsimp only at hSw); go_simp; try with_reducible rfl)
          try simp only [Act.put, List.getElem_toArray, List.getElem_cons_zero, List.getElem_cons_succ, List.setIfInBounds_toArray, List.set_cons_zero, List.set_cons_succ]
          refine wpAnyH_ready (rs := [18]) (by kernel_rfl) (by simp) ?_
          refine AllReadyH.cons rfl (fun K hK => ?_) AllReadyH.nil
          go_simp
          refine hK.out _ _ ⟨set_far hfb S4.out.1, set_far hfb S4.out.2.1, set_far hfb S4.out.2.2.1, set_far hfa S4.out.2.2.2.1, set_far hfa S4.out.2.2.2.2⟩ (fun hHeld => ?_)
          clear hK K
          try simp only [Act.put, List.getElem_toArray, List.getElem_cons_zero, List.getElem_cons_succ, List.setIfInBounds_toArray, List.set_cons_zero, List.set_cons_succ]
          refine wpAnyH_done (by kernel_rfl) ?_ _
          refine NoPanic.normal ?_
          go_wp2_with fail
          refine ⟨⟨k + 1, .slice ak2 (ks.length + 1) capk2, hkn, by go_num, ?_⟩, by simp [intOf]; omega⟩
          show Keeping _ _ _ _ _ _ _ _ _
          rw [HD2.out]
          exact KR2.out.add HG.out.2 HG.out.1
    · obtain rfl : k = ns.length := by omega
      generalize hST : Cho.keepTo ns R ns.length = ST at *
      have HST : Hid (Cho.keepTo ns R ns.length = ST) := hST
      clear hST HCELLS
      obtain ⟨mv, ks⟩ := ST
      simp only at *
      have es0 := old s off hs
      rw [h0] at es0
      go_wp2_with fail
      obtain ⟨wE, hwE⟩ : ∃ x, x = wr := ⟨wr, rfl⟩
      subst hwE
      have KE : Hid (Keeping w wE w1.heap.size ns.length (.slice (some ⟨go, 0, none⟩) ord.length capo) (.slice ak ks.length capk) R mv ks) := KR
      have HOLD : Hid (∀ b j, b < w.heap.size → wE.cell? ⟨b, j, none⟩ = w.cell? ⟨b, j, none⟩) := old
      clear KR old es0
      obtain ⟨i0, hi, hz0, hz1, hz2⟩ := info_parts Tryd.infoLink
      go_loopw [11, 72] (fun x11 x72 wr => ∃ q : Nat, q ≤ ls.length ∧ x72 = .int .i64 q ∧ Hid (Below wE.heap.size wE wr) ∧ Hid (wr.ownsRow wE.heap.size 81 1 x11 q (lv ((ls.take q).map fun l => mv.getD l 0)))) (fun _ x72 _ => ls.length - (intOf x72).toNat)
      case atStart =>
        exact ⟨0, Nat.zero_le _, rfl, (Below.refl _ _).alloc (Nat.le_refl _) _, own_link _⟩
      case round =>
        obtain ⟨q, hq, rfl, BQ, OQ⟩ := hrel
        obtain ⟨al, capl2, rfl⟩ := owns_slice OQ.out
        have hszq := BQ.out.size
        by_cases hql : q < ls.length
        · have hlq := HLT.out ls[q] (List.getElem_mem hql)
          have cl : wr.cell? ⟨g, o + q, none⟩ = some (.int .i64 (ls[q] : Nat)) := (BQ.out.cell (p := ⟨g, o + q, none⟩) (show g < wE.heap.size by omega)).trans ((HOLD.out g _ hg).trans (HL.out q hql))
          have cs : wr.cell? ⟨s, off + 1, none⟩ = some (.slice ao ns.length cap) := (BQ.out.cell (p := ⟨s, off + 1, none⟩) (show s < wE.heap.size by omega)).trans ((HOLD.out s _ hs).trans h1)
          have cm : wr.cell? ⟨w1.heap.size + 1, ls[q], none⟩ = some (.int .i64 (mv.getD ls[q] 0 : Nat)) := (BQ.out.cell (p := ⟨w1.heap.size + 1, ls[q], none⟩) (show w1.heap.size + 1 < wE.heap.size by omega)).trans (KE.out.moved _ hlq)
          have HT : Hid ((ls.take (q + 1)).map (fun l => mv.getD l 0) = (ls.take q).map (fun l => mv.getD l 0) ++ [mv.getD ls[q] 0]) := by
            show (ls.take (q + 1)).map (fun l => mv.getD l 0) = (ls.take q).map (fun l => mv.getD l 0) ++ [mv.getD ls[q] 0]
            rw [List.take_succ_eq_append_getElem hql, List.map_append]; rfl
          have hw1q : w1.heap.size + 1 < wr.heap.size := by omega
          generalize ls[q] = l at *
          generalize hml : mv.getD l 0 = ml at *
          go_wp2_with fail
          refine (leads_calls s off l ns.length cap _ _ cs hlq hn).mono ?_
          rintro e w5 ⟨rfl, rfl⟩
          have F1' : Hid (q + 1 ≤ maxLen) := by show q + 1 ≤ maxLen; unfold maxLen; omega
          have F2' : Hid ((q + 1) * 8 ≤ 140737488355328) := by show (q + 1) * 8 ≤ 140737488355328; omega
          have F3' : Hid (wE.heap.size ≤ (w5.alloc (.cells #[.int .i64 (ml : Int)] 81)).heap.size) := by show wE.heap.size ≤ (w5.alloc (.cells #[.int .i64 (ml : Int)] 81)).heap.size; simp; omega
          have O5 : Hid ((w5.alloc (.cells #[.int .i64 (ml : Int)] 81)).ownsRow wE.heap.size 81 1 (.slice al q capl2) q (lv ((ls.take q).map fun l => mv.getD l 0))) := OQ.out.alloc _
          have bdl : (l : Int) < (ns.length : Int) + 2 := by omega
          go_wp2_with (at_builtin; refine wpList_append_own _ rfl (.tmp 79) (.tmp 84) 101 rfl wE.heap.size 81 i0 _ 1 8 Tryd.underlying101 hi hz0 hz1 hz2 rfl (Nat.succ_pos 0) (.slice al q capl2) q (lv ((ls.take q).map fun l => mv.getD l 0)) ?e1 O5.out ⟨w5.heap.size, 0, none⟩ 1 1 [.int .i64 (ml : Int)] ?e2 rfl (new_cells w5 [.int .i64 (ml : Int)] _) ?e3 F1'.out F2'.out F3'.out ?_; (case e1 => rfl); (case e2 => rfl); (case e3 => simp [Value.oneCell']); intro v' w6 hown hgrow _; obtain ⟨ao2, cap2, rfl⟩ := owns_slice hown; have G5 : Hid _ := hgrow; have OW5 : Hid _ := hown; clear hgrow hown)
          refine ⟨⟨q + 1, hql, by go_num, ?_, ?_⟩, by simp [intOf]; omega⟩
          · exact (BQ.out.alloc (by omega) _).grown G5.out (by simp; omega) (fun b hb => (OQ.out.lt b hb).1)
          · have := OW5.out
            rw [lv_snoc, ← HT.out] at this
            exact this
        · obtain rfl : q = ls.length := by omega
          have OQ' : Hid (wr.ownsRow wE.heap.size 81 1 (.slice al ls.length capl2) ls.length (lv (ls.map fun l => mv.getD l 0))) := by
            have := OQ.out; rw [List.take_length] at this; exact this
          have hdia := (BQ.out.block w1.heap.size (by omega)).trans KE.out.dia
          have hres := (BQ.out.block w.heap.size (by omega)).trans KE.out.res
          have p0 := cell_of_block hdia 0
          have p1 := cell_of_block hdia 1
          have r0 := cell_of_block hres 0
          have r1 := cell_of_block hres 1
          have f0 := frozen_of_block hres 0
          have f1 := frozen_of_block hres 1
          have hneW : ¬ w.heap.size = w1.heap.size := by omega
          go_wp2_with fail
          refine bodyPost_ret (v := .tuple #[.agg #[.slice (some ⟨go, 0, none⟩) ord.length capo, .slice ak ks.length capk], .slice al ls.length capl2]) (by simp [results, Tryd.results56, go_sem, r0, r1]) rfl ⟨_, _, rfl, ?_, ?_, ?_⟩
          · rw [HRR.out, HST.out]
            exact owns_low (owns_far (owns_far (owns_below KE.out.row BQ.out rfl) (by omega)) (by omega)) (by omega)
          · rw [HRR.out, HST.out]
            exact owns_low (owns_far (owns_far OQ'.out (by omega)) (by omega)) (by omega)
          · exact ((KE.out.bel.trans (BQ.out.mono (by omega))).setCell (Nat.le_refl _) _).setCell (Nat.le_refl _) _
end Go.Proofs.YthoodkbdpnffdaaDoor
