/-
  Own work: the document's answer: an item of a text that is written, and those that it needs (a walk).
-/
import Derived.Test.YthoodkbdpnffdabGreatDoorRefZ
import Derived.Deep.RegionHeld3
namespace Go.Proofs.YthoodkbdpnffdabGreatDoor
open Go.RowKit
open Cho (U64 Tab full col decL dgt Nd Red lnk rend tb itm sup Low)

theorem mem_tabsN {n t : Nat} {ns : List Nd} : t ∈ tabsN n ns ↔ ∃ j, j < ns.length ∧ tb n ns (j + 2) = t := by
  simp [tabsN]
theorem tabsN_snoc {n : Nat} {ns : List Nd} (hw : Cho.Wf ns) (x : Nd) : tabsN n (ns ++ [x]) = tabsN n ns ++ [tb n (ns ++ [x]) (ns.length + 2)] := by
  unfold tabsN
  rw [List.length_append, List.length_singleton, List.range_succ, List.map_append]
  congr 1
  apply List.map_congr_left
  intro j hj
  simp at hj
  exact Cho.tb_app hw [x] (by omega)
/-- What the call leaves. -/
def Wrote (w0 w' : World) (wb y n : Nat) (ns : List Nd) : Prop := ∃ v', Wri w0 w' wb y n v' ns

/-- The item is written, the function listed. -/
theorem item_end {w0 w10 w12 : World} {wb y n t : Nat} {v v' : Value} {ns : List Nd} {x : Nd} {o : Obj} (h : Wri w0 w10 wb y n v ns) (hr : Red (List.range n) (ns ++ [x])) (hl : ns.length + 1 ≤ 63) (ht : tb n (ns ++ [x]) (ns.length + 2) = t)
    (hg : ((w10.setCell ⟨wb, 2, none⟩ (txt (rend (ns ++ [x])))).alloc o).grownBy w12 v.ownBlock) (hown : w12.ownsRow w0.heap.size 31 1 v' (ns.length + 1) (uv (tabsN n ns) ++ [.int .u64 (t : Nat)])) :
    w12.cell? ⟨wb, 1, none⟩ = some v ∧ w12.frozen? ⟨wb, 1, none⟩ = false ∧ Wri w0 (w12.setCell ⟨wb, 1, none⟩ v') wb y n v' (ns ++ [x]) := by
  have hwb := lt_of_block h.blk
  have h11 : (w10.setCell ⟨wb, 2, none⟩ (txt (rend (ns ++ [x])))).heap[wb]? = some (.cells #[.pointer (some ⟨y, 0, none⟩), v, txt (rend (ns ++ [x]))] 143 (0, 0)) := by
    simp only [World.setCell, Array.getElem?_modify, h.blk]; simp
  have hne : some wb ≠ v.ownBlock := owns_ne h.row h.blk (by decide)
  have hs := hg.size
  have hsz : (w10.setCell ⟨wb, 2, none⟩ (txt (rend (ns ++ [x])))).heap.size = w10.heap.size := by simp [World.setCell]
  have h12 : w12.heap[wb]? = some (.cells #[.pointer (some ⟨y, 0, none⟩), v, txt (rend (ns ++ [x]))] 143 (0, 0)) := (hg.block wb (by simp [World.setCell]; omega) hne).trans ((Below.heap_alloc _ _ _ (by rw [hsz]; exact hwb)).trans h11)
  have hlo := h.lo
  have hbel := h.bel
  refine ⟨cell_of_block h12 1, frozen_of_block h12 1, ?_, ?_, ?_, h.lo, h.n0, h.n1, h.n6, hr, by simp; omega⟩
  · simp only [World.setCell, Array.getElem?_modify, h12]; simp
  · rw [tabsN_snoc h.red.wf, ht]
    have e : uv (tabsN n ns ++ [t]) = uv (tabsN n ns) ++ [.int .u64 (t : Nat)] := (uv_snoc _ _).symm
    rw [e, List.length_append, List.length_singleton]
    refine owns_kept hown fun g hgb => block_set_other ?_
    have := owns_ne hown h12 (by decide)
    intro e; subst e; exact this hgb.symm
  · refine ⟨hg.os.trans hbel.os, hg.tape.trans hbel.tape, hg.output.trans hbel.output, ?_, fun k hk => ?_⟩
    · have h1 := hbel.size
      simp [World.setCell] at hs ⊢; omega
    · have h1 := hbel.size
      have hkw : k ≠ wb := by omega
      rw [block_set_other hkw]
      refine (hg.block k (by simp [World.setCell]; omega) (fun e => ?_)).trans ((Below.heap_alloc _ _ _ (by rw [hsz]; omega)).trans ((block_set_other hkw).trans (hbel.block k hk)))
      have := (h.row.lt k e.symm).1; omega

set_option maxRecDepth 100000 in
set_option maxHeartbeats 4000000 in
theorem ritem_calls (n : Nat) : ∀ d k, n - k = d → k ≤ n → ∀ (w0 w : World) (wb y t : Nat) (v : Value) (ns : List Nd), Wri w0 w wb y n v ns → Tab n t → Low n k t → (sup n k t ns).1.length ≤ 63 →
    Calls Tryz.prog 111 #[.pointer (some ⟨wb, 0, none⟩), .int .u64 t, .int .i64 k] w fun e w' => e = .returned (.tuple #[]) ∧ Wrote w0 w' wb y n (sup n k t ns).1 := by
  intro d
  induction d using Nat.strongRecOn with
  | ind d ih =>
    intro k hd hk w0 w wb y t v ns h ht hl hlen
    have IH : Hid (∀ k', k < k' → k' ≤ n → ∀ (w0 w : World) (wb y t : Nat) (v : Value) (ns : List Nd), Wri w0 w wb y n v ns → Tab n t → Low n k' t → (sup n k' t ns).1.length ≤ 63 →
      Calls Tryz.prog 111 #[.pointer (some ⟨wb, 0, none⟩), .int .u64 t, .int .i64 k'] w fun e w' => e = .returned (.tuple #[]) ∧ Wrote w0 w' wb y n (sup n k' t ns).1) := fun k' h1 h2 => ih (n - k') (by omega) k' rfl h2
    clear ih
    obtain ⟨i0, hi0, hz0, hz1, hz2⟩ := info_parts Tryz.infoU64
    have H : Hid (Wri w0 w wb y n v ns) := h
    have n1 := h.n1
    have n6 := h.n6
    have c0 : w.cell? ⟨wb, 0, none⟩ = some (.pointer (some ⟨y, 0, none⟩)) := cell_of_block h.blk 0
    have c1 : w.cell? ⟨wb, 1, none⟩ = some v := cell_of_block h.blk 1
    have hU := (Cho.full_u64 n n6).lt
    have KF : Hid (Calls Tryz.prog 68 #[.pointer (some ⟨y, 0, none⟩)] w fun e w' => e = .returned (.int .u64 (full n : Nat)) ∧ w' = w) := rfull_calls y n w h.y0 n6
    have KA : Hid (Calls Tryz.prog 116 #[.int .u64 t, v] w fun e w' => e = .returned (.bool (decide (t ∈ tabsN n ns))) ∧ w' = w) := ramong_calls t v (tabsN n ns) w h.rowU (by rw [tabsN_len]; have := h.few; omega)
    by_cases t0 : t = 0
    · subst t0
      have HE : Hid ((sup n k 0 ns).1 = ns) := by show (sup n k 0 ns).1 = ns; rw [Cho.sup_zero n1 n6 hk h.red]
      clear h KF KA c0 c1
      go_enter Tryz.func111, Tryz.ntmps111
      go_wp2_with fail
      (try simp only [Exit.inBlock, Exit.then]); refine bodyPost_ret (results_none rfl _ _ _) rfl ?_
      rw [HE.out]
      exact ⟨rfl, v, H.out⟩
    · have hb0 : ((t : Int) == 0) = false := by simp; omega
      by_cases t1 : t = full n
      · have HE : Hid ((sup n k t ns).1 = ns) := by show (sup n k t ns).1 = ns; rw [t1, Cho.sup_full n1 n6 hk h.red]
        have KF2 : Hid (Calls Tryz.prog 68 #[.pointer (some ⟨y, 0, none⟩)] w fun e w' => e = .returned (.int .u64 (t : Nat)) ∧ w' = w) := by rw [t1]; exact KF.out
        clear h KA KF hU t1
        go_enter Tryz.func111, Tryz.ntmps111
        go_wp2_with fail
        refine KF2.out.mono ?_
        rintro e w1 ⟨rfl, rfl⟩
        go_wp2_with fail
        (try simp only [Exit.inBlock, Exit.then]); refine bodyPost_ret (results_none rfl _ _ _) rfl ?_
        rw [HE.out]
        exact ⟨rfl, v, H.out⟩
      · have hb1 : ((t : Int) == (full n : Nat)) = false := by simp; omega
        by_cases hm : t ∈ tabsN n ns
        · have HE : Hid ((sup n k t ns).1 = ns) := by
            show (sup n k t ns).1 = ns
            obtain ⟨j, hj, e⟩ := mem_tabsN.1 hm
            rw [Cho.sup_there n1 n6 hk hl h.red (by omega) e]
          have KA2 : Hid (Calls Tryz.prog 116 #[.int .u64 t, v] w fun e w' => e = .returned (.bool true) ∧ w' = w) := by
            have := KA.out; rw [decide_eq_true hm] at this; exact this
          obtain ⟨av, cv, rfl⟩ := owns_slice h.row
          clear h KA hm
          generalize full n = F at *
          go_enter Tryz.func111, Tryz.ntmps111
          go_wp2_with fail
          refine KF.out.mono ?_
          rintro e w1 ⟨rfl, rfl⟩
          go_wp2_with fail
          refine KA2.out.mono ?_
          rintro e w2 ⟨rfl, rfl⟩
          go_wp2_with fail
          (try simp only [Exit.inBlock, Exit.then]); refine bodyPost_ret (results_none rfl _ _ _) rfl ?_
          rw [HE.out]
          exact ⟨rfl, _, H.out⟩
        · have KA2 : Hid (Calls Tryz.prog 116 #[.int .u64 t, v] w fun e w' => e = .returned (.bool false) ∧ w' = w) := by
            have := KA.out; rw [decide_eq_false hm] at this; exact this
          have HNEW : Hid (∀ j, j < ns.length → tb n ns (j + 2) ≠ t) := fun j hj e => hm (mem_tabsN.2 ⟨j, hj, e⟩)
          have HCON : Hid (¬ Low n n t) := by
            intro hln
            have := Cho.low_all n6 ht hln
            split at this
            · exact t1 this
            · exact t0 this
          have hkn : k < n := by
            apply Classical.byContradiction
            intro hnk
            have : k = n := by omega
            subst this
            exact HCON.out hl
          have HL : Hid (Low n k t) := hl
          have HT : Hid (Tab n t) := ht
          have HLEN : Hid ((sup n k t ns).1.length ≤ 63) := hlen
          have KX : Hid (∀ i to, i < n → ∀ W, Below w.heap.size w W → Calls Tryz.prog 95 #[.pointer (some ⟨y, 0, none⟩), .int .u64 t, .int .i64 (i : Nat), .bool to] W fun e w' => e = .returned (.int .u64 (Cho.fix t i to : Nat)) ∧ w' = W) := fun i to hi W hW => rfixed_calls y n t i to W (cell_below h.y0 hW) n6 ht hi
          obtain ⟨av, cv, rfl⟩ := owns_slice h.row
          have hTU := (ht.u64 n6).lt
          clear h KA hm t0 t1 hl ht hlen
          generalize full n = F at *
          go_enter Tryz.func111, Tryz.ntmps111
          go_wp2_with fail
          refine KF.out.mono ?_
          rintro e w1 ⟨rfl, rfl⟩
          go_wp2_with fail
          refine KA2.out.mono ?_
          rintro e w2 ⟨rfl, rfl⟩
          clear KF KA2
          go_wp2_with fail
          go_loopw [6] (fun x6 wr => ∃ i : Nat, i < n ∧ x6 = .int .i64 i ∧ wr = w2 ∧ k ≤ i ∧ Hid (Low n i t) ∧ Hid (sup n k t ns = sup n i t ns)) (fun x6 _ => n - (intOf x6).toNat)
          case atStart => exact ⟨k, hkn, rfl, rfl, Nat.le_refl _, HL, rfl⟩
          case round =>
            obtain ⟨i, hi, rfl, rfl, hki, LI, SI⟩ := hrel
            by_cases hfx : Cho.fix t i false = t
            · have hsk := Cho.sup_skip n1 n6 hi HT.out LI.out H.out.red hfx
              have hi1 : i + 1 < n := by
                apply Classical.byContradiction
                intro hni
                have e : i + 1 = n := by omega
                exact HCON.out (by have := hsk.1; rw [e] at this; exact this)
              have L2 : Hid (Low n (i + 1) t) := hsk.1
              have S2 : Hid (sup n k t ns = sup n (i + 1) t ns) := SI.out.trans hsk.2
              have KY : Hid (Calls Tryz.prog 95 #[.pointer (some ⟨y, 0, none⟩), .int .u64 t, .int .i64 (i : Nat), .bool false] wr fun e w' => e = .returned (.int .u64 (t : Nat)) ∧ w' = wr) := by
                have := KX.out i false hi wr (Below.refl _ _)
                rw [hfx] at this; exact this
              clear hsk hfx
              go_wp2_with fail
              refine KY.out.mono ?_
              rintro e w3 ⟨rfl, rfl⟩
              go_wp2_with fail
              exact ⟨⟨i + 1, hi1, by go_num, trivial, by omega, L2, S2⟩, by simp [intOf]; omega⟩
            · have hlt0 := (Cho.fix_u64 t i false (HT.out.u64 n6)).lt
              have hfb : (((Cho.fix t i false : Nat) : Int) == (t : Int)) = false := by simp; omega
              have KY : Hid (Calls Tryz.prog 95 #[.pointer (some ⟨y, 0, none⟩), .int .u64 t, .int .i64 (i : Nat), .bool false] wr fun e w' => e = .returned (.int .u64 (Cho.fix t i false : Nat)) ∧ w' = wr) := KX.out i false hi wr (Below.refl _ _)
              have KZ : Hid (Calls Tryz.prog 95 #[.pointer (some ⟨y, 0, none⟩), .int .u64 t, .int .i64 (i : Nat), .bool true] wr fun e w' => e = .returned (.int .u64 (Cho.fix t i true : Nat)) ∧ w' = wr) := KX.out i true hi wr (Below.refl _ _)
              have TA := Cho.fix_tab i false HT.out n6 hi
              have TB := Cho.fix_tab i true HT.out n6 hi
              have LA := Cho.low_fix n6 hi HT.out LI.out false
              have LB := Cho.low_fix n6 hi HT.out LI.out true
              have HTA : Hid (Tab n (Cho.fix t i false) ∧ Tab n (Cho.fix t i true)) := ⟨TA, TB⟩
              have HLA : Hid (Low n (i + 1) (Cho.fix t i false) ∧ Low n (i + 1) (Cho.fix t i true)) := ⟨LA, LB⟩
              have SN : Hid _ := Cho.sup_node n6 hi HT.out LI.out H.out.red hfx HNEW.out
              have BI : Hid _ := Cho.build_blt n6 (Nat.le_of_lt hi) HT.out LI.out H.out.red
              clear TA TB LA LB hfx
              generalize Cho.fix t i false = a at *
              generalize Cho.fix t i true = b at *
              go_wp2_with fail
              refine KY.out.mono ?_
              rintro e w3 ⟨rfl, rfl⟩
              go_wp2_with fail
              refine KY.out.mono ?_
              rintro e w4 ⟨rfl, rfl⟩
              clear KY
              go_wp2_with fail
              refine KZ.out.mono ?_
              rintro e w5 ⟨rfl, rfl⟩
              clear KZ
              have B1 : Hid _ := Cho.build_blt n6 (show i + 1 ≤ n by omega) HTA.out.1 HLA.out.1 H.out.red
              have B2 : Hid _ := Cho.build_blt n6 (show i + 1 ≤ n by omega) HTA.out.2 HLA.out.2 B1.out.red
              have HL63 : Hid ((sup n (i + 1) b (sup n (i + 1) a ns).1).1.length + 1 ≤ 63 ∧ (sup n (i + 1) a ns).1.length ≤ 63) := by
                have h1 := HLEN.out
                rw [SI.out, SN.out] at h1
                obtain ⟨m2, e2, _⟩ := B2.out.ex
                have h2 := congrArg List.length e2
                simp only [List.length_append, List.length_singleton] at h1 h2
                show _ ∧ _
                constructor <;> omega
              have K1 : Hid (Calls Tryz.prog 111 #[.pointer (some ⟨wb, 0, none⟩), .int .u64 a, .int .i64 ((i : Int) + 1)] w5 fun e w' => e = .returned (.tuple #[]) ∧ Wrote w0 w' wb y n (sup n (i + 1) a ns).1) := IH.out (i + 1) (by omega) (by omega) w0 w5 wb y a _ ns H.out HTA.out.1 HLA.out.1 HL63.out.2
              have K2 : Hid (∀ W v', Wri w0 W wb y n v' (sup n (i + 1) a ns).1 → Calls Tryz.prog 111 #[.pointer (some ⟨wb, 0, none⟩), .int .u64 b, .int .i64 ((i : Int) + 1)] W fun e w' => e = .returned (.tuple #[]) ∧ Wrote w0 w' wb y n (sup n (i + 1) b (sup n (i + 1) a ns).1).1) := fun W v' hW => IH.out (i + 1) (by omega) (by omega) w0 W wb y b _ _ hW HTA.out.2 HLA.out.2 (by have := HL63.out.1; omega)
              go_wp2_with fail
              refine K1.out.mono ?_
              rintro e w6 ⟨rfl, v6, h6⟩
              have H6 : Hid _ := h6
              clear h6 K1
              go_wp2_with fail
              refine (K2.out w6 v6 H6.out).mono ?_
              rintro e w7 ⟨rfl, v7, h7⟩
              obtain ⟨a7, c7, rfl⟩ := owns_slice h7.row
              have H7 : Hid _ := h7
              clear h7 K2
              have HLK1 : Hid ((sup n (i + 1) a ns).2 < (sup n (i + 1) b (sup n (i + 1) a ns).1).1.length + 2 ∧ tb n (sup n (i + 1) b (sup n (i + 1) a ns).1).1 (sup n (i + 1) a ns).2 = a) := by
                obtain ⟨m2, e2, _⟩ := B2.out.ex
                have h2 := congrArg List.length e2
                have h3 := B1.out.lt
                simp only [List.length_append] at h2
                refine ⟨by omega, ?_⟩
                rw [e2, Cho.tb_app B1.out.red.wf m2 h3]; exact B1.out.tb
              have hT7 := Cho.rend_short H7.out.red.wf H7.out.few
              have KD : Hid (∀ W, Below w7.heap.size w7 W → Calls Tryz.prog 128 #[.int .i64 (i : Nat)] W fun e w' => e = .returned (txt (decL i)) ∧ Below w7.heap.size w7 w') := fun W hW => (rdecimal_calls i (by omega) W).mono (fun e w' ⟨h1, h2⟩ => ⟨h1, below_trans hW h2⟩)
              have KLA : Hid (∀ W, Below w7.heap.size w7 W → Calls Tryz.prog 129 #[.pointer (some ⟨wb, 0, none⟩), .int .u64 a] W fun e w' => e = .returned (txt (lnk (sup n (i + 1) a ns).2)) ∧ Below w7.heap.size w7 w') := fun W hW => (rlink_calls w0 W wb y n _ a _ _ (H7.out.below hW) HLK1.out.1 HLK1.out.2).mono (fun e w' ⟨h1, h2⟩ => ⟨h1, below_trans hW h2⟩)
              have KLB : Hid (∀ W, Below w7.heap.size w7 W → Calls Tryz.prog 129 #[.pointer (some ⟨wb, 0, none⟩), .int .u64 b] W fun e w' => e = .returned (txt (lnk (sup n (i + 1) b (sup n (i + 1) a ns).1).2)) ∧ Below w7.heap.size w7 w') := fun W hW => (rlink_calls w0 W wb y n _ b _ _ (H7.out.below hW) B2.out.lt B2.out.tb).mono (fun e w' ⟨h1, h2⟩ => ⟨h1, below_trans hW h2⟩)
              have d0 : w7.cell? ⟨wb, 2, none⟩ = some (txt (rend (sup n (i + 1) b (sup n (i + 1) a ns).1).1)) := cell_of_block H7.out.blk 2
              have KC : Hid (∀ W, Below w7.heap.size w7 W → W.cell? ⟨wb, 2, none⟩ = some (txt (rend (sup n (i + 1) b (sup n (i + 1) a ns).1).1)) ∧ W.frozen? ⟨wb, 2, none⟩ = false) := fun W hW => ⟨cell_below d0 hW, frozen_of_block (H7.out.below hW).blk 2⟩
              have q1 : (decL i).length ≤ 2 := Cho.decL_two (by omega)
              have q2 : (lnk (sup n (i + 1) a ns).2).length ≤ 2 := Cho.lnk_len (by have := HLK1.out.1; have := HL63.out.1; omega)
              have q3 : (lnk (sup n (i + 1) b (sup n (i + 1) a ns).1).2).length ≤ 2 := Cho.lnk_len (by have := B2.out.lt; have := HL63.out.1; omega)
              have HFIN : Hid ((ByteArray.mk (rend (sup n (i + 1) b (sup n (i + 1) a ns).1).1).toArray ++ ByteArray.mk (decL i).toArray ++ ByteArray.mk (lnk (sup n (i + 1) a ns).2).toArray ++ ByteArray.mk #[44] ++ ByteArray.mk (lnk (sup n (i + 1) b (sup n (i + 1) a ns).1).2).toArray ++ ByteArray.mk #[59]) = ByteArray.mk (rend ((sup n (i + 1) b (sup n (i + 1) a ns).1).1 ++ [(i, (sup n (i + 1) a ns).2, (sup n (i + 1) b (sup n (i + 1) a ns).1).2)])).toArray) := by
                show _ = _
                rw [show ByteArray.mk #[44] = ByteArray.mk ([44] : List UInt8).toArray from rfl, show ByteArray.mk #[59] = ByteArray.mk ([59] : List UInt8).toArray from rfl, txt_app, txt_app, txt_app, txt_app, txt_app, Cho.rend_snoc, Cho.decL_small (show i < 10 by omega)]
                simp [itm]
              have HRED : Hid (Red (List.range n) ((sup n (i + 1) b (sup n (i + 1) a ns).1).1 ++ [(i, (sup n (i + 1) a ns).2, (sup n (i + 1) b (sup n (i + 1) a ns).1).2)]) ∧ tb n ((sup n (i + 1) b (sup n (i + 1) a ns).1).1 ++ [(i, (sup n (i + 1) a ns).2, (sup n (i + 1) b (sup n (i + 1) a ns).1).2)]) ((sup n (i + 1) b (sup n (i + 1) a ns).1).1.length + 2) = t) := by
                have h1 := BI.out.red
                have h2 := BI.out.tb
                rw [SN.out] at h1 h2
                exact ⟨h1, h2⟩
              have HSUP : Hid ((sup n k t ns).1 = (sup n (i + 1) b (sup n (i + 1) a ns).1).1 ++ [(i, (sup n (i + 1) a ns).2, (sup n (i + 1) b (sup n (i + 1) a ns).1).2)]) := by
                show (sup n k t ns).1 = _
                rw [SI.out, SN.out]
              have HX : Hid (sup n (i + 1) a ns = sup n (i + 1) a ns) := rfl
              generalize hr1 : sup n (i + 1) a ns = r1 at *
              generalize hr2 : sup n (i + 1) b r1.1 = r2 at *
              generalize hTT : rend r2.1 = T at *
              generalize hDD : decL i = D at *
              generalize hL1 : lnk r1.2 = L1 at *
              generalize hL2 : lnk r2.2 = L2 at *
              have HEQ : Hid (rend r2.1 = T ∧ decL i = D ∧ lnk r1.2 = L1 ∧ lnk r2.2 = L2) := ⟨hTT, hDD, hL1, hL2⟩
              have z1 : ¬ 9223372036854775807 < T.length + D.length := by omega
              have z2 : ¬ 9223372036854775807 < T.length + D.length + L1.length := by omega
              have z3 : ¬ 9223372036854775807 < T.length + D.length + L1.length + 1 := by omega
              have z4 : ¬ 9223372036854775807 < T.length + D.length + L1.length + 1 + L2.length := by omega
              have z5 : ¬ 9223372036854775807 < T.length + D.length + L1.length + 1 + L2.length + 1 := by omega
              clear q1 q2 q3 hT7
              clear hTT hDD hL1 hL2 hr1 hr2 HX
              clear BI SN
              generalize hFB : (ByteArray.mk T.toArray ++ ByteArray.mk D.toArray ++ ByteArray.mk L1.toArray ++ ByteArray.mk #[44] ++ ByteArray.mk L2.toArray ++ ByteArray.mk #[59]) = FB at HFIN
              have HFB : Hid ((ByteArray.mk T.toArray ++ ByteArray.mk D.toArray ++ ByteArray.mk L1.toArray ++ ByteArray.mk #[44] ++ ByteArray.mk L2.toArray ++ ByteArray.mk #[59]) = FB) := hFB
              clear hFB
              have hm63 := HL63.out.1
              unfold txt at *
              go_wp2_with fail
              refine wp_region_noPanic ?_
              refine wp_region_held_drew (S := fun _ => True) (by kernel_rfl) trivial (fun hHeld => ?_)
              refine wpAnyH_take (i := 0) (v := ?_) rfl (by kernel_rfl) (by kernel_rfl) (by kernel_rfl) (fun _ _ _ h => h) (Or.inl ⟨by rfl, ?_⟩) (by assumption) ?_
              rotate_left
              focus (intro w hSw; (try dsimp only at hSw); go_simp; try with_reducible rfl)
              try simp only [Act.put, List.getElem_toArray, List.getElem_cons_zero, List.setIfInBounds_toArray, List.set_cons_zero, List.set_cons_succ]
              refine wpAnyH_take (i := 1) (v := ?_) rfl (by kernel_rfl) (by kernel_rfl) (by kernel_rfl) (fun _ _ _ h => h) (Or.inl ⟨by rfl, ?_⟩) (by assumption) ?_
              rotate_left
              focus (intro w hSw; (try dsimp only at hSw); go_simp; try with_reducible rfl)
              try simp only [Act.put, List.getElem_toArray, List.getElem_cons_zero, List.getElem_cons_succ, List.setIfInBounds_toArray, List.set_cons_zero, List.set_cons_succ]
              refine wpAnyH_take (i := 2) (v := ?_) rfl (by kernel_rfl) (by kernel_rfl) (by kernel_rfl) (fun _ _ _ h => h) (Or.inl ⟨by rfl, ?_⟩) (by assumption) ?_
              rotate_left
              focus (intro w hSw; (try dsimp only at hSw); go_simp; try with_reducible rfl)
              try simp only [Act.put, List.getElem_toArray, List.getElem_cons_zero, List.getElem_cons_succ, List.setIfInBounds_toArray, List.set_cons_zero, List.set_cons_succ]
              refine wpAnyH_take (i := 3) (v := ?_) rfl (by kernel_rfl) (by kernel_rfl) (by kernel_rfl) (fun _ _ _ h => h) (Or.inl ⟨by rfl, ?_⟩) (by assumption) ?_
              rotate_left
              focus (intro w hSw; (try dsimp only at hSw); go_simp; try with_reducible rfl)
              try simp only [Act.put, List.getElem_toArray, List.getElem_cons_zero, List.getElem_cons_succ, List.setIfInBounds_toArray, List.set_cons_zero, List.set_cons_succ]
              refine wpAnyH_take (i := 5) (v := ?_) rfl (by kernel_rfl) (by kernel_rfl) (by kernel_rfl) (fun _ _ _ h => h) (Or.inl ⟨by rfl, ?_⟩) (by assumption) ?_
              rotate_left
              focus (intro w hSw; (try dsimp only at hSw); go_simp; try with_reducible rfl)
              try simp only [Act.put, List.getElem_toArray, List.getElem_cons_zero, List.getElem_cons_succ, List.setIfInBounds_toArray, List.set_cons_zero, List.set_cons_succ]
              refine wpAnyH_take (i := 8) (v := ?_) rfl (by kernel_rfl) (by kernel_rfl) (by kernel_rfl) (fun _ _ _ h => h) (Or.inl ⟨by rfl, ?_⟩) (by assumption) ?_
              rotate_left
              focus (intro w hSw; (try dsimp only at hSw); go_simp; try with_reducible rfl)
              try simp only [Act.put, List.getElem_toArray, List.getElem_cons_zero, List.getElem_cons_succ, List.setIfInBounds_toArray, List.set_cons_zero, List.set_cons_succ]
              refine wpAnyH_take (i := 9) (v := ?_) rfl (by kernel_rfl) (by kernel_rfl) (by kernel_rfl) (fun _ _ _ h => h) (Or.inl ⟨by rfl, ?_⟩) (by assumption) ?_
              rotate_left
              focus (intro w hSw; (try dsimp only at hSw); go_simp; try with_reducible rfl)
              try simp only [Act.put, List.getElem_toArray, List.getElem_cons_zero, List.getElem_cons_succ, List.setIfInBounds_toArray, List.set_cons_zero, List.set_cons_succ]
              refine wpAnyH_take (i := 13) (v := ?_) rfl (by kernel_rfl) (by kernel_rfl) (by kernel_rfl) (fun _ _ _ h => h) (Or.inl ⟨by rfl, ?_⟩) (by assumption) ?_
              rotate_left
              focus (intro w hSw; (try dsimp only at hSw); go_simp; try with_reducible rfl)
              try simp only [Act.put, List.getElem_toArray, List.getElem_cons_zero, List.getElem_cons_succ, List.setIfInBounds_toArray, List.set_cons_zero, List.set_cons_succ]
              refine wpAnyH_take (i := 14) (v := ?_) rfl (by kernel_rfl) (by kernel_rfl) (by kernel_rfl) (fun _ _ _ h => h) (Or.inl ⟨by rfl, ?_⟩) (by assumption) ?_
              rotate_left
              focus (intro w hSw; (try dsimp only at hSw); go_simp; try with_reducible rfl)
              try simp only [Act.put, List.getElem_toArray, List.getElem_cons_zero, List.getElem_cons_succ, List.setIfInBounds_toArray, List.set_cons_zero, List.set_cons_succ]
              refine wpAnyH_ready (rs := [4, 6]) (by kernel_rfl) (by simp) ?_
              refine AllReadyH.cons rfl (fun K hK => ?_) (AllReadyH.cons rfl (fun K hK => ?_) AllReadyH.nil)
              · go_simp
                refine hK.out _ _ trivial (fun hHeld => ?_)
                clear hK K
                try simp only [Act.put, List.getElem_toArray, List.getElem_cons_zero, List.getElem_cons_succ, List.setIfInBounds_toArray, List.set_cons_zero, List.set_cons_succ]
                refine wpAnyH_ready (rs := [6]) (by kernel_rfl) (by simp) ?_
                refine AllReadyH.cons rfl (fun K hK => ?_) AllReadyH.nil
                go_simp
                refine (KD.out _ (drew_below _)).mono ?_
                rintro e w8 ⟨rfl, b8⟩
                have D1 : Hid (Below w7.heap.size w7 w8) := b8
                have e8 := (KC.out _ D1.out).1
                clear b8
                go_wp2_with fail
                refine hK.out _ _ trivial (fun hHeld => ?_)
                clear hK K
                try simp only [Act.put, List.getElem_toArray, List.getElem_cons_zero, List.getElem_cons_succ, List.setIfInBounds_toArray, List.set_cons_zero, List.set_cons_succ]
                refine wpAnyH_take (i := 7) (v := ?_) rfl (by kernel_rfl) (by kernel_rfl) (by kernel_rfl) (fun _ _ _ h => h) (Or.inl ⟨by rfl, ?_⟩) (by assumption) ?_
                rotate_left
                focus (intro w hSw; (try dsimp only at hSw); go_simp; try with_reducible rfl)
                try simp only [Act.put, List.getElem_toArray, List.getElem_cons_zero, List.getElem_cons_succ, List.setIfInBounds_toArray, List.set_cons_zero, List.set_cons_succ]
                refine wpAnyH_ready (rs := [10]) (by kernel_rfl) (by simp) ?_
                refine AllReadyH.cons rfl (fun K hK => ?_) AllReadyH.nil
                go_simp
                refine (KLA.out _ D1.out).mono ?_
                rintro e w9 ⟨rfl, b9⟩
                have D2 : Hid (Below w7.heap.size w7 w9) := b9
                have e9 := (KC.out _ D2.out).1
                clear b9
                go_wp2_with fail
                refine hK.out _ _ trivial (fun hHeld => ?_)
                clear hK K
                try simp only [Act.put, List.getElem_toArray, List.getElem_cons_zero, List.getElem_cons_succ, List.setIfInBounds_toArray, List.set_cons_zero, List.set_cons_succ]
                refine wpAnyH_take (i := 11) (v := ?_) rfl (by kernel_rfl) (by kernel_rfl) (by kernel_rfl) (fun _ _ _ h => h) (Or.inl ⟨by rfl, ?_⟩) (by assumption) ?_
                rotate_left
                focus (intro w hSw; (try dsimp only at hSw); go_simp; try with_reducible rfl)
                try simp only [Act.put, List.getElem_toArray, List.getElem_cons_zero, List.getElem_cons_succ, List.setIfInBounds_toArray, List.set_cons_zero, List.set_cons_succ]
                refine wpAnyH_take (i := 12) (v := ?_) rfl (by kernel_rfl) (by kernel_rfl) (by kernel_rfl) (fun _ _ _ h => h) (Or.inl ⟨by rfl, ?_⟩) (by assumption) ?_
                rotate_left
                focus (intro w hSw; (try dsimp only at hSw); go_simp; try with_reducible rfl)
                try simp only [Act.put, List.getElem_toArray, List.getElem_cons_zero, List.getElem_cons_succ, List.setIfInBounds_toArray, List.set_cons_zero, List.set_cons_succ]
                refine wpAnyH_ready (rs := [15]) (by kernel_rfl) (by simp) ?_
                refine AllReadyH.cons rfl (fun K hK => ?_) AllReadyH.nil
                go_simp
                refine (KLB.out _ D2.out).mono ?_
                rintro e w10 ⟨rfl, b10⟩
                have D3 : Hid (Below w7.heap.size w7 w10) := b10
                have e10 := (KC.out _ D3.out).1
                have f10 := (KC.out _ D3.out).2
                clear b10
                go_wp2_with fail
                refine hK.out _ _ trivial (fun hHeld => ?_)
                clear hK K
                try simp only [Act.put, List.getElem_toArray, List.getElem_cons_zero, List.getElem_cons_succ, List.setIfInBounds_toArray, List.set_cons_zero, List.set_cons_succ]
                refine wpAnyH_take (i := 16) (v := ?_) rfl (by kernel_rfl) (by kernel_rfl) (by kernel_rfl) (fun _ _ _ h => h) (Or.inl ⟨by rfl, ?_⟩) (by assumption) ?_
                rotate_left
                focus (intro w hSw; (try dsimp only at hSw); go_simp; try with_reducible rfl)
                try simp only [Act.put, List.getElem_toArray, List.getElem_cons_zero, List.getElem_cons_succ, List.setIfInBounds_toArray, List.set_cons_zero, List.set_cons_succ]
                refine wpAnyH_take (i := 17) (v := ?_) rfl (by kernel_rfl) (by kernel_rfl) (by kernel_rfl) (fun _ _ _ h => h) (Or.inl ⟨by rfl, ?_⟩) (by assumption) ?_
                rotate_left
                focus (intro w hSw; (try dsimp only at hSw); go_simp; try with_reducible rfl)
                try simp only [Act.put, List.getElem_toArray, List.getElem_cons_zero, List.getElem_cons_succ, List.setIfInBounds_toArray, List.set_cons_zero, List.set_cons_succ]
                refine wpAnyH_take (i := 18) (v := ?_) rfl (by kernel_rfl) (by kernel_rfl) (by kernel_rfl) (fun _ _ _ h => h) (Or.inl ⟨by rfl, ?_⟩) (by assumption) ?_
                rotate_left
                focus (intro w hSw; (try dsimp only at hSw); go_simp; try with_reducible rfl)
                try simp only [Act.put, List.getElem_toArray, List.getElem_cons_zero, List.getElem_cons_succ, List.setIfInBounds_toArray, List.set_cons_zero, List.set_cons_succ]
                refine wpAnyH_take (i := 19) (v := ?_) rfl (by kernel_rfl) (by kernel_rfl) (by kernel_rfl) (fun _ _ _ h => h) (Or.inl ⟨by rfl, ?_⟩) (by assumption) ?_
                rotate_left
                focus (intro w hSw; (try dsimp only at hSw); go_simp; try with_reducible rfl)
                try simp only [Act.put, List.getElem_toArray, List.getElem_cons_zero, List.getElem_cons_succ, List.setIfInBounds_toArray, List.set_cons_zero, List.set_cons_succ]
                refine wpAnyH_ready (rs := [20]) (by kernel_rfl) (by simp) ?_
                refine AllReadyH.cons rfl (fun K hK => ?_) AllReadyH.nil
                go_simp
                refine hK.out _ _ trivial (fun hHeld => ?_)
                clear hK K
                try simp only [Act.put, List.getElem_toArray, List.getElem_cons_zero, List.getElem_cons_succ, List.setIfInBounds_toArray, List.set_cons_zero, List.set_cons_succ]
                refine wpAnyH_done (by kernel_rfl) ?_ _
                refine NoPanic.normal ?_
                have H10 : Hid _ := H7.out.below D3.out
                have g1 : w10.cell? ⟨wb, 1, none⟩ = some (.slice a7 r2.1.length c7) := cell_of_block H10.out.blk 1
                have hsz10 := H10.out.bel.size
                have F1 : Hid (r2.1.length + 1 ≤ maxLen) := by show r2.1.length + 1 ≤ maxLen; unfold maxLen; omega
                have F2 : Hid ((r2.1.length + 1) * 8 ≤ 140737488355328) := by show (r2.1.length + 1) * 8 ≤ 140737488355328; omega
                have F3 : Hid (w0.heap.size ≤ ((w10.setCell ⟨wb, 2, none⟩ (.string FB)).alloc (.cells #[.int .u64 (t : Nat)] 31)).heap.size) := by show w0.heap.size ≤ ((w10.setCell ⟨wb, 2, none⟩ (.string FB)).alloc (.cells #[.int .u64 (t : Nat)] 31)).heap.size; simp [World.setCell]; omega
                have O11 : Hid (((w10.setCell ⟨wb, 2, none⟩ (.string FB)).alloc (.cells #[.int .u64 (t : Nat)] 31)).ownsRow w0.heap.size 31 1 (.slice a7 r2.1.length c7) r2.1.length (uv (tabsN n r2.1))) := World.ownsRow.alloc (owns_kept H10.out.row fun g hg => block_set_other (fun e => owns_ne H10.out.row H10.out.blk (by decide) (by rw [hg, e]))) _
                have IE : Hid (∀ v' w12, ((w10.setCell ⟨wb, 2, none⟩ (.string FB)).alloc (.cells #[.int .u64 (t : Nat)] 31)).grownBy w12 (Value.slice a7 r2.1.length c7).ownBlock → w12.ownsRow w0.heap.size 31 1 v' (r2.1.length + 1) (uv (tabsN n r2.1) ++ [.int .u64 (t : Nat)]) → w12.cell? ⟨wb, 1, none⟩ = some (.slice a7 r2.1.length c7) ∧ w12.frozen? ⟨wb, 1, none⟩ = false ∧ Wri w0 (w12.setCell ⟨wb, 1, none⟩ v') wb y n v' (r2.1 ++ [(i, r1.2, r2.2)])) := fun v' w12 hg ho => item_end H10.out HRED.out.1 hm63 HRED.out.2 (by rw [HFIN.out] at hg; exact hg) ho
                have HNC : Hid (∀ j u, [Value.int .u64 (t : Nat)][j]? = some u → ((w10.setCell ⟨wb, 2, none⟩ (.string FB)).alloc (.cells #[.int .u64 (t : Nat)] 31)).cell? ((⟨w10.heap.size, 0, none⟩ : Addr).add j) = some u) := by have h9 := new_cells (w10.setCell ⟨wb, 2, none⟩ (.string FB)) [.int .u64 (t : Nat)] 31; rw [show (w10.setCell ⟨wb, 2, none⟩ (.string FB)).heap.size = w10.heap.size from by simp [World.setCell]] at h9; exact h9
                clear e8 e9 e10 f10 d0
                rw [HFB.out]
                go_wp2_with (at_builtin; go_must (refine wpList_append_own _ rfl _ _ 127 rfl w0.heap.size 31 i0 _ 1 8 Tryz.underlying127 hi0 hz0 hz1 hz2 rfl (Nat.succ_pos 0) (.slice a7 r2.1.length c7) r2.1.length (uv (tabsN n r2.1)) ?e1 O11.out ⟨w10.heap.size, 0, none⟩ 1 1 [.int .u64 (t : Nat)] ?e2 rfl HNC.out ?e3 F1.out F2.out F3.out ?_); (case e1 => rfl); (case e2 => rfl); (case e3 => simp [Value.oneCell']); intro v' w12 hown hgrow _; have HE := IE.out v' w12 hgrow hown; have m0 := HE.1; have mf := HE.2.1; have HW : Hid (Wri w0 (w12.setCell ⟨wb, 1, none⟩ v') wb y n v' (r2.1 ++ [(i, r1.2, r2.2)])) := HE.2.2; obtain ⟨av', cv', rfl⟩ := owns_slice hown; clear HE hown hgrow)
                go_end0
                refine ⟨rfl, .slice av' (r2.1.length + 1) cv', ?_⟩
                rw [HSUP.out]
                exact HW.out
              · go_simp
                refine (KD.out _ (drew_below _)).mono ?_
                rintro e w8 ⟨rfl, b8⟩
                have D1 : Hid (Below w7.heap.size w7 w8) := b8
                have e8 := (KC.out _ D1.out).1
                clear b8
                go_wp2_with fail
                refine hK.out _ _ trivial (fun hHeld => ?_)
                clear hK K
                try simp only [Act.put, List.getElem_toArray, List.getElem_cons_zero, List.getElem_cons_succ, List.setIfInBounds_toArray, List.set_cons_zero, List.set_cons_succ]
                refine wpAnyH_ready (rs := [4, 10]) (by kernel_rfl) (by simp) ?_
                refine AllReadyH.cons rfl (fun K hK => ?_) (AllReadyH.cons rfl (fun K hK => ?_) AllReadyH.nil)
                · go_simp
                  refine hK.out _ _ trivial (fun hHeld => ?_)
                  clear hK K
                  try simp only [Act.put, List.getElem_toArray, List.getElem_cons_zero, List.getElem_cons_succ, List.setIfInBounds_toArray, List.set_cons_zero, List.set_cons_succ]
                  refine wpAnyH_take (i := 7) (v := ?_) rfl (by kernel_rfl) (by kernel_rfl) (by kernel_rfl) (fun _ _ _ h => h) (Or.inl ⟨by rfl, ?_⟩) (by assumption) ?_
                  rotate_left
                  focus (intro w hSw; (try dsimp only at hSw); go_simp; try with_reducible rfl)
                  try simp only [Act.put, List.getElem_toArray, List.getElem_cons_zero, List.getElem_cons_succ, List.setIfInBounds_toArray, List.set_cons_zero, List.set_cons_succ]
                  refine wpAnyH_ready (rs := [10]) (by kernel_rfl) (by simp) ?_
                  refine AllReadyH.cons rfl (fun K hK => ?_) AllReadyH.nil
                  go_simp
                  refine (KLA.out _ D1.out).mono ?_
                  rintro e w9 ⟨rfl, b9⟩
                  have D2 : Hid (Below w7.heap.size w7 w9) := b9
                  have e9 := (KC.out _ D2.out).1
                  clear b9
                  go_wp2_with fail
                  refine hK.out _ _ trivial (fun hHeld => ?_)
                  clear hK K
                  try simp only [Act.put, List.getElem_toArray, List.getElem_cons_zero, List.getElem_cons_succ, List.setIfInBounds_toArray, List.set_cons_zero, List.set_cons_succ]
                  refine wpAnyH_take (i := 11) (v := ?_) rfl (by kernel_rfl) (by kernel_rfl) (by kernel_rfl) (fun _ _ _ h => h) (Or.inl ⟨by rfl, ?_⟩) (by assumption) ?_
                  rotate_left
                  focus (intro w hSw; (try dsimp only at hSw); go_simp; try with_reducible rfl)
                  try simp only [Act.put, List.getElem_toArray, List.getElem_cons_zero, List.getElem_cons_succ, List.setIfInBounds_toArray, List.set_cons_zero, List.set_cons_succ]
                  refine wpAnyH_take (i := 12) (v := ?_) rfl (by kernel_rfl) (by kernel_rfl) (by kernel_rfl) (fun _ _ _ h => h) (Or.inl ⟨by rfl, ?_⟩) (by assumption) ?_
                  rotate_left
                  focus (intro w hSw; (try dsimp only at hSw); go_simp; try with_reducible rfl)
                  try simp only [Act.put, List.getElem_toArray, List.getElem_cons_zero, List.getElem_cons_succ, List.setIfInBounds_toArray, List.set_cons_zero, List.set_cons_succ]
                  refine wpAnyH_ready (rs := [15]) (by kernel_rfl) (by simp) ?_
                  refine AllReadyH.cons rfl (fun K hK => ?_) AllReadyH.nil
                  go_simp
                  refine (KLB.out _ D2.out).mono ?_
                  rintro e w10 ⟨rfl, b10⟩
                  have D3 : Hid (Below w7.heap.size w7 w10) := b10
                  have e10 := (KC.out _ D3.out).1
                  have f10 := (KC.out _ D3.out).2
                  clear b10
                  go_wp2_with fail
                  refine hK.out _ _ trivial (fun hHeld => ?_)
                  clear hK K
                  try simp only [Act.put, List.getElem_toArray, List.getElem_cons_zero, List.getElem_cons_succ, List.setIfInBounds_toArray, List.set_cons_zero, List.set_cons_succ]
                  refine wpAnyH_take (i := 16) (v := ?_) rfl (by kernel_rfl) (by kernel_rfl) (by kernel_rfl) (fun _ _ _ h => h) (Or.inl ⟨by rfl, ?_⟩) (by assumption) ?_
                  rotate_left
                  focus (intro w hSw; (try dsimp only at hSw); go_simp; try with_reducible rfl)
                  try simp only [Act.put, List.getElem_toArray, List.getElem_cons_zero, List.getElem_cons_succ, List.setIfInBounds_toArray, List.set_cons_zero, List.set_cons_succ]
                  refine wpAnyH_take (i := 17) (v := ?_) rfl (by kernel_rfl) (by kernel_rfl) (by kernel_rfl) (fun _ _ _ h => h) (Or.inl ⟨by rfl, ?_⟩) (by assumption) ?_
                  rotate_left
                  focus (intro w hSw; (try dsimp only at hSw); go_simp; try with_reducible rfl)
                  try simp only [Act.put, List.getElem_toArray, List.getElem_cons_zero, List.getElem_cons_succ, List.setIfInBounds_toArray, List.set_cons_zero, List.set_cons_succ]
                  refine wpAnyH_take (i := 18) (v := ?_) rfl (by kernel_rfl) (by kernel_rfl) (by kernel_rfl) (fun _ _ _ h => h) (Or.inl ⟨by rfl, ?_⟩) (by assumption) ?_
                  rotate_left
                  focus (intro w hSw; (try dsimp only at hSw); go_simp; try with_reducible rfl)
                  try simp only [Act.put, List.getElem_toArray, List.getElem_cons_zero, List.getElem_cons_succ, List.setIfInBounds_toArray, List.set_cons_zero, List.set_cons_succ]
                  refine wpAnyH_take (i := 19) (v := ?_) rfl (by kernel_rfl) (by kernel_rfl) (by kernel_rfl) (fun _ _ _ h => h) (Or.inl ⟨by rfl, ?_⟩) (by assumption) ?_
                  rotate_left
                  focus (intro w hSw; (try dsimp only at hSw); go_simp; try with_reducible rfl)
                  try simp only [Act.put, List.getElem_toArray, List.getElem_cons_zero, List.getElem_cons_succ, List.setIfInBounds_toArray, List.set_cons_zero, List.set_cons_succ]
                  refine wpAnyH_ready (rs := [20]) (by kernel_rfl) (by simp) ?_
                  refine AllReadyH.cons rfl (fun K hK => ?_) AllReadyH.nil
                  go_simp
                  refine hK.out _ _ trivial (fun hHeld => ?_)
                  clear hK K
                  try simp only [Act.put, List.getElem_toArray, List.getElem_cons_zero, List.getElem_cons_succ, List.setIfInBounds_toArray, List.set_cons_zero, List.set_cons_succ]
                  refine wpAnyH_done (by kernel_rfl) ?_ _
                  refine NoPanic.normal ?_
                  have H10 : Hid _ := H7.out.below D3.out
                  have g1 : w10.cell? ⟨wb, 1, none⟩ = some (.slice a7 r2.1.length c7) := cell_of_block H10.out.blk 1
                  have hsz10 := H10.out.bel.size
                  have F1 : Hid (r2.1.length + 1 ≤ maxLen) := by show r2.1.length + 1 ≤ maxLen; unfold maxLen; omega
                  have F2 : Hid ((r2.1.length + 1) * 8 ≤ 140737488355328) := by show (r2.1.length + 1) * 8 ≤ 140737488355328; omega
                  have F3 : Hid (w0.heap.size ≤ ((w10.setCell ⟨wb, 2, none⟩ (.string FB)).alloc (.cells #[.int .u64 (t : Nat)] 31)).heap.size) := by show w0.heap.size ≤ ((w10.setCell ⟨wb, 2, none⟩ (.string FB)).alloc (.cells #[.int .u64 (t : Nat)] 31)).heap.size; simp [World.setCell]; omega
                  have O11 : Hid (((w10.setCell ⟨wb, 2, none⟩ (.string FB)).alloc (.cells #[.int .u64 (t : Nat)] 31)).ownsRow w0.heap.size 31 1 (.slice a7 r2.1.length c7) r2.1.length (uv (tabsN n r2.1))) := World.ownsRow.alloc (owns_kept H10.out.row fun g hg => block_set_other (fun e => owns_ne H10.out.row H10.out.blk (by decide) (by rw [hg, e]))) _
                  have IE : Hid (∀ v' w12, ((w10.setCell ⟨wb, 2, none⟩ (.string FB)).alloc (.cells #[.int .u64 (t : Nat)] 31)).grownBy w12 (Value.slice a7 r2.1.length c7).ownBlock → w12.ownsRow w0.heap.size 31 1 v' (r2.1.length + 1) (uv (tabsN n r2.1) ++ [.int .u64 (t : Nat)]) → w12.cell? ⟨wb, 1, none⟩ = some (.slice a7 r2.1.length c7) ∧ w12.frozen? ⟨wb, 1, none⟩ = false ∧ Wri w0 (w12.setCell ⟨wb, 1, none⟩ v') wb y n v' (r2.1 ++ [(i, r1.2, r2.2)])) := fun v' w12 hg ho => item_end H10.out HRED.out.1 hm63 HRED.out.2 (by rw [HFIN.out] at hg; exact hg) ho
                  have HNC : Hid (∀ j u, [Value.int .u64 (t : Nat)][j]? = some u → ((w10.setCell ⟨wb, 2, none⟩ (.string FB)).alloc (.cells #[.int .u64 (t : Nat)] 31)).cell? ((⟨w10.heap.size, 0, none⟩ : Addr).add j) = some u) := by have h9 := new_cells (w10.setCell ⟨wb, 2, none⟩ (.string FB)) [.int .u64 (t : Nat)] 31; rw [show (w10.setCell ⟨wb, 2, none⟩ (.string FB)).heap.size = w10.heap.size from by simp [World.setCell]] at h9; exact h9
                  clear e8 e9 e10 f10 d0
                  rw [HFB.out]
                  go_wp2_with (at_builtin; go_must (refine wpList_append_own _ rfl _ _ 127 rfl w0.heap.size 31 i0 _ 1 8 Tryz.underlying127 hi0 hz0 hz1 hz2 rfl (Nat.succ_pos 0) (.slice a7 r2.1.length c7) r2.1.length (uv (tabsN n r2.1)) ?e1 O11.out ⟨w10.heap.size, 0, none⟩ 1 1 [.int .u64 (t : Nat)] ?e2 rfl HNC.out ?e3 F1.out F2.out F3.out ?_); (case e1 => rfl); (case e2 => rfl); (case e3 => simp [Value.oneCell']); intro v' w12 hown hgrow _; have HE := IE.out v' w12 hgrow hown; have m0 := HE.1; have mf := HE.2.1; have HW : Hid (Wri w0 (w12.setCell ⟨wb, 1, none⟩ v') wb y n v' (r2.1 ++ [(i, r1.2, r2.2)])) := HE.2.2; obtain ⟨av', cv', rfl⟩ := owns_slice hown; clear HE hown hgrow)
                  go_end0
                  refine ⟨rfl, .slice av' (r2.1.length + 1) cv', ?_⟩
                  rw [HSUP.out]
                  exact HW.out
                · go_simp
                  refine (KLA.out _ D1.out).mono ?_
                  rintro e w9 ⟨rfl, b9⟩
                  have D2 : Hid (Below w7.heap.size w7 w9) := b9
                  have e9 := (KC.out _ D2.out).1
                  clear b9
                  go_wp2_with fail
                  refine hK.out _ _ trivial (fun hHeld => ?_)
                  clear hK K
                  try simp only [Act.put, List.getElem_toArray, List.getElem_cons_zero, List.getElem_cons_succ, List.setIfInBounds_toArray, List.set_cons_zero, List.set_cons_succ]
                  refine wpAnyH_ready (rs := [4, 15]) (by kernel_rfl) (by simp) ?_
                  refine AllReadyH.cons rfl (fun K hK => ?_) (AllReadyH.cons rfl (fun K hK => ?_) AllReadyH.nil)
                  · go_simp
                    refine hK.out _ _ trivial (fun hHeld => ?_)
                    clear hK K
                    try simp only [Act.put, List.getElem_toArray, List.getElem_cons_zero, List.getElem_cons_succ, List.setIfInBounds_toArray, List.set_cons_zero, List.set_cons_succ]
                    refine wpAnyH_take (i := 7) (v := ?_) rfl (by kernel_rfl) (by kernel_rfl) (by kernel_rfl) (fun _ _ _ h => h) (Or.inl ⟨by rfl, ?_⟩) (by assumption) ?_
                    rotate_left
                    focus (intro w hSw; (try dsimp only at hSw); go_simp; try with_reducible rfl)
                    try simp only [Act.put, List.getElem_toArray, List.getElem_cons_zero, List.getElem_cons_succ, List.setIfInBounds_toArray, List.set_cons_zero, List.set_cons_succ]
                    refine wpAnyH_take (i := 11) (v := ?_) rfl (by kernel_rfl) (by kernel_rfl) (by kernel_rfl) (fun _ _ _ h => h) (Or.inl ⟨by rfl, ?_⟩) (by assumption) ?_
                    rotate_left
                    focus (intro w hSw; (try dsimp only at hSw); go_simp; try with_reducible rfl)
                    try simp only [Act.put, List.getElem_toArray, List.getElem_cons_zero, List.getElem_cons_succ, List.setIfInBounds_toArray, List.set_cons_zero, List.set_cons_succ]
                    refine wpAnyH_take (i := 12) (v := ?_) rfl (by kernel_rfl) (by kernel_rfl) (by kernel_rfl) (fun _ _ _ h => h) (Or.inl ⟨by rfl, ?_⟩) (by assumption) ?_
                    rotate_left
                    focus (intro w hSw; (try dsimp only at hSw); go_simp; try with_reducible rfl)
                    try simp only [Act.put, List.getElem_toArray, List.getElem_cons_zero, List.getElem_cons_succ, List.setIfInBounds_toArray, List.set_cons_zero, List.set_cons_succ]
                    refine wpAnyH_ready (rs := [15]) (by kernel_rfl) (by simp) ?_
                    refine AllReadyH.cons rfl (fun K hK => ?_) AllReadyH.nil
                    go_simp
                    refine (KLB.out _ D2.out).mono ?_
                    rintro e w10 ⟨rfl, b10⟩
                    have D3 : Hid (Below w7.heap.size w7 w10) := b10
                    have e10 := (KC.out _ D3.out).1
                    have f10 := (KC.out _ D3.out).2
                    clear b10
                    go_wp2_with fail
                    refine hK.out _ _ trivial (fun hHeld => ?_)
                    clear hK K
                    try simp only [Act.put, List.getElem_toArray, List.getElem_cons_zero, List.getElem_cons_succ, List.setIfInBounds_toArray, List.set_cons_zero, List.set_cons_succ]
                    refine wpAnyH_take (i := 16) (v := ?_) rfl (by kernel_rfl) (by kernel_rfl) (by kernel_rfl) (fun _ _ _ h => h) (Or.inl ⟨by rfl, ?_⟩) (by assumption) ?_
                    rotate_left
                    focus (intro w hSw; (try dsimp only at hSw); go_simp; try with_reducible rfl)
                    try simp only [Act.put, List.getElem_toArray, List.getElem_cons_zero, List.getElem_cons_succ, List.setIfInBounds_toArray, List.set_cons_zero, List.set_cons_succ]
                    refine wpAnyH_take (i := 17) (v := ?_) rfl (by kernel_rfl) (by kernel_rfl) (by kernel_rfl) (fun _ _ _ h => h) (Or.inl ⟨by rfl, ?_⟩) (by assumption) ?_
                    rotate_left
                    focus (intro w hSw; (try dsimp only at hSw); go_simp; try with_reducible rfl)
                    try simp only [Act.put, List.getElem_toArray, List.getElem_cons_zero, List.getElem_cons_succ, List.setIfInBounds_toArray, List.set_cons_zero, List.set_cons_succ]
                    refine wpAnyH_take (i := 18) (v := ?_) rfl (by kernel_rfl) (by kernel_rfl) (by kernel_rfl) (fun _ _ _ h => h) (Or.inl ⟨by rfl, ?_⟩) (by assumption) ?_
                    rotate_left
                    focus (intro w hSw; (try dsimp only at hSw); go_simp; try with_reducible rfl)
                    try simp only [Act.put, List.getElem_toArray, List.getElem_cons_zero, List.getElem_cons_succ, List.setIfInBounds_toArray, List.set_cons_zero, List.set_cons_succ]
                    refine wpAnyH_take (i := 19) (v := ?_) rfl (by kernel_rfl) (by kernel_rfl) (by kernel_rfl) (fun _ _ _ h => h) (Or.inl ⟨by rfl, ?_⟩) (by assumption) ?_
                    rotate_left
                    focus (intro w hSw; (try dsimp only at hSw); go_simp; try with_reducible rfl)
                    try simp only [Act.put, List.getElem_toArray, List.getElem_cons_zero, List.getElem_cons_succ, List.setIfInBounds_toArray, List.set_cons_zero, List.set_cons_succ]
                    refine wpAnyH_ready (rs := [20]) (by kernel_rfl) (by simp) ?_
                    refine AllReadyH.cons rfl (fun K hK => ?_) AllReadyH.nil
                    go_simp
                    refine hK.out _ _ trivial (fun hHeld => ?_)
                    clear hK K
                    try simp only [Act.put, List.getElem_toArray, List.getElem_cons_zero, List.getElem_cons_succ, List.setIfInBounds_toArray, List.set_cons_zero, List.set_cons_succ]
                    refine wpAnyH_done (by kernel_rfl) ?_ _
                    refine NoPanic.normal ?_
                    have H10 : Hid _ := H7.out.below D3.out
                    have g1 : w10.cell? ⟨wb, 1, none⟩ = some (.slice a7 r2.1.length c7) := cell_of_block H10.out.blk 1
                    have hsz10 := H10.out.bel.size
                    have F1 : Hid (r2.1.length + 1 ≤ maxLen) := by show r2.1.length + 1 ≤ maxLen; unfold maxLen; omega
                    have F2 : Hid ((r2.1.length + 1) * 8 ≤ 140737488355328) := by show (r2.1.length + 1) * 8 ≤ 140737488355328; omega
                    have F3 : Hid (w0.heap.size ≤ ((w10.setCell ⟨wb, 2, none⟩ (.string FB)).alloc (.cells #[.int .u64 (t : Nat)] 31)).heap.size) := by show w0.heap.size ≤ ((w10.setCell ⟨wb, 2, none⟩ (.string FB)).alloc (.cells #[.int .u64 (t : Nat)] 31)).heap.size; simp [World.setCell]; omega
                    have O11 : Hid (((w10.setCell ⟨wb, 2, none⟩ (.string FB)).alloc (.cells #[.int .u64 (t : Nat)] 31)).ownsRow w0.heap.size 31 1 (.slice a7 r2.1.length c7) r2.1.length (uv (tabsN n r2.1))) := World.ownsRow.alloc (owns_kept H10.out.row fun g hg => block_set_other (fun e => owns_ne H10.out.row H10.out.blk (by decide) (by rw [hg, e]))) _
                    have IE : Hid (∀ v' w12, ((w10.setCell ⟨wb, 2, none⟩ (.string FB)).alloc (.cells #[.int .u64 (t : Nat)] 31)).grownBy w12 (Value.slice a7 r2.1.length c7).ownBlock → w12.ownsRow w0.heap.size 31 1 v' (r2.1.length + 1) (uv (tabsN n r2.1) ++ [.int .u64 (t : Nat)]) → w12.cell? ⟨wb, 1, none⟩ = some (.slice a7 r2.1.length c7) ∧ w12.frozen? ⟨wb, 1, none⟩ = false ∧ Wri w0 (w12.setCell ⟨wb, 1, none⟩ v') wb y n v' (r2.1 ++ [(i, r1.2, r2.2)])) := fun v' w12 hg ho => item_end H10.out HRED.out.1 hm63 HRED.out.2 (by rw [HFIN.out] at hg; exact hg) ho
                    have HNC : Hid (∀ j u, [Value.int .u64 (t : Nat)][j]? = some u → ((w10.setCell ⟨wb, 2, none⟩ (.string FB)).alloc (.cells #[.int .u64 (t : Nat)] 31)).cell? ((⟨w10.heap.size, 0, none⟩ : Addr).add j) = some u) := by have h9 := new_cells (w10.setCell ⟨wb, 2, none⟩ (.string FB)) [.int .u64 (t : Nat)] 31; rw [show (w10.setCell ⟨wb, 2, none⟩ (.string FB)).heap.size = w10.heap.size from by simp [World.setCell]] at h9; exact h9
                    clear e8 e9 e10 f10 d0
                    rw [HFB.out]
                    go_wp2_with (at_builtin; go_must (refine wpList_append_own _ rfl _ _ 127 rfl w0.heap.size 31 i0 _ 1 8 Tryz.underlying127 hi0 hz0 hz1 hz2 rfl (Nat.succ_pos 0) (.slice a7 r2.1.length c7) r2.1.length (uv (tabsN n r2.1)) ?e1 O11.out ⟨w10.heap.size, 0, none⟩ 1 1 [.int .u64 (t : Nat)] ?e2 rfl HNC.out ?e3 F1.out F2.out F3.out ?_); (case e1 => rfl); (case e2 => rfl); (case e3 => simp [Value.oneCell']); intro v' w12 hown hgrow _; have HE := IE.out v' w12 hgrow hown; have m0 := HE.1; have mf := HE.2.1; have HW : Hid (Wri w0 (w12.setCell ⟨wb, 1, none⟩ v') wb y n v' (r2.1 ++ [(i, r1.2, r2.2)])) := HE.2.2; obtain ⟨av', cv', rfl⟩ := owns_slice hown; clear HE hown hgrow)
                    go_end0
                    refine ⟨rfl, .slice av' (r2.1.length + 1) cv', ?_⟩
                    rw [HSUP.out]
                    exact HW.out
                  · go_simp
                    refine (KLB.out _ D2.out).mono ?_
                    rintro e w10 ⟨rfl, b10⟩
                    have D3 : Hid (Below w7.heap.size w7 w10) := b10
                    have e10 := (KC.out _ D3.out).1
                    have f10 := (KC.out _ D3.out).2
                    clear b10
                    go_wp2_with fail
                    refine hK.out _ _ trivial (fun hHeld => ?_)
                    clear hK K
                    try simp only [Act.put, List.getElem_toArray, List.getElem_cons_zero, List.getElem_cons_succ, List.setIfInBounds_toArray, List.set_cons_zero, List.set_cons_succ]
                    refine wpAnyH_ready (rs := [4]) (by kernel_rfl) (by simp) ?_
                    refine AllReadyH.cons rfl (fun K hK => ?_) AllReadyH.nil
                    go_simp
                    refine hK.out _ _ trivial (fun hHeld => ?_)
                    clear hK K
                    try simp only [Act.put, List.getElem_toArray, List.getElem_cons_zero, List.getElem_cons_succ, List.setIfInBounds_toArray, List.set_cons_zero, List.set_cons_succ]
                    refine wpAnyH_take (i := 7) (v := ?_) rfl (by kernel_rfl) (by kernel_rfl) (by kernel_rfl) (fun _ _ _ h => h) (Or.inl ⟨by rfl, ?_⟩) (by assumption) ?_
                    rotate_left
                    focus (intro w hSw; (try dsimp only at hSw); go_simp; try with_reducible rfl)
                    try simp only [Act.put, List.getElem_toArray, List.getElem_cons_zero, List.getElem_cons_succ, List.setIfInBounds_toArray, List.set_cons_zero, List.set_cons_succ]
                    refine wpAnyH_take (i := 11) (v := ?_) rfl (by kernel_rfl) (by kernel_rfl) (by kernel_rfl) (fun _ _ _ h => h) (Or.inl ⟨by rfl, ?_⟩) (by assumption) ?_
                    rotate_left
                    focus (intro w hSw; (try dsimp only at hSw); go_simp; try with_reducible rfl)
                    try simp only [Act.put, List.getElem_toArray, List.getElem_cons_zero, List.getElem_cons_succ, List.setIfInBounds_toArray, List.set_cons_zero, List.set_cons_succ]
                    refine wpAnyH_take (i := 12) (v := ?_) rfl (by kernel_rfl) (by kernel_rfl) (by kernel_rfl) (fun _ _ _ h => h) (Or.inl ⟨by rfl, ?_⟩) (by assumption) ?_
                    rotate_left
                    focus (intro w hSw; (try dsimp only at hSw); go_simp; try with_reducible rfl)
                    try simp only [Act.put, List.getElem_toArray, List.getElem_cons_zero, List.getElem_cons_succ, List.setIfInBounds_toArray, List.set_cons_zero, List.set_cons_succ]
                    refine wpAnyH_take (i := 16) (v := ?_) rfl (by kernel_rfl) (by kernel_rfl) (by kernel_rfl) (fun _ _ _ h => h) (Or.inl ⟨by rfl, ?_⟩) (by assumption) ?_
                    rotate_left
                    focus (intro w hSw; (try dsimp only at hSw); go_simp; try with_reducible rfl)
                    try simp only [Act.put, List.getElem_toArray, List.getElem_cons_zero, List.getElem_cons_succ, List.setIfInBounds_toArray, List.set_cons_zero, List.set_cons_succ]
                    refine wpAnyH_take (i := 17) (v := ?_) rfl (by kernel_rfl) (by kernel_rfl) (by kernel_rfl) (fun _ _ _ h => h) (Or.inl ⟨by rfl, ?_⟩) (by assumption) ?_
                    rotate_left
                    focus (intro w hSw; (try dsimp only at hSw); go_simp; try with_reducible rfl)
                    try simp only [Act.put, List.getElem_toArray, List.getElem_cons_zero, List.getElem_cons_succ, List.setIfInBounds_toArray, List.set_cons_zero, List.set_cons_succ]
                    refine wpAnyH_take (i := 18) (v := ?_) rfl (by kernel_rfl) (by kernel_rfl) (by kernel_rfl) (fun _ _ _ h => h) (Or.inl ⟨by rfl, ?_⟩) (by assumption) ?_
                    rotate_left
                    focus (intro w hSw; (try dsimp only at hSw); go_simp; try with_reducible rfl)
                    try simp only [Act.put, List.getElem_toArray, List.getElem_cons_zero, List.getElem_cons_succ, List.setIfInBounds_toArray, List.set_cons_zero, List.set_cons_succ]
                    refine wpAnyH_take (i := 19) (v := ?_) rfl (by kernel_rfl) (by kernel_rfl) (by kernel_rfl) (fun _ _ _ h => h) (Or.inl ⟨by rfl, ?_⟩) (by assumption) ?_
                    rotate_left
                    focus (intro w hSw; (try dsimp only at hSw); go_simp; try with_reducible rfl)
                    try simp only [Act.put, List.getElem_toArray, List.getElem_cons_zero, List.getElem_cons_succ, List.setIfInBounds_toArray, List.set_cons_zero, List.set_cons_succ]
                    refine wpAnyH_ready (rs := [20]) (by kernel_rfl) (by simp) ?_
                    refine AllReadyH.cons rfl (fun K hK => ?_) AllReadyH.nil
                    go_simp
                    refine hK.out _ _ trivial (fun hHeld => ?_)
                    clear hK K
                    try simp only [Act.put, List.getElem_toArray, List.getElem_cons_zero, List.getElem_cons_succ, List.setIfInBounds_toArray, List.set_cons_zero, List.set_cons_succ]
                    refine wpAnyH_done (by kernel_rfl) ?_ _
                    refine NoPanic.normal ?_
                    have H10 : Hid _ := H7.out.below D3.out
                    have g1 : w10.cell? ⟨wb, 1, none⟩ = some (.slice a7 r2.1.length c7) := cell_of_block H10.out.blk 1
                    have hsz10 := H10.out.bel.size
                    have F1 : Hid (r2.1.length + 1 ≤ maxLen) := by show r2.1.length + 1 ≤ maxLen; unfold maxLen; omega
                    have F2 : Hid ((r2.1.length + 1) * 8 ≤ 140737488355328) := by show (r2.1.length + 1) * 8 ≤ 140737488355328; omega
                    have F3 : Hid (w0.heap.size ≤ ((w10.setCell ⟨wb, 2, none⟩ (.string FB)).alloc (.cells #[.int .u64 (t : Nat)] 31)).heap.size) := by show w0.heap.size ≤ ((w10.setCell ⟨wb, 2, none⟩ (.string FB)).alloc (.cells #[.int .u64 (t : Nat)] 31)).heap.size; simp [World.setCell]; omega
                    have O11 : Hid (((w10.setCell ⟨wb, 2, none⟩ (.string FB)).alloc (.cells #[.int .u64 (t : Nat)] 31)).ownsRow w0.heap.size 31 1 (.slice a7 r2.1.length c7) r2.1.length (uv (tabsN n r2.1))) := World.ownsRow.alloc (owns_kept H10.out.row fun g hg => block_set_other (fun e => owns_ne H10.out.row H10.out.blk (by decide) (by rw [hg, e]))) _
                    have IE : Hid (∀ v' w12, ((w10.setCell ⟨wb, 2, none⟩ (.string FB)).alloc (.cells #[.int .u64 (t : Nat)] 31)).grownBy w12 (Value.slice a7 r2.1.length c7).ownBlock → w12.ownsRow w0.heap.size 31 1 v' (r2.1.length + 1) (uv (tabsN n r2.1) ++ [.int .u64 (t : Nat)]) → w12.cell? ⟨wb, 1, none⟩ = some (.slice a7 r2.1.length c7) ∧ w12.frozen? ⟨wb, 1, none⟩ = false ∧ Wri w0 (w12.setCell ⟨wb, 1, none⟩ v') wb y n v' (r2.1 ++ [(i, r1.2, r2.2)])) := fun v' w12 hg ho => item_end H10.out HRED.out.1 hm63 HRED.out.2 (by rw [HFIN.out] at hg; exact hg) ho
                    have HNC : Hid (∀ j u, [Value.int .u64 (t : Nat)][j]? = some u → ((w10.setCell ⟨wb, 2, none⟩ (.string FB)).alloc (.cells #[.int .u64 (t : Nat)] 31)).cell? ((⟨w10.heap.size, 0, none⟩ : Addr).add j) = some u) := by have h9 := new_cells (w10.setCell ⟨wb, 2, none⟩ (.string FB)) [.int .u64 (t : Nat)] 31; rw [show (w10.setCell ⟨wb, 2, none⟩ (.string FB)).heap.size = w10.heap.size from by simp [World.setCell]] at h9; exact h9
                    clear e8 e9 e10 f10 d0
                    rw [HFB.out]
                    go_wp2_with (at_builtin; go_must (refine wpList_append_own _ rfl _ _ 127 rfl w0.heap.size 31 i0 _ 1 8 Tryz.underlying127 hi0 hz0 hz1 hz2 rfl (Nat.succ_pos 0) (.slice a7 r2.1.length c7) r2.1.length (uv (tabsN n r2.1)) ?e1 O11.out ⟨w10.heap.size, 0, none⟩ 1 1 [.int .u64 (t : Nat)] ?e2 rfl HNC.out ?e3 F1.out F2.out F3.out ?_); (case e1 => rfl); (case e2 => rfl); (case e3 => simp [Value.oneCell']); intro v' w12 hown hgrow _; have HE := IE.out v' w12 hgrow hown; have m0 := HE.1; have mf := HE.2.1; have HW : Hid (Wri w0 (w12.setCell ⟨wb, 1, none⟩ v') wb y n v' (r2.1 ++ [(i, r1.2, r2.2)])) := HE.2.2; obtain ⟨av', cv', rfl⟩ := owns_slice hown; clear HE hown hgrow)
                    go_end0
                    refine ⟨rfl, .slice av' (r2.1.length + 1) cv', ?_⟩
                    rw [HSUP.out]
                    exact HW.out
end Go.Proofs.YthoodkbdpnffdabGreatDoor
