/-
  Own work: the best of all moves of one variable; 'Sift' of a diagram (walks).
-/
import Derived.Test.YthoodkbdpnffdaaDoorDgW
import Derived.Test.YthoodkbdpnffdaaDoorAddW
namespace Go.Proofs.YthoodkbdpnffdaaDoor
open Go.RowKit
open Cho (U64 Tab full col Nd Red Dg DgOk)
/-- While the best so far lies in block b: the result's block too. -/
structure Bst (w wr : World) (b g n cap : Nat) (kv lw : Value) (d : Dg) : Prop where
  res : wr.heap[w.heap.size]? = some (.cells #[.slice none 0 0, .slice none 0 0] 91 (0, 0))
  dia : wr.heap[b]? = some (.cells #[.slice (some ⟨g, 0, none⟩) n cap, kv] 91 (0, 0))
  lo : w.heap.size < b
  dg : DgV wr g n cap kv lw d
  bel : Below w.heap.size w wr
theorem kq_c {W w' : World} {g n cap : Nat} {kv lw : Value} {d : Dg} (hd : DgV w' g n cap kv lw d) (hb : Below W.heap.size W w') :
    Kq W (w'.alloc (.cells #[.slice (some ⟨g, 0, none⟩) n cap, kv] 91)) w'.heap.size g n cap kv lw d :=
  ⟨heap_res _ _, hb.size, hd.below ((Below.refl _ _).alloc (Nat.le_refl _) _), hb.alloc hb.size _⟩
theorem bst0 {w W V : World} {q g n cap : Nat} {kv lw : Value} {d : Dg} (hr : W.heap[w.heap.size]? = some (.cells #[.slice none 0 0, .slice none 0 0] 91 (0, 0))) (hb : Below w.heap.size w W) (k : Kq W V q g n cap kv lw d) : Bst w V q g n cap kv lw d := by
  have h1 := lt_of_block hr
  have h2 := k.lo
  exact ⟨(k.bel.block _ h1).trans hr, k.dia, by omega, k.dg, hb.trans (k.bel.mono (by omega))⟩
theorem Bst.below {w wr w1 : World} {b g n cap : Nat} {kv lw : Value} {d : Dg} (h : Bst w wr b g n cap kv lw d) (hb : Below wr.heap.size wr w1) : Bst w w1 b g n cap kv lw d := by
  have h1 := lt_of_block h.dia
  have h2 := h.lo
  exact ⟨(hb.block _ (by omega)).trans h.res, (hb.block _ h1).trans h.dia, h.lo, h.dg.below hb, h.bel.trans (hb.mono h.bel.size)⟩
theorem Bst.put {w V : World} {b g n cap g2 n2 cap2 nq : Nat} {kv lw kv2 lw2 : Value} {d d2 : Dg} (h : Bst w V b g n cap kv lw d) (h2 : DgV V g2 n2 cap2 kv2 lw2 d2) :
    Bst w (((V.drewN nq).setCell ⟨b, 0, none⟩ (.slice (some ⟨g2, 0, none⟩) n2 cap2)).setCell ⟨b, 1, none⟩ kv2) b g2 n2 cap2 kv2 lw2 d2 := by
  have hb := lt_of_block h.dia
  have hlo := h.lo
  have hd : Below V.heap.size V (V.drewN nq) := below_drewN (Below.refl _ _) nq
  have kp : ∀ k, k < V.heap.size → k ≠ b → (((V.drewN nq).setCell ⟨b, 0, none⟩ (.slice (some ⟨g2, 0, none⟩) n2 cap2)).setCell ⟨b, 1, none⟩ kv2).heap[k]? = V.heap[k]? := fun k hk hkb => by
    rw [block_set_other hkb, block_set_other hkb, hd.block k hk]
  refine ⟨(kp _ (by omega) (by omega)).trans h.res, two_set ((hd.block b hb).trans h.dia), hlo, h2.kept fun k c T hk hT => kp k (lt_of_block hk) ?_, ((h.bel.trans (hd.mono h.bel.size)).setCell (by simp; omega) _).setCell (by simp; omega) _⟩
  rintro rfl
  rw [h.dia] at hk
  simp at hk
  rcases hT with rfl | rfl | rfl <;> simp at hk
/-- A diagram's answer laid into the result's block. -/
theorem Bst.fin {w wr : World} {b g n cap : Nat} {kv lw : Value} {d : Dg} (h : Bst w wr b g n cap kv lw d) :
    DgV ((wr.setCell ⟨w.heap.size, 0, none⟩ (.slice (some ⟨g, 0, none⟩) n cap)).setCell ⟨w.heap.size, 1, none⟩ kv) g n cap kv lw d ∧ Below w.heap.size w ((wr.setCell ⟨w.heap.size, 0, none⟩ (.slice (some ⟨g, 0, none⟩) n cap)).setCell ⟨w.heap.size, 1, none⟩ kv) := by
  refine ⟨h.dg.kept fun k c T hk hT => ?_, (h.bel.setCell (Nat.le_refl _) _).setCell (Nat.le_refl _) _⟩
  have hkb : k ≠ w.heap.size := by
    rintro rfl
    rw [h.res] at hk
    simp at hk
    rcases hT with rfl | rfl | rfl <;> simp at hk
  rw [block_set_other hkb, block_set_other hkb]
theorem or_yes {a b : Dg} (h : b.ns.length < a.ns.length) : a.or b = b := if_pos h
theorem or_no {a b : Dg} (h : ¬ b.ns.length < a.ns.length) : a.or b = a := if_neg h

set_option maxRecDepth 100000 in
set_option maxHeartbeats 4000000 in
theorem bestD {n s off g o capl : Nat} {w : World} {d : Dg} (h : DgAt n w s off g o d) :
    Calls Tryd.prog 77 #[.pointer (some ⟨s, off, none⟩), .slice (some ⟨g, o, none⟩) d.ls.length capl] w (Ans w d.best) := by
  have hslt := h.slt
  have HL30 : Hid (d.ls.length = 30) := h.l30
  have H : Hid (DgAt n w s off g o d) := h
  have KC : Hid (∀ X, Below w.heap.size w X → Calls Tryd.prog 56 #[.pointer (some ⟨s, off, none⟩), .slice (some ⟨g, o, none⟩) d.ls.length capl] X (Ans X d.keep)) := fun X hX => keepD (h.below hX)
  have KM : Hid (∀ X f t, Below w.heap.size w X → f < d.ord.length → t < d.ord.length → Calls Tryd.prog 65 #[.pointer (some ⟨s, off, none⟩), .int .i64 (f : Nat), .int .i64 (t : Nat), .slice (some ⟨g, o, none⟩) d.ls.length capl] X (Ans X (d.move f t))) := fun X f t hX hf ht => moveD (h.below hX) (by rw [← h.ok.o.len]; exact hf) (by rw [← h.ok.o.len]; exact ht)
  have hN6 : d.ord.length ≤ 6 := by rw [h.ok.o.len]; exact h.ok.o.n6
  have HSM : Hid (∀ f t, f ≤ d.ord.length → t ≤ d.ord.length → (f < d.ord.length → (d.tos (d.froms f) f t).ord.length = d.ord.length ∧ (d.tos (d.froms f) f t).ls.length = d.ls.length ∧ (d.tos (d.froms f) f t).ns.length ≤ 4000) ∧ (d.froms f).ord.length = d.ord.length ∧ (d.froms f).ls.length = d.ls.length ∧ (d.froms f).ns.length ≤ 4000) := by
    have hlen := h.ok.o.len
    intro f t hf ht
    rw [hlen] at hf ht ⊢
    obtain ⟨a, b, _⟩ := Cho.froms_ok h.ok f hf
    have hfew : (d.froms f).ns.length ≤ 4000 := by
      have := Cho.keep_same h.ok
      have e := this.few
      have hk' := Cho.keepTo_few d.ns (Cho.reached d.ns d.ls) d.ns.length
      have hkk : d.keep.ns.length ≤ d.ns.length := hk'
      have := h.few
      have eo : d.keep.ord = d.ord := rfl
      rw [eo] at e
      omega
    refine ⟨fun hf2 => ?_, a.ok.o.len, a.len, hfew⟩
    obtain ⟨x, y, _⟩ := Cho.tos_ok h.ok a hf2 t ht
    exact ⟨x.ok.o.len, x.len, by omega⟩
  have HBE : Hid (d.best = d.froms d.ord.length) := rfl
  have HFS : Hid (∀ f, d.froms (f + 1) = d.tos (d.froms f) f d.ord.length) := fun f => rfl
  have HTS : Hid (∀ f t, d.tos (d.froms f) f (t + 1) = (d.tos (d.froms f) f t).or (d.move f t)) := fun f t => rfl
  have HMF : Hid (∀ f t, f < d.ord.length → t < d.ord.length → (d.move f t).ns.length ≤ 4000) := fun f t hf ht => by
    have := Cho.move_few h.ok (f := f) (t := t) (by rw [← h.ok.o.len]; exact hf) (by rw [← h.ok.o.len]; exact ht)
    rw [h.l30] at this; omega
  have HME : Hid (∀ f t, (d.move f t).ord.length = d.ord.length) := fun f t => Cho.mv_len d.ord f t
  have HKE : Hid (d.keep.ord.length = d.ord.length ∧ d.keep = d.froms 0) := ⟨rfl, rfl⟩
  have HORD : Hid (∀ W, Below w.heap.size w W → ∃ go capo, W.cell? ⟨s, off, none⟩ = some (.slice (some ⟨go, 0, none⟩) d.ord.length capo)) := by
    intro W hW
    obtain ⟨go, capo, nv, e1, _⟩ := h.ex
    exact ⟨go, capo, (hW.cell (p := ⟨s, off, none⟩) hslt).trans e1⟩
  clear h
  go_enter Tryd.func77, Tryd.ntmps77
  go_wp2_with fail
  have HRES : Hid ((w.alloc (.cells #[.slice none 0 0, .slice none 0 0] 91)).heap[w.heap.size]? = some (.cells #[.slice none 0 0, .slice none 0 0] 91 (0, 0))) := heap_res _ _
  have HBW : Hid (Below w.heap.size w (w.alloc (.cells #[.slice none 0 0, .slice none 0 0] 91))) := (Below.refl _ _).alloc (Nat.le_refl _) _
  have hsW : w.heap.size < (w.alloc (.cells #[.slice none 0 0, .slice none 0 0] 91)).heap.size := by simp
  generalize w.alloc (.cells #[.slice none 0 0, .slice none 0 0] 91) = W at *
  generalize d.keep = dk at *
  refine (KC.out W HBW.out).mono ?_
  rintro e w1 ⟨gk, ck, ak, ckk, al, cl, rfl, hd, hb⟩
  rw [HKE.out.1] at hd ⊢
  have HKQ : Hid (Kq W (w1.alloc (.cells #[.slice (some ⟨gk, 0, none⟩) d.ord.length ck, .slice ak dk.ns.length ckk] 91)) w1.heap.size gk d.ord.length ck (.slice ak dk.ns.length ckk) (.slice (some ⟨al, 0, none⟩) dk.ls.length cl) dk) := kq_c hd hb
  have B0 : Hid (Bst w (w1.alloc (.cells #[.slice (some ⟨gk, 0, none⟩) d.ord.length ck, .slice ak dk.ns.length ckk] 91)) w1.heap.size gk d.ord.length ck (.slice ak dk.ns.length ckk) (.slice (some ⟨al, 0, none⟩) dk.ls.length cl) (d.froms 0)) := by
    have := bst0 HRES.out HBW.out HKQ.out
    rw [← HKE.out.2]; exact this
  obtain ⟨go, capo, c0⟩ := HORD.out _ B0.out.bel
  have hw1 : w.heap.size < w1.heap.size := B0.out.lo
  clear hd hb HRES HBW HKQ KC hsW
  go_wp2_with fail
  clear c0
  go_loopw [7, 23] (fun x7 x23 wr => ∃ (f gb cb : Nat) (kv : Value), f ≤ d.ord.length ∧ x23 = .int .i64 f ∧ Hid (Bst w wr w1.heap.size gb d.ord.length cb kv x7 (d.froms f))) (fun _ x23 _ => d.ord.length - (intOf x23).toNat)
  case atStart => exact ⟨0, _, _, _, Nat.zero_le _, rfl, B0⟩
  case round =>
    obtain ⟨f, gb, cb, kv, hf, rfl, BR⟩ := hrel
    clear B0
    by_cases hfl : f < d.ord.length
    · obtain ⟨go, capo, c0⟩ := HORD.out _ BR.out.bel
      go_wp2_with fail
      clear c0
      go_loopw [7, 31] (fun x7 x31 wr => ∃ (t gb cb : Nat) (kv : Value), t ≤ d.ord.length ∧ x31 = .int .i64 t ∧ Hid (Bst w wr w1.heap.size gb d.ord.length cb kv x7 (d.tos (d.froms f) f t))) (fun _ x31 _ => d.ord.length - (intOf x31).toNat)
      case atStart => exact ⟨0, _, _, _, Nat.zero_le _, rfl, BR⟩
      case round =>
        obtain ⟨t, gb, cb, kv, ht, rfl, BQ⟩ := hrel
        clear BR
        by_cases htl : t < d.ord.length
        · go_wp2_with fail
          refine (KM.out _ f t BQ.out.bel hfl htl).mono ?_
          rintro e w2 ⟨g2, c2, a2, k2, l2, q2, rfl, hd, hb⟩
          rw [HME.out f t] at hd ⊢
          have HK2 : Hid (Kq wr (w2.alloc (.cells #[.slice (some ⟨g2, 0, none⟩) d.ord.length c2, .slice a2 (d.move f t).ns.length k2] 91)) w2.heap.size g2 d.ord.length c2 (.slice a2 (d.move f t).ns.length k2) (.slice (some ⟨l2, 0, none⟩) (d.move f t).ls.length q2) (d.move f t)) := kq_c hd hb
          have B2 : Hid (Bst w (w2.alloc (.cells #[.slice (some ⟨g2, 0, none⟩) d.ord.length c2, .slice a2 (d.move f t).ns.length k2] 91)) w1.heap.size gb d.ord.length cb kv _ (d.tos (d.froms f) f t)) := BQ.out.below HK2.out.bel
          have HBQ : Hid (wr.heap[w1.heap.size]? = _) := BQ.out.dia
          have HBB : Hid (Below wr.heap.size wr w2) := hb
          clear hd hb BQ
          go_wp2_with fail
          have hdq := HK2.out.dia
          have hdb := B2.out.dia
          have hbw := lt_of_block hdb
          have hqw := lt_of_block hdq
          have hql : w1.heap.size < w2.heap.size := by
            have h1 := lt_of_block HBQ.out
            have h3 := HBB.out.size
            omega
          have hmv := HMF.out f t hfl htl
          have hSM := (HSM.out f t (by omega) (by omega)).1 hfl
          obtain ⟨ab, kb, rfl⟩ := owns_slice B2.out.dg.row
          have HV2 : Hid (DgV (w2.alloc (.cells #[.slice (some ⟨g2, 0, none⟩) d.ord.length c2, .slice a2 (d.move f t).ns.length k2] 91)) g2 d.ord.length c2 (.slice a2 (d.move f t).ns.length k2) (.slice (some ⟨l2, 0, none⟩) (d.move f t).ls.length q2) (d.move f t)) := HK2.out.dg
          clear HK2 HBQ HBB
          generalize w2.alloc (.cells #[.slice (some ⟨g2, 0, none⟩) d.ord.length c2, .slice a2 (d.move f t).ns.length k2] 91) = V at *
          have n0 : V.cell? ⟨w2.heap.size, 0, none⟩ = some (.slice (some ⟨g2, 0, none⟩) d.ord.length c2) := cell_of_block hdq 0
          have n1 : V.cell? ⟨w2.heap.size, 1, none⟩ = some (.slice a2 (d.move f t).ns.length k2) := cell_of_block hdq 1
          have b0 : V.cell? ⟨w1.heap.size, 0, none⟩ = some (.slice (some ⟨gb, 0, none⟩) d.ord.length cb) := cell_of_block hdb 0
          have b1 : V.cell? ⟨w1.heap.size, 1, none⟩ = some (.slice ab (d.tos (d.froms f) f t).ns.length kb) := cell_of_block hdb 1
          have z0 := frozen_of_block hdb 0
          have z1 := frozen_of_block hdb 1
          clear hdq hdb
          by_cases hbet : (d.move f t).ns.length < (d.tos (d.froms f) f t).ns.length
          · have HOR : Hid ((d.tos (d.froms f) f t).or (d.move f t) = d.move f t) := or_yes hbet
            have HPUT : Hid (∀ nq, Bst w (((V.drewN nq).setCell ⟨w1.heap.size, 0, none⟩ (.slice (some ⟨g2, 0, none⟩) d.ord.length c2)).setCell ⟨w1.heap.size, 1, none⟩ (.slice a2 (d.move f t).ns.length k2)) w1.heap.size g2 d.ord.length c2 (.slice a2 (d.move f t).ns.length k2) (.slice (some ⟨l2, 0, none⟩) (d.move f t).ls.length q2) (d.move f t)) := fun nq => B2.out.put HV2.out
            clear B2 HV2
            generalize hMM : d.move f t = mm at *
            generalize hTT : d.tos (d.froms f) f t = tt at *
            have HMM : Hid (d.move f t = mm ∧ d.tos (d.froms f) f t = tt) := ⟨hMM, hTT⟩
            clear hMM hTT
            go_quiet ((go_at_call 53; exact Calls.quiet_of_same (nodes_calls _ _ mm.ns.length k2 a2 _ (by simpa using n1))))
            go_wp2_with fail
            refine ⟨⟨t + 1, g2, c2, .slice a2 mm.ns.length k2, htl, by go_num, ?_⟩, by simp [intOf]; omega⟩
            rw [HTS.out, HMM.out.1, HMM.out.2, HOR.out]
            exact HPUT.out nq
          · have HOR : Hid ((d.tos (d.froms f) f t).or (d.move f t) = d.tos (d.froms f) f t) := or_no hbet
            have B3 : Hid (∀ nq, Bst w (V.drewN nq) w1.heap.size gb d.ord.length cb (.slice ab (d.tos (d.froms f) f t).ns.length kb) u7 (d.tos (d.froms f) f t)) := fun nq => B2.out.below (below_drewN (Below.refl _ _) nq)
            clear B2 HV2
            generalize hMM : d.move f t = mm at *
            generalize hTT : d.tos (d.froms f) f t = tt at *
            have HMM : Hid (d.move f t = mm ∧ d.tos (d.froms f) f t = tt) := ⟨hMM, hTT⟩
            clear hMM hTT
            go_quiet ((go_at_call 53; exact Calls.quiet_of_same (nodes_calls _ _ mm.ns.length k2 a2 _ (by simpa using n1))))
            go_wp2_with fail
            refine ⟨⟨t + 1, gb, cb, .slice ab tt.ns.length kb, htl, by go_num, ?_⟩, by simp [intOf]; omega⟩
            rw [HTS.out, HMM.out.1, HMM.out.2, HOR.out]
            exact B3.out nq
        · have et : t = d.ord.length := by omega
          subst et
          go_wp2_with fail
          refine ⟨⟨f + 1, gb, cb, kv, hfl, by go_num, ?_⟩, by simp [intOf]; omega⟩
          rw [HFS.out]
          exact BQ
    · have ef : f = d.ord.length := by omega
      subst ef
      have hSM := (HSM.out d.ord.length 0 (by omega) (by omega)).2
      obtain ⟨ab, kb, rfl⟩ := owns_slice BR.out.dg.row
      obtain ⟨al2, cl2, rfl, _, _⟩ := owns_form BR.out.dg.lrow (by rw [hSM.2.1, HL30.out]; omega)
      have r0 := cell_of_block BR.out.res 0
      have r1 := cell_of_block BR.out.res 1
      have f0 := frozen_of_block BR.out.res 0
      have f1 := frozen_of_block BR.out.res 1
      have d0 := cell_of_block BR.out.dia 0
      have d1 := cell_of_block BR.out.dia 1
      have hne : ¬ w.heap.size = w1.heap.size := by omega
      have hbl := lt_of_block BR.out.dia
      have FIN : Hid _ := BR.out.fin
      have HOL : Hid ((d.froms d.ord.length).ord.length = d.ord.length) := hSM.1
      clear BR
      generalize hBB : d.froms d.ord.length = bb at *
      have HBB2 : Hid (d.best = bb) := HBE.out
      clear hBB
      go_wp2_with fail
      refine bodyPost_ret (v := .tuple #[.agg #[.slice (some ⟨gb, 0, none⟩) d.ord.length cb, .slice ab bb.ns.length kb], .slice (some ⟨al2, 0, none⟩) bb.ls.length cl2]) (by simp [results, Tryd.results77, go_sem, r0, r1]) rfl ?_
      rw [HBB2.out]
      refine ⟨gb, cb, ab, kb, al2, cl2, ?_, ?_, FIN.out.2⟩
      · rw [HOL.out]
      · rw [HOL.out]; exact FIN.out.1
theorem Bst.putA {w w2 : World} {b g n cap g2 n2 cap2 : Nat} {kv lw kv2 lw2 : Value} {d d2 : Dg} (h : Bst w w2 b g n cap kv lw d) (h2 : DgV w2 g2 n2 cap2 kv2 lw2 d2) (o : Obj) :
    Bst w (((w2.setCell ⟨b, 0, none⟩ (.slice (some ⟨g2, 0, none⟩) n2 cap2)).setCell ⟨b, 1, none⟩ kv2).alloc o) b g2 n2 cap2 kv2 lw2 d2 := by
  have := h.put (nq := 0) h2
  rw [World.drewN_zero] at this
  exact this.below ((Below.refl _ _).alloc (Nat.le_refl _) _)
theorem Bst.at' {m : Nat} {w wr : World} {b g n cap al cl : Nat} {kv : Value} {d : Dg} (h : Bst w wr b g n cap kv (.slice (some ⟨al, 0, none⟩) d.ls.length cl) d) (hc : Cols w) (ok : DgOk m d) (few : d.ns.length ≤ 4000) (l30 : d.ls.length = 30) : DgAt m wr b 0 al 0 d := by
  have e := h.dg.ord.1
  refine ⟨⟨g, cap, kv, ?_, ?_, ?_, h.dg.row⟩, fun i hi => ?_, hc.below h.bel (cols_pos hc), ok, few, l30⟩
  · rw [← e]; exact cell_of_block h.dia 0
  · exact cell_of_block h.dia 1
  · rw [← e]; exact h.dg.ord
  · have := h.dg.lrow.cells (g := al) rfl i (.int .i64 (d.ls[i] : Nat)) (by simp [lv, hi])
    rw [Addr.add_mid] at this
    exact this
theorem siftF_go {k : Nat} {d : Dg} {before : Nat} (h : d.ns.length < before) : Cho.siftF (k + 1) d before = Cho.siftF k d.best d.ns.length := if_pos h
theorem siftF_stop {k : Nat} {d : Dg} {before : Nat} (h : ¬ d.ns.length < before) : Cho.siftF k d before = d := by
  cases k with
  | zero => rfl
  | succ k => exact if_neg h

set_option maxRecDepth 100000 in
set_option maxHeartbeats 4000000 in
theorem siftD {n s off g o capl : Nat} {w : World} {d : Dg} (h : DgAt n w s off g o d) :
    Calls Tryd.prog 66 #[.pointer (some ⟨s, off, none⟩), .slice (some ⟨g, o, none⟩) d.ls.length capl] w (Ans w d.sift) := by
  have hslt := h.slt
  have HL30 : Hid (d.ls.length = 30) := h.l30
  have HC : Hid (Cols w) := h.cols
  have KC : Hid (∀ X, Below w.heap.size w X → Calls Tryd.prog 56 #[.pointer (some ⟨s, off, none⟩), .slice (some ⟨g, o, none⟩) d.ls.length capl] X (Ans X d.keep)) := fun X hX => keepD (h.below hX)
  have HKS : Hid (Cho.Same n d d.keep) := Cho.keep_same h.ok
  have hkf : d.keep.ns.length ≤ 4000 := Nat.le_trans (Cho.keepTo_few d.ns (Cho.reached d.ns d.ls) d.ns.length) h.few
  have HDO : Hid (d.ord.length = n) := h.ok.o.len
  have HSE : Hid (Cho.siftF (d.keep.ns.length + 2) d.keep (d.keep.ns.length + 1) = d.sift) := rfl
  clear h
  go_enter Tryd.func66, Tryd.ntmps66
  go_wp2_with fail
  have HRES : Hid ((w.alloc (.cells #[.slice none 0 0, .slice none 0 0] 91)).heap[w.heap.size]? = some (.cells #[.slice none 0 0, .slice none 0 0] 91 (0, 0))) := heap_res _ _
  have HBW : Hid (Below w.heap.size w (w.alloc (.cells #[.slice none 0 0, .slice none 0 0] 91))) := (Below.refl _ _).alloc (Nat.le_refl _) _
  have hsW : w.heap.size < (w.alloc (.cells #[.slice none 0 0, .slice none 0 0] 91)).heap.size := by simp
  generalize w.alloc (.cells #[.slice none 0 0, .slice none 0 0] 91) = W at *
  generalize d.keep = dk at *
  generalize d.sift = ds at *
  refine (KC.out W HBW.out).mono ?_
  rintro e w1 ⟨gk, ck, ak, ckk, al, cl, rfl, hd, hb⟩
  have HKQ : Hid (Kq W (w1.alloc (.cells #[.slice (some ⟨gk, 0, none⟩) dk.ord.length ck, .slice ak dk.ns.length ckk] 91)) w1.heap.size gk dk.ord.length ck (.slice ak dk.ns.length ckk) (.slice (some ⟨al, 0, none⟩) dk.ls.length cl) dk) := kq_c hd hb
  have B0 : Hid (Bst w (w1.alloc (.cells #[.slice (some ⟨gk, 0, none⟩) dk.ord.length ck, .slice ak dk.ns.length ckk] 91)) w1.heap.size gk dk.ord.length ck (.slice ak dk.ns.length ckk) (.slice (some ⟨al, 0, none⟩) dk.ls.length cl) dk) := bst0 HRES.out HBW.out HKQ.out
  have hw1 : w.heap.size < w1.heap.size := B0.out.lo
  clear hd hb HRES HBW HKQ KC hsW
  go_wp2_with fail
  go_loopw [7, 8] (fun x7 x8 wr => ∃ (k before gb cb al cl : Nat) (kv : Value) (dc : Dg), x7 = .slice (some ⟨al, 0, none⟩) dc.ls.length cl ∧ x8 = .int .i64 before ∧ before < k ∧ before ≤ 5000 ∧ dc.ns.length ≤ 4000 ∧ Hid (Bst w wr w1.heap.size gb dc.ord.length cb kv (.slice (some ⟨al, 0, none⟩) dc.ls.length cl) dc) ∧ Hid (Cho.Same n d dc) ∧ Hid (Cho.siftF k dc before = ds)) (fun _ x8 _ => (intOf x8).toNat)
  case atStart => exact ⟨dk.ns.length + 2, dk.ns.length + 1, gk, ck, al, cl, _, dk, rfl, by go_num, by omega, by omega, hkf, B0, HKS, HSE⟩
  case round =>
    obtain ⟨k, before, gb, cb, al, cl, kv, dc, rfl, rfl, hbk, hb5, hdc, BR, SR, FR⟩ := hrel
    clear B0
    obtain ⟨ab, kb, rfl⟩ := owns_slice BR.out.dg.row
    have b0 := cell_of_block BR.out.dia 0
    have b1 := cell_of_block BR.out.dia 1
    have hbl := lt_of_block BR.out.dia
    by_cases hgo : dc.ns.length < before
    · obtain ⟨k, rfl⟩ : ∃ k', k = k' + 1 := ⟨k - 1, by omega⟩
      have KB : Hid (Calls Tryd.prog 77 #[.pointer (some ⟨w1.heap.size, 0, none⟩), .slice (some ⟨al, 0, none⟩) dc.ls.length cl] wr (Ans wr dc.best)) := bestD (BR.out.at' HC.out SR.out.ok hdc (SR.out.len.trans HL30.out))
      have HBO := Cho.best_ok SR.out.ok
      have S2 : Hid (Cho.Same n d dc.best) := SR.out.trans HBO.1
      have hbf : dc.best.ns.length ≤ dc.ns.length := by
        have := SR.out.ok.count SR.out.full
        rw [this]; exact HBO.2.1
      have F2 : Hid (Cho.siftF k dc.best dc.ns.length = ds) := (siftF_go hgo).symm.trans FR.out
      have HOL : Hid (dc.best.ord.length = dc.ord.length) := by show dc.best.ord.length = dc.ord.length; rw [S2.out.ok.o.len, SR.out.ok.o.len]
      clear HBO FR
      generalize dc.best = db at *
      go_wp2_with fail
      refine KB.out.mono ?_
      rintro e w2 ⟨g2, c2, a2, k2, l2, q2, rfl, hd, hb⟩
      have B2 : Hid (Bst w w2 w1.heap.size gb dc.ord.length cb (.slice ab dc.ns.length kb) (.slice (some ⟨al, 0, none⟩) dc.ls.length cl) dc) := BR.out.below hb
      have V2 : Hid (DgV w2 g2 db.ord.length c2 (.slice a2 db.ns.length k2) (.slice (some ⟨l2, 0, none⟩) db.ls.length q2) db) := hd
      have d0 := cell_of_block B2.out.dia 0
      have d1 := cell_of_block B2.out.dia 1
      have z0 := frozen_of_block B2.out.dia 0
      have z1 := frozen_of_block B2.out.dia 1
      have hl2 := lt_of_block B2.out.dia
      have hne2 : ¬ w1.heap.size = w2.heap.size := by omega
      have FB : Hid _ := B2.out.putA V2.out (.cells #[.slice (some ⟨g2, 0, none⟩) db.ord.length c2, .slice a2 db.ns.length k2] 91)
      clear hd hb BR KB B2
      go_wp2_with fail
      exact ⟨⟨k, dc.ns.length, g2, c2, l2, q2, .slice a2 db.ns.length k2, db, rfl, rfl, by omega, by omega, by omega, FB, S2, F2⟩, by simp [intOf]; omega⟩
    · have r0 := cell_of_block BR.out.res 0
      have r1 := cell_of_block BR.out.res 1
      have f0 := frozen_of_block BR.out.res 0
      have f1 := frozen_of_block BR.out.res 1
      have hne : ¬ w.heap.size = w1.heap.size := by omega
      have FIN : Hid _ := BR.out.fin
      have HDS : Hid (ds = dc) := FR.out.symm.trans (siftF_stop hgo)
      clear BR
      go_wp2_with fail
      refine bodyPost_ret (v := .tuple #[.agg #[.slice (some ⟨gb, 0, none⟩) dc.ord.length cb, .slice ab dc.ns.length kb], .slice (some ⟨al, 0, none⟩) dc.ls.length cl]) (by simp [results, Tryd.results66, go_sem, r0, r1]) rfl ?_
      rw [HDS.out]
      exact ⟨gb, cb, ab, kb, al, cl, rfl, FIN.out.1, FIN.out.2⟩
end Go.Proofs.YthoodkbdpnffdaaDoor
