/-
  Own work: the steps of a script that speak of orders (walks over contracts).
-/
import Derived.Test.YthoodkbdpnffdabGreatDoorOrdS
namespace Go.Proofs.YthoodkbdpnffdabGreatDoor
open Go.RowKit
open Cho (U64 Tab full col Nd Red)

theorem rowI_rowA {w : World} {v : Value} {l : List Nat} (h : RowI w v l) (hl : l.length ≤ 1000) : RowA w v l := by
  obtain ⟨ao, cap, e, hc⟩ := h
  exact ⟨ao, cap, e, hl, hc⟩
theorem OwnI.rowI {w wr : World} {g n cap : Nat} {l : List Nat} (h : OwnI w wr g n cap l) : RowI wr (.slice (some ⟨g, 0, none⟩) n cap) l := by
  refine ⟨some ⟨g, 0, none⟩, cap, by rw [h.len], fun i hi => ⟨g, rfl, ?_⟩⟩
  have := h.cell i hi
  rw [show l.getD i 0 = l[i] from by simp [List.getD, hi]] at this
  exact this
theorem OwnI.own {w wr : World} {g n cap : Nat} {l : List Nat} (h : OwnI w wr g n cap l) : ∃ cur, wr.heap[g]? = some (.cells cur 3 (0, 0)) ∧ n ≤ cap ∧ cap ≤ maxLen ∧ cur.size = cap := by
  obtain rfl := h.len
  obtain ⟨_, ⟨e, _⟩ | ⟨g', cap', cur, e1, hB, hg, hn, hm, hs, _⟩⟩ := h.row
  · simp at e
  · simp only [Value.slice.injEq, Option.some.injEq, Addr.mk.injEq, and_true, true_and] at e1
    obtain ⟨rfl, rfl⟩ := e1
    exact ⟨cur, hg, hn, hm, by rw [hs]; omega⟩

set_option maxRecDepth 100000 in
set_option maxHeartbeats 1000000 in
theorem orders_order (w0 w : World) (wb k : Nat) (sv lw : Value) (ps : List Pr) (ls : List (Value × Int)) (o : SOp) (hk : k < ps.length) (h : Scr w0 w wb sv lw ps ls) (hll : ls.length ≤ 15000000) (hkd : o.kind = 19) :
    Calls Tryz.prog 15 #[.pointer (some ⟨wb, 0, none⟩), ps[k].val, o.val] w fun e w' => e = .returned (.bool true) ∧ OStep w0 w' wb sv ps ls k ps[k].r.given := by
  obtain ⟨kind, s, a, b, c, t, on, text⟩ := o
  obtain rfl : kind = 19 := hkd
  have hb0 := laidW_below w ps[k] ⟨19, s, a, b, c, t, on, text⟩
  have h0 := h.below hb0
  have hp := h0.ok k hk
  have hno : ps[k].st.ord.length ≤ 6 := by rw [hp.has.inv.len]; exact hp.has.inv.n6
  have SC : Hid (Calls Tryz.prog 54 #[.pointer (some ⟨ps[k].x, 0, none⟩)] (laidW w ps[k] ⟨19, s, a, b, c, t, on, text⟩) fun e w' => ∃ g cap, e = .returned (.slice (some ⟨g, 0, none⟩) ps[k].st.ord.length cap) ∧ OwnI (laidW w ps[k] ⟨19, s, a, b, c, t, on, text⟩) w' g ps[k].st.ord.length cap ps[k].st.ord) := sorder_calls ps[k].x ps[k].st _ hp.has
  have KEEP : Hid (∀ W g cap, OwnI (laidW w ps[k] ⟨19, s, a, b, c, t, on, text⟩) W g ps[k].st.ord.length cap ps[k].st.ord → W.cell? ⟨w.heap.size, 1, none⟩ = some (.pointer (some ⟨ps[k].y, 0, none⟩)) ∧ W.cell? ⟨ps[k].y, 4, none⟩ = some ps[k].ov) := fun W g cap hW => ⟨cell_of_block (laid_below hW.bel).1 1, cell_of_block ((hW.bel.block _ (lt_of_block hp.ref.block)).trans hp.ref.block) 4⟩
  have SM : Hid (∀ W g cap, OwnI (laidW w ps[k] ⟨19, s, a, b, c, t, on, text⟩) W g ps[k].st.ord.length cap ps[k].st.ord → Calls Tryz.prog 55 #[.slice (some ⟨g, 0, none⟩) ps[k].st.ord.length cap, ps[k].ov] W fun e w' => e = .returned (.bool true) ∧ ∃ q, w' = W.drewN q) := by
    intro W g cap hW
    have := lsame_calls _ _ _ _ W (rowI_rowA hW.rowI (by omega)) (rowI_rowA (hp.ref.below hW.bel).ordI (by rw [hp.sim.ord]; omega))
    rw [hp.sim.ord] at this
    simpa using this
  have OC : Hid (∀ W g cap q, OwnI (laidW w ps[k] ⟨19, s, a, b, c, t, on, text⟩) W g ps[k].st.ord.length cap ps[k].st.ord → Calls Tryz.prog 56 #[.pointer (some ⟨wb, 0, none⟩), .slice (some ⟨g, 0, none⟩) ps[k].st.ord.length cap] (W.drewN q) fun e w' => e = .returned (.tuple #[]) ∧ OStep w0 w' wb sv ps ls k ps[k].r.given) := by
    intro W g cap q hW0
    have hW := hW0.below (below_dr W q)
    have hs := h0.below hW.bel
    have hlo := (hW.row.lt g rfl).1
    refine (own_calls _ w0.heap.size wb g _ cap sv lw ls (W.drewN q) hs.blk hs.lrow h0.bel.size hW.own hlo hno hll).mono ?_
    rintro e w' ⟨rfl, lw', ms, ho⟩
    exact ⟨rfl, order_end h (below_trans hb0 hW.bel) (Nat.le_trans hb0.size hlo) h0.bel.size ho hk⟩
  have ho4 : ∃ ao cap, ps[k].ov = .slice ao ps[k].r.ord.length cap := owns_slice hp.ref.ords
  clear h h0 hp hb0
  generalize ps[k] = p at *
  obtain ⟨x, y, st, r, rv, ov⟩ := p
  obtain ⟨aov, cov, hov⟩ := ho4
  obtain rfl : ov = .slice aov r.ord.length cov := hov
  unfold Pr.val SOp.val Pr.cells SOp.cells
  go_enter Tryz.func15, Tryz.ntmps15
  go_wp2_with fail
  refine SC.out.mono ?_
  rintro e w1 ⟨g, cap, rfl, hl1⟩
  have L1 : Hid _ := hl1
  have p1 := (KEEP.out w1 g cap hl1).1
  have y4 := (KEEP.out w1 g cap hl1).2
  clear hl1
  go_wp2_with fail
  refine (SM.out w1 g cap L1.out).mono ?_
  rintro e w2 ⟨rfl, q, rfl⟩
  clear p1 y4
  go_wp2_with fail
  refine (OC.out w1 g cap q L1.out).mono ?_
  rintro e w3 ⟨rfl, h3⟩
  have H3 : Hid _ := h3
  clear h3
  go_wp2_with fail
  go_ret
  exact ⟨rfl, H3.out⟩

set_option maxRecDepth 100000 in
set_option maxHeartbeats 1000000 in
theorem orders_swap (w0 w : World) (wb k : Nat) (sv lw : Value) (ps : List Pr) (ls : List (Value × Int)) (o : SOp) (hk : k < ps.length) (h : Scr w0 w wb sv lw ps ls) (hkd : o.kind = 20) :
    Calls Tryz.prog 15 #[.pointer (some ⟨wb, 0, none⟩), ps[k].val, o.val] w fun e w' => e = .returned (.bool true) ∧ OStep w0 w' wb sv ps ls k ps[k].r.given := by
  obtain ⟨kind, s, a, b, c, t, on, text⟩ := o
  obtain rfl : kind = 20 := hkd
  have hb0 := laidW_below w ps[k] ⟨20, s, a, b, c, t, on, text⟩
  have hp := h.ok k hk
  have hp0 := hp.below hb0
  have hsim := hp.sim.swap a
  have SC : Hid (Calls Tryz.prog 57 #[.pointer (some ⟨ps[k].x, 0, none⟩), .int .i64 a] (laidW w ps[k] ⟨20, s, a, b, c, t, on, text⟩) fun e w' => e = .returned (.int .i64 ((ps[k].st.swap a).2 : Nat)) ∧ CStep (laidW w ps[k] ⟨20, s, a, b, c, t, on, text⟩) w' ps[k].x (ps[k].st.swap a).1) := sswap_calls ps[k].x a ps[k].st _ hp0.has hp.sim.cl
  have RC : Hid (∀ w1, CStep (laidW w ps[k] ⟨20, s, a, b, c, t, on, text⟩) w1 ps[k].x (ps[k].st.swap a).1 → Calls Tryz.prog 58 #[.pointer (some ⟨ps[k].y, 0, none⟩), .int .i64 a] w1 fun e w' => e = .returned (.int .i64 ((ps[k].st.swap a).2 : Nat)) ∧ RStepO w0.heap.size w1 w' ps[k].y ps[k].rv ps[k].ov (ps[k].r.swap a).1) := by
    intro w1 hc
    have := rswap_calls w0.heap.size ps[k].y a ps[k].r ps[k].rv ps[k].ov w1 (ref_beside hp0 hc)
    rw [← hsim.1] at this
    exact this
  have FIN : Hid (∀ w1 w2, CStep (laidW w ps[k] ⟨20, s, a, b, c, t, on, text⟩) w1 ps[k].x (ps[k].st.swap a).1 → RStepO w0.heap.size w1 w2 ps[k].y ps[k].rv ps[k].ov (ps[k].r.swap a).1 → OStep w0 w2 wb sv ps ls k ps[k].r.given) := by
    intro w1 w2 h1 h2
    obtain ⟨p', hp'⟩ := pair_stepO hp0 h1 h2 hsim.2 (by rw [swap_given]; omega)
    exact ostep_of h hk ⟨p', hp'.before hb0⟩
  have KEEP : Hid (∀ w1, CStep (laidW w ps[k] ⟨20, s, a, b, c, t, on, text⟩) w1 ps[k].x (ps[k].st.swap a).1 → w1.cell? ⟨w.heap.size, 1, none⟩ = some (.pointer (some ⟨ps[k].y, 0, none⟩)) ∧ w1.cell? ⟨w.heap.size + 1, 2, none⟩ = some (.int .i64 a)) := fun w1 hc => ⟨cell_of_block (laid_keep hp hc).1 1, cell_of_block (laid_keep hp hc).2 2⟩
  clear h hp hp0 hsim hb0
  generalize ps[k] = p at *
  obtain ⟨x, y, st, r, rv, ov⟩ := p
  generalize hE : (St.swap (Pr.st ⟨x, y, st, r, rv, ov⟩) a).2 = E1 at *
  generalize hS : (St.swap (Pr.st ⟨x, y, st, r, rv, ov⟩) a).1 = st' at *
  generalize hR : (RSt.swap (Pr.r ⟨x, y, st, r, rv, ov⟩) a).1 = r' at *
  unfold Pr.val SOp.val Pr.cells SOp.cells
  go_enter Tryz.func15, Tryz.ntmps15
  go_wp2_with fail
  refine SC.out.mono ?_
  rintro e w1 ⟨rfl, hc1⟩
  have HC1 : Hid _ := hc1
  have p1 := (KEEP.out w1 hc1).1
  have o2 := (KEEP.out w1 hc1).2
  clear hc1
  go_wp2_with fail
  refine (RC.out w1 HC1.out).mono ?_
  rintro e w2 ⟨rfl, hr2⟩
  have FP : Hid _ := FIN.out w1 w2 HC1.out hr2
  clear hr2 p1 o2
  go_wp2_with fail
  refine (num_calls E1 _).mono ?_
  rintro e w3 ⟨rfl, rfl⟩
  go_wp2_with fail
  refine (num_calls E1 _).mono ?_
  rintro e w3 ⟨rfl, rfl⟩
  go_wp2_with fail
  go_ret
  exact ⟨ret_bool (by simp), FP.out⟩

set_option maxRecDepth 100000 in
set_option maxHeartbeats 1000000 in
theorem orders_sift (w0 w : World) (wb k : Nat) (sv lw : Value) (ps : List Pr) (ls : List (Value × Int)) (o : SOp) (hk : k < ps.length) (h : Scr w0 w wb sv lw ps ls) (hll : ls.length ≤ 15000000) (hkd : o.kind = 21) :
    Calls Tryz.prog 15 #[.pointer (some ⟨wb, 0, none⟩), ps[k].val, o.val] w fun e w' => e = .returned (.bool true) ∧ OStep w0 w' wb sv ps ls k ps[k].r.given := by
  obtain ⟨kind, s, a, b, c, t, on, text⟩ := o
  obtain rfl : kind = 21 := hkd
  have hb0 := laidW_below w ps[k] ⟨21, s, a, b, c, t, on, text⟩
  have h0 := h.below hb0
  have hp := h.ok k hk
  have hp0 := hp.below hb0
  have hsim := hp.sim.sift
  have hinv := hsim.2.inv
  have hn : ps[k].st.sifted.n = ps[k].st.n := rfl
  have hlen : ps[k].st.sifted.ord.length = ps[k].r.n := by rw [hinv.len, hn, hp.sim.n]
  have hno : ps[k].st.sifted.ord.length ≤ 6 := by rw [hinv.len]; exact hinv.n6
  have SC : Hid (Calls Tryz.prog 59 #[.pointer (some ⟨ps[k].x, 0, none⟩)] (laidW w ps[k] ⟨21, s, a, b, c, t, on, text⟩) fun e w' => e = .returned (.int .i64 ((0 : Nat) : Int)) ∧ CStep (laidW w ps[k] ⟨21, s, a, b, c, t, on, text⟩) w' ps[k].x ps[k].st.sifted) := ssift_calls ps[k].x ps[k].st _ hp0.has hp.sim.cl
  have OC : Hid (∀ w1, CStep (laidW w ps[k] ⟨21, s, a, b, c, t, on, text⟩) w1 ps[k].x ps[k].st.sifted → Calls Tryz.prog 54 #[.pointer (some ⟨ps[k].x, 0, none⟩)] w1 fun e w' => ∃ g cap, e = .returned (.slice (some ⟨g, 0, none⟩) ps[k].st.sifted.ord.length cap) ∧ OwnI w1 w' g ps[k].st.sifted.ord.length cap ps[k].st.sifted.ord) := fun w1 hc => sorder_calls ps[k].x ps[k].st.sifted w1 hc.has
  have KEEP1 : Hid (∀ w1, CStep (laidW w ps[k] ⟨21, s, a, b, c, t, on, text⟩) w1 ps[k].x ps[k].st.sifted → w1.cell? ⟨w.heap.size, 0, none⟩ = some (.pointer (some ⟨ps[k].x, 0, none⟩))) := fun w1 hc => cell_of_block (laid_keep hp hc).1 0
  have KEEP2 : Hid (∀ w1 w2 g cap, CStep (laidW w ps[k] ⟨21, s, a, b, c, t, on, text⟩) w1 ps[k].x ps[k].st.sifted → OwnI w1 w2 g ps[k].st.sifted.ord.length cap ps[k].st.sifted.ord → w2.cell? ⟨w.heap.size, 1, none⟩ = some (.pointer (some ⟨ps[k].y, 0, none⟩))) := fun w1 w2 g cap hc hl => cell_below (cell_of_block (laid_keep hp hc).1 1) hl.bel
  have RC : Hid (∀ w1 w2 g cap, CStep (laidW w ps[k] ⟨21, s, a, b, c, t, on, text⟩) w1 ps[k].x ps[k].st.sifted → OwnI w1 w2 g ps[k].st.sifted.ord.length cap ps[k].st.sifted.ord → Calls Tryz.prog 60 #[.pointer (some ⟨ps[k].y, 0, none⟩), .slice (some ⟨g, 0, none⟩) ps[k].st.sifted.ord.length cap] w2 fun e w' => e = .returned (.bool true) ∧ RStepO w0.heap.size w2 w' ps[k].y ps[k].rv ps[k].ov (ps[k].r.by ps[k].st.sifted.ord)) := by
    intro w1 w2 g cap hc hl
    have := rsifted_calls w0.heap.size ps[k].y ps[k].r ps[k].rv ps[k].ov _ ps[k].st.sifted.ord w2 ((ref_beside hp0 hc).below hl.bel) hl.rowI hlen (fun v hv => by rw [hp.sim.n]; exact (hinv.mem v).1 hv) hinv.nd
    rw [hsim.1] at this
    exact this
  have WC : Hid (∀ w1 w2 w3 g cap, CStep (laidW w ps[k] ⟨21, s, a, b, c, t, on, text⟩) w1 ps[k].x ps[k].st.sifted → OwnI w1 w2 g ps[k].st.sifted.ord.length cap ps[k].st.sifted.ord → RStepO w0.heap.size w2 w3 ps[k].y ps[k].rv ps[k].ov (ps[k].r.by ps[k].st.sifted.ord) →
      Calls Tryz.prog 56 #[.pointer (some ⟨wb, 0, none⟩), .slice (some ⟨g, 0, none⟩) ps[k].st.sifted.ord.length cap] w3 fun e w' => e = .returned (.tuple #[]) ∧ OStep w0 w' wb sv ps ls k ps[k].r.given) := by
    intro w1 w2 w3 g cap hc hl hr
    obtain ⟨cx, hx⟩ := hp0.blk
    have href := ref_beside hp0 hc
    have hlo := (hl.row.lt g rfl).1
    have hgt := (hl.row.lt g rfl).2
    have hgr := hc.gr
    have k1 : ∀ (j : Nat) (d : Array Value) (T : TypeId), (laidW w ps[k] ⟨21, s, a, b, c, t, on, text⟩).heap[j]? = some (.cells d T (0, 0)) → T ≠ 62 ∧ T ≠ 65 → w3.heap[j]? = some (.cells d T (0, 0)) := by
      rintro j d T hj ⟨t1, t2⟩
      have e1 : w1.heap[j]? = some (.cells d T (0, 0)) := (hgr.block j (lt_of_block hj) (by intro e; exact kind_ne hj hx t1 (by simpa using e))).trans hj
      have e2 : w2.heap[j]? = some (.cells d T (0, 0)) := (hl.bel.block j (lt_of_block e1)).trans e1
      refine (hr.ch.block j (lt_of_block e2) (fun e => ?_)).trans e2
      exact kind_ne e1 href.block t2 e
    have hg3 : ∃ cur, w3.heap[g]? = some (.cells cur 3 (0, 0)) ∧ ps[k].st.sifted.ord.length ≤ cap ∧ cap ≤ maxLen ∧ cur.size = cap := by
      obtain ⟨cur, h1, h2⟩ := hl.own
      refine ⟨cur, (hr.ch.block g hgt (fun e => ?_)).trans h1, h2⟩
      have := lt_of_block href.block; omega
    have hw1 : w0.heap.size ≤ w1.heap.size := Nat.le_trans h0.bel.size hgr.size
    refine (own_calls w1.heap.size w0.heap.size wb g _ cap sv lw ls w3 (k1 wb _ _ h0.blk (by decide)) (owns_kept h0.lrow fun j hj => ?_) hw1 hg3 hlo hno hll).mono ?_
    · obtain ⟨d, hd⟩ := owns_kind h0.lrow hj
      exact (k1 j d _ hd (by decide)).trans hd.symm
    · rintro e w' ⟨rfl, lw', ms, ho⟩
      obtain ⟨cur, h1, _⟩ := hl.own
      exact ⟨rfl, sift_end h hk hb0 hc hl.bel hlo hgt ⟨cur, h1⟩ hr hsim.2 (Nat.le_succ _) hw1 ho⟩
  clear h hp hp0 hsim hb0 h0 hinv hn hlen
  generalize ps[k] = p at *
  obtain ⟨x, y, st, r, rv, ov⟩ := p
  generalize hS : St.sifted (Pr.st ⟨x, y, st, r, rv, ov⟩) = st' at *
  unfold Pr.val SOp.val Pr.cells SOp.cells
  go_enter Tryz.func15, Tryz.ntmps15
  go_wp2_with fail
  refine SC.out.mono ?_
  rintro e w1 ⟨rfl, hc1⟩
  have HC1 : Hid _ := hc1
  have p0 := KEEP1.out w1 hc1
  clear hc1
  go_wp2_with fail
  refine (OC.out w1 HC1.out).mono ?_
  rintro e w2 ⟨g, cap, rfl, hl2⟩
  have L2 : Hid _ := hl2
  have p1 := KEEP2.out w1 w2 g cap HC1.out hl2
  clear hl2 p0
  go_wp2_with fail
  refine (RC.out w1 w2 g cap HC1.out L2.out).mono ?_
  rintro e w3 ⟨rfl, hr3⟩
  have R3 : Hid _ := hr3
  clear hr3 p1
  go_wp2_with fail
  refine (WC.out w1 w2 w3 g cap HC1.out L2.out R3.out).mono ?_
  rintro e w4 ⟨rfl, h4⟩
  have H4 : Hid _ := h4
  clear h4
  go_wp2_with fail
  refine (num_calls 0 _).mono ?_
  rintro e w5 ⟨rfl, rfl⟩
  go_wp2_with fail
  go_ret
  exact ⟨rfl, H4.out⟩
theorem orders_calls (w0 w : World) (wb k : Nat) (sv lw : Value) (ps : List Pr) (ls : List (Value × Int)) (o : SOp) (hk : k < ps.length) (h : Scr w0 w wb sv lw ps ls) (hll : ls.length ≤ 15000000) (hkd : 19 ≤ o.kind ∧ o.kind ≤ 21) :
    Calls Tryz.prog 15 #[.pointer (some ⟨wb, 0, none⟩), ps[k].val, o.val] w fun e w' => e = .returned (.bool true) ∧ OStep w0 w' wb sv ps ls k ps[k].r.given := by
  have : o.kind = 19 ∨ o.kind = 20 ∨ o.kind = 21 := by omega
  rcases this with e | e | e
  · exact orders_order w0 w wb k sv lw ps ls o hk h hll e
  · exact orders_swap w0 w wb k sv lw ps ls o hk h e
  · exact orders_sift w0 w wb k sv lw ps ls o hk h hll e
end Go.Proofs.YthoodkbdpnffdabGreatDoor
