/-
  Own work: a text carried from one store to the next in a script (a walk over contracts; what the program's Export and Import do comes in).
-/
import Derived.Test.YthoodkbdpnffdabGreatDoorLawT
import Derived.Deep.RegionHeld3
import Derived.Test.YthoodkbdpnffdabGreatDoorOpsA
namespace Go.Proofs.YthoodkbdpnffdabGreatDoor
open Go.RowKit
open Cho (U64 Tab full col Nd Red)

set_option maxRecDepth 100000 in
set_option maxHeartbeats 2000000 in
theorem texts_carry (XE : ExpOk) (XI : ImpOk) (w0 w : World) (wb k : Nat) (sv lw : Value) (ps : List Pr) (ls : List (Value × Int)) (o : SOp) (hk : k < ps.length) (h : Scr w0 w wb sv lw ps ls) (hg : ∀ i (hi : i < ps.length), ps[i].r.given + 1 < 4294967295) (hps : ps.length ≤ 5000000) (hs1 : -9223372036854775808 ≤ o.s) (hs2 : o.s ≤ 9223372036854775807) (hkd : o.kind = 24) :
    Calls Tryz.prog 16 #[.pointer (some ⟨wb, 0, none⟩), ps[k].val, o.val] w fun e w' => e = .returned (.bool true) ∧ ∃ (j : Nat) (hj : j < ps.length) (p' : Pr), PStep w0.heap.size w w' ps[j] p' := by
  obtain ⟨kind, s, a, b, c, t, on, text⟩ := o
  obtain rfl : kind = 24 := hkd
  have hs1' : -9223372036854775808 ≤ s := hs1
  have hs2' : s ≤ 9223372036854775807 := hs2
  have hb0 := laidW_below w ps[k] ⟨24, s, a, b, c, t, on, text⟩
  have hp := h.ok k hk
  have hp0 := hp.below hb0
  have hsim := hp.sim.exp (hnd a)
  have hne : 0 < ps.length := by omega
  have hpk := pkN_lt s ps.length hne
  have hj : (pkN s ps.length + 1) % ps.length < ps.length := Nat.mod_lt _ hne
  have SC : Hid (Calls Tryz.prog 63 #[.pointer (some ⟨ps[k].x, 0, none⟩), .int .u32 (hnd a : Nat)] (laidW w ps[k] ⟨24, s, a, b, c, t, on, text⟩) fun e w' => e = .returned (.tuple #[txt (expA ps[k].st.n (ps[k].st.get (hnd a))).1, .int .i64 ((expA ps[k].st.n (ps[k].st.get (hnd a))).2 : Nat)]) ∧ Below (laidW w ps[k] ⟨24, s, a, b, c, t, on, text⟩).heap.size (laidW w ps[k] ⟨24, s, a, b, c, t, on, text⟩) w') := XE ps[k].x (hnd a) ps[k].st _ hp0.has
  have RC : Hid (∀ w1, Below (laidW w ps[k] ⟨24, s, a, b, c, t, on, text⟩).heap.size (laidW w ps[k] ⟨24, s, a, b, c, t, on, text⟩) w1 → Calls Tryz.prog 64 #[.pointer (some ⟨ps[k].y, 0, none⟩), .int .u32 (hnd a : Nat)] w1 fun e w' => e = .returned (.tuple #[txt (expA ps[k].st.n (ps[k].st.get (hnd a))).1, .int .i64 ((expA ps[k].st.n (ps[k].st.get (hnd a))).2 : Nat)]) ∧ Below w1.heap.size w1 w') := by
    intro w1 hc
    have := rexport_calls w0.heap.size ps[k].y (hnd a) ps[k].r ps[k].rv ps[k].ov w1 (hp0.ref.below hc)
    rw [← hsim] at this
    exact this
  have hTL : (expA ps[k].st.n (ps[k].st.get (hnd a))).1.length ≤ 441 := expA_len hp.has.inv.n6 (fun f hf => sget_tab hf)
  have KEEP : Hid (∀ w1, Below (laidW w ps[k] ⟨24, s, a, b, c, t, on, text⟩).heap.size (laidW w ps[k] ⟨24, s, a, b, c, t, on, text⟩) w1 → w1.cell? ⟨w.heap.size, 1, none⟩ = some (.pointer (some ⟨ps[k].y, 0, none⟩)) ∧ w1.cell? ⟨w.heap.size + 1, 2, none⟩ = some (.int .i64 a) ∧ w1.cell? ⟨w.heap.size + 1, 0, none⟩ = some (.int .i64 24) ∧ w1.cell? ⟨w.heap.size + 1, 1, none⟩ = some (.int .i64 s)) := fun w1 hc => ⟨cell_of_block (laid_below hc).1 1, cell_of_block (laid_below hc).2 2, cell_of_block (laid_below hc).2 0, cell_of_block (laid_below hc).2 1⟩
  obtain ⟨g, csv, rfl, _, _⟩ := owns_form h.row hne
  have ROWS : Hid (∀ w1, Below (laidW w ps[k] ⟨24, s, a, b, c, t, on, text⟩).heap.size (laidW w ps[k] ⟨24, s, a, b, c, t, on, text⟩) w1 → w1.cell? ⟨wb, 0, none⟩ = some (.slice (some ⟨g, 0, none⟩) ps.length csv) ∧ w1.cell? ⟨g, (pkN s ps.length + 1) % ps.length * 2, none⟩ = some (.pointer (some ⟨ps[(pkN s ps.length + 1) % ps.length].x, 0, none⟩)) ∧ w1.cell? ⟨g, (pkN s ps.length + 1) % ps.length * 2 + 1, none⟩ = some (.pointer (some ⟨ps[(pkN s ps.length + 1) % ps.length].y, 0, none⟩))) := fun w1 hc => by
    have h1 := (h.below hb0).below hc
    obtain ⟨e1, e2⟩ := prv_get ps _ hj
    have r0 := h1.row.cells (g := g) rfl _ _ e1
    have r1 := h1.row.cells (g := g) rfl _ _ e2
    rw [Addr.add_mid, Nat.zero_add] at r0 r1
    exact ⟨cell_of_block h1.blk 0, r0, r1⟩
  have IMP : Hid (∀ bs : List UInt8, bs.length ≤ 441 → ∃ H1 E1 : Nat, ∃ st' : St, ∃ r' : RSt, (∀ W, Below w.heap.size w W → Calls Tryz.prog 61 #[.pointer (some ⟨ps[(pkN s ps.length + 1) % ps.length].x, 0, none⟩), txt bs] W fun e w' => e = .returned (.tuple #[.int .u32 (H1 : Nat), .int .i64 (E1 : Nat)]) ∧ CStep W w' ps[(pkN s ps.length + 1) % ps.length].x st') ∧
      (∀ W w1, Below w.heap.size w W → CStep W w1 ps[(pkN s ps.length + 1) % ps.length].x st' → Calls Tryz.prog 62 #[.pointer (some ⟨ps[(pkN s ps.length + 1) % ps.length].y, 0, none⟩), txt bs] w1 fun e w' => e = .returned (.tuple #[.int .u32 (H1 : Nat), .int .i64 (E1 : Nat)]) ∧ ∃ p', PStep w0.heap.size w w' ps[(pkN s ps.length + 1) % ps.length] p')) := by
    intro bs hbs
    have hq := h.ok _ hj
    have hgq := hg _ hj
    have hgs : ps[(pkN s ps.length + 1) % ps.length].st.given + 1 < 4294967295 := by rw [← hq.sim.given]; exact hgq
    have hsi := hq.sim.imp hgs bs
    refine ⟨_, _, _, (ps[(pkN s ps.length + 1) % ps.length].r.imp bs).1, fun W hW => XI _ bs _ W (hq.below hW).has hgs (by omega), fun W w1 hW hc => ?_⟩
    have := rimport_calls w0.heap.size ps[(pkN s ps.length + 1) % ps.length].y bs ps[(pkN s ps.length + 1) % ps.length].r _ _ w1 (ref_beside (hq.below hW) hc) (by omega) (by omega)
    rw [← hsi.1] at this
    refine this.mono ?_
    rintro e w' ⟨rfl, hr⟩
    obtain ⟨p', hp'⟩ := pair_step (hq.below hW) hc hr hsi.2 (imp_given _ _)
    exact ⟨rfl, p', hp'.before hW⟩
  have KEEP4 : Hid (∀ (W w1 : World) (n : Nat) (cs : Array Value) (st'' : St), Below w.heap.size w W → W.heap[n]? = some (.cells cs 45 (0, 0)) → CStep W w1 ps[(pkN s ps.length + 1) % ps.length].x st'' → w1.heap[n]? = some (.cells cs 45 (0, 0))) := fun W w1 n cs st'' hW hn hc => by
    obtain ⟨cx, hx⟩ := ((h.ok _ hj).below hW).blk
    exact (hc.gr.block n (lt_of_block hn) (by intro e; exact kind_ne hn hx (by decide) (by simpa using e))).trans hn
  have hPK : Hid (∀ W : World, Calls Tryz.prog 11 #[.int .i64 s, .int .i64 ps.length] W fun e w' => e = .returned (.int .i64 (pkN s ps.length : Nat)) ∧ w' = W) := fun W => lpick_calls s ps.length W hs1' hs2' hne (by omega)
  have FIN : Hid (∀ w', (∃ p', PStep w0.heap.size w w' ps[(pkN s ps.length + 1) % ps.length] p') → ∃ (j : Nat) (hj : j < ps.length) (p' : Pr), PStep w0.heap.size w w' ps[j] p') := fun w' ⟨p', hp⟩ => ⟨_, hj, p', hp⟩
  have LB : Hid (Below w.heap.size w (laidW w ps[k] ⟨24, s, a, b, c, t, on, text⟩)) := hb0
  have hmod : ((pkN s ps.length : Int) + 1).tmod (ps.length : Int) = (((pkN s ps.length + 1) % ps.length : Nat) : Int) := by
    rw [Int.tmod_eq_emod_of_nonneg (by omega)]
    simp
  have hnz : ((ps.length : Int) == 0) = false := by rw [beq_eq_false_iff_ne]; omega
  clear h hp hp0 hsim hb0 hg hs1 hs2
  generalize ps[(pkN s ps.length + 1) % ps.length] = q at *
  generalize (pkN s ps.length + 1) % ps.length = J at *
  generalize pkN s ps.length = K at *
  generalize ps[k] = p at *
  obtain ⟨x, y, st, r, rv, ov⟩ := p
  generalize hX : (expA (Pr.st ⟨x, y, st, r, rv, ov⟩).n ((Pr.st ⟨x, y, st, r, rv, ov⟩).get (hnd a))).1 = T at *
  generalize hY : (expA (Pr.st ⟨x, y, st, r, rv, ov⟩).n ((Pr.st ⟨x, y, st, r, rv, ov⟩).get (hnd a))).2 = E1 at *
  clear hX hY
  obtain ⟨H2, E2, st', r', IS, IR⟩ := IMP.out T hTL
  have HIS : Hid _ := IS
  have HIR : Hid _ := IR
  clear IS IR IMP hTL
  unfold txt at *
  unfold Pr.val SOp.val Pr.cells SOp.cells
  go_enter Tryz.func16, Tryz.ntmps16
  go_wp2_with fail
  try simp only [hnd_eq]
  refine SC.out.mono ?_
  rintro e w1 ⟨rfl, hc1⟩
  have HC1 : Hid _ := hc1
  have p1 := (KEEP.out w1 hc1).1
  have o2 := (KEEP.out w1 hc1).2.1
  clear hc1
  go_wp2_with fail
  try simp only [hnd_eq]
  refine (RC.out w1 HC1.out).mono ?_
  rintro e w2 ⟨rfl, hr2⟩
  have HC2 : Hid _ := below_trans HC1.out hr2
  have o0 := (KEEP.out w2 HC2.out).2.2.1
  have o1 := (KEEP.out w2 HC2.out).2.2.2
  have q0 := (ROWS.out w2 HC2.out).1
  have r0 := (ROWS.out w2 HC2.out).2.1
  have r1 := (ROWS.out w2 HC2.out).2.2
  have B2 : Hid (Below w.heap.size w w2) := below_trans LB.out HC2.out
  clear hr2 p1 o2
  have hTT : (T == T) = true := by simp
  go_wp2_with fail
  refine (num_calls E1 _).mono ?_
  rintro e w3 ⟨rfl, rfl⟩
  go_wp2_with fail
  refine (num_calls E1 _).mono ?_
  rintro e w3 ⟨rfl, rfl⟩
  have hwK : IntKind.i64.wrap ((K : Int) + 1) = (K : Int) + 1 := by simp [IntKind.wrap, IntKind.bits, IntKind.signed]; omega
  have hJl : (J : Int) < (ps.length : Int) := by omega
  have hJ0 : (0 : Int) ≤ (J : Int) := by omega
  have hpe : ¬ ps = [] := by intro e; simp [e] at hne
  have hp0 : ¬ ps.length = 0 := by omega
  have hpi : ¬ (ps.length : Int) = 0 := by omega
  have hwb : wb < w3.heap.size := World.block_lt_of_cell? w3 _ q0
  have hgl : g < w3.heap.size := World.block_lt_of_cell? w3 _ r0
  have hol : w.heap.size + 1 < w3.heap.size := World.block_lt_of_cell? w3 _ o1
  go_wp2_with fail
  go_region_held3 (fun w' => w'.cell? ⟨wb, 0, none⟩ = some (.slice (some ⟨g, 0, none⟩) ps.length csv) ∧ w'.cell? ⟨w.heap.size + 1, 1, none⟩ = some (.int .i64 s) ∧ w'.cell? ⟨g, J * 2, none⟩ = some (.pointer (some ⟨q.x, 0, none⟩)) ∧ w'.cell? ⟨g, J * 2 + 1, none⟩ = some (.pointer (some ⟨q.y, 0, none⟩)))
    (first | exact ⟨q0, o1, r0, r1⟩ | go_keep)
    (first | (go_at_call 11; refine (hPK.out _).mono ?_; rintro e w' ⟨rfl, rfl⟩))
  all_goals
    have BV : Hid (Below w3.heap.size w3 (w3.alloc (.cells #[.pointer (some ⟨q.x, 0, none⟩), .pointer (some ⟨q.y, 0, none⟩)] 45)).drew) := (below_alloc _ _).drew
    have hP : ((w3.alloc (.cells #[.pointer (some ⟨q.x, 0, none⟩), .pointer (some ⟨q.y, 0, none⟩)] 45)).drew).heap[w3.heap.size]? = some (.cells #[.pointer (some ⟨q.x, 0, none⟩), .pointer (some ⟨q.y, 0, none⟩)] 45 (0, 0)) := heap_res w3 _
    generalize (w3.alloc (.cells #[.pointer (some ⟨q.x, 0, none⟩), .pointer (some ⟨q.y, 0, none⟩)] 45)).drew = V at *
    have B3 : Hid (Below w.heap.size w V) := below_trans B2.out BV.out
    have HP : Hid (V.heap[w3.heap.size]? = some (.cells #[.pointer (some ⟨q.x, 0, none⟩), .pointer (some ⟨q.y, 0, none⟩)] 45 (0, 0))) := hP
    have g0 : V.cell? ⟨w3.heap.size, 0, none⟩ = some (.pointer (some ⟨q.x, 0, none⟩)) := cell_of_block hP 0
    clear hP BV q0 r0 r1 o0 o1 hwb hgl hol
    go_wp2_with fail
    refine (HIS.out V B3.out).mono ?_
    rintro e w4 ⟨rfl, hc4⟩
    have HC4 : Hid _ := hc4
    have g1 : w4.cell? ⟨w3.heap.size, 1, none⟩ = some (.pointer (some ⟨q.y, 0, none⟩)) := cell_of_block (KEEP4.out V w4 _ _ _ B3.out HP.out hc4) 1
    clear hc4 g0
    go_wp2_with fail
    refine (HIR.out V w4 B3.out HC4.out).mono ?_
    rintro e w5 ⟨rfl, h5⟩
    have H5 : Hid _ := FIN.out w5 h5
    clear h5 g1
    go_wp2_with fail
    refine (handles_calls H2 E2 _).mono ?_
    rintro e w6 ⟨rfl, rfl⟩
    go_wp2_with fail
    go_ret
    exact ⟨rfl, H5.out⟩
end Go.Proofs.YthoodkbdpnffdabGreatDoor

/-
  Own work: one step of a script, of every kind; a whole script (walks over contracts; what the program's Export and Import do comes in).
-/
namespace Go.Proofs.YthoodkbdpnffdabGreatDoor
open Go.RowKit
open Cho (U64 Tab full col Nd Red)

/-- The text of a step is one. -/
def OkText (o : SOp) : Prop := ∃ bs, o.text = txt bs ∧ bs.length ≤ 9223372036854775807
theorem texts_calls (XE : ExpOk) (XI : ImpOk) (w0 w : World) (wb k : Nat) (sv lw : Value) (ps : List Pr) (ls : List (Value × Int)) (o : SOp) (hk : k < ps.length) (h : Scr w0 w wb sv lw ps ls) (hg : ∀ i (hi : i < ps.length), ps[i].r.given + 1 < 4294967295) (hps : ps.length ≤ 5000000) (hs1 : -9223372036854775808 ≤ o.s) (hs2 : o.s ≤ 9223372036854775807) (hkd : 22 ≤ o.kind ∧ o.kind ≤ 24) (hx : OkText o) :
    Calls Tryz.prog 16 #[.pointer (some ⟨wb, 0, none⟩), ps[k].val, o.val] w fun e w' => e = .returned (.bool true) ∧ ∃ (j : Nat) (hj : j < ps.length) (p' : Pr), PStep w0.heap.size w w' ps[j] p' := by
  have : o.kind = 22 ∨ o.kind = 23 ∨ o.kind = 24 := by omega
  rcases this with e | e | e
  · exact (texts_export XE w0 w wb k sv lw ps ls o hk h e).mono (fun _ _ ⟨h1, p', h2⟩ => ⟨h1, k, hk, p', h2⟩)
  · obtain ⟨bs, h1, h2⟩ := hx
    exact (texts_import XI w0 w wb k sv lw ps ls o bs hk h (hg k hk) e h1 h2).mono (fun _ _ ⟨h1, p', h2⟩ => ⟨h1, k, hk, p', h2⟩)
  · exact texts_carry XE XI w0 w wb k sv lw ps ls o hk h hg hps hs1 hs2 e

set_option maxRecDepth 100000 in
set_option maxHeartbeats 1000000 in
theorem step_texts (XE : ExpOk) (XI : ImpOk) (w0 w : World) (wb K : Nat) (sv lw : Value) (ps : List Pr) (ls : List (Value × Int)) (o : SOp) (h : Scr w0 w wb sv lw ps ls) (hne : 0 < ps.length) (hl : ps.length ≤ K + 1) (hls : ls.length ≤ 4 * K) (hg : ∀ i (h : i < ps.length), ps[i].r.given ≤ K) (hK : K ≤ 3000000) (hk : 22 ≤ o.kind ∧ o.kind ≤ 24) (hs1 : -9223372036854775808 ≤ o.s) (hs2 : o.s ≤ 9223372036854775807) (hx : OkText o) :
    Calls Tryz.prog 6 #[.pointer (some ⟨wb, 0, none⟩), o.val] w fun e w' => e = .returned (.bool true) ∧ ScrK w0 w' wb (K + 1) := by
  obtain ⟨kind, s, a, b, c, t, on, text⟩ := o
  obtain ⟨hk1, hk2⟩ : 22 ≤ kind ∧ kind ≤ 24 := hk
  have HX : Hid (OkText ⟨kind, s, a, b, c, t, on, text⟩) := hx
  clear hx
  have hs1' : -9223372036854775808 ≤ s := hs1
  have hs2' : s ≤ 9223372036854775807 := hs2
  have b1 : (kind == 1) = false := by simp; omega
  have b2 : ((ps.length : Int) == 0) = false := by rw [beq_eq_false_iff_ne]; omega
  obtain ⟨g, csv, rfl, _, _⟩ := owns_form h.row hne
  have hpk := pkN_lt s ps.length hne
  have hPK : Hid (∀ W : World, Calls Tryz.prog 11 #[.int .i64 s, .int .i64 ps.length] W fun e w' => e = .returned (.int .i64 (pkN s ps.length : Nat)) ∧ w' = W) := fun W => lpick_calls s ps.length W hs1' hs2' hne (by omega)
  generalize pkN s ps.length = k at *
  have h0 := h.below (below_alloc w (.cells (SOp.cells ⟨kind, s, a, b, c, t, on, text⟩) 33))
  have q0 : (w.alloc (.cells (SOp.cells ⟨kind, s, a, b, c, t, on, text⟩) 33)).cell? ⟨wb, 0, none⟩ = some (.slice (some ⟨g, 0, none⟩) ps.length csv) := cell_of_block h0.blk 0
  have hO := heap_res w (.cells (SOp.cells ⟨kind, s, a, b, c, t, on, text⟩) 33)
  have q1 : (w.alloc (.cells (SOp.cells ⟨kind, s, a, b, c, t, on, text⟩) 33)).cell? ⟨w.heap.size, 1, none⟩ = some (.int .i64 s) := cell_of_block hO 1
  obtain ⟨e1, e2⟩ := prv_get ps k hpk
  have r0 := h0.row.cells (g := g) rfl _ _ e1
  have r1 := h0.row.cells (g := g) rfl _ _ e2
  rw [Addr.add_mid, Nat.zero_add] at r0 r1
  have hgl := (h0.row.lt g rfl).2
  have hwb := lt_of_block h0.blk
  have hn0 := lt_of_block hO
  have H : Hid (Scr w0 (w.alloc (.cells (SOp.cells ⟨kind, s, a, b, c, t, on, text⟩) 33)) wb (.slice (some ⟨g, 0, none⟩) ps.length csv) lw ps ls) := h0
  have HG : Hid (∀ i (h : i < ps.length), ps[i].r.given ≤ K) := hg
  have HO : Hid ((w.alloc (.cells (SOp.cells ⟨kind, s, a, b, c, t, on, text⟩) 33)).heap[w.heap.size]? = some (.cells (SOp.cells ⟨kind, s, a, b, c, t, on, text⟩) 33 (0, 0))) := hO
  clear h h0 hg hs1 hs2 e1 e2 hO
  unfold SOp.val
  have c0' := q0
  unfold SOp.cells at c0'
  go_enter Tryz.func6, Tryz.ntmps6
  unfold SOp.cells
  go_wp2_with fail
  clear c0'
  have EC : Hid (SOp.cells ⟨kind, s, a, b, c, t, on, text⟩ = #[.int .i64 kind, .int .i64 s, .int .i64 a, .int .i64 b, .int .i64 c, .int .u64 (t : Nat), .bool on, text]) := rfl
  rw [← EC.out]
  generalize w.alloc (.cells (SOp.cells ⟨kind, s, a, b, c, t, on, text⟩) 33) = W at *
  have hkl : (k : Int) < (ps.length : Int) := by omega
  go_region_held3 (fun w' => w'.cell? ⟨wb, 0, none⟩ = some (.slice (some ⟨g, 0, none⟩) ps.length csv) ∧ w'.cell? ⟨w.heap.size, 1, none⟩ = some (.int .i64 s) ∧ w'.cell? ⟨g, k * 2, none⟩ = some (.pointer (some ⟨ps[k].x, 0, none⟩)) ∧ w'.cell? ⟨g, k * 2 + 1, none⟩ = some (.pointer (some ⟨ps[k].y, 0, none⟩)))
    (first | exact ⟨q0, q1, r0, r1⟩ | go_keep)
    (first | (go_at_call 11; refine (hPK.out _).mono ?_; rintro e w' ⟨rfl, rfl⟩))
  all_goals
    have BV : Hid (Below W.heap.size W (W.alloc (.cells #[.pointer (some ⟨ps[k].x, 0, none⟩), .pointer (some ⟨ps[k].y, 0, none⟩)] 45)).drew) := (below_alloc _ _).drew
    have hP : ((W.alloc (.cells #[.pointer (some ⟨ps[k].x, 0, none⟩), .pointer (some ⟨ps[k].y, 0, none⟩)] 45)).drew).heap[W.heap.size]? = some (.cells #[.pointer (some ⟨ps[k].x, 0, none⟩), .pointer (some ⟨ps[k].y, 0, none⟩)] 45 (0, 0)) := heap_res W _
    generalize (W.alloc (.cells #[.pointer (some ⟨ps[k].x, 0, none⟩), .pointer (some ⟨ps[k].y, 0, none⟩)] 45)).drew = V at *
    have hOV := (BV.out.block _ (lt_of_block HO.out)).trans HO.out
    have HS : Hid (Scr w0 V wb (.slice (some ⟨g, 0, none⟩) ps.length csv) lw ps ls) := H.out.below BV.out
    have g0 : V.cell? ⟨W.heap.size, 0, none⟩ = some (.pointer (some ⟨ps[k].x, 0, none⟩)) := cell_of_block hP 0
    have g1 : V.cell? ⟨W.heap.size, 1, none⟩ = some (.pointer (some ⟨ps[k].y, 0, none⟩)) := cell_of_block hP 1
    have f0 : V.cell? ⟨w.heap.size, 0, none⟩ = some (.int .i64 kind) := cell_of_block hOV 0
    have f1 : V.cell? ⟨w.heap.size, 1, none⟩ = some (.int .i64 s) := cell_of_block hOV 1
    have f2 : V.cell? ⟨w.heap.size, 2, none⟩ = some (.int .i64 a) := cell_of_block hOV 2
    have f3 : V.cell? ⟨w.heap.size, 3, none⟩ = some (.int .i64 b) := cell_of_block hOV 3
    have f4 : V.cell? ⟨w.heap.size, 4, none⟩ = some (.int .i64 c) := cell_of_block hOV 4
    have f5 : V.cell? ⟨w.heap.size, 5, none⟩ = some (.int .u64 (t : Nat)) := cell_of_block hOV 5
    have f6 : V.cell? ⟨w.heap.size, 6, none⟩ = some (.bool on) := cell_of_block hOV 6
    have f7 : V.cell? ⟨w.heap.size, 7, none⟩ = some text := cell_of_block hOV 7
    have hgk := HG.out k hpk
    have MC : Hid (Calls Tryz.prog 16 #[.pointer (some ⟨wb, 0, none⟩), .agg #[.pointer (some ⟨ps[k].x, 0, none⟩), .pointer (some ⟨ps[k].y, 0, none⟩)], .agg #[.int .i64 kind, .int .i64 s, .int .i64 a, .int .i64 b, .int .i64 c, .int .u64 (t : Nat), .bool on, text]] V fun e w' => e = .returned (.bool true) ∧ ∃ (j : Nat) (hj : j < ps.length) (p' : Pr), PStep w0.heap.size V w' ps[j] p') := texts_calls XE XI w0 V wb k _ lw ps ls ⟨kind, s, a, b, c, t, on, text⟩ hpk HS.out (fun i hi => by have := HG.out i hi; omega) (by omega) hs1' hs2' ⟨hk1, hk2⟩ HX.out
    have FIN : Hid (∀ w', (∃ (j : Nat) (hj : j < ps.length) (p' : Pr), PStep w0.heap.size V w' ps[j] p') → ScrK w0 w' wb (K + 1)) := fun w' ⟨j, hj, p', hs⟩ => scrK_step HS.out hl hls HG.out hj ⟨p', hs⟩
    clear q0 q1 r0 r1 hP hOV H HO BV HS HG hPK hgl hgk
    generalize ps[k].x = px at *
    generalize ps[k].y = py at *
    go_wp2_with fail
    refine MC.out.mono ?_
    rintro e w9 ⟨rfl, h9⟩
    have H9 : Hid (ScrK w0 w9 wb (K + 1)) := FIN.out w9 h9
    clear h9
    go_wp2_with fail
    go_ret
    exact ⟨rfl, H9.out⟩

theorem step_any (XE : ExpOk) (XI : ImpOk) (w0 w : World) (wb K : Nat) (o : SOp) (h : ScrK w0 w wb K) (hc : Cols w0) (hK : K ≤ 3000000) (hk : o.kind ≤ 24) (hs1 : -9223372036854775808 ≤ o.s) (hs2 : o.s ≤ 9223372036854775807) (hx : OkText o) :
    Calls Tryz.prog 6 #[.pointer (some ⟨wb, 0, none⟩), o.val] w fun e w' => e = .returned (.bool true) ∧ ScrK w0 w' wb (K + 1) := by
  by_cases k5 : o.kind ≤ 21
  · exact step_calls w0 w wb K o h hc hK k5 hs1 hs2
  · obtain ⟨sv, lw, ps, ls, h1, hn, hl, hls, hg⟩ := h
    exact step_texts XE XI w0 w wb K sv lw ps ls o h1 hn hl hls hg hK ⟨by omega, hk⟩ hs1 hs2 hx

set_option maxRecDepth 100000 in
set_option maxHeartbeats 1000000 in
theorem played_texts (XE : ExpOk) (XI : ImpOk) (last cap : Nat) (ao : Option Addr) (l : List SOp) (w : World) (hc : Cols w) (hl : SlOps w ao l) (hlast : last ≤ 24) (hll : l.length ≤ 2000000) (hs : ∀ o ∈ l, (-9223372036854775808 ≤ o.s ∧ o.s ≤ 9223372036854775807) ∧ OkText o) :
    Calls Tryz.prog 4 #[.slice ao l.length cap, .int .i64 last] w fun e w' => e = .returned (.bool true) ∧ Below w.heap.size w w' := by
  have HC : Hid (Cols w) := hc
  have HL : Hid (SlOps w ao l) := hl
  have HSB : Hid (∀ o ∈ l, (-9223372036854775808 ≤ o.s ∧ o.s ≤ 9223372036854775807) ∧ OkText o) := hs
  have MC : Hid (Calls Tryz.prog 5 #[.pointer (some ⟨w.heap.size, 0, none⟩), .int .i64 3, .int .i64 20] (w.alloc (.cells #[.slice none 0 0, .slice none 0 0] 29)) fun e w' => e = .returned (.bool true) ∧ ScrK w w' w.heap.size 0) := by
    refine (lmade_ok w _ w.heap.size 3 20 _ _ [] [] (scr_first w) ((scr_first w).cols hc) (cols_pos hc) (by simp) (by omega) (by omega) (by omega) (by omega)).mono ?_
    rintro e w' ⟨rfl, sv', p, h1, h2⟩
    refine ⟨rfl, sv', _, _, _, h1, by simp, by simp, by simp, fun i hi => ?_⟩
    obtain rfl : i = 0 := by simp at hi; omega
    exact Nat.le_of_eq h2
  clear hc hl hs
  go_enter Tryz.func4, Tryz.ntmps4
  go_wp2_with fail
  refine MC.out.mono ?_
  rintro e w1 ⟨rfl, h1⟩
  have H1 : Hid (ScrK w w1 w.heap.size 0) := h1
  clear h1 MC
  go_wp2_with fail
  go_loopw [6, 7] (fun x6 x7 wr => ∃ i : Nat, i ≤ l.length ∧ x7 = .int .i64 i ∧ Hid (ScrK w wr w.heap.size i)) (fun _ x7 _ => l.length - (intOf x7).toNat)
  case atStart => exact ⟨0, Nat.zero_le _, rfl, H1⟩
  case round =>
    obtain ⟨i, hi, rfl, HR⟩ := hrel
    by_cases hlt : i < l.length
    · obtain ⟨g, o, rfl, hg, hcell⟩ := HL.out i hlt
      have hb := HSB.out _ (List.getElem_mem hlt)
      have hcw : ∀ j v, l[i].cells[j]? = some v → wr.cell? ⟨g, o + i * 8 + j, none⟩ = some v := fun j v hv => (HR.out.bel.cell (p := ⟨g, o + i * 8 + j, none⟩) hg).trans (hcell j v hv)
      have SC : Hid (l[i].kind ≤ 24 → Calls Tryz.prog 6 #[.pointer (some ⟨w.heap.size, 0, none⟩), l[i].val] wr fun e w' => e = .returned (.bool true) ∧ ScrK w w' w.heap.size (i + 1)) := fun hk => step_any XE XI w wr w.heap.size i l[i] HR.out HC.out (by omega) hk hb.1.1 hb.1.2 hb.2
      clear hcell hb
      generalize l[i] = op at *
      obtain ⟨kind, s, a, b, c, t, on, text⟩ := op
      have f0 : wr.cell? ⟨g, o + i * 8, none⟩ = some (.int .i64 kind) := hcw 0 _ rfl
      have f1 : wr.cell? ⟨g, o + i * 8 + 1, none⟩ = some (.int .i64 s) := hcw 1 _ rfl
      have f2 : wr.cell? ⟨g, o + i * 8 + 2, none⟩ = some (.int .i64 a) := hcw 2 _ rfl
      have f3 : wr.cell? ⟨g, o + i * 8 + 3, none⟩ = some (.int .i64 b) := hcw 3 _ rfl
      have f4 : wr.cell? ⟨g, o + i * 8 + 4, none⟩ = some (.int .i64 c) := hcw 4 _ rfl
      have f5 : wr.cell? ⟨g, o + i * 8 + 5, none⟩ = some (.int .u64 (t : Nat)) := hcw 5 _ rfl
      have f6 : wr.cell? ⟨g, o + i * 8 + 6, none⟩ = some (.bool on) := hcw 6 _ rfl
      have f7 : wr.cell? ⟨g, o + i * 8 + 7, none⟩ = some text := hcw 7 _ rfl
      clear hcw
      by_cases hkl : kind ≤ (last : Int)
      · have hnl : ¬ (last : Int) < kind := by omega
        have SC2 : Hid (Calls Tryz.prog 6 #[.pointer (some ⟨w.heap.size, 0, none⟩), .agg #[.int .i64 kind, .int .i64 s, .int .i64 a, .int .i64 b, .int .i64 c, .int .u64 (t : Nat), .bool on, text]] wr fun e w' => e = .returned (.bool true) ∧ ScrK w w' w.heap.size (i + 1)) := SC.out (show kind ≤ 24 by omega)
        clear SC
        go_wp2_with fail
        refine SC2.out.mono ?_
        rintro e w2 ⟨rfl, h2⟩
        have H2 : Hid (ScrK w w2 w.heap.size (i + 1)) := h2
        clear h2
        go_wp2_with fail
        refine (H2.out.looks (by omega)).mono ?_
        rintro e w3 ⟨rfl, h3⟩
        have H3 : Hid (ScrK w w3 w.heap.size (i + 1)) := h3
        clear h3
        go_wp2_with fail
        exact ⟨⟨i + 1, hlt, by go_num, H3⟩, by simp [intOf]; omega⟩
      · have hnl : (last : Int) < kind := by omega
        clear SC
        have H2 : Hid (ScrK w wr w.heap.size (i + 1)) := HR.out.mono (Nat.le_succ _)
        go_wp2_with fail
        exact ⟨⟨i + 1, hlt, by go_num, H2⟩, by simp [intOf]; omega⟩
    · go_wp2_with fail
      go_ret
      exact ⟨rfl, HR.out.bel⟩
end Go.Proofs.YthoodkbdpnffdabGreatDoor
