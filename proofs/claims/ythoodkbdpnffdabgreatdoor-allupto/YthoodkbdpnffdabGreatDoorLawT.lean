/-
  Own work: the document's answer: Import (a walk).
-/
import Derived.Test.YthoodkbdpnffdabGreatDoorRefRead
import Derived.Test.YthoodkbdpnffdabGreatDoorPairM
import Derived.Test.YthoodkbdpnffdabGreatDoorRefPar
import Derived.Test.YthoodkbdpnffdabGreatDoorOrdS
namespace Go.Proofs.YthoodkbdpnffdabGreatDoor
open Go.RowKit
open Cho (U64 Tab full col Says readT readT_some readT_none)

/-- Import, as the document says it. -/
noncomputable def RSt.imp (r : RSt) (bs : List UInt8) : RSt × Nat × Nat :=
  if r.L.length < 30 then
    match readT r.n bs with
    | some f => r.made f
    | none => (r, 0, 6)
  else (r, 0, 3)

set_option maxRecDepth 100000 in
set_option maxHeartbeats 1000000 in
theorem rimport_calls (B y : Nat) (bs : List UInt8) (r : RSt) (rv ov : Value) (w : World) (hr : RefAt B w y r rv ov) (hg : r.given + 1 < 4294967296) (hl : bs.length ≤ 9223372036854775807) :
    Calls Tryz.prog 62 #[.pointer (some ⟨y, 0, none⟩), txt bs] w fun e w' => e = .returned (.tuple #[.int .u32 ((r.imp bs).2.1 : Nat), .int .i64 ((r.imp bs).2.2 : Nat)]) ∧ RStep B w w' y rv ov (r.imp bs).1 := by
  have HR : Hid (RefAt B w y r rv ov) := hr
  have c2 := hr.c2
  obtain ⟨al, cl, hrv⟩ := owns_slice hr.row
  have hsz : (ByteArray.mk bs.toArray).size = bs.length := txt_size bs
  have n6 := hr.ok.n6
  have n1 := hr.ok.n1
  have hlen := hr.ok.len
  rw [hrv] at c2
  by_cases h30 : r.L.length < 30
  · by_cases h2000 : bs.length ≤ 2000
    · have KR : Hid (Calls Tryz.prog 109 #[.pointer (some ⟨y, 0, none⟩), .string ⟨bs.toArray⟩] w fun e w' => ((∃ f, Says r.n bs f ∧ e = .returned (.tuple #[.int .u64 (f : Nat), .bool true])) ∨ ((∀ f, ¬ Says r.n bs f) ∧ e = .returned (.tuple #[.int .u64 0, .bool false]))) ∧ Below w.heap.size w w') := rread_calls y r.n bs w hr.c0 n1 n6 h2000
      have HI : Hid (r.imp bs = match readT r.n bs with | some f => r.made f | none => (r, 0, 6)) := if_pos h30
      clear hr hrv
      unfold txt
      go_enter Tryz.func62, Tryz.ntmps62
      go_wp2_with fail
      refine KR.out.mono ?_
      rintro e w1 ⟨⟨f, hs, rfl⟩ | ⟨hs, rfl⟩, b1⟩
      · have HE : Hid (r.imp bs = r.made f) := by
          show r.imp bs = r.made f
          rw [HI.out, readT_some n6 h2000 hs]
        have B1 : Hid _ := b1
        have HT : Hid (Tab r.n f) := hs.tab
        have hU := (hs.tab.u64 n6).lt
        clear hs b1 HI KR
        go_wp2_with fail
        refine (rmade_calls B y f r _ _ _ (HR.out.below B1.out) HT.out hg).mono ?_
        rintro e w2 ⟨rfl, h2⟩
        have H2 : Hid _ := h2
        clear h2
        go_wp2_with fail
        go_ret2
        rw [HE.out]
        exact ⟨rfl, H2.out.before B1.out⟩
      · have HE : Hid (r.imp bs = (r, 0, 6)) := by
          show r.imp bs = (r, 0, 6)
          rw [HI.out, readT_none (fun h => by obtain ⟨_, f, hf⟩ := h; exact hs f hf)]
        have B1 : Hid _ := b1
        clear hs b1 HI KR
        go_wp2_with fail
        go_ret2
        rw [HE.out]
        exact ⟨rfl, RStep.same HR.out B1.out⟩
    · have HE : Hid (r.imp bs = (r, 0, 6)) := by
        show r.imp bs = (r, 0, 6)
        unfold RSt.imp
        rw [if_pos h30, readT_none (fun h => h2000 h.1)]
      clear hr hrv
      unfold txt
      go_enter Tryz.func62, Tryz.ntmps62
      go_wp2_with fail
      go_ret2
      rw [HE.out]
      exact ⟨rfl, RStep.same HR.out (Below.refl _ _)⟩
  · have HE : Hid (r.imp bs = (r, 0, 3)) := if_neg h30
    clear hr hrv
    unfold txt
    go_enter Tryz.func62, Tryz.ntmps62
    go_wp2_with fail
    go_ret2
    rw [HE.out]
    exact ⟨rfl, RStep.same HR.out (Below.refl _ _)⟩
end Go.Proofs.YthoodkbdpnffdabGreatDoor

/-
  Own work: texts: what the program's Export and Import have to do, and that the document's then do the same (plain mathematics).
-/
namespace Go.Proofs.YthoodkbdpnffdabGreatDoor
open Go.RowKit
open Cho (U64 Tab full col Says readT readT_says)

/-- Import, as the program has to do it. -/
noncomputable def St.imp (st : St) (bs : List UInt8) : St × Nat × Nat :=
  if st.free < 30 then
    match readT st.n bs with
    | some f => st.made f
    | none => (st, 0, 6)
  else (st, 0, 3)
theorem Sim.imp {st : St} {r : RSt} (h : Sim st r) (hg : st.given + 1 < 4294967295) (bs : List UInt8) : (st.imp bs).2 = (r.imp bs).2 ∧ Sim (st.imp bs).1 (r.imp bs).1 := by
  unfold St.imp RSt.imp
  rw [h.n]
  by_cases hf : st.free < 30
  · rw [if_pos hf, if_pos (h.free.2 hf)]
    cases hr : readT st.n bs with
    | none => exact ⟨rfl, h⟩
    | some f => exact sim_made h (readT_says hr).1.tab hg
  · rw [if_neg hf, if_neg (fun h2 => hf (h.free.1 h2))]
    exact ⟨rfl, h⟩
theorem imp_given (r : RSt) (bs : List UInt8) : (r.imp bs).1.given ≤ r.given + 1 := by
  unfold RSt.imp
  split
  · split
    · exact made_given _ _
    · exact Nat.le_succ _
  · exact Nat.le_succ _
theorem Sim.exp {st : St} {r : RSt} (h : Sim st r) (a : Nat) : expA st.n (st.get a) = expA r.n (r.get a) := by rw [h.n, h.get a]
/-- What the program's Export does. -/
def ExpOk : Prop := ∀ (s a : Nat) (st : St) (w : World), Has w s st →
  Calls Tryz.prog 63 #[.pointer (some ⟨s, 0, none⟩), .int .u32 a] w fun e w' => e = .returned (.tuple #[txt (expA st.n (st.get a)).1, .int .i64 ((expA st.n (st.get a)).2 : Nat)]) ∧ Below w.heap.size w w'
/-- What the program's Import does. -/
def ImpOk : Prop := ∀ (s : Nat) (bs : List UInt8) (st : St) (w : World), Has w s st → st.given + 1 < 4294967295 → bs.length ≤ 9223372036854775807 →
  Calls Tryz.prog 61 #[.pointer (some ⟨s, 0, none⟩), txt bs] w fun e w' => e = .returned (.tuple #[.int .u32 ((st.imp bs).2.1 : Nat), .int .i64 ((st.imp bs).2.2 : Nat)]) ∧ CStep w w' s (st.imp bs).1
theorem expA_len {n : Nat} (h6 : n ≤ 6) {o : Option Nat} (h : ∀ f, o = some f → Tab n f) : (expA n o).1.length ≤ 441 := by
  cases o with
  | none => simp [expA]
  | some f => exact Cho.text_short h6 (h f rfl)
end Go.Proofs.YthoodkbdpnffdabGreatDoor

/-
  Own work: the steps of a script that speak of texts (walks over contracts; what the program's Export and Import do comes in).
-/
namespace Go.Proofs.YthoodkbdpnffdabGreatDoor
open Go.RowKit
open Cho (U64 Tab full col Nd Red)

set_option maxRecDepth 100000 in
set_option maxHeartbeats 1000000 in
theorem texts_import (XI : ImpOk) (w0 w : World) (wb k : Nat) (sv lw : Value) (ps : List Pr) (ls : List (Value × Int)) (o : SOp) (bs : List UInt8) (hk : k < ps.length) (h : Scr w0 w wb sv lw ps ls) (hg : ps[k].r.given + 1 < 4294967295) (hkd : o.kind = 23) (hb : o.text = txt bs) (hl : bs.length ≤ 9223372036854775807) :
    Calls Tryz.prog 16 #[.pointer (some ⟨wb, 0, none⟩), ps[k].val, o.val] w fun e w' => e = .returned (.bool true) ∧ ∃ p', PStep w0.heap.size w w' ps[k] p' := by
  obtain ⟨kind, s, a, b, c, t, on, text⟩ := o
  obtain rfl : kind = 23 := hkd
  obtain rfl : text = txt bs := hb
  have hb0 := laidW_below w ps[k] ⟨23, s, a, b, c, t, on, txt bs⟩
  have hp := h.ok k hk
  have hp0 := hp.below hb0
  have hgs : ps[k].st.given + 1 < 4294967295 := by rw [← hp.sim.given]; exact hg
  have hsim := hp.sim.imp hgs bs
  have SC : Hid (Calls Tryz.prog 61 #[.pointer (some ⟨ps[k].x, 0, none⟩), txt bs] (laidW w ps[k] ⟨23, s, a, b, c, t, on, txt bs⟩) fun e w' => e = .returned (.tuple #[.int .u32 ((ps[k].st.imp bs).2.1 : Nat), .int .i64 ((ps[k].st.imp bs).2.2 : Nat)]) ∧ CStep (laidW w ps[k] ⟨23, s, a, b, c, t, on, txt bs⟩) w' ps[k].x (ps[k].st.imp bs).1) := XI ps[k].x bs ps[k].st _ hp0.has hgs hl
  have RC : Hid (∀ w1, CStep (laidW w ps[k] ⟨23, s, a, b, c, t, on, txt bs⟩) w1 ps[k].x (ps[k].st.imp bs).1 → Calls Tryz.prog 62 #[.pointer (some ⟨ps[k].y, 0, none⟩), txt bs] w1 fun e w' => e = .returned (.tuple #[.int .u32 ((ps[k].st.imp bs).2.1 : Nat), .int .i64 ((ps[k].st.imp bs).2.2 : Nat)]) ∧ RStep w0.heap.size w1 w' ps[k].y ps[k].rv ps[k].ov (ps[k].r.imp bs).1) := by
    intro w1 hc
    have := rimport_calls w0.heap.size ps[k].y bs ps[k].r ps[k].rv ps[k].ov w1 (ref_beside hp0 hc) (by omega) hl
    rw [← hsim.1] at this
    exact this
  have FIN : Hid (∀ w1 w2, CStep (laidW w ps[k] ⟨23, s, a, b, c, t, on, txt bs⟩) w1 ps[k].x (ps[k].st.imp bs).1 → RStep w0.heap.size w1 w2 ps[k].y ps[k].rv ps[k].ov (ps[k].r.imp bs).1 → ∃ p', PStep w0.heap.size w w2 ps[k] p') := by
    intro w1 w2 h1 h2
    obtain ⟨p', hp'⟩ := pair_step hp0 h1 h2 hsim.2 (imp_given _ _)
    exact ⟨p', hp'.before hb0⟩
  have KEEP : Hid (∀ w1, CStep (laidW w ps[k] ⟨23, s, a, b, c, t, on, txt bs⟩) w1 ps[k].x (ps[k].st.imp bs).1 → w1.cell? ⟨w.heap.size, 1, none⟩ = some (.pointer (some ⟨ps[k].y, 0, none⟩)) ∧ w1.cell? ⟨w.heap.size + 1, 7, none⟩ = some (txt bs)) := fun w1 hc => ⟨cell_of_block (laid_keep hp hc).1 1, cell_of_block (laid_keep hp hc).2 7⟩
  clear h hp hp0 hsim hb0 hg hgs
  generalize ps[k] = p at *
  obtain ⟨x, y, st, r, rv, ov⟩ := p
  generalize hE : (St.imp (Pr.st ⟨x, y, st, r, rv, ov⟩) bs).2.1 = H1 at *
  generalize hE2 : (St.imp (Pr.st ⟨x, y, st, r, rv, ov⟩) bs).2.2 = E1 at *
  generalize hS : (St.imp (Pr.st ⟨x, y, st, r, rv, ov⟩) bs).1 = st' at *
  generalize hR : (RSt.imp (Pr.r ⟨x, y, st, r, rv, ov⟩) bs).1 = r' at *
  unfold txt at *
  unfold Pr.val SOp.val Pr.cells SOp.cells
  go_enter Tryz.func16, Tryz.ntmps16
  go_wp2_with fail
  refine SC.out.mono ?_
  rintro e w1 ⟨rfl, hc1⟩
  have HC1 : Hid _ := hc1
  have p1 := (KEEP.out w1 hc1).1
  have o2 := (KEEP.out w1 hc1).2
  clear hc1
  go_wp2_with fail
  refine (RC.out w1 HC1.out).mono ?_
  rintro e w2 ⟨rfl, hr2⟩
  have FP : Hid _ := FIN.out w1 w2 HC1.out hr2
  clear hr2 p1 o2
  go_wp2_with fail
  refine (handles_calls H1 E1 _).mono ?_
  rintro e w3 ⟨rfl, rfl⟩
  go_wp2_with fail
  go_ret
  exact ⟨rfl, FP.out⟩

set_option maxRecDepth 100000 in
set_option maxHeartbeats 1000000 in
theorem texts_export (XE : ExpOk) (w0 w : World) (wb k : Nat) (sv lw : Value) (ps : List Pr) (ls : List (Value × Int)) (o : SOp) (hk : k < ps.length) (h : Scr w0 w wb sv lw ps ls) (hkd : o.kind = 22) :
    Calls Tryz.prog 16 #[.pointer (some ⟨wb, 0, none⟩), ps[k].val, o.val] w fun e w' => e = .returned (.bool true) ∧ ∃ p', PStep w0.heap.size w w' ps[k] p' := by
  obtain ⟨kind, s, a, b, c, t, on, text⟩ := o
  obtain rfl : kind = 22 := hkd
  have hb0 := laidW_below w ps[k] ⟨22, s, a, b, c, t, on, text⟩
  have hp := h.ok k hk
  have hp0 := hp.below hb0
  have hsim := hp.sim.exp (hnd a)
  have SC : Hid (Calls Tryz.prog 63 #[.pointer (some ⟨ps[k].x, 0, none⟩), .int .u32 (hnd a : Nat)] (laidW w ps[k] ⟨22, s, a, b, c, t, on, text⟩) fun e w' => e = .returned (.tuple #[txt (expA ps[k].st.n (ps[k].st.get (hnd a))).1, .int .i64 ((expA ps[k].st.n (ps[k].st.get (hnd a))).2 : Nat)]) ∧ Below (laidW w ps[k] ⟨22, s, a, b, c, t, on, text⟩).heap.size (laidW w ps[k] ⟨22, s, a, b, c, t, on, text⟩) w') := XE ps[k].x (hnd a) ps[k].st _ hp0.has
  have RC : Hid (∀ w1, Below (laidW w ps[k] ⟨22, s, a, b, c, t, on, text⟩).heap.size (laidW w ps[k] ⟨22, s, a, b, c, t, on, text⟩) w1 → Calls Tryz.prog 64 #[.pointer (some ⟨ps[k].y, 0, none⟩), .int .u32 (hnd a : Nat)] w1 fun e w' => e = .returned (.tuple #[txt (expA ps[k].st.n (ps[k].st.get (hnd a))).1, .int .i64 ((expA ps[k].st.n (ps[k].st.get (hnd a))).2 : Nat)]) ∧ Below w1.heap.size w1 w') := by
    intro w1 hc
    have := rexport_calls w0.heap.size ps[k].y (hnd a) ps[k].r ps[k].rv ps[k].ov w1 (hp0.ref.below hc)
    rw [← hsim] at this
    exact this
  have FIN : Hid (∀ w2, Below (laidW w ps[k] ⟨22, s, a, b, c, t, on, text⟩).heap.size (laidW w ps[k] ⟨22, s, a, b, c, t, on, text⟩) w2 → ∃ p', PStep w0.heap.size w w2 ps[k] p') := fun w2 h2 => ⟨ps[k], PStep.same hp (below_trans hb0 h2)⟩
  have KEEP : Hid (∀ w1, Below (laidW w ps[k] ⟨22, s, a, b, c, t, on, text⟩).heap.size (laidW w ps[k] ⟨22, s, a, b, c, t, on, text⟩) w1 → w1.cell? ⟨w.heap.size, 1, none⟩ = some (.pointer (some ⟨ps[k].y, 0, none⟩)) ∧ w1.cell? ⟨w.heap.size + 1, 2, none⟩ = some (.int .i64 a) ∧ w1.cell? ⟨w.heap.size + 1, 0, none⟩ = some (.int .i64 22)) := fun w1 hc => ⟨cell_of_block (laid_below hc).1 1, cell_of_block (laid_below hc).2 2, cell_of_block (laid_below hc).2 0⟩
  clear h hp hp0 hsim hb0
  generalize ps[k] = p at *
  obtain ⟨x, y, st, r, rv, ov⟩ := p
  generalize hX : (expA (Pr.st ⟨x, y, st, r, rv, ov⟩).n ((Pr.st ⟨x, y, st, r, rv, ov⟩).get (hnd a))).1 = T at *
  generalize hY : (expA (Pr.st ⟨x, y, st, r, rv, ov⟩).n ((Pr.st ⟨x, y, st, r, rv, ov⟩).get (hnd a))).2 = E1 at *
  unfold txt at *
  unfold Pr.val SOp.val Pr.cells SOp.cells
  go_enter Tryz.func16, Tryz.ntmps16
  go_wp2_with fail
  try simp only [hnd_eq]
  refine SC.out.mono ?_
  rintro e w1 ⟨rfl, hc1⟩
  have HC1 : Hid _ := hc1
  have p1 := (KEEP.out w1 hc1).1
  have o2 := (KEEP.out w1 hc1).2.1
  clear hc1
  go_wp2_with fail
  try simp only [hnd_eq]
  refine (RC.out w1 HC1.out).mono ?_
  rintro e w2 ⟨rfl, hr2⟩
  have HC2 : Hid _ := below_trans HC1.out hr2
  have o0 := (KEEP.out w2 HC2.out).2.2
  have FP : Hid _ := FIN.out w2 HC2.out
  clear hr2 p1 o2
  have hTT : (T == T) = true := by simp
  go_wp2_with fail
  refine (num_calls E1 _).mono ?_
  rintro e w3 ⟨rfl, rfl⟩
  go_wp2_with fail
  refine (num_calls E1 _).mono ?_
  rintro e w3 ⟨rfl, rfl⟩
  go_wp2_with fail
  go_ret
  exact ⟨rfl, FP.out⟩
end Go.Proofs.YthoodkbdpnffdabGreatDoor
