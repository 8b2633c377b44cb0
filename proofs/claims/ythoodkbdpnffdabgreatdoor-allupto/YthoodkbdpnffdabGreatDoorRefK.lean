/-
  Own work: the document's answer: Apply in all cases, Ite, Restrict, Compose (walks).
-/
import Derived.Test.YthoodkbdpnffdabGreatDoorRefJ
namespace Go.Proofs.YthoodkbdpnffdabGreatDoor
open Go.RowKit
open Cho (U64 Tab full col)

theorem two_known {r : RSt} {a b : Nat} (h : ¬ (∃ x y, r.get a = some x ∧ r.get b = some y)) : ∃ m, ∃ hm : m < [a, b].length, [a, b][m] ∉ r.hs := by
  cases ha : r.get a with
  | none => exact ⟨0, by simp, get_none ha⟩
  | some x =>
    cases hb : r.get b with
    | none => exact ⟨1, by simp, get_none hb⟩
    | some y => exact absurd ⟨x, y, ha, hb⟩ h
theorem three_known {r : RSt} {a b c : Nat} (h : ¬ (∃ x y z, r.get a = some x ∧ r.get b = some y ∧ r.get c = some z)) : ∃ m, ∃ hm : m < [a, b, c].length, [a, b, c][m] ∉ r.hs := by
  cases ha : r.get a with
  | none => exact ⟨0, by simp, get_none ha⟩
  | some x =>
    cases hb : r.get b with
    | none => exact ⟨1, by simp, get_none hb⟩
    | some y =>
      cases hc : r.get c with
      | none => exact ⟨2, by simp, get_none hc⟩
      | some z => exact absurd ⟨x, y, z, ha, hb, hc⟩ h

set_option maxRecDepth 100000 in
set_option maxHeartbeats 1000000 in
theorem rapply_calls (B y a b : Nat) (c : Int) (r : RSt) (rv ov : Value) (w : World) (hr : RefAt B w y r rv ov) (hg : r.given + 1 < 4294967296) :
    Calls Tryz.prog 27 #[.pointer (some ⟨y, 0, none⟩), .int .i64 c, .int .u32 a, .int .u32 b] w fun e w' => e = .returned (.tuple #[.int .u32 ((r.apply c a b).2.1 : Nat), .int .i64 ((r.apply c a b).2.2 : Nat)]) ∧ RStep B w w' y rv ov (r.apply c a b).1 := by
  by_cases hc : 0 ≤ c ∧ c ≤ 15
  · obtain ⟨k, rfl⟩ : ∃ k : Nat, c = k := ⟨c.toNat, by omega⟩
    have hk : k < 16 := by omega
    by_cases hab : ∃ x z, r.get a = some x ∧ r.get b = some z
    · obtain ⟨f, g, h1, h2⟩ := hab
      have e : r.apply k a b = r.made (Cho.joinT k f g (full r.n)) := by unfold RSt.apply; rw [if_pos hc, h1, h2]; rfl
      rw [e]
      exact rapply_ok B y k a b f g r rv ov w hr hg hk h1 h2
    · have e : r.apply k a b = (r, 0, 2) := by
        unfold RSt.apply; rw [if_pos hc]
        split
        · rename_i x z h1 h2; exact absurd ⟨x, z, h1, h2⟩ hab
        · rfl
      have E : Hid (r.apply k a b = (r, 0, 2)) := e
      have HR : Hid (RefAt B w y r rv ov) := hr
      obtain ⟨m, hm, hno⟩ := two_known hab
      have HNO : Hid ([a, b][m] ∉ r.hs) := hno
      clear hr e hno hab hc
      go_enter Tryz.func27, Tryz.ntmps27
      go_wp2_with fail
      refine (rknows_no B y m r _ _ _ [a, b] _ (HR.out.alloc _) (rowH_two _ a b) (by simp) hm HNO.out).mono ?_
      rintro e w1 ⟨rfl, rfl⟩
      have B1 : Hid (Below w.heap.size w (w.alloc (.cells #[.int .u32 (a : Nat), .int .u32 (b : Nat)] 57))) := below_alloc _ _
      generalize w.alloc (.cells #[.int .u32 (a : Nat), .int .u32 (b : Nat)] 57) = w1 at *
      go_wp2_with fail
      go_ret2
      rw [E.out]
      exact ⟨rfl, .same HR.out B1.out⟩
  · have E : Hid (r.apply c a b = (r, 0, 1)) := if_neg hc
    have HR : Hid (RefAt B w y r rv ov) := hr
    clear hr
    by_cases h0 : c < 0
    · clear hc
      go_enter Tryz.func27, Tryz.ntmps27
      go_wp2_with fail
      go_ret2
      rw [E.out]
      exact ⟨rfl, .same HR.out (Below.refl _ _)⟩
    · have h15 : 15 < c := by omega
      have h0' : 0 ≤ c := by omega
      clear hc h0
      go_enter Tryz.func27, Tryz.ntmps27
      go_wp2_with fail
      go_ret2
      rw [E.out]
      exact ⟨rfl, .same HR.out (Below.refl _ _)⟩

def RSt.ite (r : RSt) (a b c : Nat) : RSt × Nat × Nat :=
  match r.get a, r.get b, r.get c with
  | some x, some y, some z => r.made (Cho.chooseT x y z)
  | _, _, _ => (r, 0, 2)

set_option maxRecDepth 100000 in
set_option maxHeartbeats 2000000 in
theorem rite_calls (B y a b c : Nat) (r : RSt) (rv ov : Value) (w : World) (hr : RefAt B w y r rv ov) (hg : r.given + 1 < 4294967296) :
    Calls Tryz.prog 29 #[.pointer (some ⟨y, 0, none⟩), .int .u32 a, .int .u32 b, .int .u32 c] w fun e w' => e = .returned (.tuple #[.int .u32 ((r.ite a b c).2.1 : Nat), .int .i64 ((r.ite a b c).2.2 : Nat)]) ∧ RStep B w w' y rv ov (r.ite a b c).1 := by
  by_cases hab : ∃ x z v, r.get a = some x ∧ r.get b = some z ∧ r.get c = some v
  · obtain ⟨f, g, h, ha, hb, hc⟩ := hab
    have E0 : Hid (r.ite a b c = r.made (Cho.chooseT f g h)) := by show r.ite a b c = _; unfold RSt.ite; rw [ha, hb, hc]
    have HR : Hid (RefAt B w y r rv ov) := hr
    have HA : Hid (r.get a = some f) := ha
    have HB : Hid (r.get b = some g) := hb
    have HCC : Hid (r.get c = some h) := hc
    have tf := get_tab hr.ok ha
    have tg := get_tab hr.ok hb
    have th := get_tab hr.ok hc
    have hn := hr.ok.n6
    have h64 := Cho.two_pow_le r.n hn
    have HF : Hid (Cho.bld (fun p => if f.testBit p then g.testBit p else h.testBit p) (2 ^ r.n) = Cho.chooseT f g h) := Cho.bld_choose tf tg th hn
    have HT : Hid (Tab r.n (Cho.chooseT f g h)) := Cho.chooseT_tab tg th
    have HK : Hid (∀ q ∈ [a, b, c], q ∈ r.hs) := by
      intro q hh
      simp only [List.mem_cons, List.not_mem_nil, or_false] at hh
      rcases hh with rfl | rfl | rfl
      · exact get_mem ha
      · exact get_mem hb
      · exact get_mem hc
    clear hr ha hb hc tf tg th
    generalize hjf : Cho.chooseT f g h = J at *
    clear hjf
    generalize hf : (fun p => if f.testBit p then g.testBit p else h.testBit p) = fn at *
    have Hf : Hid (∀ p, (if f.testBit p then g.testBit p else h.testBit p) = fn p) := by intro p; rw [← hf]
    clear hf
    go_enter Tryz.func29, Tryz.ntmps29
    go_wp2_with fail
    refine (rknows_yes B y r _ _ _ [a, b, c] _ (HR.out.alloc _) (rowH_three _ a b c) (by simp) HK.out).mono ?_
    rintro e w1 ⟨rfl, rfl⟩
    have B1 : Hid (Below w.heap.size w (w.alloc (.cells #[.int .u32 (a : Nat), .int .u32 (b : Nat), .int .u32 (c : Nat)] 57))) := below_alloc _ _
    generalize w.alloc (.cells #[.int .u32 (a : Nat), .int .u32 (b : Nat), .int .u32 (c : Nat)] 57) = w1 at *
    have HR1 : Hid (RefAt B w1 y r rv ov) := HR.out.below B1.out
    go_wp2_with fail
    refine (rof_get B y a f r _ _ _ HR1.out HA.out).mono ?_
    rintro e w2 ⟨rfl, q, rfl⟩
    go_wp2_with fail
    refine (rof_get B y b g r _ _ _ (HR1.out.drewN q) HB.out).mono ?_
    rintro e w3 ⟨rfl, q', rfl⟩
    have B2 : Hid (Below w.heap.size w ((w1.drewN q).drewN q')) := below_trans (below_trans B1.out (below_dr _ _)) (below_dr _ _)
    generalize (w1.drewN q).drewN q' = w2 at *
    go_wp2_with fail
    refine (rof_get B y c h r _ _ _ (HR.out.below B2.out) HCC.out).mono ?_
    rintro e w3 ⟨rfl, q'', rfl⟩
    have B3 : Hid (Below w.heap.size w (w2.drewN q'')) := below_trans B2.out (below_dr _ _)
    generalize w2.drewN q'' = w3 at *
    have HR3 : Hid (RefAt B w3 y r rv ov) := HR.out.below B3.out
    go_wp2_with fail
    go_loopw [14, 15] (fun u i wr => ∃ m : Nat, m ≤ 2 ^ r.n ∧ i = .int .i64 m ∧ u = .int .u64 (Cho.bld fn m : Nat) ∧ wr = w3) (fun _ i _ => 2 ^ r.n - (intOf i).toNat)
    case atStart => exact ⟨0, Nat.zero_le _, rfl, rfl, rfl⟩
    case round =>
      obtain ⟨m, hm, rfl, rfl, rfl⟩ := hrel
      have HC : Hid (Calls Tryz.prog 72 #[.pointer (some ⟨y, 0, none⟩)] wr fun e w' => e = .returned (.int .i64 ((2 ^ r.n : Nat) : Nat)) ∧ w' = wr) := rplaces_calls y r.n wr HR3.out.c0 hn
      generalize 2 ^ r.n = N at *
      go_wp2_with fail
      refine HC.out.mono ?_
      rintro e w4 ⟨rfl, rfl⟩
      by_cases hlt : m < N
      · have E : Hid (Cho.bld fn (m + 1) = if fn m then Cho.bld fn m ||| 2 ^ m else Cho.bld fn m) := rfl
        have hu := Cho.bld_u64 fn m (by omega)
        generalize Cho.bld fn m = u at *
        have hfm := Hf.out m
        have HHH : Hid (Calls Tryz.prog 77 #[.int .u64 h, .int .i64 m] w4 fun e w' => e = .returned (.bool (h.testBit m)) ∧ w' = w4) := rat_calls h m _ (by omega)
        go_wp2_with fail
        refine HHH.out.mono ?_
        rintro e w5 ⟨rfl, rfl⟩
        go_wp2_with fail
        refine (rat_calls f m _ (by omega)).mono ?_
        rintro e w5 ⟨rfl, rfl⟩
        cases hbf : f.testBit m
        · rw [hbf] at hfm
          simp only [Bool.false_eq_true, if_false] at hfm
          rw [hfm]
          cases hfk : fn m
          · go_wp2_with fail
            refine ⟨⟨m + 1, hlt, by go_num, val_int ?_, trivial⟩, by simp [intOf]; omega⟩
            rw [E.out, hfk]; rfl
          · go_wp2_with fail
            refine ⟨⟨m + 1, hlt, by go_num, val_int ?_, trivial⟩, by simp [intOf]; omega⟩
            rw [E.out, hfk]
            exact setbit64 hu m (by omega)
        · rw [hbf] at hfm
          simp only [if_true] at hfm
          go_wp2_with fail
          refine (rat_calls g m _ (by omega)).mono ?_
          rintro e w6 ⟨rfl, rfl⟩
          rw [hfm]
          cases hfk : fn m
          · go_wp2_with fail
            refine ⟨⟨m + 1, hlt, by go_num, val_int ?_, trivial⟩, by simp [intOf]; omega⟩
            rw [E.out, hfk]; rfl
          · go_wp2_with fail
            refine ⟨⟨m + 1, hlt, by go_num, val_int ?_, trivial⟩, by simp [intOf]; omega⟩
            rw [E.out, hfk]
            exact setbit64 hu m (by omega)
      · have HM : Hid (Cho.bld fn m = J) := by show Cho.bld fn m = J; rw [← HF.out, show m = N from by omega]
        generalize Cho.bld fn m = u at *
        obtain rfl := HM.out
        go_wp2_with fail
        refine (rmade_calls B y _ r _ _ _ HR3.out HT.out hg).mono ?_
        rintro e w5 ⟨rfl, h1⟩
        have H1 : Hid _ := h1
        clear h1
        go_wp2_with fail
        go_ret2
        rw [E0.out]
        exact ⟨rfl, H1.out.before B3.out⟩
  · have e : r.ite a b c = (r, 0, 2) := by
      unfold RSt.ite
      split
      · rename_i x z v h1 h2 h3; exact absurd ⟨x, z, v, h1, h2, h3⟩ hab
      · rfl
    have E : Hid (r.ite a b c = (r, 0, 2)) := e
    have HR : Hid (RefAt B w y r rv ov) := hr
    obtain ⟨m, hm, hno⟩ := three_known hab
    have HNO : Hid ([a, b, c][m] ∉ r.hs) := hno
    clear hr e hno hab
    go_enter Tryz.func29, Tryz.ntmps29
    go_wp2_with fail
    refine (rknows_no B y m r _ _ _ [a, b, c] _ (HR.out.alloc _) (rowH_three _ a b c) (by simp) hm HNO.out).mono ?_
    rintro e w1 ⟨rfl, rfl⟩
    have B1 : Hid (Below w.heap.size w (w.alloc (.cells #[.int .u32 (a : Nat), .int .u32 (b : Nat), .int .u32 (c : Nat)] 57))) := below_alloc _ _
    generalize w.alloc (.cells #[.int .u32 (a : Nat), .int .u32 (b : Nat), .int .u32 (c : Nat)] 57) = w1 at *
    go_wp2_with fail
    go_ret2
    rw [E.out]
    exact ⟨rfl, .same HR.out B1.out⟩

def RSt.restrict (r : RSt) (a : Nat) (v : Int) (to : Bool) : RSt × Nat × Nat :=
  if 0 ≤ v ∧ v < r.n then
    match r.get a with
    | some x => r.made (Cho.fix x v.toNat to)
    | none => (r, 0, 2)
  else (r, 0, 1)

set_option maxRecDepth 100000 in
set_option maxHeartbeats 1000000 in
theorem rrestrict_calls (B y a : Nat) (v : Int) (to : Bool) (r : RSt) (rv ov : Value) (w : World) (hr : RefAt B w y r rv ov) (hg : r.given + 1 < 4294967296) :
    Calls Tryz.prog 49 #[.pointer (some ⟨y, 0, none⟩), .int .u32 a, .int .i64 v, .bool to] w fun e w' => e = .returned (.tuple #[.int .u32 ((r.restrict a v to).2.1 : Nat), .int .i64 ((r.restrict a v to).2.2 : Nat)]) ∧ RStep B w w' y rv ov (r.restrict a v to).1 := by
  have HR : Hid (RefAt B w y r rv ov) := hr
  by_cases hv : 0 ≤ v ∧ v < r.n
  · have HV : Hid (0 ≤ v ∧ v < r.n) := hv
    cases ha : r.get a with
    | none =>
      have E : Hid (r.restrict a v to = (r, 0, 2)) := by show r.restrict a v to = _; unfold RSt.restrict; rw [if_pos hv, ha]
      have HN : Hid (a ∉ r.hs) := get_none ha
      clear hr hv ha
      go_enter Tryz.func49, Tryz.ntmps49
      go_wp2_with fail
      refine (rvariable_yes y r.n v _ HR.out.c0 HV.out).mono ?_
      rintro e w1 ⟨rfl, rfl⟩
      go_wp2_with fail
      refine (rfind_no B y a r _ _ _ HR.out HN.out).mono ?_
      rintro e w2 ⟨rfl, rfl⟩
      go_wp2_with fail
      go_ret2
      rw [E.out]
      exact ⟨rfl, .same HR.out (Below.refl _ _)⟩
    | some f =>
      obtain ⟨k, rfl⟩ : ∃ k : Nat, v = k := ⟨v.toNat, by omega⟩
      have hk : k < r.n := by omega
      have E : Hid (r.restrict a k to = r.made (Cho.fix f k to)) := by show r.restrict a k to = _; unfold RSt.restrict; rw [if_pos hv, ha]; rfl
      have HA : Hid (r.get a = some f) := ha
      have HT : Hid (Tab r.n f) := get_tab hr.ok ha
      have hn := hr.ok.n6
      clear hr hv ha
      go_enter Tryz.func49, Tryz.ntmps49
      go_wp2_with fail
      refine (rvariable_yes y r.n k _ HR.out.c0 HV.out).mono ?_
      rintro e w1 ⟨rfl, rfl⟩
      go_wp2_with fail
      refine (rfind_some B y a f r _ _ _ HR.out HA.out).mono ?_
      rintro e w2 ⟨⟨j, hj, rfl⟩, rfl⟩
      go_wp2_with fail
      refine (rof_get B y a f r _ _ _ HR.out HA.out).mono ?_
      rintro e w3 ⟨rfl, q, rfl⟩
      have B3 : Hid (Below w2.heap.size w2 (w2.drewN q)) := below_dr _ _
      generalize w2.drewN q = w3 at *
      have HR3 : Hid (RefAt B w3 y r rv ov) := HR.out.below B3.out
      go_wp2_with fail
      refine (rfixed_calls y r.n f k to _ HR3.out.c0 hn HT.out hk).mono ?_
      rintro e w4 ⟨rfl, rfl⟩
      go_wp2_with fail
      refine (rmade_calls B y _ r _ _ _ HR3.out (Cho.fix_tab k to HT.out hn hk) hg).mono ?_
      rintro e w5 ⟨rfl, h1⟩
      have H1 : Hid _ := h1
      clear h1
      go_wp2_with fail
      go_ret2
      rw [E.out]
      exact ⟨rfl, H1.out.before B3.out⟩
  · have E : Hid (r.restrict a v to = (r, 0, 1)) := if_neg hv
    have HV : Hid (¬ (0 ≤ v ∧ v < r.n)) := hv
    clear hr hv
    go_enter Tryz.func49, Tryz.ntmps49
    go_wp2_with fail
    refine (rvariable_no y r.n v _ HR.out.c0 HV.out).mono ?_
    rintro e w1 ⟨rfl, rfl⟩
    go_wp2_with fail
    go_ret2
    rw [E.out]
    exact ⟨rfl, .same HR.out (Below.refl _ _)⟩

def RSt.compose (r : RSt) (a : Nat) (v : Int) (b : Nat) : RSt × Nat × Nat :=
  if 0 ≤ v ∧ v < r.n then
    match r.get a, r.get b with
    | some x, some y => r.made (Cho.putT x v.toNat y)
    | _, _ => (r, 0, 2)
  else (r, 0, 1)

set_option maxRecDepth 100000 in
set_option maxHeartbeats 2000000 in
theorem rcompose_calls (B y a b : Nat) (v : Int) (r : RSt) (rv ov : Value) (w : World) (hr : RefAt B w y r rv ov) (hg : r.given + 1 < 4294967296) :
    Calls Tryz.prog 51 #[.pointer (some ⟨y, 0, none⟩), .int .u32 a, .int .i64 v, .int .u32 b] w fun e w' => e = .returned (.tuple #[.int .u32 ((r.compose a v b).2.1 : Nat), .int .i64 ((r.compose a v b).2.2 : Nat)]) ∧ RStep B w w' y rv ov (r.compose a v b).1 := by
  have HR : Hid (RefAt B w y r rv ov) := hr
  by_cases hv : 0 ≤ v ∧ v < r.n
  · have HV : Hid (0 ≤ v ∧ v < r.n) := hv
    by_cases hab : ∃ x z, r.get a = some x ∧ r.get b = some z
    · obtain ⟨f, g, ha, hb⟩ := hab
      obtain ⟨i, rfl⟩ : ∃ k : Nat, v = k := ⟨v.toNat, by omega⟩
      have hi : i < r.n := by omega
      have E0 : Hid (r.compose a i b = r.made (Cho.putT f i g)) := by show r.compose a i b = _; unfold RSt.compose; rw [if_pos hv, ha, hb]; rfl
      have HA : Hid (r.get a = some f) := ha
      have HB : Hid (r.get b = some g) := hb
      have tf := get_tab hr.ok ha
      have tg := get_tab hr.ok hb
      have hn := hr.ok.n6
      have h64 := Cho.two_pow_le r.n hn
      have HF : Hid (Cho.bld (fun p => f.testBit (Cho.put p i (g.testBit p))) (2 ^ r.n) = Cho.putT f i g) := Cho.bld_put tf tg hn hi
      have HT : Hid (Tab r.n (Cho.putT f i g)) := Cho.putT_tab i g tf hn hi
      have HK : Hid (∀ h ∈ [a, b], h ∈ r.hs) := by
        intro h hh
        simp only [List.mem_cons, List.not_mem_nil, or_false] at hh
        rcases hh with rfl | rfl
        · exact get_mem ha
        · exact get_mem hb
      clear hr ha hb tf tg hv
      generalize hjf : Cho.putT f i g = J at *
      clear hjf
      generalize hf : (fun p => f.testBit (Cho.put p i (g.testBit p))) = fn at *
      have Hf : Hid (∀ p, f.testBit (Cho.put p i (g.testBit p)) = fn p) := by intro p; rw [← hf]
      clear hf
      go_enter Tryz.func51, Tryz.ntmps51
      go_wp2_with fail
      refine (rvariable_yes y r.n i _ HR.out.c0 HV.out).mono ?_
      rintro e w0 ⟨rfl, rfl⟩
      go_wp2_with fail
      refine (rknows_yes B y r _ _ _ [a, b] _ (HR.out.alloc _) (rowH_two _ a b) (by simp) HK.out).mono ?_
      rintro e w1 ⟨rfl, rfl⟩
      have B1 : Hid (Below w0.heap.size w0 (w0.alloc (.cells #[.int .u32 (a : Nat), .int .u32 (b : Nat)] 57))) := below_alloc _ _
      generalize w0.alloc (.cells #[.int .u32 (a : Nat), .int .u32 (b : Nat)] 57) = w1 at *
      have HR1 : Hid (RefAt B w1 y r rv ov) := HR.out.below B1.out
      go_wp2_with fail
      refine (rof_get B y a f r _ _ _ HR1.out HA.out).mono ?_
      rintro e w2 ⟨rfl, q, rfl⟩
      go_wp2_with fail
      refine (rof_get B y b g r _ _ _ (HR1.out.drewN q) HB.out).mono ?_
      rintro e w3 ⟨rfl, q', rfl⟩
      have B3 : Hid (Below w0.heap.size w0 ((w1.drewN q).drewN q')) := below_trans (below_trans B1.out (below_dr _ _)) (below_dr _ _)
      generalize (w1.drewN q).drewN q' = w3 at *
      have HR3 : Hid (RefAt B w3 y r rv ov) := HR.out.below B3.out
      go_wp2_with fail
      go_loopw [13, 14] (fun u i wr => ∃ m : Nat, m ≤ 2 ^ r.n ∧ i = .int .i64 m ∧ u = .int .u64 (Cho.bld fn m : Nat) ∧ wr = w3) (fun _ i _ => 2 ^ r.n - (intOf i).toNat)
      case atStart => exact ⟨0, Nat.zero_le _, rfl, rfl, rfl⟩
      case round =>
        obtain ⟨m, hm, rfl, rfl, rfl⟩ := hrel
        have HC : Hid (Calls Tryz.prog 72 #[.pointer (some ⟨y, 0, none⟩)] wr fun e w' => e = .returned (.int .i64 ((2 ^ r.n : Nat) : Nat)) ∧ w' = wr) := rplaces_calls y r.n wr HR3.out.c0 hn
        have HP : Hid (∀ z, m < 2 ^ r.n → Cho.put m i z < 2 ^ r.n) := fun z => Cho.put_lt m i r.n z hi
        generalize 2 ^ r.n = N at *
        go_wp2_with fail
        refine HC.out.mono ?_
        rintro e w4 ⟨rfl, rfl⟩
        by_cases hlt : m < N
        · have E : Hid (Cho.bld fn (m + 1) = if fn m then Cho.bld fn m ||| 2 ^ m else Cho.bld fn m) := rfl
          have hu := Cho.bld_u64 fn m (by omega)
          generalize Cho.bld fn m = u at *
          have HFM : Hid (f.testBit (Cho.put m i (g.testBit m)) = fn m) := Hf.out m
          go_wp2_with fail
          refine (rat_calls g m _ (by omega)).mono ?_
          rintro e w5 ⟨rfl, rfl⟩
          generalize g.testBit m = gm at *
          go_wp2_with fail
          refine (rwith_calls m i gm _ (by omega) (by omega)).mono ?_
          rintro e w6 ⟨rfl, rfl⟩
          have hq := HP.out gm hlt
          generalize Cho.put m i gm = z at *
          go_wp2_with fail
          refine (rat_calls f z _ (by omega)).mono ?_
          rintro e w7 ⟨rfl, rfl⟩
          rw [HFM.out]
          cases hfk : fn m
          · go_wp2_with fail
            refine ⟨⟨m + 1, hlt, by go_num, val_int ?_, trivial⟩, by simp [intOf]; omega⟩
            rw [E.out, hfk]; rfl
          · go_wp2_with fail
            refine ⟨⟨m + 1, hlt, by go_num, val_int ?_, trivial⟩, by simp [intOf]; omega⟩
            rw [E.out, hfk]
            exact setbit64 hu m (by omega)
        · have HM : Hid (Cho.bld fn m = J) := by show Cho.bld fn m = J; rw [← HF.out, show m = N from by omega]
          generalize Cho.bld fn m = u at *
          obtain rfl := HM.out
          go_wp2_with fail
          refine (rmade_calls B y _ r _ _ _ HR3.out HT.out hg).mono ?_
          rintro e w5 ⟨rfl, h1⟩
          have H1 : Hid _ := h1
          clear h1
          go_wp2_with fail
          go_ret2
          rw [E0.out]
          exact ⟨rfl, H1.out.before B3.out⟩
    · have e : r.compose a v b = (r, 0, 2) := by
        unfold RSt.compose; rw [if_pos hv]
        split
        · rename_i x z h1 h2; exact absurd ⟨x, z, h1, h2⟩ hab
        · rfl
      have E : Hid (r.compose a v b = (r, 0, 2)) := e
      obtain ⟨m, hm, hno⟩ := two_known hab
      have HNO : Hid ([a, b][m] ∉ r.hs) := hno
      clear hr e hno hab hv
      go_enter Tryz.func51, Tryz.ntmps51
      go_wp2_with fail
      refine (rvariable_yes y r.n v _ HR.out.c0 HV.out).mono ?_
      rintro e w0 ⟨rfl, rfl⟩
      go_wp2_with fail
      refine (rknows_no B y m r _ _ _ [a, b] _ (HR.out.alloc _) (rowH_two _ a b) (by simp) hm HNO.out).mono ?_
      rintro e w1 ⟨rfl, rfl⟩
      have B1 : Hid (Below w0.heap.size w0 (w0.alloc (.cells #[.int .u32 (a : Nat), .int .u32 (b : Nat)] 57))) := below_alloc _ _
      generalize w0.alloc (.cells #[.int .u32 (a : Nat), .int .u32 (b : Nat)] 57) = w1 at *
      go_wp2_with fail
      go_ret2
      rw [E.out]
      exact ⟨rfl, .same HR.out B1.out⟩
  · have E : Hid (r.compose a v b = (r, 0, 1)) := if_neg hv
    have HV : Hid (¬ (0 ≤ v ∧ v < r.n)) := hv
    clear hr hv
    go_enter Tryz.func51, Tryz.ntmps51
    go_wp2_with fail
    refine (rvariable_no y r.n v _ HR.out.c0 HV.out).mono ?_
    rintro e w1 ⟨rfl, rfl⟩
    go_wp2_with fail
    go_ret2
    rw [E.out]
    exact ⟨rfl, .same HR.out (Below.refl _ _)⟩
end Go.Proofs.YthoodkbdpnffdabGreatDoor
