/-
  Own work: the document's answer: Quantify (walks).
-/
import Derived.Test.YthejboamnjcdfaaGreatDoorRefIK
import Derived.Test.YthejboamnjcdfaaGreatDoorPlainAll
namespace Go.Proofs.YthejboamnjcdfaaGreatDoor
open Go.RowKit
open Cho (U64 Tab full col)

set_option maxRecDepth 100000 in
set_option maxHeartbeats 1000000 in
theorem rdiffer_calls (s n p q x : Nat) (w : World) (h0 : w.cell? ⟨s, 0, none⟩ = some (.int .i64 n)) (hn : n ≤ 6) :
    Calls Tryz.prog 99 #[.pointer (some ⟨s, 0, none⟩), .int .i64 p, .int .i64 q, .int .i64 x] w fun e w' => e = .returned (.bool (decide (Cho.Near n x p q))) ∧ w' = w := by
  go_enter Tryz.func99, Tryz.ntmps99
  go_wp2_with fail
  go_loopw [9] (fun i wr => ∃ k : Nat, k ≤ n ∧ i = .int .i64 k ∧ wr = w ∧ Hid (∀ i, i < k → p.testBit i ≠ q.testBit i → x.testBit i = true)) (fun i _ => n - (intOf i).toNat)
  case atStart => exact ⟨0, Nat.zero_le _, rfl, rfl, fun i hi => absurd hi (Nat.not_lt_zero _)⟩
  case round =>
    obtain ⟨k, hk, rfl, rfl, HN⟩ := hrel
    by_cases hlt : k < n
    · go_wp2_with fail
      refine (rbit_calls p k _ (by omega)).mono ?_
      rintro e w1 ⟨rfl, rfl⟩
      go_wp2_with fail
      refine (rbit_calls q k _ (by omega)).mono ?_
      rintro e w2 ⟨rfl, rfl⟩
      cases hp : p.testBit k
      · cases hq : q.testBit k
        · have HS : Hid (∀ i, i < k + 1 → p.testBit i ≠ q.testBit i → x.testBit i = true) := by
            intro i hi hne
            by_cases e : i = k
            · subst e; exact absurd (hp.trans hq.symm) hne
            · exact HN.out i (by omega) hne
          go_wp2_with fail
          exact ⟨⟨k + 1, hlt, by go_num, trivial, HS⟩, by simp [intOf]; omega⟩
        · have hpq : p.testBit k ≠ q.testBit k := by rw [hp, hq]; decide
          cases hx : x.testBit k
          · have HF : Hid (decide (Cho.Near n x p q) = false) := by
              apply decide_eq_false
              intro h
              have := h k hlt hpq
              rw [hx] at this; cases this
            have HX : Hid (Calls Tryz.prog 74 #[.int .i64 x, .int .i64 k] w2 fun e w' => e = .returned (.bool false) ∧ w' = w2) := by have := rbit_calls x k w2 (by omega); rw [hx] at this; exact this
            clear hpq
            go_wp2_with fail
            refine HX.out.mono ?_
            rintro e w3 ⟨rfl, rfl⟩
            go_wp2_with fail
            go_ret
            rw [HF.out]
            exact ⟨rfl, rfl⟩
          · have HS : Hid (∀ i, i < k + 1 → p.testBit i ≠ q.testBit i → x.testBit i = true) := by
              intro i hi hne
              by_cases e : i = k
              · subst e; exact hx
              · exact HN.out i (by omega) hne
            have HX : Hid (Calls Tryz.prog 74 #[.int .i64 x, .int .i64 k] w2 fun e w' => e = .returned (.bool true) ∧ w' = w2) := by have := rbit_calls x k w2 (by omega); rw [hx] at this; exact this
            clear hpq
            go_wp2_with fail
            refine HX.out.mono ?_
            rintro e w3 ⟨rfl, rfl⟩
            go_wp2_with fail
            exact ⟨⟨k + 1, hlt, by go_num, trivial, HS⟩, by simp [intOf]; omega⟩
      · cases hq : q.testBit k
        · have hpq : p.testBit k ≠ q.testBit k := by rw [hp, hq]; decide
          cases hx : x.testBit k
          · have HF : Hid (decide (Cho.Near n x p q) = false) := by
              apply decide_eq_false
              intro h
              have := h k hlt hpq
              rw [hx] at this; cases this
            have HX : Hid (Calls Tryz.prog 74 #[.int .i64 x, .int .i64 k] w2 fun e w' => e = .returned (.bool false) ∧ w' = w2) := by have := rbit_calls x k w2 (by omega); rw [hx] at this; exact this
            clear hpq
            go_wp2_with fail
            refine HX.out.mono ?_
            rintro e w3 ⟨rfl, rfl⟩
            go_wp2_with fail
            go_ret
            rw [HF.out]
            exact ⟨rfl, rfl⟩
          · have HS : Hid (∀ i, i < k + 1 → p.testBit i ≠ q.testBit i → x.testBit i = true) := by
              intro i hi hne
              by_cases e : i = k
              · subst e; exact hx
              · exact HN.out i (by omega) hne
            have HX : Hid (Calls Tryz.prog 74 #[.int .i64 x, .int .i64 k] w2 fun e w' => e = .returned (.bool true) ∧ w' = w2) := by have := rbit_calls x k w2 (by omega); rw [hx] at this; exact this
            clear hpq
            go_wp2_with fail
            refine HX.out.mono ?_
            rintro e w3 ⟨rfl, rfl⟩
            go_wp2_with fail
            exact ⟨⟨k + 1, hlt, by go_num, trivial, HS⟩, by simp [intOf]; omega⟩
        · have HS : Hid (∀ i, i < k + 1 → p.testBit i ≠ q.testBit i → x.testBit i = true) := by
            intro i hi hne
            by_cases e : i = k
            · subst e; exact absurd (hp.trans hq.symm) hne
            · exact HN.out i (by omega) hne
          go_wp2_with fail
          exact ⟨⟨k + 1, hlt, by go_num, trivial, HS⟩, by simp [intOf]; omega⟩
    · have HT : Hid (decide (Cho.Near n x p q) = true) := by
        apply decide_eq_true
        intro i hi hne
        exact HN.out i (by omega) hne
      go_wp2_with fail
      go_ret
      rw [HT.out]
      exact ⟨rfl, rfl⟩

def RSt.quantify (r : RSt) (a x : Nat) (all : Bool) : RSt × Nat × Nat :=
  if x < 2 ^ r.n then
    match r.get a with
    | some f => r.made (Cho.quantT f x all)
    | none => (r, 0, 2)
  else (r, 0, 1)

set_option maxRecDepth 100000 in
set_option maxHeartbeats 2000000 in
theorem rquantify_ok (B y a f x : Nat) (all : Bool) (r : RSt) (rv ov : Value) (w : World) (hr : RefAt B w y r rv ov) (hg : r.given + 1 < 4294967296) (ha : r.get a = some f) (hx : x < 2 ^ r.n) :
    Calls Tryz.prog 54 #[.pointer (some ⟨y, 0, none⟩), .int .u32 a, .int .u8 x, .bool all] w fun e w' => e = .returned (.tuple #[.int .u32 ((r.made (Cho.quantT f x all)).2.1 : Nat), .int .i64 ((r.made (Cho.quantT f x all)).2.2 : Nat)]) ∧ RStep B w w' y rv ov (r.made (Cho.quantT f x all)).1 := by
  have HR : Hid (RefAt B w y r rv ov) := hr
  have HA : Hid (r.get a = some f) := ha
  have tf := get_tab hr.ok ha
  have hn := hr.ok.n6
  have h64 := Cho.two_pow_le r.n hn
  have HF : Hid (Cho.bld (fun p => (all && Cho.everyTo r.n f x p (2 ^ r.n)) || (!all && Cho.anyTo r.n f x p (2 ^ r.n))) (2 ^ r.n) = Cho.quantT f x all) := Cho.bld_quant all tf hn hx
  have HT : Hid (Tab r.n (Cho.quantT f x all)) := Cho.quantT_tab all tf hn hx
  have HPL : Hid (Calls Tryz.prog 73 #[.pointer (some ⟨y, 0, none⟩)] w fun e w' => e = .returned (.int .i64 ((2 ^ r.n : Nat) : Nat)) ∧ w' = w) := rplaces_calls y r.n w HR.out.c0 hn
  have HPW : Hid (∀ w1, RefAt B w1 y r rv ov → Calls Tryz.prog 73 #[.pointer (some ⟨y, 0, none⟩)] w1 fun e w' => e = .returned (.int .i64 ((2 ^ r.n : Nat) : Nat)) ∧ w' = w1) := fun w1 h1 => rplaces_calls y r.n w1 h1.c0 hn
  generalize 2 ^ r.n = N at *
  clear hr ha tf
  generalize hjf : Cho.quantT f x all = J at *
  clear hjf
  generalize hf : (fun p => (all && Cho.everyTo r.n f x p N) || (!all && Cho.anyTo r.n f x p N)) = fn at *
  have Hf : Hid (∀ p, ((all && Cho.everyTo r.n f x p N) || (!all && Cho.anyTo r.n f x p N)) = fn p) := by intro p; rw [← hf]
  clear hf
  go_enter Tryz.func54, Tryz.ntmps54
  go_wp2_with fail
  refine HPL.out.mono ?_
  rintro e w0 ⟨rfl, rfl⟩
  go_wp2_with fail
  refine (rfind_some B y a f r _ _ _ HR.out HA.out).mono ?_
  rintro e w1 ⟨⟨j, hj, rfl⟩, rfl⟩
  go_wp2_with fail
  refine (rof_get B y a f r _ _ _ HR.out HA.out).mono ?_
  rintro e w2 ⟨rfl, q, rfl⟩
  have B3 : Hid (Below w1.heap.size w1 (w1.drewN q)) := below_dr _ _
  generalize w1.drewN q = w3 at *
  have HR3 : Hid (RefAt B w3 y r rv ov) := HR.out.below B3.out
  clear HPL
  go_wp2_with fail
  go_loopw [11, 12] (fun u i wr => ∃ m : Nat, m ≤ N ∧ i = .int .i64 m ∧ u = .int .u64 (Cho.bld fn m : Nat) ∧ wr = w3) (fun _ i _ => N - (intOf i).toNat)
  case atStart => exact ⟨0, Nat.zero_le _, rfl, rfl, rfl⟩
  case round =>
    obtain ⟨m, hm, rfl, rfl, rfl⟩ := hrel
    have HC : Hid (Calls Tryz.prog 73 #[.pointer (some ⟨y, 0, none⟩)] wr fun e w' => e = .returned (.int .i64 (N : Nat)) ∧ w' = wr) := HPW.out _ HR3.out
    go_wp2_with fail
    refine HC.out.mono ?_
    rintro e w4 ⟨rfl, rfl⟩
    by_cases hlt : m < N
    · have E : Hid (Cho.bld fn (m + 1) = if fn m then Cho.bld fn m ||| 2 ^ m else Cho.bld fn m) := rfl
      have hu := Cho.bld_u64 fn m (by omega)
      generalize Cho.bld fn m = u at *
      have HFM : Hid (((all && Cho.everyTo r.n f x m N) || (!all && Cho.anyTo r.n f x m N)) = fn m) := Hf.out m
      go_wp2_with fail
      go_loopw [13, 14, 15] (fun e s i wq => ∃ k : Nat, k ≤ N ∧ i = .int .i64 k ∧ e = .bool (Cho.everyTo r.n f x m k) ∧ s = .bool (Cho.anyTo r.n f x m k) ∧ wq = w4) (fun _ _ i _ => N - (intOf i).toNat)
      case atStart => exact ⟨0, Nat.zero_le _, rfl, rfl, rfl, rfl⟩
      case round =>
        obtain ⟨k, hk, rfl, rfl, rfl, rfl⟩ := hrel
        go_wp2_with fail
        refine HC.out.mono ?_
        rintro e w5 ⟨rfl, rfl⟩
        by_cases hkl : k < N
        · have HE1 : Hid (Cho.everyTo r.n f x m (k + 1) = if Cho.Near r.n x m k then Cho.everyTo r.n f x m k && f.testBit k else Cho.everyTo r.n f x m k) := rfl
          have HE2 : Hid (Cho.anyTo r.n f x m (k + 1) = if Cho.Near r.n x m k then Cho.anyTo r.n f x m k || f.testBit k else Cho.anyTo r.n f x m k) := rfl
          generalize Cho.everyTo r.n f x m k = ev at *
          generalize Cho.anyTo r.n f x m k = sm at *
          go_wp2_with fail
          refine (rdiffer_calls y r.n m k x _ HR3.out.c0 hn).mono ?_
          rintro e w6 ⟨rfl, rfl⟩
          by_cases hnear : Cho.Near r.n x m k
          · rw [decide_eq_true hnear]
            cases ev
            · cases sm
              · generalize hfk : f.testBit k = fk at *
                have HFK : Hid (Calls Tryz.prog 78 #[.int .u64 f, .int .i64 k] w6 fun e w' => e = .returned (.bool fk) ∧ w' = w6) := by have := rat_calls f k w6 (by omega); rw [hfk] at this; exact this
                go_wp2_with fail
                refine HFK.out.mono ?_
                rintro e w8 ⟨rfl, rfl⟩
                go_wp2_with fail
                refine ⟨⟨k + 1, hkl, by go_num, val_bool ?_, val_bool ?_, trivial⟩, by simp [intOf]; omega⟩
                · rw [HE1.out, if_pos hnear]; first | rfl | simp
                · rw [HE2.out, if_pos hnear]; first | rfl | simp
              · generalize hfk : f.testBit k = fk at *
                go_wp2_with fail
                refine ⟨⟨k + 1, hkl, by go_num, val_bool ?_, val_bool ?_, trivial⟩, by simp [intOf]; omega⟩
                · rw [HE1.out, if_pos hnear]; first | rfl | simp
                · rw [HE2.out, if_pos hnear]; first | rfl | simp
            · cases sm
              · go_wp2_with fail
                refine (rat_calls f k _ (by omega)).mono ?_
                rintro e w7 ⟨rfl, rfl⟩
                generalize hfk : f.testBit k = fk at *
                have HFK : Hid (Calls Tryz.prog 78 #[.int .u64 f, .int .i64 k] w7 fun e w' => e = .returned (.bool fk) ∧ w' = w7) := by have := rat_calls f k w7 (by omega); rw [hfk] at this; exact this
                go_wp2_with fail
                refine HFK.out.mono ?_
                rintro e w8 ⟨rfl, rfl⟩
                go_wp2_with fail
                refine ⟨⟨k + 1, hkl, by go_num, val_bool ?_, val_bool ?_, trivial⟩, by simp [intOf]; omega⟩
                · rw [HE1.out, if_pos hnear]; first | rfl | simp
                · rw [HE2.out, if_pos hnear]; first | rfl | simp
              · go_wp2_with fail
                refine (rat_calls f k _ (by omega)).mono ?_
                rintro e w7 ⟨rfl, rfl⟩
                generalize hfk : f.testBit k = fk at *
                go_wp2_with fail
                refine ⟨⟨k + 1, hkl, by go_num, val_bool ?_, val_bool ?_, trivial⟩, by simp [intOf]; omega⟩
                · rw [HE1.out, if_pos hnear]; first | rfl | simp
                · rw [HE2.out, if_pos hnear]; first | rfl | simp
          · rw [decide_eq_false hnear]
            go_wp2_with fail
            refine ⟨⟨k + 1, hkl, by go_num, val_bool ?_, val_bool ?_, trivial⟩, by simp [intOf]; omega⟩
            · rw [HE1.out, if_neg hnear]
            · rw [HE2.out, if_neg hnear]
        · have HK : Hid (k = N) := by show k = N; omega
          rw [HK.out]
          generalize Cho.everyTo r.n f x m N = ev at *
          generalize Cho.anyTo r.n f x m N = sm at *
          cases all
          · cases ev
            · cases sm
              · have hfk : fn m = false := by rw [← HFM.out]; rfl
                go_wp2_with fail
                refine ⟨⟨m + 1, hlt, by go_num, val_int ?_, trivial⟩, by simp [intOf]; omega⟩
                rw [E.out, hfk]
                rfl
              · have hfk : fn m = true := by rw [← HFM.out]; rfl
                go_wp2_with fail
                refine ⟨⟨m + 1, hlt, by go_num, val_int ?_, trivial⟩, by simp [intOf]; omega⟩
                rw [E.out, hfk]
                exact setbit64 hu m (by omega)
            · cases sm
              · have hfk : fn m = false := by rw [← HFM.out]; rfl
                go_wp2_with fail
                refine ⟨⟨m + 1, hlt, by go_num, val_int ?_, trivial⟩, by simp [intOf]; omega⟩
                rw [E.out, hfk]
                rfl
              · have hfk : fn m = true := by rw [← HFM.out]; rfl
                go_wp2_with fail
                refine ⟨⟨m + 1, hlt, by go_num, val_int ?_, trivial⟩, by simp [intOf]; omega⟩
                rw [E.out, hfk]
                exact setbit64 hu m (by omega)
          · cases ev
            · cases sm
              · have hfk : fn m = false := by rw [← HFM.out]; rfl
                go_wp2_with fail
                refine ⟨⟨m + 1, hlt, by go_num, val_int ?_, trivial⟩, by simp [intOf]; omega⟩
                rw [E.out, hfk]
                rfl
              · have hfk : fn m = false := by rw [← HFM.out]; rfl
                go_wp2_with fail
                refine ⟨⟨m + 1, hlt, by go_num, val_int ?_, trivial⟩, by simp [intOf]; omega⟩
                rw [E.out, hfk]
                rfl
            · cases sm
              · have hfk : fn m = true := by rw [← HFM.out]; rfl
                go_wp2_with fail
                refine ⟨⟨m + 1, hlt, by go_num, val_int ?_, trivial⟩, by simp [intOf]; omega⟩
                rw [E.out, hfk]
                exact setbit64 hu m (by omega)
              · have hfk : fn m = true := by rw [← HFM.out]; rfl
                go_wp2_with fail
                refine ⟨⟨m + 1, hlt, by go_num, val_int ?_, trivial⟩, by simp [intOf]; omega⟩
                rw [E.out, hfk]
                exact setbit64 hu m (by omega)
    · have HM : Hid (Cho.bld fn m = J) := by show Cho.bld fn m = J; rw [← HF.out, show m = N from by omega]
      generalize Cho.bld fn m = u at *
      obtain rfl := HM.out
      go_wp2_with fail
      refine (rmade_calls B y _ r _ _ _ HR3.out HT.out hg).mono ?_
      rintro e w5 ⟨rfl, h1⟩
      have H1 : Hid _ := h1
      clear h1
      go_wp2_with fail
      go_ret2
      exact ⟨rfl, H1.out.before B3.out⟩

set_option maxRecDepth 100000 in
set_option maxHeartbeats 1000000 in
theorem rquantify_calls (B y a x : Nat) (all : Bool) (r : RSt) (rv ov : Value) (w : World) (hr : RefAt B w y r rv ov) (hg : r.given + 1 < 4294967296) (hx8 : x < 256) :
    Calls Tryz.prog 54 #[.pointer (some ⟨y, 0, none⟩), .int .u32 a, .int .u8 x, .bool all] w fun e w' => e = .returned (.tuple #[.int .u32 ((r.quantify a x all).2.1 : Nat), .int .i64 ((r.quantify a x all).2.2 : Nat)]) ∧ RStep B w w' y rv ov (r.quantify a x all).1 := by
  by_cases hx : x < 2 ^ r.n
  · cases ha : r.get a with
    | some f =>
      have e : r.quantify a x all = r.made (Cho.quantT f x all) := by unfold RSt.quantify; rw [if_pos hx, ha]
      rw [e]
      exact rquantify_ok B y a f x all r rv ov w hr hg ha hx
    | none =>
      have E : Hid (r.quantify a x all = (r, 0, 2)) := by show r.quantify a x all = _; unfold RSt.quantify; rw [if_pos hx, ha]
      have HR : Hid (RefAt B w y r rv ov) := hr
      have HN : Hid (a ∉ r.hs) := get_none ha
      have hn := hr.ok.n6
      have h64 := Cho.two_pow_le r.n hn
      have HPL : Hid (Calls Tryz.prog 73 #[.pointer (some ⟨y, 0, none⟩)] w fun e w' => e = .returned (.int .i64 ((2 ^ r.n : Nat) : Nat)) ∧ w' = w) := rplaces_calls y r.n w hr.c0 hn
      clear hr ha
      generalize 2 ^ r.n = N at *
      go_enter Tryz.func54, Tryz.ntmps54
      go_wp2_with fail
      refine HPL.out.mono ?_
      rintro e w0 ⟨rfl, rfl⟩
      go_wp2_with fail
      refine (rfind_no B y a r _ _ _ HR.out HN.out).mono ?_
      rintro e w1 ⟨rfl, rfl⟩
      go_wp2_with fail
      go_ret2
      rw [E.out]
      exact ⟨rfl, .same HR.out (Below.refl _ _)⟩
  · have E : Hid (r.quantify a x all = (r, 0, 1)) := if_neg hx
    have HR : Hid (RefAt B w y r rv ov) := hr
    have hn := hr.ok.n6
    have h64 := Cho.two_pow_le r.n hn
    have HPL : Hid (Calls Tryz.prog 73 #[.pointer (some ⟨y, 0, none⟩)] w fun e w' => e = .returned (.int .i64 ((2 ^ r.n : Nat) : Nat)) ∧ w' = w) := rplaces_calls y r.n w hr.c0 hn
    clear hr
    generalize 2 ^ r.n = N at *
    go_enter Tryz.func54, Tryz.ntmps54
    go_wp2_with fail
    refine HPL.out.mono ?_
    rintro e w0 ⟨rfl, rfl⟩
    go_wp2_with fail
    go_ret2
    rw [E.out]
    exact ⟨rfl, .same HR.out (Below.refl _ _)⟩
end Go.Proofs.YthejboamnjcdfaaGreatDoor
