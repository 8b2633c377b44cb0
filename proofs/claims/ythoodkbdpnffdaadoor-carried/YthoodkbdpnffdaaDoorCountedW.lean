/-
  Own work: 'Counted' answers true, whatever its arguments (a walk over the contracts of the calls).
-/
import Derived.Test.YthoodkbdpnffdaaDoorFnS
namespace Go.Proofs.YthoodkbdpnffdaaDoor
open Go.RowKit
open Cho (U64 Tab full col Nd Red)

/-- The first place of the first k at which a table says yes, -1 if there is none. -/
def firstTo (t k : Nat) : Int := if Cho.least t k < k then (Cho.least t k : Int) else -1

theorem cnt_tab {n t : Nat} (hn : n ≤ 6) (ht : Tab n t) : Cho.cnt t 64 = Cho.cnt t (2 ^ n) := by
  have h := Cho.two_pow_le n hn
  have := Cho.cnt_high t (2 ^ n) (64 - 2 ^ n) (fun p hp => ht.hi p hp)
  rw [← this, show 2 ^ n + (64 - 2 ^ n) = 64 from by omega]
theorem cnt_not {n t : Nat} (hn : n ≤ 6) (ht : Tab n t) : ∀ k, k ≤ 2 ^ n → Cho.cnt (Cho.joinT 3 t t (full n)) k + Cho.cnt t k = k := by
  intro k
  induction k with
  | zero => intro _; rfl
  | succ k ih =>
    intro hk
    have := ih (by omega)
    have hb := Cho.joinT_testBit 3 t t n k (ht.u64 hn) (ht.u64 hn) hn (by omega)
    have hp : Cho.pick16 3 (t.testBit k) (t.testBit k) = !t.testBit k := by cases t.testBit k <;> decide
    simp only [Cho.cnt]
    rw [hb, hp]
    cases t.testBit k <;> simp <;> omega
theorem count_rest {n t : Nat} (hn : n ≤ 6) (ht : Tab n t) : Cho.cnt (Cho.joinT 3 t t (full n)) 64 = 2 ^ n - Cho.cnt t (2 ^ n) := by
  rw [cnt_tab hn (Cho.joinT_tab 3 t t n ht ht)]
  have := cnt_not hn ht (2 ^ n) (Nat.le_refl _)
  omega

theorem first_no {t p : Nat} (hb : t.testBit p = false) : firstTo t (p + 1) = firstTo t p := by
  obtain ⟨h1, _, _⟩ := Cho.least_spec t p
  unfold firstTo
  simp only [Cho.least, hb]
  by_cases h : Cho.least t p < p
  · simp [h]; omega
  · simp [h]
theorem first_new {t p : Nat} (hb : t.testBit p = true) (hf : firstTo t p < 0) : firstTo t (p + 1) = p := by
  have h : ¬ Cho.least t p < p := by intro h; simp [firstTo, h] at hf; omega
  simp [firstTo, Cho.least, hb, h]
theorem first_old {t p : Nat} (hf : ¬ firstTo t p < 0) : firstTo t (p + 1) = firstTo t p := by
  have h : Cho.least t p < p := by
    apply Classical.byContradiction
    intro h; simp [firstTo, h] at hf
  simp [firstTo, Cho.least, h]; omega
theorem first_one {n t : Nat} (ht : Tab n t) (hn : n ≤ 6) : (t = 0 → firstTo t (2 ^ n) = -1 ∧ oneE t = 5 ∧ oneP t = 0) ∧ (t ≠ 0 → firstTo t (2 ^ n) = (oneP t : Nat) ∧ oneE t = 0 ∧ oneP t < 64) := by
  have h64 := Cho.two_pow_le n hn
  constructor
  · rintro rfl
    obtain ⟨_, _, h3⟩ := Cho.least_spec 0 (2 ^ n)
    refine ⟨?_, by simp [oneE], by simp [oneP]⟩
    unfold firstTo
    rw [if_neg]
    intro h; have := h3 h; simp at this
  · intro h0
    obtain ⟨p, hp, hb⟩ := Cho.nz_bit (ht.u64 hn) h0
    have hpn : p < 2 ^ n := by
      apply Classical.byContradiction
      intro h; rw [ht.hi p (by omega)] at hb; cases hb
    obtain ⟨h1, h2, h3⟩ := Cho.least_spec t (2 ^ n)
    have hlt : Cho.least t (2 ^ n) < 2 ^ n := by
      apply Classical.byContradiction
      intro h; have := h2 p (by omega); rw [hb] at this; cases this
    have e : Cho.least t 64 = Cho.least t (2 ^ n) := Cho.least_eq (by omega) h2 (h3 hlt)
    refine ⟨?_, by simp [oneE, h0], by simp [oneP, h0, e]; omega⟩
    unfold firstTo oneP
    rw [if_pos hlt, if_neg h0, e]
theorem bit_at (t p : Nat) (ht : U64 t) : bits .and .u64 ((t : Int) / 2 ^ p) 1 = ((if t.testBit p then 1 else 0 : Nat) : Int) := by
  rw [show ((t : Int) / 2 ^ p) = ((t >>> p : Nat) : Int) from by rw [Nat.shiftRight_eq_div_pow]; simp, and1 _ (Cho.shr_u64 ht), Cho.shr_testBit0]
theorem xor_lt64 (p i : Nat) (hp : p < 64) (hi : i < 6) : p ^^^ 2 ^ i < 64 := Nat.xor_lt_two_pow (n := 6) hp (Nat.pow_lt_pow_right (by decide) hi)
theorem xor64d : ∀ p : Nat, p < 64 → ∀ i : Nat, i < 6 → bits .xor .i64 (p : Int) ((2 ^ i : Nat) : Int) = ((p ^^^ 2 ^ i : Nat) : Int) := by decide
theorem or64d : ∀ p : Nat, p < 64 → ∀ i : Nat, i < 6 → bits .or .i64 (p : Int) ((2 ^ i : Nat) : Int) = ((p ||| 2 ^ i : Nat) : Int) := by decide
theorem xor64 (p i : Nat) (hp : p < 64) (hi : i < 6) : bits .xor .i64 (p : Int) (wrap64 (2 ^ i)) = ((p ^^^ 2 ^ i : Nat) : Int) := by
  rw [wrap64_pow i (by omega)]; exact xor64d p hp i hi
theorem or64i (a i : Nat) (hp : a < 64) (hi : i < 6) : bits .or .i64 (a : Int) (wrap64 (2 ^ i)) = ((a ||| 2 ^ i : Nat) : Int) := by
  rw [wrap64_pow i (by omega)]; exact or64d a hp i hi

set_option maxRecDepth 100000 in
set_option maxHeartbeats 4000000 in
theorem counted_walk (raw : Int) (t : Nat) (w : World) (hc : Cols w) (ht : U64 t) (h1 : -9223372036854775808 ≤ raw) (h2 : raw ≤ 9223372036854775807) :
    Calls Tryd.prog 4 #[.int .i64 raw, .int .u64 t] w fun e w' => e = .returned (.bool true) ∧ Below w.heap.size w w' := by
  have HC : Hid (Cols w) := hc
  clear hc
  go_enter Tryd.func4, Tryd.ntmps4
  go_wp2_with fail
  refine (vars_calls raw _ h1 h2).mono ?_
  rintro e w1 ⟨⟨n, hn1, hn6, rfl⟩, rfl⟩
  go_wp2_with fail
  refine (fn_store n _ hn1 hn6 HC.out).mono ?_
  rintro e w3 ⟨s, rfl, f3⟩
  have F3 : Hid (Fn w1.heap.size w1 w3 s n []) := f3
  clear f3
  go_wp2_with fail
  refine (cut_calls t n _ ht hn6).mono ?_
  rintro e w4 ⟨rfl, rfl⟩
  have ut := cut_u64 t n ht
  have TT : Hid (Tab n (cutT t n)) := cut_tab t n
  generalize cutT t n = T at *
  clear ht h1 h2
  go_wp2_with fail
  refine (fn_make _ _ _ s n T [] 1 F3.out rfl (by decide) TT.out).mono ?_
  rintro e w6 ⟨rfl, f6⟩
  have F6 : Hid (Fn w1.heap.size w1 w6 s n [T]) := f6
  clear F3 f6
  go_wp2_with fail
  have hap := fn_apply _ _ _ s n 3 0 0 [T] 1 1 2 F6.out (by decide) (by simp) (by simp) rfl rfl rfl (by simp)
  rw [show (((3 : Nat)) : Int) = 3 from rfl] at hap
  refine hap.mono ?_
  rintro e w7 ⟨rfl, f7⟩
  have F7 : Hid (Fn w1.heap.size w1 w7 s n [T, Cho.joinT 3 T T (full n)]) := f7
  clear F6 f7 hap
  go_wp2_with fail
  refine (fn_count _ _ _ s n 0 _ 1 F7.out (by simp) rfl).mono ?_
  rintro e w8 ⟨rfl, f8⟩
  have F8 : Hid (Fn w1.heap.size w1 w8 s n [T, Cho.joinT 3 T T (full n)]) := f8
  clear F7 f8
  go_wp2_with fail
  refine (fn_count _ _ _ s n 1 _ 2 F8.out (by simp) rfl).mono ?_
  rintro e w9 ⟨rfl, f9⟩
  have F9 : Hid (Fn w1.heap.size w1 w9 s n [T, Cho.joinT 3 T T (full n)]) := f9
  clear F8 f9
  go_wp2_with fail
  refine (fn_one _ _ _ s n 0 _ 1 F9.out (by simp) rfl).mono ?_
  rintro e w10 ⟨rfl, f10⟩
  have F10 : Hid (Fn w1.heap.size w1 w10 s n [T, Cho.joinT 3 T T (full n)]) := f10
  clear F9 f10
  go_wp2_with fail
  refine (fn_support _ _ _ s n 0 _ 1 F10.out (by simp) rfl).mono ?_
  rintro e w11 ⟨rfl, f11⟩
  have F11 : Hid (Fn w1.heap.size w1 w11 s n [T, Cho.joinT 3 T T (full n)]) := f11
  clear F10 f11
  simp only [List.getElem_cons_zero]
  rw [count_rest hn6 TT.out, cnt_tab hn6 TT.out]
  have h64 := Cho.two_pow_le n hn6
  have HN2 : Hid (wrap64 (2 ^ n) = ((2 ^ n : Nat) : Int)) := wrap64_pow n hn6
  have hcl := Cho.cnt_le T (2 ^ n)
  have hhl := hg_lt T n (2 ^ n) hn6
  generalize hN : 2 ^ n = N at *
  have HNN : Hid (2 ^ n = N) := hN
  clear hN
  go_wp2_with fail
  rw [HN2.out]
  generalize hcN : Cho.cnt T N = CN at *
  have HCN : Hid (Cho.cnt T N = CN) := hcN
  generalize hhN : hg T n N = HGN at *
  have HHN : Hid (hg T n N = HGN) := hhN
  clear hcN hhN HN2
  go_loopw [21, 22, 23, 24] (fun x21 x22 x23 x24 wr => ∃ p : Nat, p ≤ N ∧ x24 = .int .i64 p ∧ x21 = .int .i64 (Cho.cnt T p : Nat) ∧ x22 = .int .i64 (firstTo T p) ∧ x23 = .int .i64 (hg T n p : Nat) ∧ Hid (Fn w1.heap.size w1 wr s n [T, Cho.joinT 3 T T (full n)]))
    (fun _ _ _ x24 _ => N - (intOf x24).toNat)
  case atStart => exact ⟨0, Nat.zero_le _, rfl, rfl, rfl, rfl, F11⟩
  case round =>
    obtain ⟨p, hp, rfl, rfl, rfl, rfl, FR⟩ := hrel
    clear F11
    by_cases hpN : p < N
    · have hev := fn_eval _ _ _ s n 0 p _ 1 FR.out (by simp) rfl (by rw [HNN.out]; exact hpN)
      simp only [List.getElem_cons_zero] at hev
      have HEV : Hid (Calls Tryd.prog 23 #[.pointer (some ⟨s, 0, none⟩), .int .u32 1, .int .u8 p] wr fun e w' => e = .returned (.tuple #[.bool (T.testBit p), .int .i64 0]) ∧ Fn w1.heap.size w1 w' s n [T, Cho.joinT 3 T T (full n)]) := hev
      clear hev
      have hcp := Cho.cnt_le T p
      go_wp2_with fail
      refine HEV.out.mono ?_
      rintro e w12 ⟨rfl, f12⟩
      have F12 : Hid (Fn w1.heap.size w1 w12 s n [T, Cho.joinT 3 T T (full n)]) := f12
      clear f12 HEV FR
      have hgp := hg_lt T n p hn6
      have hbp := bit_at T p ut
      cases hb : T.testBit p
      · rw [hb] at hbp
        have hbp0 : bits .and .u64 ((T : Int) / 2 ^ p) 1 = 0 := hbp
        have E21 : Hid (Cho.cnt T (p + 1) = Cho.cnt T p) := by show Cho.cnt T (p + 1) = Cho.cnt T p; simp [Cho.cnt, hb]
        have E22 : Hid (firstTo T (p + 1) = firstTo T p) := first_no hb
        have HBP : Hid (T.testBit p = false) := hb
        clear hbp hb
        go_wp2_with fail
        go_loopw [23, 27] (fun x23 x27 wi => ∃ i : Nat, i ≤ n ∧ x27 = .int .i64 i ∧ x23 = .int .i64 (inn T p (hg T n p) i : Nat) ∧ Hid (Fn w1.heap.size w1 wi s n [T, Cho.joinT 3 T T (full n)])) (fun _ x27 _ => n - (intOf x27).toNat)
        case atStart => exact ⟨0, Nat.zero_le _, rfl, rfl, F12⟩
        case round =>
          obtain ⟨i, hi, rfl, rfl, FI⟩ := hrel
          clear F12
          by_cases hin : i < n
          · have hacc := inn_lt T p (hg T n p) i hgp (by omega)
            have HI : Hid (inn T p (hg T n p) (i + 1) = if T.testBit p ≠ T.testBit (p ^^^ 2 ^ i) then inn T p (hg T n p) i ||| 2 ^ i else inn T p (hg T n p) i) := rfl
            have hx := xor64 p i (by omega) (by omega)
            have hor := or64i (inn T p (hg T n p) i) i hacc (by omega)
            have hq : p ^^^ 2 ^ i < 64 := xor_lt64 p i (by omega) (by omega)
            have hbq := bit_at T (p ^^^ 2 ^ i) ut
            generalize inn T p (hg T n p) i = ACC at *
            generalize p ^^^ 2 ^ i = q at *
            cases hqv : T.testBit q <;> rw [hqv] at hbq
            · have hbq0 : bits .and .u64 ((T : Int) / 2 ^ q) 1 = 0 := hbq
              have HI2 : Hid (inn T p (hg T n p) (i + 1) = ACC) := HI.out.trans (by rw [HBP.out, hqv]; rfl)
              clear hbq hqv
              go_wp2_with fail
              go_quiet (fail)
              go_wp2_with fail
              exact ⟨⟨i + 1, by omega, by go_num, by rw [HI2.out], FI.out.below (below_drewN (Below.refl _ _) _)⟩, by simp [intOf]; omega⟩
            · have hbq1 : bits .and .u64 ((T : Int) / 2 ^ q) 1 = 1 := hbq
              have HI2 : Hid (inn T p (hg T n p) (i + 1) = ACC ||| 2 ^ i) := HI.out.trans (by rw [HBP.out, hqv]; rfl)
              clear hbq hqv
              go_wp2_with fail
              go_quiet (fail)
              go_wp2_with fail
              exact ⟨⟨i + 1, by omega, by go_num, by rw [HI2.out], FI.out.below (below_drewN (Below.refl _ _) _)⟩, by simp [intOf]; omega⟩
          · obtain rfl : i = n := by omega
            have HG1 : Hid (hg T i (p + 1) = inn T p (hg T i p) i) := rfl
            go_wp2_with fail
            exact ⟨⟨p + 1, by omega, by go_num, by rw [E21.out], by rw [E22.out], by rw [HG1.out], FI⟩, by simp [intOf]; omega⟩
      · rw [hb] at hbp
        have hbp1 : bits .and .u64 ((T : Int) / 2 ^ p) 1 = 1 := hbp
        have E21 : Hid (Cho.cnt T (p + 1) = Cho.cnt T p + 1) := by show Cho.cnt T (p + 1) = Cho.cnt T p + 1; simp [Cho.cnt, hb]
        by_cases hf : firstTo T p < 0
        · have E22 : Hid (firstTo T (p + 1) = p) := first_new hb hf
          have HBP : Hid (T.testBit p = true) := hb
          clear hbp hb
          go_wp2_with fail
          go_loopw [23, 27] (fun x23 x27 wi => ∃ i : Nat, i ≤ n ∧ x27 = .int .i64 i ∧ x23 = .int .i64 (inn T p (hg T n p) i : Nat) ∧ Hid (Fn w1.heap.size w1 wi s n [T, Cho.joinT 3 T T (full n)])) (fun _ x27 _ => n - (intOf x27).toNat)
          case atStart => exact ⟨0, Nat.zero_le _, rfl, rfl, F12⟩
          case round =>
            obtain ⟨i, hi, rfl, rfl, FI⟩ := hrel
            clear F12
            by_cases hin : i < n
            · have hacc := inn_lt T p (hg T n p) i hgp (by omega)
              have HI : Hid (inn T p (hg T n p) (i + 1) = if T.testBit p ≠ T.testBit (p ^^^ 2 ^ i) then inn T p (hg T n p) i ||| 2 ^ i else inn T p (hg T n p) i) := rfl
              have hx := xor64 p i (by omega) (by omega)
              have hor := or64i (inn T p (hg T n p) i) i hacc (by omega)
              have hq : p ^^^ 2 ^ i < 64 := xor_lt64 p i (by omega) (by omega)
              have hbq := bit_at T (p ^^^ 2 ^ i) ut
              generalize inn T p (hg T n p) i = ACC at *
              generalize p ^^^ 2 ^ i = q at *
              cases hqv : T.testBit q <;> rw [hqv] at hbq
              · have hbq0 : bits .and .u64 ((T : Int) / 2 ^ q) 1 = 0 := hbq
                have HI2 : Hid (inn T p (hg T n p) (i + 1) = ACC ||| 2 ^ i) := HI.out.trans (by rw [HBP.out, hqv]; rfl)
                clear hbq hqv
                go_wp2_with fail
                go_quiet (fail)
                go_wp2_with fail
                exact ⟨⟨i + 1, by omega, by go_num, by rw [HI2.out], FI.out.below (below_drewN (Below.refl _ _) _)⟩, by simp [intOf]; omega⟩
              · have hbq1 : bits .and .u64 ((T : Int) / 2 ^ q) 1 = 1 := hbq
                have HI2 : Hid (inn T p (hg T n p) (i + 1) = ACC) := HI.out.trans (by rw [HBP.out, hqv]; rfl)
                clear hbq hqv
                go_wp2_with fail
                go_quiet (fail)
                go_wp2_with fail
                exact ⟨⟨i + 1, by omega, by go_num, by rw [HI2.out], FI.out.below (below_drewN (Below.refl _ _) _)⟩, by simp [intOf]; omega⟩
            · obtain rfl : i = n := by omega
              have HG1 : Hid (hg T i (p + 1) = inn T p (hg T i p) i) := rfl
              go_wp2_with fail
              exact ⟨⟨p + 1, by omega, by go_num, val_int (by rw [E21.out]; rfl), by rw [E22.out], by rw [HG1.out], FI⟩, by simp [intOf]; omega⟩
        · have E22 : Hid (firstTo T (p + 1) = firstTo T p) := first_old hf
          have HBP : Hid (T.testBit p = true) := hb
          clear hbp hb
          go_wp2_with fail
          go_loopw [23, 27] (fun x23 x27 wi => ∃ i : Nat, i ≤ n ∧ x27 = .int .i64 i ∧ x23 = .int .i64 (inn T p (hg T n p) i : Nat) ∧ Hid (Fn w1.heap.size w1 wi s n [T, Cho.joinT 3 T T (full n)])) (fun _ x27 _ => n - (intOf x27).toNat)
          case atStart => exact ⟨0, Nat.zero_le _, rfl, rfl, F12⟩
          case round =>
            obtain ⟨i, hi, rfl, rfl, FI⟩ := hrel
            clear F12
            by_cases hin : i < n
            · have hacc := inn_lt T p (hg T n p) i hgp (by omega)
              have HI : Hid (inn T p (hg T n p) (i + 1) = if T.testBit p ≠ T.testBit (p ^^^ 2 ^ i) then inn T p (hg T n p) i ||| 2 ^ i else inn T p (hg T n p) i) := rfl
              have hx := xor64 p i (by omega) (by omega)
              have hor := or64i (inn T p (hg T n p) i) i hacc (by omega)
              have hq : p ^^^ 2 ^ i < 64 := xor_lt64 p i (by omega) (by omega)
              have hbq := bit_at T (p ^^^ 2 ^ i) ut
              generalize inn T p (hg T n p) i = ACC at *
              generalize p ^^^ 2 ^ i = q at *
              cases hqv : T.testBit q <;> rw [hqv] at hbq
              · have hbq0 : bits .and .u64 ((T : Int) / 2 ^ q) 1 = 0 := hbq
                have HI2 : Hid (inn T p (hg T n p) (i + 1) = ACC ||| 2 ^ i) := HI.out.trans (by rw [HBP.out, hqv]; rfl)
                clear hbq hqv
                go_wp2_with fail
                go_quiet (fail)
                go_wp2_with fail
                exact ⟨⟨i + 1, by omega, by go_num, by rw [HI2.out], FI.out.below (below_drewN (Below.refl _ _) _)⟩, by simp [intOf]; omega⟩
              · have hbq1 : bits .and .u64 ((T : Int) / 2 ^ q) 1 = 1 := hbq
                have HI2 : Hid (inn T p (hg T n p) (i + 1) = ACC) := HI.out.trans (by rw [HBP.out, hqv]; rfl)
                clear hbq hqv
                go_wp2_with fail
                go_quiet (fail)
                go_wp2_with fail
                exact ⟨⟨i + 1, by omega, by go_num, by rw [HI2.out], FI.out.below (below_drewN (Below.refl _ _) _)⟩, by simp [intOf]; omega⟩
            · obtain rfl : i = n := by omega
              have HG1 : Hid (hg T i (p + 1) = inn T p (hg T i p) i) := rfl
              go_wp2_with fail
              exact ⟨⟨p + 1, by omega, by go_num, val_int (by rw [E21.out]; rfl), by rw [E22.out], by rw [HG1.out], FI⟩, by simp [intOf]; omega⟩
    · have epN : p = N := by omega
      have hR : ((N - CN : Nat) : Int) = (N : Int) - (CN : Int) := by omega
      have BEL : Hid (Below w1.heap.size w1 wr) := FR.out.bel
      have HF := first_one TT.out hn6
      rw [HNN.out] at HF
      rw [epN, HCN.out, HHN.out]
      by_cases h0 : T = 0
      · obtain ⟨f1, f2, f3⟩ := HF.1 h0
        rw [f1, f2, f3]
        clear HF f1 f2 f3 h0 FR HCN HHN
        generalize N - CN = R at *
        go_wp2_with fail
        go_ret
        exact ⟨by simp, BEL.out⟩
      · obtain ⟨f1, f2, f3⟩ := HF.2 h0
        rw [f1, f2]
        clear HF f1 f2 h0 FR HCN HHN
        generalize N - CN = R at *
        generalize oneP T = O at *
        go_wp2_with fail
        go_ret
        exact ⟨by simp, BEL.out⟩
end Go.Proofs.YthoodkbdpnffdaaDoor
