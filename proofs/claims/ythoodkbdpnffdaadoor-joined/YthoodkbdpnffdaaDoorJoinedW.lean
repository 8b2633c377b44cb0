/-
  Own work: 'Joined' answers true, whatever its arguments (a walk over the contracts of the calls).
-/
import Derived.Test.YthoodkbdpnffdaaDoorFnW
import Derived.Deep.DeepCutAuto
namespace Go.Proofs.YthoodkbdpnffdaaDoor
open Go.RowKit
open Cho (U64 Tab full col Nd Red)

theorem and16_1 : ∀ c : Nat, c < 16 → bits .and .i64 (c : Int) 1 = if c.testBit 0 then 1 else 0 := by decide
theorem and16_2 : ∀ c : Nat, c < 16 → bits .and .i64 (c : Int) 2 = if c.testBit 1 then 2 else 0 := by decide
theorem and16_4 : ∀ c : Nat, c < 16 → bits .and .i64 (c : Int) 4 = if c.testBit 2 then 4 else 0 := by decide
theorem and16_8 : ∀ c : Nat, c < 16 → bits .and .i64 (c : Int) 8 = if c.testBit 3 then 8 else 0 := by decide
def nt (x : Nat) : Nat := 2 ^ 64 - 1 - x
/-- What the statement wants of the two tables, bit by bit of the code. -/
def want1 (c t u : Nat) : Nat := if c.testBit 0 then 0 ||| (nt t &&& nt u) else 0
def want2 (c t u : Nat) : Nat := if c.testBit 1 then want1 c t u ||| (nt t &&& u) else want1 c t u
def want3 (c t u : Nat) : Nat := if c.testBit 2 then want2 c t u ||| (t &&& nt u) else want2 c t u
def want4 (c t u : Nat) : Nat := if c.testBit 3 then want3 c t u ||| (t &&& u) else want3 c t u
theorem nt_u64 (x : Nat) : U64 (nt x) := by show 2 ^ 64 - 1 - x < 2 ^ 64; omega
theorem want1_u64 (c t u : Nat) : U64 (want1 c t u) := by
  unfold want1; split
  · exact Cho.or_u64 zero_u64 (Cho.and_u64 (nt_u64 _))
  · exact zero_u64
theorem want2_u64 (c t u : Nat) : U64 (want2 c t u) := by
  unfold want2; split
  · exact Cho.or_u64 (want1_u64 _ _ _) (Cho.and_u64 (nt_u64 _))
  · exact want1_u64 _ _ _
theorem want3_u64 (c t u : Nat) (ht : U64 t) : U64 (want3 c t u) := by
  unfold want3; split
  · exact Cho.or_u64 (want2_u64 _ _ _) (Cho.and_u64 ht)
  · exact want2_u64 _ _ _
theorem want4_u64 (c t u : Nat) (ht : U64 t) : U64 (want4 c t u) := by
  unfold want4; split
  · exact Cho.or_u64 (want3_u64 _ _ _ ht) (Cho.and_u64 ht)
  · exact want3_u64 _ _ _ ht
theorem not64 (x : Nat) (h : U64 x) : bits .xor .u64 IntKind.u64.max (x : Int) = ((nt x : Nat) : Int) := by
  have h1 := u64_xor_nat 18446744073709551615 x (by decide) h.lt
  have e : IntKind.u64.max = ((18446744073709551615 : Nat) : Int) := by decide
  rw [e, h1]
  congr 1
  apply Nat.eq_of_testBit_eq
  intro i
  rw [Nat.testBit_xor, show nt x = 2 ^ 64 - 1 - x from rfl, Cho.not_testBit x i h, show (18446744073709551615 : Nat) = 2 ^ 64 - 1 from rfl, Nat.testBit_two_pow_sub_one]
  by_cases hi : i < 64
  · simp [hi]
  · rw [Cho.u64_hi h i (by omega)]; simp [hi]
theorem want_s1 (t u : Nat) (ht : U64 t) (hu : U64 u) : bits .or .u64 0 (bits .and .u64 (bits .xor .u64 IntKind.u64.max (t : Int)) (bits .xor .u64 IntKind.u64.max (u : Int))) = ((0 ||| (nt t &&& nt u) : Nat) : Int) := by
  rw [not64 t ht, not64 u hu, and64 (nt_u64 _) (nt_u64 _), or0 (Cho.and_u64 (nt_u64 _))]
theorem want_s2 (x t u : Nat) (hx : U64 x) (ht : U64 t) (hu : U64 u) : bits .or .u64 (x : Int) (bits .and .u64 (bits .xor .u64 IntKind.u64.max (t : Int)) (u : Int)) = ((x ||| (nt t &&& u) : Nat) : Int) := by
  rw [not64 t ht, and64 (nt_u64 _) hu, or64 hx (Cho.and_u64 (nt_u64 _))]
theorem want_s3 (x t u : Nat) (hx : U64 x) (ht : U64 t) (hu : U64 u) : bits .or .u64 (x : Int) (bits .andNot .u64 (t : Int) (u : Int)) = ((x ||| (t &&& nt u) : Nat) : Int) := by
  rw [andNot64 ht hu, or64 hx (Cho.and_u64 ht)]; rfl
theorem want_s4 (x t u : Nat) (hx : U64 x) (ht : U64 t) (hu : U64 u) : bits .or .u64 (x : Int) (bits .and .u64 (t : Int) (u : Int)) = ((x ||| (t &&& u) : Nat) : Int) := by
  rw [and64 ht hu, or64 hx (Cho.and_u64 ht)]
/-- Cut to the places there are, it is what the document says. -/
theorem want_cut (c t u n : Nat) (ht : Tab n t) (hu : Tab n u) (hn : n ≤ 6) : cutT (want4 c t u) n = Cho.joinT c t u (full n) := by
  have h64 := Cho.two_pow_le n hn
  apply Tab.ext (n := n) (cut_tab _ n) (Cho.joinT_tab c t u n ht hu)
  intro p hp
  have ut := ht.u64 hn
  have uu := hu.u64 hn
  rw [Cho.joinT_testBit c t u n p ut uu hn hp]
  unfold cutT
  rw [Nat.testBit_mod_two_pow]
  have hp6 : p < 64 := by omega
  have nb : ∀ x, U64 x → (nt x).testBit p = !x.testBit p := fun x hx => by rw [show nt x = 2 ^ 64 - 1 - x from rfl, Cho.not_testBit x p hx]; simp [hp6]
  unfold want4 want3 want2 want1 Cho.pick16
  cases h0 : c.testBit 0 <;> cases h1 : c.testBit 1 <;> cases h2 : c.testBit 2 <;> cases h3 : c.testBit 3 <;>
    simp [Nat.testBit_or, Nat.testBit_and, nb t ut, nb u uu, hp] <;>
    cases t.testBit p <;> cases u.testBit p <;> simp [h0, h1, h2, h3]

set_option maxRecDepth 100000 in
set_option maxHeartbeats 4000000 in
theorem joined_walk (raw code : Int) (t u : Nat) (w : World) (hc : Cols w) (ht : U64 t) (hu : U64 u) (h1 : -9223372036854775808 ≤ raw) (h2 : raw ≤ 9223372036854775807) (h3 : -9223372036854775808 ≤ code) (h4 : code ≤ 9223372036854775807) :
    Calls Tryd.prog 3 #[.int .i64 raw, .int .u64 t, .int .u64 u, .int .i64 code] w fun e w' => e = .returned (.bool true) ∧ Below w.heap.size w w' := by
  have HC : Hid (Cols w) := hc
  clear hc
  go_enter Tryd.func3, Tryd.ntmps3
  go_wp2_with fail
  refine (vars_calls raw _ h1 h2).mono ?_
  rintro e w1 ⟨⟨n, hn1, hn6, rfl⟩, rfl⟩
  go_wp2_with fail
  refine (pick_calls code 16 _ h3 h4 (by decide) (by decide)).mono ?_
  rintro e w2 ⟨⟨c, hc16, rfl⟩, rfl⟩
  go_wp2_with fail
  refine (fn_store n _ hn1 hn6 HC.out).mono ?_
  rintro e w3 ⟨s, rfl, f3⟩
  have F3 : Hid (Fn w2.heap.size w2 w3 s n []) := f3
  clear f3
  go_wp2_with fail
  refine (cut_calls t n _ ht hn6).mono ?_
  rintro e w4 ⟨rfl, rfl⟩
  go_wp2_with fail
  refine (cut_calls u n _ hu hn6).mono ?_
  rintro e w5 ⟨rfl, rfl⟩
  have ut := cut_u64 t n ht
  have uu := cut_u64 u n hu
  have TT : Hid (Tab n (cutT t n)) := cut_tab t n
  have TU : Hid (Tab n (cutT u n)) := cut_tab u n
  generalize cutT t n = T at *
  generalize cutT u n = U at *
  clear ht hu h1 h2 h3 h4
  go_wp2_with fail
  refine (fn_make _ _ _ s n T [] 1 F3.out rfl (by decide) TT.out).mono ?_
  rintro e w6 ⟨rfl, f6⟩
  have F6 : Hid (Fn w2.heap.size w2 w6 s n [T]) := f6
  clear F3 f6
  go_wp2_with fail
  refine (fn_make _ _ _ s n U [T] 2 F6.out rfl (by simp) TU.out).mono ?_
  rintro e w7 ⟨rfl, f7⟩
  have F7 : Hid (Fn w2.heap.size w2 w7 s n [T, U]) := f7
  clear F6 f7
  go_wp2_with fail
  refine (fn_apply _ _ _ s n c 0 1 [T, U] 1 2 3 F7.out hc16 (by simp) (by simp) rfl rfl rfl (by simp)).mono ?_
  rintro e w8 ⟨rfl, f8⟩
  have F8 : Hid (Fn w2.heap.size w2 w8 s n [T, U, Cho.joinT c T U (full n)]) := f8
  clear F7 f8
  have TJ : Hid (Tab n (Cho.joinT c T U (full n))) := Cho.joinT_tab c T U n TT.out TU.out
  have T1 : Hid (bits .and .i64 (c : Int) 1 = if c.testBit 0 then 1 else 0) := and16_1 c hc16
  have T2 : Hid (bits .and .i64 (c : Int) 2 = if c.testBit 1 then 2 else 0) := and16_2 c hc16
  have T3 : Hid (bits .and .i64 (c : Int) 4 = if c.testBit 2 then 4 else 0) := and16_4 c hc16
  have T4 : Hid (bits .and .i64 (c : Int) 8 = if c.testBit 3 then 8 else 0) := and16_8 c hc16
  go_upto_if 68 with fail
  go_cut [19] (fun x wc => x = .int .u64 (want1 c T U : Nat) ∧ Hid (Fn w2.heap.size w2 wc s n [T, U, Cho.joinT c T U (full n)]))
  case first =>
    cases hb : c.testBit 0
    · have hx := T1.out
      rw [hb] at hx
      simp only [Bool.false_eq_true, if_false] at hx
      clear T1 T2 T3 T4
      go_wp2_with fail
      go_meet
      case rel => exact ⟨val_int (by rw [want1, hb]; rfl), F8⟩
    · have hx := T1.out
      rw [hb] at hx
      simp only [if_true] at hx
      clear T1 T2 T3 T4
      go_wp2_with fail
      go_meet
      case rel => exact ⟨val_int (by rw [want1, hb]; exact want_s1 T U ut uu), F8⟩
  case rest =>
  clear F8
  obtain ⟨rfl, F8⟩ := hcut
  go_upto_if 78 with fail
  go_cut [19] (fun x wc => x = .int .u64 (want2 c T U : Nat) ∧ Hid (Fn w2.heap.size w2 wc s n [T, U, Cho.joinT c T U (full n)]))
  case first =>
    cases hb : c.testBit 1
    · have hx := T2.out
      rw [hb] at hx
      simp only [Bool.false_eq_true, if_false] at hx
      clear T1 T2 T3 T4
      go_wp2_with fail
      go_meet
      case rel => exact ⟨val_int (by rw [want2, hb]; rfl), F8⟩
    · have hx := T2.out
      rw [hb] at hx
      simp only [if_true] at hx
      clear T1 T2 T3 T4
      go_wp2_with fail
      go_meet
      case rel => exact ⟨val_int (by rw [want2, hb]; exact want_s2 _ T U (want1_u64 c T U) ut uu), F8⟩
  case rest =>
  clear F8
  obtain ⟨rfl, F8⟩ := hcut
  go_upto_if 87 with fail
  go_cut [19] (fun x wc => x = .int .u64 (want3 c T U : Nat) ∧ Hid (Fn w2.heap.size w2 wc s n [T, U, Cho.joinT c T U (full n)]))
  case first =>
    cases hb : c.testBit 2
    · have hx := T3.out
      rw [hb] at hx
      simp only [Bool.false_eq_true, if_false] at hx
      clear T1 T2 T3 T4
      go_wp2_with fail
      go_meet
      case rel => exact ⟨val_int (by rw [want3, hb]; rfl), F8⟩
    · have hx := T3.out
      rw [hb] at hx
      simp only [if_true] at hx
      clear T1 T2 T3 T4
      go_wp2_with fail
      go_meet
      case rel => exact ⟨val_int (by rw [want3, hb]; exact want_s3 _ T U (want2_u64 c T U) ut uu), F8⟩
  case rest =>
  clear F8
  obtain ⟨rfl, F8⟩ := hcut
  go_upto_if 95 with fail
  go_cut [19] (fun x wc => x = .int .u64 (want4 c T U : Nat) ∧ Hid (Fn w2.heap.size w2 wc s n [T, U, Cho.joinT c T U (full n)]))
  case first =>
    cases hb : c.testBit 3
    · have hx := T4.out
      rw [hb] at hx
      simp only [Bool.false_eq_true, if_false] at hx
      clear T1 T2 T3 T4
      go_wp2_with fail
      go_meet
      case rel => exact ⟨val_int (by rw [want4, hb]; rfl), F8⟩
    · have hx := T4.out
      rw [hb] at hx
      simp only [if_true] at hx
      clear T1 T2 T3 T4
      go_wp2_with fail
      go_meet
      case rel => exact ⟨val_int (by rw [want4, hb]; exact want_s4 _ T U (want3_u64 c T U ut) ut uu), F8⟩
  case rest =>
  clear F8
  obtain ⟨rfl, F8⟩ := hcut
  clear T1 T2 T3 T4
  have WC : Hid (cutT (want4 c T U) n = Cho.joinT c T U (full n)) := want_cut c T U n TT.out TU.out hn6
  have W4 := want4_u64 c T U ut
  generalize want4 c T U = W at *
  generalize Cho.joinT c T U (full n) = J at *
  go_wp2_with fail
  refine (cut_calls W n _ W4 hn6).mono ?_
  rw [WC.out]
  rintro e w9 ⟨rfl, rfl⟩
  clear WC
  go_wp2_with fail
  refine (fn_is _ _ _ s n 0 T [T, U, J] 1 F8.out (by simp) rfl rfl).mono ?_
  rintro e w10 ⟨rfl, f10⟩
  have F10 : Hid (Fn w2.heap.size w2 w10 s n [T, U, J]) := f10
  clear F8 f10
  go_wp2_with fail
  refine (fn_is _ _ _ s n 1 U [T, U, J] 2 F10.out (by simp) rfl rfl).mono ?_
  rintro e w11 ⟨rfl, f11⟩
  have F11 : Hid (Fn w2.heap.size w2 w11 s n [T, U, J]) := f11
  clear F10 f11
  go_wp2_with fail
  refine (fn_is _ _ _ s n 2 J [T, U, J] 3 F11.out (by simp) rfl rfl).mono ?_
  rintro e w12 ⟨rfl, f12⟩
  have F12 : Hid (Fn w2.heap.size w2 w12 s n [T, U, J]) := f12
  clear F11 f12
  go_wp2_with fail
  refine (fn_make _ _ _ s n J [T, U, J] 4 F12.out rfl (by simp) TJ.out).mono ?_
  rintro e w13 ⟨rfl, f13⟩
  have F13 : Hid (Fn w2.heap.size w2 w13 s n [T, U, J, J]) := f13
  clear F12 f13
  go_wp2_with fail
  have hs1 := fn_same _ _ _ s n 2 3 [T, U, J, J] 3 4 F13.out (by simp) (by simp) rfl rfl
  have hs2 := fn_same _ _ _ s n 0 1 [T, U, J, J] 1 2 F13.out (by simp) (by simp) rfl rfl
  simp only [List.getElem_cons_succ, List.getElem_cons_zero, decide_true] at hs1 hs2
  have S1 : Hid (Calls Tryd.prog 19 #[.pointer (some ⟨s, 0, none⟩), .int .u32 3, .int .u32 4] w13 fun e w' => e = .returned (.tuple #[.bool true, .int .i64 0]) ∧ w' = w13) := hs1
  have S2 : Hid (Calls Tryd.prog 19 #[.pointer (some ⟨s, 0, none⟩), .int .u32 1, .int .u32 2] w13 fun e w' => e = .returned (.tuple #[.bool (decide (T = U)), .int .i64 0]) ∧ w' = w13) := hs2
  clear hs1 hs2
  refine S1.out.mono ?_
  rintro e w14 ⟨rfl, rfl⟩
  go_wp2_with fail
  refine S2.out.mono ?_
  rintro e w15 ⟨rfl, rfl⟩
  have BEL : Hid (Below w2.heap.size w2 w15) := F13.out.bel
  have he : ((T : Int) == (U : Int)) = decide (T = U) := by rw [Bool.eq_iff_iff]; simp; omega
  cases hd : decide (T = U)
  all_goals
    rw [hd] at he
    go_wp2_with fail
    go_ret
    exact ⟨by simp, BEL.out⟩
end Go.Proofs.YthoodkbdpnffdaaDoor
