/-
  Own work: 'Split' answers true, whatever its arguments (a walk over the contracts of the calls).
-/
import Derived.Test.YthoodkbdpnffdaaDoorFixW
import Derived.Test.YthoodkbdpnffdaaDoorFnS
namespace Go.Proofs.YthoodkbdpnffdaaDoor
open Go.RowKit
open Cho (U64 Tab full col Nd Red)

theorem pow8 (i : Nat) (h : i < 6) : (2 : Int) ^ i % 256 = ((2 ^ i : Nat) : Int) := by
  have : i = 0 ∨ i = 1 ∨ i = 2 ∨ i = 3 ∨ i = 4 ∨ i = 5 := by omega
  rcases this with rfl | rfl | rfl | rfl | rfl | rfl <;> decide
/-- What a variable is fixed in hangs on it no more. -/
theorem fix_hangs {n T i : Nat} (b : Bool) (h : Tab n T) (hn : n ≤ 6) (hi : i < n) : (hg (Cho.fix T i b) n (2 ^ n)).testBit i = false := by
  rw [Bool.eq_false_iff]
  intro hb
  obtain ⟨_, p, hp, hne⟩ := (hg_bit _ _ _ _).1 hb
  apply hne
  have hp2 : p ^^^ 2 ^ i < 2 ^ n := Nat.xor_lt_two_pow hp (Nat.pow_lt_pow_right (by decide) hi)
  rw [Cho.fix_at i p b h hn hi hp, Cho.fix_at i _ b h hn hi hp2, xor_put, Cho.put_put]
theorem yes_eq {a b : Nat} (h : a = b) : decide (a = b) = true := by simp [h]

set_option maxRecDepth 100000 in
set_option maxHeartbeats 4000000 in
theorem split_walk (raw v : Int) (t u : Nat) (w : World) (hc : Cols w) (ht : U64 t) (hu : U64 u) (h1 : -9223372036854775808 ≤ raw) (h2 : raw ≤ 9223372036854775807) (h3 : -9223372036854775808 ≤ v) (h4 : v ≤ 9223372036854775807) :
    Calls Tryd.prog 7 #[.int .i64 raw, .int .u64 t, .int .u64 u, .int .i64 v] w fun e w' => e = .returned (.bool true) ∧ Below w.heap.size w w' := by
  have HC : Hid (Cols w) := hc
  clear hc
  go_enter Tryd.func7, Tryd.ntmps7
  go_wp2_with fail
  refine (vars_calls raw _ h1 h2).mono ?_
  rintro e w1 ⟨⟨n, hn1, hn6, rfl⟩, rfl⟩
  go_wp2_with fail
  refine (pick_calls v n _ h3 h4 (by omega) (by omega)).mono ?_
  rintro e w2 ⟨⟨i, hi, rfl⟩, rfl⟩
  go_wp2_with fail
  refine (fn_store n _ hn1 hn6 HC.out).mono ?_
  rintro e w3 ⟨s, rfl, f3⟩
  have F3 : Hid (Fn w2.heap.size w2 w3 s n []) := f3
  clear f3
  go_wp2_with fail
  refine (cut_calls t n _ ht hn6).mono ?_
  rintro e w4 ⟨rfl, rfl⟩
  have TT : Hid (Tab n (cutT t n)) := cut_tab t n
  have TU : Hid (Tab n (cutT u n)) := cut_tab u n
  generalize cutT t n = T at *
  go_wp2_with fail
  refine (fn_make _ _ _ s n T [] 1 F3.out rfl (by decide) TT.out).mono ?_
  rintro e w6 ⟨rfl, f6⟩
  have F6 : Hid (Fn w2.heap.size w2 w6 s n [T]) := f6
  clear F3 f6
  go_wp2_with fail
  refine (cut_calls u n _ hu hn6).mono ?_
  rintro e w5 ⟨rfl, rfl⟩
  generalize cutT u n = U at *
  clear ht hu h1 h2 h3 h4
  go_wp2_with fail
  refine (fn_make _ _ _ s n U [T] 2 F6.out rfl (by simp) TU.out).mono ?_
  rintro e w7 ⟨rfl, f7⟩
  have F7 : Hid (Fn w2.heap.size w2 w7 s n [T, U]) := f7
  clear F6 f7
  go_wp2_with fail
  refine (fn_var _ _ _ s n i [T, U] 3 F7.out rfl (by simp) hi).mono ?_
  rintro e w8 ⟨rfl, f8⟩
  have F8 : Hid (Fn w2.heap.size w2 w8 s n [T, U, col i &&& full n]) := f8
  clear F7 f8
  generalize hX : col i &&& full n = X at *
  have HX : Hid (col i &&& full n = X) := hX
  clear hX
  go_wp2_with fail
  refine (fn_restrict _ _ _ s n 0 i false _ 1 4 F8.out (by simp) rfl hi rfl (by simp)).mono ?_
  rintro e w9 ⟨rfl, f9⟩
  have F9 : Hid (Fn w2.heap.size w2 w9 s n [T, U, X, Cho.fix T i false]) := f9
  clear F8 f9
  generalize hL : Cho.fix T i false = L at *
  have HL : Hid (Cho.fix T i false = L) := hL
  clear hL
  go_wp2_with fail
  refine (fn_restrict _ _ _ s n 0 i true _ 1 5 F9.out (by simp) rfl hi rfl (by simp)).mono ?_
  rintro e w10 ⟨rfl, f10⟩
  have F10 : Hid (Fn w2.heap.size w2 w10 s n [T, U, X, L, Cho.fix T i true]) := f10
  clear F9 f10
  generalize hR : Cho.fix T i true = R at *
  have HR : Hid (Cho.fix T i true = R) := hR
  clear hR
  go_wp2_with fail
  refine (fn_ite _ _ _ s n 2 4 3 _ 3 5 4 6 F10.out (by simp) (by simp) (by simp) rfl rfl rfl rfl (by simp)).mono ?_
  rintro e w11 ⟨rfl, f11⟩
  have F11 : Hid (Fn w2.heap.size w2 w11 s n [T, U, X, L, R, Cho.chooseT X R L]) := f11
  clear F10 f11
  have E1 : Hid (Cho.chooseT X R L = T) := by rw [← HX.out, ← HR.out, ← HL.out]; exact Cho.split_again TT.out hn6 hi
  generalize Cho.chooseT X R L = Y1 at *
  go_wp2_with fail
  refine (fn_compose _ _ _ s n 0 i 1 _ 1 2 7 F11.out (by simp) (by simp) rfl rfl hi rfl (by simp)).mono ?_
  rintro e w12 ⟨rfl, f12⟩
  have F12 : Hid (Fn w2.heap.size w2 w12 s n [T, U, X, L, R, Y1, Cho.putT T i U]) := f12
  clear F11 f12
  have E2 : Hid (Cho.putT T i U = Cho.chooseT U R L) := by rw [← HR.out, ← HL.out]; rfl
  generalize Cho.putT T i U = Y2 at *
  go_wp2_with fail
  refine (fn_ite _ _ _ s n 1 4 3 _ 2 5 4 8 F12.out (by simp) (by simp) (by simp) rfl rfl rfl rfl (by simp)).mono ?_
  rintro e w13 ⟨rfl, f13⟩
  have F13 : Hid (Fn w2.heap.size w2 w13 s n [T, U, X, L, R, Y1, Y2, Cho.chooseT U R L]) := f13
  clear F12 f13
  generalize Cho.chooseT U R L = Y3 at *
  go_wp2_with fail
  rw [pow8 i (by omega)]
  refine (fn_quantify _ _ _ s n 0 (2 ^ i) false _ 1 9 F13.out (by simp) rfl (Nat.pow_lt_pow_right (by decide) hi) rfl (by simp)).mono ?_
  rintro e w14 ⟨rfl, f14⟩
  have F14 : Hid (Fn w2.heap.size w2 w14 s n [T, U, X, L, R, Y1, Y2, Y3, Cho.someTo T (2 ^ i) 6]) := f14
  clear F13 f14
  have E3 : Hid (Cho.someTo T (2 ^ i) 6 = Cho.joinT 14 L R (full n)) := by rw [← HR.out, ← HL.out]; exact Cho.split_some TT.out hn6 hi
  generalize Cho.someTo T (2 ^ i) 6 = Y4 at *
  go_wp2_with fail
  refine (fn_apply _ _ _ s n 14 3 4 _ 4 5 10 F14.out (by decide) (by simp) (by simp) rfl rfl rfl (by simp)).mono ?_
  rintro e w15 ⟨rfl, f15⟩
  have F15 : Hid (Fn w2.heap.size w2 w15 s n [T, U, X, L, R, Y1, Y2, Y3, Y4, Cho.joinT 14 L R (full n)]) := f15
  clear F14 f15
  generalize Cho.joinT 14 L R (full n) = Y5 at *
  go_wp2_with fail
  rw [pow8 i (by omega)]
  refine (fn_quantify _ _ _ s n 0 (2 ^ i) true _ 1 11 F15.out (by simp) rfl (Nat.pow_lt_pow_right (by decide) hi) rfl (by simp)).mono ?_
  rintro e w16 ⟨rfl, f16⟩
  have F16 : Hid (Fn w2.heap.size w2 w16 s n [T, U, X, L, R, Y1, Y2, Y3, Y4, Y5, Cho.allTo T (2 ^ i) 6]) := f16
  clear F15 f16
  have E4 : Hid (Cho.allTo T (2 ^ i) 6 = Cho.joinT 8 L R (full n)) := by rw [← HR.out, ← HL.out]; exact Cho.split_all TT.out hn6 hi
  generalize Cho.allTo T (2 ^ i) 6 = Y6 at *
  go_wp2_with fail
  refine (fn_apply _ _ _ s n 8 3 4 _ 4 5 12 F16.out (by decide) (by simp) (by simp) rfl rfl rfl (by simp)).mono ?_
  rintro e w17 ⟨rfl, f17⟩
  have F17 : Hid (Fn w2.heap.size w2 w17 s n [T, U, X, L, R, Y1, Y2, Y3, Y4, Y5, Y6, Cho.joinT 8 L R (full n)]) := f17
  clear F16 f17
  generalize Cho.joinT 8 L R (full n) = Y7 at *
  go_wp2_with fail
  refine (fn_compose _ _ _ s n 0 i 2 _ 1 3 13 F17.out (by simp) (by simp) rfl rfl hi rfl (by simp)).mono ?_
  rintro e w18 ⟨rfl, f18⟩
  have F18 : Hid (Fn w2.heap.size w2 w18 s n [T, U, X, L, R, Y1, Y2, Y3, Y4, Y5, Y6, Y7, Cho.putT T i X]) := f18
  clear F17 f18
  have E5 : Hid (T = Cho.putT T i X) := by rw [← HX.out]; exact (Cho.split_own TT.out hn6 hi).symm
  generalize Cho.putT T i X = Y8 at *
  have E1' : Hid (T = Y1) := E1.out.symm
  go_wp2_with fail
  refine (fn_support _ _ _ s n 3 _ 4 F18.out (by simp) rfl).mono ?_
  rintro e w19 ⟨rfl, f19⟩
  have F19 : Hid (Fn w2.heap.size w2 w19 s n [T, U, X, L, R, Y1, Y2, Y3, Y4, Y5, Y6, Y7, Y8]) := f19
  clear F18 f19
  simp only [List.getElem_cons_succ, List.getElem_cons_zero]
  have hb := u8bit (hg L n (2 ^ n)) i (Nat.lt_trans (hg_lt L n _ hn6) (by decide))
  rw [show (hg L n (2 ^ n)).testBit i = false from by rw [← HL.out]; exact fix_hangs false TT.out hn6 hi] at hb
  simp only [Bool.false_eq_true, if_false] at hb
  generalize hg L n (2 ^ n) = S at *
  go_wp2_with fail
  refine (fn_same _ _ _ s n 0 5 _ 1 6 F19.out (by simp) (by simp) rfl rfl).mono ?_
  rintro e w20 ⟨rfl, rfl⟩
  simp only [List.getElem_cons_succ, List.getElem_cons_zero]
  rw [yes_eq E1'.out]
  go_wp2_with fail
  refine (fn_same _ _ _ s n 6 7 _ 7 8 F19.out (by simp) (by simp) rfl rfl).mono ?_
  rintro e w21 ⟨rfl, rfl⟩
  simp only [List.getElem_cons_succ, List.getElem_cons_zero]
  rw [yes_eq E2.out]
  go_wp2_with fail
  refine (fn_same _ _ _ s n 8 9 _ 9 10 F19.out (by simp) (by simp) rfl rfl).mono ?_
  rintro e w22 ⟨rfl, rfl⟩
  simp only [List.getElem_cons_succ, List.getElem_cons_zero]
  rw [yes_eq E3.out]
  go_wp2_with fail
  refine (fn_same _ _ _ s n 10 11 _ 11 12 F19.out (by simp) (by simp) rfl rfl).mono ?_
  rintro e w23 ⟨rfl, rfl⟩
  simp only [List.getElem_cons_succ, List.getElem_cons_zero]
  rw [yes_eq E4.out]
  go_wp2_with fail
  refine (fn_same _ _ _ s n 0 12 _ 1 13 F19.out (by simp) (by simp) rfl rfl).mono ?_
  rintro e w24 ⟨rfl, rfl⟩
  simp only [List.getElem_cons_succ, List.getElem_cons_zero]
  rw [yes_eq E5.out]
  go_wp2_with fail
  go_ret
  exact ⟨rfl, F19.out.bel⟩
end Go.Proofs.YthoodkbdpnffdaaDoor
