/-
  Own work: what each function of package tables computes, as the plain mathematics has it (walks).
-/
import Derived.Test.YthoodkbdpnffdaaGreatDoorProg
import Derived.Test.YthoodkbdpnffdaaGreatDoorPlain
import Derived.WalkKit
import Derived.WalkSpells
import Derived.WalkLawsBesides
import Derived.Laws.BitsAllLaws
import Derived.Deep.QuietTactic
import Derived.BigQuiet
import Derived.Test.YthoodkbdpnffdaaGreatDoorRows
import Derived.Test.YthoodkbdpnffdaaGreatDoorTie
import Derived.Test.YthoodkbdpnffdaaGreatDoorCards
import Derived.ProofKit
import Derived.LaidMore
import Derived.OpenShut
import Derived.Stop.Joined
import Derived.SevenTiedAt
import Derived.Lib.LaidTab
namespace Go.Proofs.YthoodkbdpnffdaaGreatDoor
open Go.RowKit
open Cho (U64 Tab full col)

theorem ret_int {k : IntKind} {a b : Int} (h : a = b) : Ending.returned (.int k a) = .returned (.int k b) := by rw [h]
theorem val_int {k : IntKind} {a b : Int} (h : a = b) : Value.int k a = .int k b := by rw [h]

theorem or64 {a b : Nat} (ha : U64 a) (hb : U64 b) : bits .or .u64 (a : Int) (b : Int) = ((a ||| b : Nat) : Int) := u64_or_nat a b ha.lt hb.lt
theorem and64 {a b : Nat} (ha : U64 a) (hb : U64 b) : bits .and .u64 (a : Int) (b : Int) = ((a &&& b : Nat) : Int) := u64_and_nat a b ha.lt hb.lt
theorem andNot64 {a b : Nat} (ha : U64 a) (hb : U64 b) : bits .andNot .u64 (a : Int) (b : Int) = ((a &&& (2 ^ 64 - 1 - b) : Nat) : Int) := u64_andNot_nat a b ha.lt hb.lt
theorem wrap_pow (k : Nat) (h : k < 64) : (IntKind.u64.wrap (2 ^ k)).toNat = 2 ^ k := by
  have h1 : (2 : Nat) ^ k < 2 ^ 64 := Nat.pow_lt_pow_right (by decide) h
  rw [IntKind.wrap_u64, show ((2 : Int) ^ k) = ((2 ^ k : Nat) : Int) from by simp]
  rw [show (18446744073709551616 : Int) = ((18446744073709551616 : Nat) : Int) from rfl, ← Int.natCast_emod, Nat.mod_eq_of_lt h1, Int.toNat_natCast]
theorem shl64 (a c : Nat) (hc : c ≤ 64) : IntKind.u64.wrap ((a : Int) * 2 ^ min c 64) = (((a <<< c) % 2 ^ 64 : Nat) : Int) := by
  rw [Nat.min_eq_left hc, IntKind.wrap_u64, Nat.shiftLeft_eq]
  rw [show ((2 : Int) ^ c) = ((2 ^ c : Nat) : Int) from by simp, ← Int.natCast_mul]
  omega

set_option maxHeartbeats 400000 in
theorem full_calls (n : Nat) (w : World) (h6 : n ≤ 6) :
    Calls Tryz.prog 115 #[.int .i64 n] w fun e w' => e = .returned (.int .u64 (full n : Nat)) ∧ w' = w := by
  go_enter Tryz.func115, Tryz.ntmps115
  go_wp2
  go_loop [3, 4] (fun f i => ∃ k : Nat, k ≤ n ∧ i = .int .i64 k ∧ f = .int .u64 (full k : Nat)) (fun _ i => n - (intOf i).toNat)
  case atStart => exact ⟨0, Nat.zero_le _, rfl, rfl⟩
  case round =>
    obtain ⟨k, hk, rfl, rfl⟩ := hrel
    by_cases hlt : k < n
    · go_wp2
      refine ⟨⟨k + 1, hlt, by go_num, val_int ?_⟩, by simp [intOf]; omega⟩
      have hk6 : 2 ^ k ≤ 64 := Cho.two_pow_le k (by omega)
      have e := Cho.full_succ k (by omega)
      rw [wrap_pow k (by omega), shl64 _ _ hk6, or64 (Cho.full_u64 k (by omega)) (Cho.mod_u64 _), e]
    · go_wp2
      go_ret
      exact ⟨ret_int (by rw [show k = n from by omega]), rfl⟩

/-- The table of the variables' columns lies in the program's first variable. -/
def Cols (w : World) : Prop := ∀ i, i < 6 → w.cell? ⟨0, i, none⟩ = some (.int .u64 (col i : Nat))

theorem shr64 (a c : Nat) (hc : c ≤ 64) : (a : Int) / 2 ^ min c 64 = ((a >>> c : Nat) : Int) := by
  rw [Nat.min_eq_left hc, Nat.shiftRight_eq_div_pow]; simp
theorem one_u64 : U64 1 := by show (1 : Nat) < 2 ^ 64; decide
theorem half (r : Nat) : (r : Int) / (2 : Int) = ((r >>> 1 : Nat) : Int) := by rw [Nat.shiftRight_eq_div_pow]; omega
theorem and1 (r : Nat) (h : U64 r) : bits .and .u64 (r : Int) 1 = ((if r.testBit 0 then 1 else 0 : Nat) : Int) := by
  rw [← Cho.testBit0_and]; exact and64 h one_u64
theorem and1_yes (r : Nat) (h : U64 r) (hb : r.testBit 0 = true) : bits .and .u64 (r : Int) 1 = 1 := by rw [and1 r h, hb]; rfl
theorem and1_no (r : Nat) (h : U64 r) (hb : r.testBit 0 = false) : bits .and .u64 (r : Int) 1 = 0 := by rw [and1 r h, hb]; rfl

set_option maxHeartbeats 400000 in
theorem fix_calls (t i : Nat) (b : Bool) (w : World) (hc : Cols w) (ht : U64 t) (h6 : i < 6) :
    Calls Tryz.prog 96 #[.int .u64 t, .int .i64 i, .bool b] w fun e w' => e = .returned (.int .u64 (Cho.fix t i b : Nat)) ∧ w' = w := by
  have hci := hc i h6
  clear hc
  have h2 : 2 ^ i ≤ 64 := Cho.two_pow_le i (by omega)
  have E1 : Hid ((IntKind.u64.wrap (2 ^ i)).toNat = 2 ^ i) := wrap_pow i (by omega)
  have E2 : Hid (bits .andNot .u64 (t : Int) (col i : Nat) = ((t &&& (2 ^ 64 - 1 - col i) : Nat) : Int)) := andNot64 ht (Cho.col_u64 i)
  have E3 : Hid (bits .and .u64 (t : Int) (col i : Nat) = ((t &&& col i : Nat) : Int)) := and64 ht (Cho.col_u64 i)
  cases b
  · go_enter Tryz.func96, Tryz.ntmps96
    go_wp2
    go_ret
    exact ⟨ret_int (by rw [E1.out, E2.out, shl64 _ _ h2, or64 (Cho.and_u64 ht) (Cho.mod_u64 _)]; rfl), rfl⟩
  · go_enter Tryz.func96, Tryz.ntmps96
    go_wp2
    go_ret
    exact ⟨ret_int (by rw [E1.out, E3.out, shr64 _ _ h2, or64 (Cho.and_u64 ht) (Cho.shr_u64 (Cho.and_u64 ht))]; rfl), rfl⟩

set_option maxHeartbeats 400000 in
theorem count_calls (t : Nat) (w : World) (ht : U64 t) :
    Calls Tryz.prog 90 #[.int .u64 t] w fun e w' => e = .returned (.int .i64 (Cho.cnt t 64 : Nat)) ∧ w' = w := by
  go_enter Tryz.func90, Tryz.ntmps90
  go_wp2
  go_loop [3, 4] (fun c r => ∃ k : Nat, k ≤ 64 ∧ c = .int .i64 (Cho.cnt t k : Nat) ∧ r = .int .u64 (t >>> k : Nat)) (fun _ r => (intOf r).toNat)
  case atStart => exact ⟨0, Nat.zero_le _, rfl, rfl⟩
  case round =>
    obtain ⟨k, hk, rfl, rfl⟩ := hrel
    have hu : U64 (t >>> k) := Cho.shr_u64 ht
    have hcl := Cho.cnt_le t k
    by_cases hz : t >>> k = 0
    · have H : Hid (Cho.cnt t k = Cho.cnt t 64) := Cho.cnt_end hz hk
      have hz' : (((t >>> k : Nat) : Int) != 0) = false := by simp [hz]
      clear hz
      generalize t >>> k = r at *
      go_wp2
      go_ret
      exact ⟨ret_int (by rw [H.out]), rfl⟩
    · have hk64 := Cho.shr_nz ht hz
      have hs : Hid (t >>> (k + 1) = (t >>> k) >>> 1) := (Cho.shr_succ t k).symm
      have ht0 := Cho.shr_testBit0 t k
      have H0 : Hid (Cho.cnt t (k + 1) = Cho.cnt t k + if t.testBit k then 1 else 0) := rfl
      rw [← ht0] at H0
      clear ht0
      generalize t >>> k = r at *
      have hz' : ((r : Int) != 0) = true := by simp; omega
      have hm := Cho.shr_lt hz
      cases hb : r.testBit 0
      · have H : Hid (Cho.cnt t (k + 1) = Cho.cnt t k) := H0.out.trans (by rw [hb]; rfl)
        have ha := and1_no r hu hb
        clear hb H0
        go_wp2
        refine ⟨⟨k + 1, hk64, val_int (by rw [H.out]), val_int (by rw [half, hs.out])⟩, ?_⟩
        simp only [intOf]; omega
      · have H : Hid (Cho.cnt t (k + 1) = Cho.cnt t k + 1) := H0.out.trans (by rw [hb]; rfl)
        have ha := and1_yes r hu hb
        clear hb H0
        go_wp2
        refine ⟨⟨k + 1, hk64, val_int (by rw [H.out]; rfl), val_int (by rw [half, hs.out])⟩, ?_⟩
        simp only [intOf]; omega

set_option maxHeartbeats 400000 in
theorem least_none (w : World) :
    Calls Tryz.prog 91 #[.int .u64 (0 : Nat)] w fun e w' => e = .returned (.tuple #[.int .i64 0, .bool false]) ∧ w' = w := by
  go_enter Tryz.func91, Tryz.ntmps91
  go_wp2
  go_ret2
  exact ⟨rfl, rfl⟩

set_option maxHeartbeats 400000 in
theorem least_calls (t : Nat) (w : World) (ht : U64 t) (h0 : t ≠ 0) :
    Calls Tryz.prog 91 #[.int .u64 t] w fun e w' => e = .returned (.tuple #[.int .i64 (Cho.least t 64 : Nat), .bool true]) ∧ w' = w := by
  obtain ⟨p, hp, hpb⟩ := Cho.nz_bit ht h0
  have h0' : ((t : Int) == 0) = false := by simp; omega
  go_enter Tryz.func91, Tryz.ntmps91
  go_wp2
  go_loop [4, 5] (fun c r => ∃ k : Nat, k ≤ p ∧ (∀ q, q < k → t.testBit q = false) ∧ c = .int .i64 k ∧ r = .int .u64 (t >>> k : Nat)) (fun c _ => p - (intOf c).toNat)
  case atStart => exact ⟨0, Nat.zero_le _, fun _ h => absurd h (Nat.not_lt_zero _), rfl, rfl⟩
  case round =>
    obtain ⟨k, hk, hno, rfl, rfl⟩ := hrel
    have hu : U64 (t >>> k) := Cho.shr_u64 ht
    have ht0 := Cho.shr_testBit0 t k
    cases hb : t.testBit k
    · have hkp : k ≠ p := by intro e; rw [e, hpb] at hb; cases hb
      have ha := and1_no _ hu (ht0.trans hb)
      have HN : Hid (∀ q, q < k + 1 → t.testBit q = false) := by
        intro q hq
        by_cases e : q = k
        · rw [e, hb]
        · exact hno q (by omega)
      have hs : Hid (t >>> (k + 1) = (t >>> k) >>> 1) := (Cho.shr_succ t k).symm
      clear hb ht0 hno
      generalize t >>> k = r at *
      have hk64 : k < 64 := by omega
      clear hpb
      go_wp2
      refine ⟨⟨k + 1, by omega, HN.out, by go_num, val_int (by rw [half, hs.out])⟩, ?_⟩
      simp only [intOf]; omega
    · have ha := and1_yes _ hu (ht0.trans hb)
      have HL : Hid (Cho.least t 64 = k) := Cho.least_eq (by omega) hno hb
      clear hb ht0 hno hpb
      generalize t >>> k = r at *
      go_wp2
      go_ret2
      exact ⟨by rw [HL.out]; rfl, rfl⟩

theorem not_u64 (x : Nat) : U64 (2 ^ 64 - 1 - x) := by show 2 ^ 64 - 1 - x < 2 ^ 64; omega
theorem zero_u64 : U64 0 := by show (0 : Nat) < 2 ^ 64; decide
theorem or0 {b : Nat} (hb : U64 b) : bits .or .u64 0 (b : Int) = ((0 ||| b : Nat) : Int) := or64 (a := 0) zero_u64 hb

set_option maxHeartbeats 1000000 in
theorem join_calls (c a b f : Nat) (w : World) (hc : c < 16) (ha : U64 a) (hb : U64 b) (hf : U64 f) :
    Calls Tryz.prog 76 #[.int .i64 c, .int .u64 a, .int .u64 b, .int .u64 f] w fun e w' => e = .returned (.int .u64 (Cho.joinT c a b f : Nat)) ∧ w' = w := by
  have e1 : Hid (bits .or .u64 (a : Int) (b : Int) = ((a ||| b : Nat) : Int)) := or64 ha hb
  have e2 : Hid (bits .andNot .u64 (f : Int) ((a ||| b : Nat) : Int) = ((f &&& (2 ^ 64 - 1 - (a ||| b)) : Nat) : Int)) := andNot64 hf (Cho.or_u64 ha hb)
  have e3 : Hid (bits .andNot .u64 (b : Int) (a : Int) = ((b &&& (2 ^ 64 - 1 - a) : Nat) : Int)) := andNot64 hb ha
  have e4 : Hid (bits .andNot .u64 (a : Int) (b : Int) = ((a &&& (2 ^ 64 - 1 - b) : Nat) : Int)) := andNot64 ha hb
  have e5 : Hid (bits .and .u64 (a : Int) (b : Int) = ((a &&& b : Nat) : Int)) := and64 ha hb
  have t1 : bits .and .i64 (c : Int) 1 = if c.testBit 0 then 1 else 0 := by revert c; decide
  have t2 : bits .and .i64 (c : Int) 2 = if c.testBit 1 then 2 else 0 := by revert c; decide
  have t3 : bits .and .i64 (c : Int) 4 = if c.testBit 2 then 4 else 0 := by revert c; decide
  have t4 : bits .and .i64 (c : Int) 8 = if c.testBit 3 then 8 else 0 := by revert c; decide
  have J : Hid (Cho.joinT c a b f = (((if c.testBit 0 then f &&& (2 ^ 64 - 1 - (a ||| b)) else 0) ||| (if c.testBit 1 then b &&& (2 ^ 64 - 1 - a) else 0)) |||
    (if c.testBit 2 then a &&& (2 ^ 64 - 1 - b) else 0)) ||| (if c.testBit 3 then a &&& b else 0)) := rfl
  generalize c.testBit 0 = b0 at *
  generalize c.testBit 1 = b1 at *
  generalize c.testBit 2 = b2 at *
  generalize c.testBit 3 = b3 at *
  cases b0 <;> cases b1 <;> cases b2 <;> cases b3
  all_goals
    simp only [Bool.false_eq_true, if_false, if_true] at t1 t2 t3 t4
    go_enter Tryz.func76, Tryz.ntmps76
    go_wp2
    go_ret
    refine ⟨ret_int ?_, rfl⟩
    rw [J.out]
    clear t1 t2 t3 t4 J
    have u1 : U64 (f &&& (2 ^ 64 - 1 - (a ||| b))) := Cho.and_u64 hf
    have u2 : U64 (b &&& (2 ^ 64 - 1 - a)) := Cho.and_u64 hb
    have u3 : U64 (a &&& (2 ^ 64 - 1 - b)) := Cho.and_u64 ha
    have u4 : U64 (a &&& b) := Cho.and_u64 ha
    have s1 := e1.out
    have s2 := e2.out
    have s3 := e3.out
    have s4 := e4.out
    have s5 := e5.out
    simp only [s1, s2, s3, s4, s5, Bool.false_eq_true, if_false, if_true, Nat.zero_or, Nat.or_zero, or0, or64, Cho.or_u64, u1, u2, u3, u4]
    first | done | rfl | exact or64 (Cho.or_u64 (Cho.or_u64 u1 u2) u3) u4

set_option maxHeartbeats 400000 in
theorem variable_calls (i n : Nat) (w : World) (hc : Cols w) (hi : i < 6) (h6 : n ≤ 6) :
    Calls Tryz.prog 72 #[.int .i64 i, .int .i64 n] w fun e w' => e = .returned (.int .u64 (col i &&& full n : Nat)) ∧ ∃ q, w' = w.drewN q := by
  have hci := hc i hi
  clear hc
  have E : Hid (bits .and .u64 (col i : Nat) (full n : Nat) = ((col i &&& full n : Nat) : Int)) := and64 (Cho.col_u64 i) (Cho.full_u64 n h6)
  go_enter Tryz.func72, Tryz.ntmps72
  go_wp2_with fail
  go_quiet ((go_at_call 115; exact Calls.quiet_of_same (full_calls _ _ h6)))
  go_wp2
  go_ret
  exact ⟨ret_int E.out, _, rfl⟩
end Go.Proofs.YthoodkbdpnffdaaGreatDoor

/-
  Own work: what the listed table gives the walks; the door's own heap meets the condition.
-/
namespace Go.Proofs.YthoodkbdpnffdaaGreatDoor
open Go.ChangeShapes Go.WideShapes Go.ChangeAt Go.WideMaps Go.WideElems Go.RowKit

theorem ownKnobs : ownKnob Tryz.prog.godebug = none := by kernel_rfl
theorem gCols : Tryz.prog.globalNamed "choice/tables.columns" = some 0 := by kernel_rfl
theorem tCols : (Tryz.prog.globals[0]?).map (·.type) = some 148 := by kernel_rfl
abbrev laid1 : List (String × DataW Unit) := [("choice/tables.columns", Rows.laid_choice_tables_columns)]

theorem door_met (os : Os) (args : Array Value) : laidMetH Tryz.prog laid1 ((World.doorLaid Tryz.prog 400 os).forCall (fun _ _ => 0) ⟨#[], args, []⟩).memory :=
  laidMetH_of_parts3 (fuel := 8) (laidMet_of_run' 8 (by kernel_rfl) (by kernel_rfl)) (by kernel_rfl) (by kernel_rfl)

theorem of_laid {W : World} (h : laidMetH Tryz.prog laid1 W) : Cols W := by
  rw [MakeChecks.laidMetH_plain _ _ _ (by kernel_rfl)] at h
  have ht := Lib.tabIs_of_head (k := .u64) (zs := [12297829382473034410, 14757395258967641292, 17361641481138401520, 18374966859414961920, 18446462603027742720, 18446744069414584320]) (rest := []) gCols tCols Tryz.underlying148 Tryz.underlying31 (by kernel_rfl) (by kernel_rfl) h
  intro i hi
  have := ht.cell gCols i (by simpa using hi)
  match i, hi with
  | 0, _ => exact this
  | 1, _ => exact this
  | 2, _ => exact this
  | 3, _ => exact this
  | 4, _ => exact this
  | 5, _ => exact this

theorem i64_bd {a : Int} (w : (Lit.int .i64 a).wf = true) : -9223372036854775808 ≤ a ∧ a ≤ 9223372036854775807 := by
  simp [Lit.wf, IntKind.min, IntKind.max, IntKind.signed, IntKind.bits] at w; omega
theorem u64_bd {a : Int} (w : (Lit.int .u64 a).wf = true) : ∃ n : Nat, a = n ∧ Cho.U64 n := by
  have h : 0 ≤ a ∧ a ≤ 18446744073709551615 := by simpa [Lit.wf, IntKind.min, IntKind.max, IntKind.signed, IntKind.bits] using w
  exact ⟨a.toNat, by omega, Cho.U64.mk (by omega)⟩
end Go.Proofs.YthoodkbdpnffdaaGreatDoor

/-
  Own work: what the four listed tables give the walks (only the first is read on the roads there are); the door's own heap meets the condition.
-/
namespace Go.Proofs.YthoodkbdpnffdaaGreatDoor
open Go.ChangeShapes Go.WideShapes Go.ChangeAt Go.WideMaps Go.WideElems Go.RowKit

abbrev laid4 : List (String × DataW Unit) := [("choice/tables.columns", Rows.laid_choice_tables_columns), ("math/bits.deBruijn32tab", Rows.laid_math_bits_deBruijn32tab), ("math/bits.deBruijn64tab", Rows.laid_math_bits_deBruijn64tab), ("internal/strconv.uint64pow10", Rows.laid_internal_strconv_uint64pow10)]
theorem door_met4 (os : Os) (args : Array Value) : laidMetH Tryz.prog laid4 ((World.doorLaid Tryz.prog 400 os).forCall (fun _ _ => 0) ⟨#[], args, []⟩).memory :=
  laidMetH_of_parts3 (fuel := 8) (laidMet_of_run' 8 (by kernel_rfl) (by kernel_rfl)) (by kernel_rfl) (by kernel_rfl)
theorem of_laid4 {W : World} (h : laidMetH Tryz.prog laid4 W) : Cols W := by
  rw [MakeChecks.laidMetH_plain _ _ _ (by kernel_rfl)] at h
  have ht := Lib.tabIs_of_head (k := .u64) (zs := [12297829382473034410, 14757395258967641292, 17361641481138401520, 18374966859414961920, 18446462603027742720, 18446744069414584320]) (rest := [("math/bits.deBruijn32tab", Rows.laid_math_bits_deBruijn32tab), ("math/bits.deBruijn64tab", Rows.laid_math_bits_deBruijn64tab), ("internal/strconv.uint64pow10", Rows.laid_internal_strconv_uint64pow10)]) gCols tCols Tryz.underlying148 Tryz.underlying31 (by kernel_rfl) (by kernel_rfl) h
  intro i hi
  have := ht.cell gCols i (by simpa using hi)
  match i, hi with
  | 0, _ => exact this
  | 1, _ => exact this
  | 2, _ => exact this
  | 3, _ => exact this
  | 4, _ => exact this
  | 5, _ => exact this
/-- A table put into its block. -/
def putTab (cs : Array Value) : Obj → Obj
  | .cells _ t frozen => .cells cs t frozen
  | o => o
/-- A world for the witness: the listed tables as they are listed. -/
noncomputable def tabWorld (os : Os) : World :=
  { World.holding Tryz.prog os ⟨#[], #[], []⟩ with heap := (((World.holding Tryz.prog os ⟨#[], #[], []⟩).heap.modify 0 (putTab #[.int .u64 12297829382473034410, .int .u64 14757395258967641292, .int .u64 17361641481138401520, .int .u64 18374966859414961920, .int .u64 18446462603027742720, .int .u64 18446744069414584320]))
      |>.modify 1 (putTab #[.int .u64 1, .int .u64 10, .int .u64 100, .int .u64 1000, .int .u64 10000, .int .u64 100000, .int .u64 1000000, .int .u64 10000000, .int .u64 100000000, .int .u64 1000000000, .int .u64 10000000000, .int .u64 100000000000, .int .u64 1000000000000, .int .u64 10000000000000, .int .u64 100000000000000, .int .u64 1000000000000000, .int .u64 10000000000000000, .int .u64 100000000000000000, .int .u64 1000000000000000000, .int .u64 10000000000000000000])
      |>.modify 2 (putTab #[.int .u8 0, .int .u8 1, .int .u8 28, .int .u8 2, .int .u8 29, .int .u8 14, .int .u8 24, .int .u8 3, .int .u8 30, .int .u8 22, .int .u8 20, .int .u8 15, .int .u8 25, .int .u8 17, .int .u8 4, .int .u8 8, .int .u8 31, .int .u8 27, .int .u8 13, .int .u8 23, .int .u8 21, .int .u8 19, .int .u8 16, .int .u8 7, .int .u8 26, .int .u8 12, .int .u8 18, .int .u8 6, .int .u8 11, .int .u8 5, .int .u8 10, .int .u8 9])
      |>.modify 3 (putTab #[.int .u8 0, .int .u8 1, .int .u8 56, .int .u8 2, .int .u8 57, .int .u8 49, .int .u8 28, .int .u8 3, .int .u8 61, .int .u8 58, .int .u8 42, .int .u8 50, .int .u8 38, .int .u8 29, .int .u8 17, .int .u8 4, .int .u8 62, .int .u8 47, .int .u8 59, .int .u8 36, .int .u8 45, .int .u8 43, .int .u8 51, .int .u8 22, .int .u8 53, .int .u8 39, .int .u8 33, .int .u8 30, .int .u8 24, .int .u8 18, .int .u8 12, .int .u8 5, .int .u8 63, .int .u8 55, .int .u8 48, .int .u8 27, .int .u8 60, .int .u8 41, .int .u8 37, .int .u8 16, .int .u8 46, .int .u8 35, .int .u8 44, .int .u8 21, .int .u8 52, .int .u8 32, .int .u8 23, .int .u8 11, .int .u8 54, .int .u8 26, .int .u8 40, .int .u8 15, .int .u8 34, .int .u8 20, .int .u8 31, .int .u8 10, .int .u8 25, .int .u8 14, .int .u8 19, .int .u8 9, .int .u8 13, .int .u8 8, .int .u8 7, .int .u8 6])) }
end Go.Proofs.YthoodkbdpnffdaaGreatDoor

/-
  Own work: the plain mathematics of shared nodes: lists of nodes, links, what a link says, how a table's nodes are built.
-/
namespace Cho

/-- A node: its variable, where it goes on for no, where for yes. Link 0 is no, 1 is yes, k + 2 is node k. -/
abbrev Nd := Nat × Nat × Nat

def join (ns : List Nd) (n : Nd) : List Nd × Nat :=
  if n.2.1 = n.2.2 then (ns, n.2.1) else (if n ∈ ns then ns else ns ++ [n], ns.idxOf n + 2)

def build : List Nat → Nat → List Nd → List Nd × Nat
  | [], t, ns => (ns, if t.testBit 0 then 1 else 0)
  | v :: vs, t, ns =>
    join (build vs (fix t v true) (build vs (fix t v false) ns).1).1
      (v, (build vs (fix t v false) ns).2, (build vs (fix t v true) (build vs (fix t v false) ns).1).2)

theorem join_len (ns : List Nd) (n : Nd) : ns.length ≤ (join ns n).1.length ∧ (join ns n).1.length ≤ ns.length + 1 := by
  unfold join
  split
  · exact ⟨Nat.le_refl _, Nat.le_succ _⟩
  · split
    · exact ⟨Nat.le_refl _, Nat.le_succ _⟩
    · simp

theorem idxOf_first {l : List Nd} {n : Nd} {k : Nat} (hk : k < l.length) (e : l[k] = n) (h : ∀ j (hj : j < l.length), j < k → l[j] ≠ n) : l.idxOf n = k := by
  induction l generalizing k with
  | nil => simp at hk
  | cons a l ih =>
    cases k with
    | zero => simp at e; simp [e]
    | succ k =>
      have h0 : a ≠ n := by have := h 0 (by simp) (by omega); simpa using this
      rw [List.idxOf_cons]
      have hb : (a == n) = false := by simpa using h0
      rw [hb]
      have := ih (k := k) (by simpa using hk) (by simpa using e) (fun j hj hjk => by have := h (j + 1) (by simpa using hj) (by omega); simpa using this)
      simp [this]
theorem join_found {ns : List Nd} {v no yes k : Nat} (hn : no ≠ yes) (hk : k < ns.length) (e : ns[k] = (v, no, yes)) (h : ∀ j (hj : j < ns.length), j < k → ns[j] ≠ (v, no, yes)) :
    join ns (v, no, yes) = (ns, k + 2) := by
  have hm : (v, no, yes) ∈ ns := by rw [← e]; exact List.getElem_mem hk
  unfold join
  rw [if_neg hn, if_pos hm, idxOf_first hk e h]
theorem join_new {ns : List Nd} {v no yes : Nat} (hn : no ≠ yes) (h : ∀ j (hj : j < ns.length), ns[j] ≠ (v, no, yes)) :
    join ns (v, no, yes) = (ns ++ [(v, no, yes)], ns.length + 2) := by
  have hm : (v, no, yes) ∉ ns := by
    intro hm
    obtain ⟨j, hj, e⟩ := List.getElem_of_mem hm
    exact h j hj e
  unfold join
  rw [if_neg hn, if_neg hm, List.idxOf_eq_length hm]

theorem build_len (vs : List Nat) : ∀ (t : Nat) (ns : List Nd), ns.length ≤ (build vs t ns).1.length ∧ (build vs t ns).1.length + 1 ≤ ns.length + 2 ^ vs.length := by
  induction vs with
  | nil => intro t ns; simp [build]
  | cons v vs ih =>
    intro t ns
    have h1 := ih (fix t v false) ns
    have h2 := ih (fix t v true) (build vs (fix t v false) ns).1
    have h3 := join_len (build vs (fix t v true) (build vs (fix t v false) ns).1).1 (v, (build vs (fix t v false) ns).2, (build vs (fix t v true) (build vs (fix t v false) ns).1).2)
    have e : 2 ^ (v :: vs).length = 2 * 2 ^ vs.length := by rw [List.length_cons, Nat.pow_succ]; omega
    rw [e]
    simp only [build]
    omega

end Cho
