/-
  Own work: for all, and for some, values of the variables of a set, place by place (plain mathematics).
-/
import Derived.Test.YthoodkbdpnffdabGreatDoorPlainQ
import Derived.Test.YthoodkbdpnffdabGreatDoorRefK
namespace Cho

/-- They differ in variables of the set alone. -/
def Near (n set p q : Nat) : Prop := ∀ i, i < n → p.testBit i ≠ q.testBit i → set.testBit i = true
instance (n set p q : Nat) : Decidable (Near n set p q) := by unfold Near; infer_instance
/-- .. of its first k variables alone. -/
def NearTo (k n set p q : Nat) : Prop := ∀ i, i < n → p.testBit i ≠ q.testBit i → i < k ∧ set.testBit i = true
theorem nearTo_zero {n set p q : Nat} (hp : p < 2 ^ n) (hq : q < 2 ^ n) : NearTo 0 n set p q ↔ p = q := by
  constructor
  · intro h
    apply Nat.eq_of_testBit_eq
    intro i
    by_cases hi : i < n
    · apply Classical.byContradiction
      intro hne; have := (h i hi hne).1; omega
    · rw [Nat.testBit_lt_two_pow (Nat.lt_of_lt_of_le hp (Nat.pow_le_pow_right (by decide) (by omega))), Nat.testBit_lt_two_pow (Nat.lt_of_lt_of_le hq (Nat.pow_le_pow_right (by decide) (by omega)))]
  · rintro rfl i hi h; exact absurd rfl h
theorem nearTo_all {n set p q : Nat} : NearTo n n set p q ↔ Near n set p q :=
  ⟨fun h i hi hne => (h i hi hne).2, fun h i hi hne => ⟨hi, h i hi hne⟩⟩
theorem nearTo_skip {k n set p q : Nat} (hs : set.testBit k = false) : NearTo (k + 1) n set p q ↔ NearTo k n set p q := by
  constructor
  · intro h i hi hne
    obtain ⟨h1, h2⟩ := h i hi hne
    refine ⟨?_, h2⟩
    by_cases e : i = k
    · subst e; rw [hs] at h2; cases h2
    · omega
  · intro h i hi hne
    have := h i hi hne
    exact ⟨by omega, this.2⟩
theorem nearTo_step {k n set p q : Nat} (hs : set.testBit k = true) : NearTo (k + 1) n set p q ↔ ∃ b, NearTo k n set (put p k b) q := by
  constructor
  · intro h
    refine ⟨q.testBit k, fun i hi hne => ?_⟩
    rw [put_testBit] at hne
    by_cases e : i = k
    · subst e; simp at hne
    · rw [if_neg e] at hne
      have := h i hi hne
      exact ⟨by omega, this.2⟩
  · rintro ⟨b, h⟩ i hi hne
    by_cases e : i = k
    · subst e; exact ⟨by omega, hs⟩
    · have := h i hi (by rw [put_testBit, if_neg e]; exact hne)
      exact ⟨by omega, this.2⟩
theorem allTo_bit {n t set : Nat} (h : Tab n t) (hn : n ≤ 6) (hs : set < 2 ^ n) : ∀ k, k ≤ n → ∀ p, p < 2 ^ n → ((allTo t set k).testBit p = true ↔ ∀ q, q < 2 ^ n → NearTo k n set p q → t.testBit q = true) := by
  intro k
  induction k with
  | zero =>
    intro _ p hp
    simp only [allTo]
    constructor
    · intro ht q hq hnr
      rw [← (nearTo_zero hp hq).1 hnr]; exact ht
    · intro hall; exact hall p hp ((nearTo_zero hp hp).2 rfl)
  | succ k ih =>
    intro hk p hp
    simp only [allTo]
    have hT := allTo_tab h hn hs k
    cases hb : set.testBit k
    · simp only [Bool.false_eq_true, if_false]
      rw [ih (by omega) p hp]
      exact ⟨fun hall q hq hnr => hall q hq ((nearTo_skip hb).1 hnr), fun hall q hq hnr => hall q hq ((nearTo_skip hb).2 hnr)⟩
    · simp only [if_true]
      rw [Nat.testBit_and, fix_at k p true hT hn (by omega) hp, fix_at k p false hT hn (by omega) hp, Bool.and_eq_true, ih (by omega) _ (put_lt p k n true (by omega) hp), ih (by omega) _ (put_lt p k n false (by omega) hp)]
      constructor
      · rintro ⟨h1, h2⟩ q hq hnr
        obtain ⟨b, hb'⟩ := (nearTo_step hb).1 hnr
        cases b
        · exact h2 q hq hb'
        · exact h1 q hq hb'
      · intro hall
        exact ⟨fun q hq hnr => hall q hq ((nearTo_step hb).2 ⟨true, hnr⟩), fun q hq hnr => hall q hq ((nearTo_step hb).2 ⟨false, hnr⟩)⟩
theorem someTo_bit {n t set : Nat} (h : Tab n t) (hn : n ≤ 6) (hs : set < 2 ^ n) : ∀ k, k ≤ n → ∀ p, p < 2 ^ n → ((someTo t set k).testBit p = true ↔ ∃ q, q < 2 ^ n ∧ NearTo k n set p q ∧ t.testBit q = true) := by
  intro k
  induction k with
  | zero =>
    intro _ p hp
    simp only [someTo]
    constructor
    · intro ht; exact ⟨p, hp, (nearTo_zero hp hp).2 rfl, ht⟩
    · rintro ⟨q, hq, hnr, ht⟩
      rw [(nearTo_zero hp hq).1 hnr]; exact ht
  | succ k ih =>
    intro hk p hp
    simp only [someTo]
    have hT := someTo_tab h hn hs k
    cases hb : set.testBit k
    · simp only [Bool.false_eq_true, if_false]
      rw [ih (by omega) p hp]
      constructor
      · rintro ⟨q, hq, hnr, ht⟩; exact ⟨q, hq, (nearTo_skip hb).2 hnr, ht⟩
      · rintro ⟨q, hq, hnr, ht⟩; exact ⟨q, hq, (nearTo_skip hb).1 hnr, ht⟩
    · simp only [if_true]
      rw [Nat.testBit_or, fix_at k p true hT hn (by omega) hp, fix_at k p false hT hn (by omega) hp, Bool.or_eq_true, ih (by omega) _ (put_lt p k n true (by omega) hp), ih (by omega) _ (put_lt p k n false (by omega) hp)]
      constructor
      · rintro (⟨q, hq, hnr, ht⟩ | ⟨q, hq, hnr, ht⟩)
        · exact ⟨q, hq, (nearTo_step hb).2 ⟨true, hnr⟩, ht⟩
        · exact ⟨q, hq, (nearTo_step hb).2 ⟨false, hnr⟩, ht⟩
      · rintro ⟨q, hq, hnr, ht⟩
        obtain ⟨b, hb'⟩ := (nearTo_step hb).1 hnr
        cases b
        · exact .inr ⟨q, hq, hb', ht⟩
        · exact .inl ⟨q, hq, hb', ht⟩
theorem allTo_end {n t set : Nat} (hs : set < 2 ^ n) (j : Nat) : allTo t set (n + j) = allTo t set n ∧ someTo t set (n + j) = someTo t set n := by
  induction j with
  | zero => exact ⟨rfl, rfl⟩
  | succ j ih =>
    have hb : set.testBit (n + j) = false := Nat.testBit_lt_two_pow (Nat.lt_of_lt_of_le hs (Nat.pow_le_pow_right (by decide) (by omega)))
    rw [← Nat.add_assoc]
    simp only [allTo, someTo, hb, Bool.false_eq_true, if_false]
    exact ih

/-- Of the first k places that are near to p: all; one at least. -/
def everyTo (n t set p : Nat) : Nat → Bool
  | 0 => true
  | k + 1 => if Near n set p k then everyTo n t set p k && t.testBit k else everyTo n t set p k
def anyTo (n t set p : Nat) : Nat → Bool
  | 0 => false
  | k + 1 => if Near n set p k then anyTo n t set p k || t.testBit k else anyTo n t set p k
theorem everyTo_iff (n t set p k : Nat) : everyTo n t set p k = true ↔ ∀ q, q < k → Near n set p q → t.testBit q = true := by
  induction k with
  | zero => simp [everyTo]
  | succ k ih =>
    simp only [everyTo]
    split
    · rename_i h
      rw [Bool.and_eq_true, ih]
      constructor
      · rintro ⟨h1, h2⟩ q hq hn
        by_cases e : q = k
        · subst e; exact h2
        · exact h1 q (by omega) hn
      · intro hall; exact ⟨fun q hq => hall q (by omega), hall k (by omega) h⟩
    · rename_i h
      rw [ih]
      constructor
      · intro h1 q hq hn
        by_cases e : q = k
        · subst e; exact absurd hn h
        · exact h1 q (by omega) hn
      · intro hall q hq; exact hall q (by omega)
theorem anyTo_iff (n t set p k : Nat) : anyTo n t set p k = true ↔ ∃ q, q < k ∧ Near n set p q ∧ t.testBit q = true := by
  induction k with
  | zero => simp [anyTo]
  | succ k ih =>
    simp only [anyTo]
    split
    · rename_i h
      rw [Bool.or_eq_true, ih]
      constructor
      · rintro (⟨q, h1, h2⟩ | h2)
        · exact ⟨q, by omega, h2⟩
        · exact ⟨k, by omega, h, h2⟩
      · rintro ⟨q, hq, hn, ht⟩
        by_cases e : q = k
        · subst e; exact .inr ht
        · exact .inl ⟨q, by omega, hn, ht⟩
    · rename_i h
      rw [ih]
      constructor
      · rintro ⟨q, h1, h2⟩; exact ⟨q, by omega, h2⟩
      · rintro ⟨q, hq, hn, ht⟩
        by_cases e : q = k
        · subst e; exact absurd hn h
        · exact ⟨q, by omega, hn, ht⟩
theorem bld_all {n t set : Nat} (h : Tab n t) (hn : n ≤ 6) (hs : set < 2 ^ n) : bld (fun p => everyTo n t set p (2 ^ n)) (2 ^ n) = allTo t set 6 := by
  rw [show (6 : Nat) = n + (6 - n) from by omega, (allTo_end hs _).1]
  apply bld_eq (allTo_tab h hn hs n)
  intro p hp
  rw [Bool.eq_iff_iff, everyTo_iff, allTo_bit h hn hs n (Nat.le_refl _) p hp]
  exact ⟨fun hall q hq hnr => hall q hq (nearTo_all.1 hnr), fun hall q hq hnr => hall q hq (nearTo_all.2 hnr)⟩
theorem bld_some {n t set : Nat} (h : Tab n t) (hn : n ≤ 6) (hs : set < 2 ^ n) : bld (fun p => anyTo n t set p (2 ^ n)) (2 ^ n) = someTo t set 6 := by
  rw [show (6 : Nat) = n + (6 - n) from by omega, (allTo_end hs _).2]
  apply bld_eq (someTo_tab h hn hs n)
  intro p hp
  rw [Bool.eq_iff_iff, anyTo_iff, someTo_bit h hn hs n (Nat.le_refl _) p hp]
  constructor
  · rintro ⟨q, hq, hnr, ht⟩; exact ⟨q, hq, nearTo_all.2 hnr, ht⟩
  · rintro ⟨q, hq, hnr, ht⟩; exact ⟨q, hq, nearTo_all.1 hnr, ht⟩
/-- For all, or for some, values of the variables of a set. -/
def quantT (t x : Nat) (all : Bool) : Nat := if all then allTo t x 6 else someTo t x 6
theorem quantT_tab {n t x : Nat} (all : Bool) (h : Tab n t) (hn : n ≤ 6) (hx : x < 2 ^ n) : Tab n (quantT t x all) := by
  cases all
  · exact someTo_tab h hn hx 6
  · exact allTo_tab h hn hx 6
theorem bld_quant {n t set : Nat} (all : Bool) (h : Tab n t) (hn : n ≤ 6) (hs : set < 2 ^ n) : bld (fun p => (all && everyTo n t set p (2 ^ n)) || (!all && anyTo n t set p (2 ^ n))) (2 ^ n) = quantT t set all := by
  cases all
  · simpa [quantT] using bld_some h hn hs
  · simpa [quantT] using bld_all h hn hs
end Cho

/-
  Own work: the document's answer: Quantify (walks).
-/
namespace Go.Proofs.YthoodkbdpnffdabGreatDoor
open Go.RowKit
open Cho (U64 Tab full col)

set_option maxRecDepth 100000 in
set_option maxHeartbeats 1000000 in
theorem rdiffer_calls (s n p q x : Nat) (w : World) (h0 : w.cell? ⟨s, 0, none⟩ = some (.int .i64 n)) (hn : n ≤ 6) :
    Calls Tryz.prog 99 #[.pointer (some ⟨s, 0, none⟩), .int .i64 p, .int .i64 q, .int .i64 x] w fun e w' => e = .returned (.bool (decide (Cho.Near n x p q))) ∧ w' = w := by
  go_enter Tryz.func99, Tryz.ntmps99
  go_wp2_with fail
  go_loopw [9] (fun i wr => ∃ k : Nat, k ≤ n ∧ i = .int .i64 k ∧ wr = w ∧ Hid (∀ i, i < k → p.testBit i ≠ q.testBit i → x.testBit i = true)) (fun i _ => n - (intOf i).toNat)
  case atStart => exact ⟨0, Nat.zero_le _, rfl, rfl, fun i hi => absurd hi (Nat.not_lt_zero _)⟩
  case round =>
    obtain ⟨k, hk, rfl, rfl, HN⟩ := hrel
    by_cases hlt : k < n
    · go_wp2_with fail
      refine (rbit_calls p k _ (by omega)).mono ?_
      rintro e w1 ⟨rfl, rfl⟩
      go_wp2_with fail
      refine (rbit_calls q k _ (by omega)).mono ?_
      rintro e w2 ⟨rfl, rfl⟩
      cases hp : p.testBit k
      · cases hq : q.testBit k
        · have HS : Hid (∀ i, i < k + 1 → p.testBit i ≠ q.testBit i → x.testBit i = true) := by
            intro i hi hne
            by_cases e : i = k
            · subst e; exact absurd (hp.trans hq.symm) hne
            · exact HN.out i (by omega) hne
          go_wp2_with fail
          exact ⟨⟨k + 1, hlt, by go_num, trivial, HS⟩, by simp [intOf]; omega⟩
        · have hpq : p.testBit k ≠ q.testBit k := by rw [hp, hq]; decide
          cases hx : x.testBit k
          · have HF : Hid (decide (Cho.Near n x p q) = false) := by
              apply decide_eq_false
              intro h
              have := h k hlt hpq
              rw [hx] at this; cases this
            have HX : Hid (Calls Tryz.prog 73 #[.int .i64 x, .int .i64 k] w2 fun e w' => e = .returned (.bool false) ∧ w' = w2) := by have := rbit_calls x k w2 (by omega); rw [hx] at this; exact this
            clear hpq
            go_wp2_with fail
            refine HX.out.mono ?_
            rintro e w3 ⟨rfl, rfl⟩
            go_wp2_with fail
            go_ret
            rw [HF.out]
            exact ⟨rfl, rfl⟩
          · have HS : Hid (∀ i, i < k + 1 → p.testBit i ≠ q.testBit i → x.testBit i = true) := by
              intro i hi hne
              by_cases e : i = k
              · subst e; exact hx
              · exact HN.out i (by omega) hne
            have HX : Hid (Calls Tryz.prog 73 #[.int .i64 x, .int .i64 k] w2 fun e w' => e = .returned (.bool true) ∧ w' = w2) := by have := rbit_calls x k w2 (by omega); rw [hx] at this; exact this
            clear hpq
            go_wp2_with fail
            refine HX.out.mono ?_
            rintro e w3 ⟨rfl, rfl⟩
            go_wp2_with fail
            exact ⟨⟨k + 1, hlt, by go_num, trivial, HS⟩, by simp [intOf]; omega⟩
      · cases hq : q.testBit k
        · have hpq : p.testBit k ≠ q.testBit k := by rw [hp, hq]; decide
          cases hx : x.testBit k
          · have HF : Hid (decide (Cho.Near n x p q) = false) := by
              apply decide_eq_false
              intro h
              have := h k hlt hpq
              rw [hx] at this; cases this
            have HX : Hid (Calls Tryz.prog 73 #[.int .i64 x, .int .i64 k] w2 fun e w' => e = .returned (.bool false) ∧ w' = w2) := by have := rbit_calls x k w2 (by omega); rw [hx] at this; exact this
            clear hpq
            go_wp2_with fail
            refine HX.out.mono ?_
            rintro e w3 ⟨rfl, rfl⟩
            go_wp2_with fail
            go_ret
            rw [HF.out]
            exact ⟨rfl, rfl⟩
          · have HS : Hid (∀ i, i < k + 1 → p.testBit i ≠ q.testBit i → x.testBit i = true) := by
              intro i hi hne
              by_cases e : i = k
              · subst e; exact hx
              · exact HN.out i (by omega) hne
            have HX : Hid (Calls Tryz.prog 73 #[.int .i64 x, .int .i64 k] w2 fun e w' => e = .returned (.bool true) ∧ w' = w2) := by have := rbit_calls x k w2 (by omega); rw [hx] at this; exact this
            clear hpq
            go_wp2_with fail
            refine HX.out.mono ?_
            rintro e w3 ⟨rfl, rfl⟩
            go_wp2_with fail
            exact ⟨⟨k + 1, hlt, by go_num, trivial, HS⟩, by simp [intOf]; omega⟩
        · have HS : Hid (∀ i, i < k + 1 → p.testBit i ≠ q.testBit i → x.testBit i = true) := by
            intro i hi hne
            by_cases e : i = k
            · subst e; exact absurd (hp.trans hq.symm) hne
            · exact HN.out i (by omega) hne
          go_wp2_with fail
          exact ⟨⟨k + 1, hlt, by go_num, trivial, HS⟩, by simp [intOf]; omega⟩
    · have HT : Hid (decide (Cho.Near n x p q) = true) := by
        apply decide_eq_true
        intro i hi hne
        exact HN.out i (by omega) hne
      go_wp2_with fail
      go_ret
      rw [HT.out]
      exact ⟨rfl, rfl⟩

def RSt.quantify (r : RSt) (a x : Nat) (all : Bool) : RSt × Nat × Nat :=
  if x < 2 ^ r.n then
    match r.get a with
    | some f => r.made (Cho.quantT f x all)
    | none => (r, 0, 2)
  else (r, 0, 1)

set_option maxRecDepth 100000 in
set_option maxHeartbeats 2000000 in
theorem rquantify_ok (B y a f x : Nat) (all : Bool) (r : RSt) (rv ov : Value) (w : World) (hr : RefAt B w y r rv ov) (hg : r.given + 1 < 4294967296) (ha : r.get a = some f) (hx : x < 2 ^ r.n) :
    Calls Tryz.prog 53 #[.pointer (some ⟨y, 0, none⟩), .int .u32 a, .int .u8 x, .bool all] w fun e w' => e = .returned (.tuple #[.int .u32 ((r.made (Cho.quantT f x all)).2.1 : Nat), .int .i64 ((r.made (Cho.quantT f x all)).2.2 : Nat)]) ∧ RStep B w w' y rv ov (r.made (Cho.quantT f x all)).1 := by
  have HR : Hid (RefAt B w y r rv ov) := hr
  have HA : Hid (r.get a = some f) := ha
  have tf := get_tab hr.ok ha
  have hn := hr.ok.n6
  have h64 := Cho.two_pow_le r.n hn
  have HF : Hid (Cho.bld (fun p => (all && Cho.everyTo r.n f x p (2 ^ r.n)) || (!all && Cho.anyTo r.n f x p (2 ^ r.n))) (2 ^ r.n) = Cho.quantT f x all) := Cho.bld_quant all tf hn hx
  have HT : Hid (Tab r.n (Cho.quantT f x all)) := Cho.quantT_tab all tf hn hx
  have HPL : Hid (Calls Tryz.prog 72 #[.pointer (some ⟨y, 0, none⟩)] w fun e w' => e = .returned (.int .i64 ((2 ^ r.n : Nat) : Nat)) ∧ w' = w) := rplaces_calls y r.n w HR.out.c0 hn
  have HPW : Hid (∀ w1, RefAt B w1 y r rv ov → Calls Tryz.prog 72 #[.pointer (some ⟨y, 0, none⟩)] w1 fun e w' => e = .returned (.int .i64 ((2 ^ r.n : Nat) : Nat)) ∧ w' = w1) := fun w1 h1 => rplaces_calls y r.n w1 h1.c0 hn
  generalize 2 ^ r.n = N at *
  clear hr ha tf
  generalize hjf : Cho.quantT f x all = J at *
  clear hjf
  generalize hf : (fun p => (all && Cho.everyTo r.n f x p N) || (!all && Cho.anyTo r.n f x p N)) = fn at *
  have Hf : Hid (∀ p, ((all && Cho.everyTo r.n f x p N) || (!all && Cho.anyTo r.n f x p N)) = fn p) := by intro p; rw [← hf]
  clear hf
  go_enter Tryz.func53, Tryz.ntmps53
  go_wp2_with fail
  refine HPL.out.mono ?_
  rintro e w0 ⟨rfl, rfl⟩
  go_wp2_with fail
  refine (rfind_some B y a f r _ _ _ HR.out HA.out).mono ?_
  rintro e w1 ⟨⟨j, hj, rfl⟩, rfl⟩
  go_wp2_with fail
  refine (rof_get B y a f r _ _ _ HR.out HA.out).mono ?_
  rintro e w2 ⟨rfl, q, rfl⟩
  have B3 : Hid (Below w1.heap.size w1 (w1.drewN q)) := below_dr _ _
  generalize w1.drewN q = w3 at *
  have HR3 : Hid (RefAt B w3 y r rv ov) := HR.out.below B3.out
  clear HPL
  go_wp2_with fail
  go_loopw [11, 12] (fun u i wr => ∃ m : Nat, m ≤ N ∧ i = .int .i64 m ∧ u = .int .u64 (Cho.bld fn m : Nat) ∧ wr = w3) (fun _ i _ => N - (intOf i).toNat)
  case atStart => exact ⟨0, Nat.zero_le _, rfl, rfl, rfl⟩
  case round =>
    obtain ⟨m, hm, rfl, rfl, rfl⟩ := hrel
    have HC : Hid (Calls Tryz.prog 72 #[.pointer (some ⟨y, 0, none⟩)] wr fun e w' => e = .returned (.int .i64 (N : Nat)) ∧ w' = wr) := HPW.out _ HR3.out
    go_wp2_with fail
    refine HC.out.mono ?_
    rintro e w4 ⟨rfl, rfl⟩
    by_cases hlt : m < N
    · have E : Hid (Cho.bld fn (m + 1) = if fn m then Cho.bld fn m ||| 2 ^ m else Cho.bld fn m) := rfl
      have hu := Cho.bld_u64 fn m (by omega)
      generalize Cho.bld fn m = u at *
      have HFM : Hid (((all && Cho.everyTo r.n f x m N) || (!all && Cho.anyTo r.n f x m N)) = fn m) := Hf.out m
      go_wp2_with fail
      go_loopw [13, 14, 15] (fun e s i wq => ∃ k : Nat, k ≤ N ∧ i = .int .i64 k ∧ e = .bool (Cho.everyTo r.n f x m k) ∧ s = .bool (Cho.anyTo r.n f x m k) ∧ wq = w4) (fun _ _ i _ => N - (intOf i).toNat)
      case atStart => exact ⟨0, Nat.zero_le _, rfl, rfl, rfl, rfl⟩
      case round =>
        obtain ⟨k, hk, rfl, rfl, rfl, rfl⟩ := hrel
        go_wp2_with fail
        refine HC.out.mono ?_
        rintro e w5 ⟨rfl, rfl⟩
        by_cases hkl : k < N
        · have HE1 : Hid (Cho.everyTo r.n f x m (k + 1) = if Cho.Near r.n x m k then Cho.everyTo r.n f x m k && f.testBit k else Cho.everyTo r.n f x m k) := rfl
          have HE2 : Hid (Cho.anyTo r.n f x m (k + 1) = if Cho.Near r.n x m k then Cho.anyTo r.n f x m k || f.testBit k else Cho.anyTo r.n f x m k) := rfl
          generalize Cho.everyTo r.n f x m k = ev at *
          generalize Cho.anyTo r.n f x m k = sm at *
          go_wp2_with fail
          refine (rdiffer_calls y r.n m k x _ HR3.out.c0 hn).mono ?_
          rintro e w6 ⟨rfl, rfl⟩
          by_cases hnear : Cho.Near r.n x m k
          · rw [decide_eq_true hnear]
            cases ev
            · cases sm
              · generalize hfk : f.testBit k = fk at *
                have HFK : Hid (Calls Tryz.prog 77 #[.int .u64 f, .int .i64 k] w6 fun e w' => e = .returned (.bool fk) ∧ w' = w6) := by have := rat_calls f k w6 (by omega); rw [hfk] at this; exact this
                go_wp2_with fail
                refine HFK.out.mono ?_
                rintro e w8 ⟨rfl, rfl⟩
                go_wp2_with fail
                refine ⟨⟨k + 1, hkl, by go_num, val_bool ?_, val_bool ?_, trivial⟩, by simp [intOf]; omega⟩
                · rw [HE1.out, if_pos hnear]; first | rfl | simp
                · rw [HE2.out, if_pos hnear]; first | rfl | simp
              · generalize hfk : f.testBit k = fk at *
                go_wp2_with fail
                refine ⟨⟨k + 1, hkl, by go_num, val_bool ?_, val_bool ?_, trivial⟩, by simp [intOf]; omega⟩
                · rw [HE1.out, if_pos hnear]; first | rfl | simp
                · rw [HE2.out, if_pos hnear]; first | rfl | simp
            · cases sm
              · go_wp2_with fail
                refine (rat_calls f k _ (by omega)).mono ?_
                rintro e w7 ⟨rfl, rfl⟩
                generalize hfk : f.testBit k = fk at *
                have HFK : Hid (Calls Tryz.prog 77 #[.int .u64 f, .int .i64 k] w7 fun e w' => e = .returned (.bool fk) ∧ w' = w7) := by have := rat_calls f k w7 (by omega); rw [hfk] at this; exact this
                go_wp2_with fail
                refine HFK.out.mono ?_
                rintro e w8 ⟨rfl, rfl⟩
                go_wp2_with fail
                refine ⟨⟨k + 1, hkl, by go_num, val_bool ?_, val_bool ?_, trivial⟩, by simp [intOf]; omega⟩
                · rw [HE1.out, if_pos hnear]; first | rfl | simp
                · rw [HE2.out, if_pos hnear]; first | rfl | simp
              · go_wp2_with fail
                refine (rat_calls f k _ (by omega)).mono ?_
                rintro e w7 ⟨rfl, rfl⟩
                generalize hfk : f.testBit k = fk at *
                go_wp2_with fail
                refine ⟨⟨k + 1, hkl, by go_num, val_bool ?_, val_bool ?_, trivial⟩, by simp [intOf]; omega⟩
                · rw [HE1.out, if_pos hnear]; first | rfl | simp
                · rw [HE2.out, if_pos hnear]; first | rfl | simp
          · rw [decide_eq_false hnear]
            go_wp2_with fail
            refine ⟨⟨k + 1, hkl, by go_num, val_bool ?_, val_bool ?_, trivial⟩, by simp [intOf]; omega⟩
            · rw [HE1.out, if_neg hnear]
            · rw [HE2.out, if_neg hnear]
        · have HK : Hid (k = N) := by show k = N; omega
          rw [HK.out]
          generalize Cho.everyTo r.n f x m N = ev at *
          generalize Cho.anyTo r.n f x m N = sm at *
          cases all
          · cases ev
            · cases sm
              · have hfk : fn m = false := by rw [← HFM.out]; rfl
                go_wp2_with fail
                refine ⟨⟨m + 1, hlt, by go_num, val_int ?_, trivial⟩, by simp [intOf]; omega⟩
                rw [E.out, hfk]
                rfl
              · have hfk : fn m = true := by rw [← HFM.out]; rfl
                go_wp2_with fail
                refine ⟨⟨m + 1, hlt, by go_num, val_int ?_, trivial⟩, by simp [intOf]; omega⟩
                rw [E.out, hfk]
                exact setbit64 hu m (by omega)
            · cases sm
              · have hfk : fn m = false := by rw [← HFM.out]; rfl
                go_wp2_with fail
                refine ⟨⟨m + 1, hlt, by go_num, val_int ?_, trivial⟩, by simp [intOf]; omega⟩
                rw [E.out, hfk]
                rfl
              · have hfk : fn m = true := by rw [← HFM.out]; rfl
                go_wp2_with fail
                refine ⟨⟨m + 1, hlt, by go_num, val_int ?_, trivial⟩, by simp [intOf]; omega⟩
                rw [E.out, hfk]
                exact setbit64 hu m (by omega)
          · cases ev
            · cases sm
              · have hfk : fn m = false := by rw [← HFM.out]; rfl
                go_wp2_with fail
                refine ⟨⟨m + 1, hlt, by go_num, val_int ?_, trivial⟩, by simp [intOf]; omega⟩
                rw [E.out, hfk]
                rfl
              · have hfk : fn m = false := by rw [← HFM.out]; rfl
                go_wp2_with fail
                refine ⟨⟨m + 1, hlt, by go_num, val_int ?_, trivial⟩, by simp [intOf]; omega⟩
                rw [E.out, hfk]
                rfl
            · cases sm
              · have hfk : fn m = true := by rw [← HFM.out]; rfl
                go_wp2_with fail
                refine ⟨⟨m + 1, hlt, by go_num, val_int ?_, trivial⟩, by simp [intOf]; omega⟩
                rw [E.out, hfk]
                exact setbit64 hu m (by omega)
              · have hfk : fn m = true := by rw [← HFM.out]; rfl
                go_wp2_with fail
                refine ⟨⟨m + 1, hlt, by go_num, val_int ?_, trivial⟩, by simp [intOf]; omega⟩
                rw [E.out, hfk]
                exact setbit64 hu m (by omega)
    · have HM : Hid (Cho.bld fn m = J) := by show Cho.bld fn m = J; rw [← HF.out, show m = N from by omega]
      generalize Cho.bld fn m = u at *
      obtain rfl := HM.out
      go_wp2_with fail
      refine (rmade_calls B y _ r _ _ _ HR3.out HT.out hg).mono ?_
      rintro e w5 ⟨rfl, h1⟩
      have H1 : Hid _ := h1
      clear h1
      go_wp2_with fail
      go_ret2
      exact ⟨rfl, H1.out.before B3.out⟩

set_option maxRecDepth 100000 in
set_option maxHeartbeats 1000000 in
theorem rquantify_calls (B y a x : Nat) (all : Bool) (r : RSt) (rv ov : Value) (w : World) (hr : RefAt B w y r rv ov) (hg : r.given + 1 < 4294967296) (hx8 : x < 256) :
    Calls Tryz.prog 53 #[.pointer (some ⟨y, 0, none⟩), .int .u32 a, .int .u8 x, .bool all] w fun e w' => e = .returned (.tuple #[.int .u32 ((r.quantify a x all).2.1 : Nat), .int .i64 ((r.quantify a x all).2.2 : Nat)]) ∧ RStep B w w' y rv ov (r.quantify a x all).1 := by
  by_cases hx : x < 2 ^ r.n
  · cases ha : r.get a with
    | some f =>
      have e : r.quantify a x all = r.made (Cho.quantT f x all) := by unfold RSt.quantify; rw [if_pos hx, ha]
      rw [e]
      exact rquantify_ok B y a f x all r rv ov w hr hg ha hx
    | none =>
      have E : Hid (r.quantify a x all = (r, 0, 2)) := by show r.quantify a x all = _; unfold RSt.quantify; rw [if_pos hx, ha]
      have HR : Hid (RefAt B w y r rv ov) := hr
      have HN : Hid (a ∉ r.hs) := get_none ha
      have hn := hr.ok.n6
      have h64 := Cho.two_pow_le r.n hn
      have HPL : Hid (Calls Tryz.prog 72 #[.pointer (some ⟨y, 0, none⟩)] w fun e w' => e = .returned (.int .i64 ((2 ^ r.n : Nat) : Nat)) ∧ w' = w) := rplaces_calls y r.n w hr.c0 hn
      clear hr ha
      generalize 2 ^ r.n = N at *
      go_enter Tryz.func53, Tryz.ntmps53
      go_wp2_with fail
      refine HPL.out.mono ?_
      rintro e w0 ⟨rfl, rfl⟩
      go_wp2_with fail
      refine (rfind_no B y a r _ _ _ HR.out HN.out).mono ?_
      rintro e w1 ⟨rfl, rfl⟩
      go_wp2_with fail
      go_ret2
      rw [E.out]
      exact ⟨rfl, .same HR.out (Below.refl _ _)⟩
  · have E : Hid (r.quantify a x all = (r, 0, 1)) := if_neg hx
    have HR : Hid (RefAt B w y r rv ov) := hr
    have hn := hr.ok.n6
    have h64 := Cho.two_pow_le r.n hn
    have HPL : Hid (Calls Tryz.prog 72 #[.pointer (some ⟨y, 0, none⟩)] w fun e w' => e = .returned (.int .i64 ((2 ^ r.n : Nat) : Nat)) ∧ w' = w) := rplaces_calls y r.n w hr.c0 hn
    clear hr
    generalize 2 ^ r.n = N at *
    go_enter Tryz.func53, Tryz.ntmps53
    go_wp2_with fail
    refine HPL.out.mono ?_
    rintro e w0 ⟨rfl, rfl⟩
    go_wp2_with fail
    go_ret2
    rw [E.out]
    exact ⟨rfl, .same HR.out (Below.refl _ _)⟩
end Go.Proofs.YthoodkbdpnffdabGreatDoor
