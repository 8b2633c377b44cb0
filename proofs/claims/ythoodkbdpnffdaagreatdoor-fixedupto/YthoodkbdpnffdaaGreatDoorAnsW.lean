/-
  Own work: Support of a store's functions, by their tables (walks over contracts, and plain mathematics).
-/
import Derived.Test.YthoodkbdpnffdaaGreatDoorSupW
import Derived.Test.YthoodkbdpnffdaaGreatDoorTakeW
import Derived.Test.YthoodkbdpnffdaaGreatDoorCallB
namespace Go.Proofs.YthoodkbdpnffdaaGreatDoor
open Go.RowKit
open Cho (U64 Tab full col Nd Red)

set_option maxHeartbeats 400000 in
theorem support_ok (s a : Nat) (st : St) (w : World) (h : Has w s st) (hl : st.live a) :
    Calls Tryz.prog 40 #[.pointer (some ⟨s, 0, none⟩), .int .u32 a] w fun e w' => e = .returned (.tuple #[.int .u8 (st.sup a : Nat), .int .i64 0]) ∧ Below w.heap.size w w' := by
  have H : Hid (Has w s st) := h
  obtain ⟨go, capo, nv, B, hb, ho, hcur, hcap, hr⟩ := h.lies.ex
  have d1 : w.cell? ⟨s, 63 + 1, none⟩ = some nv := (cell_of_block hb 64).trans (by rw [List.getElem?_toArray, at_64 h.lies.hs30 h.lies.rs30])
  have HR : Hid (w.ownsRow B 153 3 nv st.ns.length (flat st.ns)) := hr
  have HD : Hid (w.cell? ⟨s, 63 + 1, none⟩ = some nv) := d1
  have HROOT : Hid (Calls Tryz.prog 85 #[.pointer (some ⟨s, 0, none⟩), .int .u32 a] w fun e w' => e = .returned (.tuple #[.int .i64 (st.root a : Nat), .int .i64 0]) ∧ w' = w) := root_yes s a st w h.lies hl
  have HT : Hid (st.sup a = supTo st.ns (Cho.reached st.ns [st.root a]) st.ns.length) := rfl
  have hrl := h.inv.root_lt hl
  have hfew := h.few
  clear h hb ho hcur hr d1
  generalize st.sup a = T at *
  generalize st.root a = r at *
  go_enter Tryz.func40, Tryz.ntmps40
  go_wp2_with fail
  refine HROOT.out.mono ?_
  rintro e w1 ⟨rfl, rfl⟩
  go_wp2_with fail
  refine (dsupport_calls s 63 B st.ns nv r _ HD.out HR.out H.out.inv.red.wf (fun n hn => H.out.inv.ord6 _ (H.out.inv.red.var n hn)) hrl (by omega)).mono ?_
  rintro e w2 ⟨rfl, hb2⟩
  go_wp2_with fail
  go_ret2
  exact ⟨by rw [HT.out]; rfl, hb2⟩

/-- Which variables a table hangs on: place by place, variable by variable. -/
def inn (t p acc : Nat) : Nat → Nat
  | 0 => acc
  | i + 1 => if t.testBit p ≠ t.testBit (p ^^^ 2 ^ i) then inn t p acc i ||| 2 ^ i else inn t p acc i
def hg (t n : Nat) : Nat → Nat
  | 0 => 0
  | p + 1 => inn t p (hg t n p) n
theorem inn_bit (t p acc k i : Nat) : (inn t p acc k).testBit i = true ↔ acc.testBit i = true ∨ (i < k ∧ t.testBit p ≠ t.testBit (p ^^^ 2 ^ i)) := by
  induction k with
  | zero => simp [inn]
  | succ k ih =>
    simp only [inn]
    by_cases e : i = k
    · subst e
      split
      · rename_i h
        rw [Nat.testBit_or, Nat.testBit_two_pow_self]; simp [h]
      · rename_i h
        rw [ih]; simp at h; simp [h]
    · have hb : (2 ^ k).testBit i = false := Nat.testBit_two_pow_of_ne (fun h => e h.symm)
      have hlt : (i < k + 1) = (i < k) := by simp; omega
      split
      · rw [Nat.testBit_or, hb, Bool.or_false, ih, hlt]
      · rw [ih, hlt]
theorem hg_bit (t n k i : Nat) : (hg t n k).testBit i = true ↔ i < n ∧ ∃ p, p < k ∧ t.testBit p ≠ t.testBit (p ^^^ 2 ^ i) := by
  induction k with
  | zero => simp [hg]
  | succ k ih =>
    simp only [hg]
    rw [inn_bit, ih]
    constructor
    · rintro (⟨h1, p, h2, h3⟩ | ⟨h1, h2⟩)
      · exact ⟨h1, p, by omega, h3⟩
      · exact ⟨h1, k, by omega, h2⟩
    · rintro ⟨h1, p, h2, h3⟩
      by_cases e : p = k
      · subst e; exact .inr ⟨h1, h3⟩
      · exact .inl ⟨h1, p, by omega, h3⟩
theorem inn_lt (t p acc k : Nat) (ha : acc < 64) (hk : k ≤ 6) : inn t p acc k < 64 := by
  induction k with
  | zero => exact ha
  | succ k ih =>
    simp only [inn]; split
    · exact Nat.or_lt_two_pow (n := 6) (ih (by omega)) (Nat.pow_lt_pow_right (by decide) (by omega))
    · exact ih (by omega)
theorem hg_lt (t n k : Nat) (hn : n ≤ 6) : hg t n k < 64 := by
  induction k with
  | zero => simp [hg]
  | succ k ih => exact inn_lt _ _ _ _ ih hn

theorem xor_put (p i : Nat) : p ^^^ 2 ^ i = Cho.put p i (!p.testBit i) := by
  unfold Cho.put; rw [if_neg (by simp)]
theorem sup_eq {st : St} (h : Inv st) {a : Nat} (ha : st.live a) : st.sup a = hg (st.tab a) st.n (2 ^ st.n) := by
  apply Nat.eq_of_testBit_eq
  intro i
  rw [Bool.eq_iff_iff, sup_bit h ha, hg_bit]
  have hl := h.root_lt ha
  by_cases hi : i < st.n
  · simp only [hi, true_and]
    have key : ∀ p, p < 2 ^ st.n → ((st.tab a).testBit p ≠ (st.tab a).testBit (p ^^^ 2 ^ i) ↔ Cho.ev st.ns (st.root a) p ≠ Cho.ev st.ns (st.root a) (Cho.put p i (!p.testBit i))) := by
      intro p hp
      have hp2 : p ^^^ 2 ^ i < 2 ^ st.n := Nat.xor_lt_two_pow hp (Nat.pow_lt_pow_right (by decide) hi)
      rw [tab_bit st a p hp, tab_bit st a _ hp2, xor_put]
    constructor
    · intro hn
      apply Classical.byContradiction
      intro hno
      apply hn
      intro p b
      have hm : p % 2 ^ st.n < 2 ^ st.n := Nat.mod_lt _ (Nat.two_pow_pos _)
      have e1 : (Cho.put p i b) % 2 ^ st.n = Cho.put (p % 2 ^ st.n) i b := by
        apply Nat.eq_of_testBit_eq
        intro q
        simp only [Nat.testBit_mod_two_pow, Cho.put_testBit]
        by_cases hq : q = i
        · subst hq; simp [hi]
        · simp [hq]
      rw [ev_mask h (Cho.put p i b) _ hl, ev_mask h p _ hl, e1]
      by_cases hb : (p % 2 ^ st.n).testBit i = b
      · rw [show Cho.put (p % 2 ^ st.n) i b = p % 2 ^ st.n from by simp [Cho.put, hb]]
      · have hbb : b = !(p % 2 ^ st.n).testBit i := by revert hb; cases b <;> cases (p % 2 ^ st.n).testBit i <;> simp
        have := fun hne => hno ⟨p % 2 ^ st.n, hm, (key _ hm).2 hne⟩
        rw [hbb]
        exact (Classical.not_not.1 this).symm
    · rintro ⟨p, hp, hne⟩ hall
      exact (key p hp).1 hne (hall p _).symm
  · simp only [hi, false_and, iff_false, Classical.not_not]
    intro p b
    rw [ev_mask h (Cho.put p i b) _ hl, ev_mask h p _ hl]
    congr 1
    apply Nat.eq_of_testBit_eq
    intro q
    simp only [Nat.testBit_mod_two_pow, Cho.put_testBit]
    by_cases hq : q = i
    · subst hq; simp [hi]
    · simp [hq]

end Go.Proofs.YthoodkbdpnffdaaGreatDoor

/-
  Own work: the questions in all cases, of the program and of the document's answer, by what a handle calls (walks over contracts).
-/
namespace Go.Proofs.YthoodkbdpnffdaaGreatDoor
open Go.RowKit
open Cho (U64 Tab full col Nd Red)

/-- What is answered of the function of a handle, if it is live: the number, the error. -/
def tableA (g : Option Nat) : Nat × Nat := match g with | some f => (f, 0) | none => (0, 2)
def countA (g : Option Nat) : Nat × Nat := match g with | some f => (Cho.cnt f 64, 0) | none => (0, 2)
def oneA (g : Option Nat) : Nat × Nat := match g with | some f => (if f = 0 then (0, 5) else (Cho.least f 64, 0)) | none => (0, 2)
theorem oneA_some {f : Nat} (h : f ≠ 0) : (oneA (some f)).1 = Cho.least f 64 ∧ (oneA (some f)).2 = 0 := by
  unfold oneA; simp only [if_neg h]; exact ⟨trivial, trivial⟩
theorem oneA_zero {f : Nat} (h : f = 0) : (oneA (some f)).1 = 0 ∧ (oneA (some f)).2 = 5 := by
  unfold oneA; simp only [if_pos h]; exact ⟨trivial, trivial⟩
def supA (n : Nat) (g : Option Nat) : Nat × Nat := match g with | some f => (supT n f, 0) | none => (0, 2)
def evalA (n p : Nat) (g : Option Nat) : Bool × Nat := if p < 2 ^ n then match g with | some f => (f.testBit p, 0) | none => (false, 2) else (false, 1)
def sameA (g h : Option Nat) : Bool × Nat := match g, h with | some x, some y => (decide (x = y), 0) | _, _ => (false, 2)
def sizeA (k : Nat → Nat) (g : Option Nat) : Nat × Nat := match g with | some f => (k f, 0) | none => (0, 2)

/-! ### The document's answer -/
section
variable (B y a : Nat) (r : RSt) (rv ov : Value) (w : World)
theorem rtable_ans (hr : RefAt B w y r rv ov) : Calls Tryz.prog 37 #[.pointer (some ⟨y, 0, none⟩), .int .u32 a] w fun e w' => e = .returned (.tuple #[.int .u64 ((tableA (r.get a)).1 : Nat), .int .i64 ((tableA (r.get a)).2 : Nat)]) ∧ Below w.heap.size w w' := by
  cases ha : r.get a with
  | none => exact rtable_none B y a r rv ov w hr ha
  | some f => exact rtable_some B y a f r rv ov w hr ha
theorem rcount_ans (hr : RefAt B w y r rv ov) : Calls Tryz.prog 43 #[.pointer (some ⟨y, 0, none⟩), .int .u32 a] w fun e w' => e = .returned (.tuple #[.int .i64 ((countA (r.get a)).1 : Nat), .int .i64 ((countA (r.get a)).2 : Nat)]) ∧ Below w.heap.size w w' := by
  cases ha : r.get a with
  | none => exact rcount_none B y a r rv ov w hr ha
  | some f => exact rcount_some B y a f r rv ov w hr ha
theorem rone_ans (hr : RefAt B w y r rv ov) : Calls Tryz.prog 45 #[.pointer (some ⟨y, 0, none⟩), .int .u32 a] w fun e w' => e = .returned (.tuple #[.int .u8 ((oneA (r.get a)).1 : Nat), .int .i64 ((oneA (r.get a)).2 : Nat)]) ∧ Below w.heap.size w w' := by
  cases ha : r.get a with
  | none => exact rone_none B y a r rv ov w hr ha
  | some f =>
    by_cases h0 : f = 0
    · subst h0
      rw [(oneA_zero rfl).1, (oneA_zero rfl).2]; exact rone_zero B y a r rv ov w hr ha
    · rw [(oneA_some h0).1, (oneA_some h0).2]; exact rone_some B y a f r rv ov w hr ha h0
theorem rsupport_ans (hr : RefAt B w y r rv ov) : Calls Tryz.prog 41 #[.pointer (some ⟨y, 0, none⟩), .int .u32 a] w fun e w' => e = .returned (.tuple #[.int .u8 ((supA r.n (r.get a)).1 : Nat), .int .i64 ((supA r.n (r.get a)).2 : Nat)]) ∧ Below w.heap.size w w' := by
  cases ha : r.get a with
  | none => exact rsupport_none B y a r rv ov w hr ha
  | some f => exact rsupport_some B y a f r rv ov w hr ha
theorem rsize_ans (hr : RefAt B w y r rv ov) : Calls Tryz.prog 47 #[.pointer (some ⟨y, 0, none⟩), .int .u32 a] w fun e w' => e = .returned (.tuple #[.int .i64 ((sizeA r.size (r.get a)).1 : Nat), .int .i64 ((sizeA r.size (r.get a)).2 : Nat)]) ∧ Below w.heap.size w w' := by
  cases ha : r.get a with
  | none => exact rsize_none B y a r rv ov w hr ha
  | some f => exact rsize_some B y a f r rv ov w hr ha
theorem reval_ans (hr : RefAt B w y r rv ov) (p : Nat) (hp8 : p < 256) : Calls Tryz.prog 35 #[.pointer (some ⟨y, 0, none⟩), .int .u32 a, .int .u8 p] w fun e w' => e = .returned (.tuple #[.bool (evalA r.n p (r.get a)).1, .int .i64 ((evalA r.n p (r.get a)).2 : Nat)]) ∧ Below w.heap.size w w' := by
  unfold evalA
  by_cases hp : p < 2 ^ r.n
  · rw [if_pos hp]
    cases ha : r.get a with
    | none => exact reval_none B y a p r rv ov w hr hp8 hp ha
    | some f => exact reval_some B y a p f r rv ov w hr hp ha
  · rw [if_neg hp]; exact reval_arg B y a p r rv ov w hr hp8 hp
theorem rsame_ans (hr : RefAt B w y r rv ov) (b : Nat) : Calls Tryz.prog 39 #[.pointer (some ⟨y, 0, none⟩), .int .u32 a, .int .u32 b] w fun e w' => e = .returned (.tuple #[.bool (sameA (r.get a) (r.get b)).1, .int .i64 ((sameA (r.get a) (r.get b)).2 : Nat)]) ∧ Below w.heap.size w w' := by
  by_cases hab : ∃ x z, r.get a = some x ∧ r.get b = some z
  · obtain ⟨x, z, h1, h2⟩ := hab
    rw [h1, h2]
    exact rsame_some B y a b x z r rv ov w hr h1 h2
  · have e : sameA (r.get a) (r.get b) = (false, 2) := by
      unfold sameA
      split
      · rename_i x z h1 h2; exact absurd ⟨x, z, h1, h2⟩ hab
      · rfl
    rw [e]
    exact rsame_none B y a b r rv ov w hr hab
theorem rrelease_ans (hr : RefAt B w y r rv ov) (hB : B ≤ w.heap.size) : Calls Tryz.prog 33 #[.pointer (some ⟨y, 0, none⟩), .int .u32 a] w fun e w' => e = .returned (.int .i64 ((r.release a).2 : Nat)) ∧ RStep B w w' y rv ov (r.release a).1 := by
  unfold RSt.release
  cases ha : r.get a with
  | none =>
    refine (rrelease_none B y a r rv ov w hr ha).mono ?_
    rintro e w' ⟨rfl, rfl⟩
    exact ⟨rfl, .same hr (Below.refl _ _)⟩
  | some f => exact rrelease_some B y a f r rv ov w hr hB ha
end

/-! ### The program -/
set_option maxHeartbeats 400000 in
theorem scount_no (s a : Nat) (st : St) (w : World) (h : StoreAt w s st) (hl : ¬ st.live a) :
    Calls Tryz.prog 42 #[.pointer (some ⟨s, 0, none⟩), .int .u32 a] w fun e w' => e = .returned (.tuple #[.int .i64 0, .int .i64 2]) ∧ w' = w := by
  have HR : Hid (Calls Tryz.prog 36 #[.pointer (some ⟨s, 0, none⟩), .int .u32 a] w fun e w' => e = .returned (.tuple #[.int .u64 0, .int .i64 2]) ∧ w' = w) := table_no s a st w h hl
  clear h
  go_enter Tryz.func42, Tryz.ntmps42
  go_wp2_with fail
  refine HR.out.mono ?_
  rintro e w1 ⟨rfl, rfl⟩
  go_wp2_with fail
  go_ret2
  exact ⟨rfl, rfl⟩
set_option maxHeartbeats 400000 in
theorem sone_no (s a : Nat) (st : St) (w : World) (h : StoreAt w s st) (hl : ¬ st.live a) :
    Calls Tryz.prog 44 #[.pointer (some ⟨s, 0, none⟩), .int .u32 a] w fun e w' => e = .returned (.tuple #[.int .u8 0, .int .i64 2]) ∧ w' = w := by
  have HR : Hid (Calls Tryz.prog 36 #[.pointer (some ⟨s, 0, none⟩), .int .u32 a] w fun e w' => e = .returned (.tuple #[.int .u64 0, .int .i64 2]) ∧ w' = w) := table_no s a st w h hl
  clear h
  go_enter Tryz.func44, Tryz.ntmps44
  go_wp2_with fail
  refine HR.out.mono ?_
  rintro e w1 ⟨rfl, rfl⟩
  go_wp2_with fail
  go_ret2
  exact ⟨rfl, rfl⟩
set_option maxHeartbeats 400000 in
theorem ssupport_no (s a : Nat) (st : St) (w : World) (h : StoreAt w s st) (hl : ¬ st.live a) :
    Calls Tryz.prog 40 #[.pointer (some ⟨s, 0, none⟩), .int .u32 a] w fun e w' => e = .returned (.tuple #[.int .u8 0, .int .i64 2]) ∧ w' = w := by
  have HR : Hid (Calls Tryz.prog 85 #[.pointer (some ⟨s, 0, none⟩), .int .u32 a] w fun e w' => e = .returned (.tuple #[.int .i64 0, .int .i64 2]) ∧ w' = w) := root_no s a st w h hl
  clear h
  go_enter Tryz.func40, Tryz.ntmps40
  go_wp2_with fail
  refine HR.out.mono ?_
  rintro e w1 ⟨rfl, rfl⟩
  go_wp2_with fail
  go_ret2
  exact ⟨rfl, rfl⟩
set_option maxHeartbeats 400000 in
theorem ssize_no (s a : Nat) (st : St) (w : World) (h : StoreAt w s st) (hl : ¬ st.live a) :
    Calls Tryz.prog 46 #[.pointer (some ⟨s, 0, none⟩), .int .u32 a] w fun e w' => e = .returned (.tuple #[.int .i64 0, .int .i64 2]) ∧ w' = w := by
  have HR : Hid (Calls Tryz.prog 85 #[.pointer (some ⟨s, 0, none⟩), .int .u32 a] w fun e w' => e = .returned (.tuple #[.int .i64 0, .int .i64 2]) ∧ w' = w) := root_no s a st w h hl
  clear h
  go_enter Tryz.func46, Tryz.ntmps46
  go_wp2_with fail
  refine HR.out.mono ?_
  rintro e w1 ⟨rfl, rfl⟩
  go_wp2_with fail
  go_ret2
  exact ⟨rfl, rfl⟩
set_option maxHeartbeats 400000 in
theorem seval_no (s a p : Nat) (st : St) (w : World) (h : Has w s st) (hl : ¬ st.live a) (hp8 : p < 256) (hp : p < 2 ^ st.n) :
    Calls Tryz.prog 34 #[.pointer (some ⟨s, 0, none⟩), .int .u32 a, .int .u8 p] w fun e w' => e = .returned (.tuple #[.bool false, .int .i64 2]) ∧ w' = w := by
  have HR : Hid (Calls Tryz.prog 85 #[.pointer (some ⟨s, 0, none⟩), .int .u32 a] w fun e w' => e = .returned (.tuple #[.int .i64 0, .int .i64 2]) ∧ w' = w) := root_no s a st w h.lies hl
  have h0 := h.vars
  have hn := h.inv.n6
  have hle : ¬ wrap64 (2 ^ st.n) ≤ (p : Int) := by rw [wrap64_pow _ hn]; omega
  clear h hp
  go_enter Tryz.func34, Tryz.ntmps34
  go_wp2_with fail
  refine HR.out.mono ?_
  rintro e w1 ⟨rfl, rfl⟩
  go_wp2_with fail
  go_ret2
  exact ⟨rfl, rfl⟩
set_option maxHeartbeats 400000 in
theorem seval_arg (s a p : Nat) (st : St) (w : World) (h : Has w s st) (hp8 : p < 256) (hp : ¬ p < 2 ^ st.n) :
    Calls Tryz.prog 34 #[.pointer (some ⟨s, 0, none⟩), .int .u32 a, .int .u8 p] w fun e w' => e = .returned (.tuple #[.bool false, .int .i64 1]) ∧ w' = w := by
  have h0 := h.vars
  have hn := h.inv.n6
  have hle : wrap64 (2 ^ st.n) ≤ (p : Int) := by rw [wrap64_pow _ hn]; omega
  clear h hp
  go_enter Tryz.func34, Tryz.ntmps34
  go_wp2_with fail
  go_ret2
  exact ⟨rfl, rfl⟩
set_option maxHeartbeats 400000 in
theorem ssame_no (s a b : Nat) (st : St) (w : World) (h : StoreAt w s st) (hl : ¬ (st.live a ∧ st.live b)) :
    Calls Tryz.prog 38 #[.pointer (some ⟨s, 0, none⟩), .int .u32 a, .int .u32 b] w fun e w' => e = .returned (.tuple #[.bool false, .int .i64 2]) ∧ w' = w := by
  by_cases ha : st.live a
  · have hb : ¬ st.live b := fun hb => hl ⟨ha, hb⟩
    have HA : Hid (Calls Tryz.prog 85 #[.pointer (some ⟨s, 0, none⟩), .int .u32 a] w fun e w' => e = .returned (.tuple #[.int .i64 (st.root a : Nat), .int .i64 0]) ∧ w' = w) := root_yes s a st w h ha
    have HB : Hid (Calls Tryz.prog 85 #[.pointer (some ⟨s, 0, none⟩), .int .u32 b] w fun e w' => e = .returned (.tuple #[.int .i64 0, .int .i64 2]) ∧ w' = w) := root_no s b st w h hb
    clear h hl
    generalize st.root a = ra at *
    go_enter Tryz.func38, Tryz.ntmps38
    go_wp2_with fail
    refine HA.out.mono ?_
    rintro e w1 ⟨rfl, rfl⟩
    go_wp2_with fail
    refine HB.out.mono ?_
    rintro e w1 ⟨rfl, rfl⟩
    go_wp2_with fail
    go_ret2
    exact ⟨rfl, rfl⟩
  · have HA : Hid (Calls Tryz.prog 85 #[.pointer (some ⟨s, 0, none⟩), .int .u32 a] w fun e w' => e = .returned (.tuple #[.int .i64 0, .int .i64 2]) ∧ w' = w) := root_no s a st w h ha
    have HB : Hid (Calls Tryz.prog 85 #[.pointer (some ⟨s, 0, none⟩), .int .u32 b] w fun e w' => ∃ x y : Nat, e = .returned (.tuple #[.int .i64 x, .int .i64 y]) ∧ w' = w) := by
      by_cases hb : st.live b
      · exact (root_yes s b st w h hb).mono fun e w' ⟨h1, h2⟩ => ⟨_, 0, h1, h2⟩
      · exact (root_no s b st w h hb).mono fun e w' ⟨h1, h2⟩ => ⟨0, 2, h1, h2⟩
    clear h hl
    go_enter Tryz.func38, Tryz.ntmps38
    go_wp2_with fail
    refine HA.out.mono ?_
    rintro e w1 ⟨rfl, rfl⟩
    go_wp2_with fail
    refine HB.out.mono ?_
    rintro e w1 ⟨x, z, rfl, rfl⟩
    go_wp2_with fail
    go_ret2
    exact ⟨rfl, rfl⟩
set_option maxHeartbeats 400000 in
theorem srelease_no (s a : Nat) (st : St) (w : World) (h : StoreAt w s st) (hl : ¬ st.live a) :
    Calls Tryz.prog 32 #[.pointer (some ⟨s, 0, none⟩), .int .u32 a] w fun e w' => e = .returned (.int .i64 2) ∧ w' = w := by
  obtain ⟨go, capo, nv, B, hb, -⟩ := h.ex
  have hslot := slot_calls s a st _ nv w hb h.hs30
  have hl' : ¬ st.slot a < 30 := hl
  rw [ixOr_ge hl'] at hslot
  have HS : Hid (Calls Tryz.prog 81 #[.pointer (some ⟨s, 0, none⟩), .int .u32 a] w fun e w' => e = .returned (.int .i64 (-1)) ∧ w' = w) := hslot
  clear hslot h hb hl hl'
  go_enter Tryz.func32, Tryz.ntmps32
  go_wp2_with fail
  refine HS.out.mono ?_
  rintro e w1 ⟨rfl, rfl⟩
  go_wp2_with fail
  go_ret
  exact ⟨rfl, rfl⟩
theorem sused_calls (s : Nat) (st : St) (w : World) (h : StoreAt w s st) :
    Calls Tryz.prog 48 #[.pointer (some ⟨s, 0, none⟩)] w fun e w' => e = .returned (.int .i64 (st.ns.length : Nat)) ∧ w' = w := by
  obtain ⟨go, capo, nv, B, hb, ho, hcur, hcap, hr⟩ := h.ex
  obtain ⟨ao, cap, rfl⟩ := owns_slice hr
  have d1 : w.cell? ⟨s, 63 + 1, none⟩ = some (.slice ao st.ns.length cap) := (cell_of_block hb 64).trans (by rw [List.getElem?_toArray, at_64 h.hs30 h.rs30])
  have HD : Hid (w.cell? ⟨s, 63 + 1, none⟩ = some (.slice ao st.ns.length cap)) := d1
  clear h hb ho hcur hr d1
  go_enter Tryz.func48, Tryz.ntmps48
  go_wp2_with fail
  refine (nodes_calls s 63 _ cap ao _ HD.out).mono ?_
  rintro e w1 ⟨rfl, rfl⟩
  go_wp2_with fail
  go_ret
  exact ⟨rfl, rfl⟩
theorem new_bad (n room : Int) (w : World) (hbad : ¬ (1 ≤ n ∧ n ≤ 6 ∧ 1 ≤ room ∧ room ≤ 4000)) :
    Calls Tryz.prog 10 #[.int .i64 n, .int .i64 room] w fun e w' => e = .returned (.tuple #[.pointer none, .int .i64 1]) ∧ w' = w := by
  have hc : n < 1 ∨ (1 ≤ n ∧ 6 < n) ∨ (1 ≤ n ∧ n ≤ 6 ∧ room < 1) ∨ (1 ≤ n ∧ n ≤ 6 ∧ 1 ≤ room ∧ 4000 < room) := by omega
  clear hbad
  rcases hc with h | ⟨h1, h2⟩ | ⟨h1, h2, h3⟩ | ⟨h1, h2, h3, h4⟩
  all_goals
    go_enter Tryz.func10, Tryz.ntmps10
    go_wp2_with fail
    go_ret2
    exact ⟨rfl, rfl⟩

theorem hg_sup {n t : Nat} : hg t n (2 ^ n) = supT n t := by
  apply Nat.eq_of_testBit_eq
  intro i
  unfold supT
  rw [Cho.bld_testBit, Bool.eq_iff_iff, hg_bit, Bool.and_eq_true, decide_eq_true_iff, hangsTo_iff]
  constructor
  · rintro ⟨hi, p, hp, hne⟩
    refine ⟨hi, p, hp, ?_⟩
    rw [xor_put] at hne
    have hs := Cho.put_self p i
    cases hb : p.testBit i
    · rw [hb] at hs hne; rw [hs]; exact hne
    · rw [hb] at hs hne; rw [hs]; exact fun e => hne e.symm
  · rintro ⟨hi, p, hp, hne⟩
    refine ⟨hi, Cho.put p i false, Cho.put_lt p i n false hi hp, ?_⟩
    rw [xor_put, Cho.put_testBit, if_pos rfl, Cho.put_put]
    exact hne
section
variable (s a : Nat) (st : St) (w : World)
theorem stable_ans (h : Has w s st) : Calls Tryz.prog 36 #[.pointer (some ⟨s, 0, none⟩), .int .u32 a] w fun e w' => e = .returned (.tuple #[.int .u64 ((tableA (st.get a)).1 : Nat), .int .i64 ((tableA (st.get a)).2 : Nat)]) ∧ Below w.heap.size w w' := by
  cases ha : st.get a with
  | none => exact table_none s a st w h ha
  | some f => exact table_some s a f st w h ha
theorem scount_ans (h : Has w s st) : Calls Tryz.prog 42 #[.pointer (some ⟨s, 0, none⟩), .int .u32 a] w fun e w' => e = .returned (.tuple #[.int .i64 ((countA (st.get a)).1 : Nat), .int .i64 ((countA (st.get a)).2 : Nat)]) ∧ Below w.heap.size w w' := by
  cases ha : st.get a with
  | none => exact (scount_no s a st w h.lies (St.dead_of ha)).mono fun e w' ⟨h1, h2⟩ => ⟨h1, h2 ▸ Below.refl _ _⟩
  | some f =>
    obtain ⟨hl, rfl⟩ := St.live_of ha
    exact count_ok s a st w h hl
theorem sone_ans (h : Has w s st) : Calls Tryz.prog 44 #[.pointer (some ⟨s, 0, none⟩), .int .u32 a] w fun e w' => e = .returned (.tuple #[.int .u8 ((oneA (st.get a)).1 : Nat), .int .i64 ((oneA (st.get a)).2 : Nat)]) ∧ Below w.heap.size w w' := by
  cases ha : st.get a with
  | none => exact (sone_no s a st w h.lies (St.dead_of ha)).mono fun e w' ⟨h1, h2⟩ => ⟨h1, h2 ▸ Below.refl _ _⟩
  | some f =>
    obtain ⟨hl, rfl⟩ := St.live_of ha
    by_cases h0 : st.tab a = 0
    · rw [(oneA_zero h0).1, (oneA_zero h0).2]; exact one_none s a st w h hl h0
    · rw [(oneA_some h0).1, (oneA_some h0).2]
      have hlt := (least_lt (tab_tab st a) h.inv.n6 h0).1
      have h64 := Cho.two_pow_le _ h.inv.n6
      exact one_ok s a st w h hl h0 (by omega)
theorem ssupport_ans (h : Has w s st) : Calls Tryz.prog 40 #[.pointer (some ⟨s, 0, none⟩), .int .u32 a] w fun e w' => e = .returned (.tuple #[.int .u8 ((supA st.n (st.get a)).1 : Nat), .int .i64 ((supA st.n (st.get a)).2 : Nat)]) ∧ Below w.heap.size w w' := by
  cases ha : st.get a with
  | none => exact (ssupport_no s a st w h.lies (St.dead_of ha)).mono fun e w' ⟨h1, h2⟩ => ⟨h1, h2 ▸ Below.refl _ _⟩
  | some f =>
    obtain ⟨hl, rfl⟩ := St.live_of ha
    have := support_ok s a st w h hl
    rw [sup_eq h.inv hl, hg_sup] at this
    exact this
theorem ssize_ans (h : Has w s st) : Calls Tryz.prog 46 #[.pointer (some ⟨s, 0, none⟩), .int .u32 a] w fun e w' => e = .returned (.tuple #[.int .i64 ((sizeA (fun _ => st.size a) (st.get a)).1 : Nat), .int .i64 ((sizeA (fun _ => st.size a) (st.get a)).2 : Nat)]) ∧ Below w.heap.size w w' := by
  cases ha : st.get a with
  | none => exact (ssize_no s a st w h.lies (St.dead_of ha)).mono fun e w' ⟨h1, h2⟩ => ⟨h1, h2 ▸ Below.refl _ _⟩
  | some f =>
    obtain ⟨hl, rfl⟩ := St.live_of ha
    exact size_ok s a st w h hl
theorem seval_ans (h : Has w s st) (p : Nat) (hp8 : p < 256) : Calls Tryz.prog 34 #[.pointer (some ⟨s, 0, none⟩), .int .u32 a, .int .u8 p] w fun e w' => e = .returned (.tuple #[.bool (evalA st.n p (st.get a)).1, .int .i64 ((evalA st.n p (st.get a)).2 : Nat)]) ∧ Below w.heap.size w w' := by
  unfold evalA
  by_cases hp : p < 2 ^ st.n
  · rw [if_pos hp]
    cases ha : st.get a with
    | none => exact (seval_no s a p st w h (St.dead_of ha) hp8 hp).mono fun e w' ⟨h1, h2⟩ => ⟨h1, h2 ▸ Below.refl _ _⟩
    | some f =>
      obtain ⟨hl, rfl⟩ := St.live_of ha
      exact eval_ok s a p st w h hl hp
  · rw [if_neg hp]
    exact (seval_arg s a p st w h hp8 hp).mono fun e w' ⟨h1, h2⟩ => ⟨h1, h2 ▸ Below.refl _ _⟩
theorem ssame_ans (h : Has w s st) (b : Nat) : Calls Tryz.prog 38 #[.pointer (some ⟨s, 0, none⟩), .int .u32 a, .int .u32 b] w fun e w' => e = .returned (.tuple #[.bool (sameA (st.get a) (st.get b)).1, .int .i64 ((sameA (st.get a) (st.get b)).2 : Nat)]) ∧ Below w.heap.size w w' := by
  by_cases hab : st.live a ∧ st.live b
  · rw [St.get_live hab.1, St.get_live hab.2]
    exact (same_ok s a b st w h hab.1 hab.2).mono fun e w' ⟨h1, h2⟩ => ⟨h1, h2 ▸ Below.refl _ _⟩
  · have e : sameA (st.get a) (st.get b) = (false, 2) := by
      unfold sameA
      split
      · rename_i x z h1 h2; exact absurd ⟨(St.live_of h1).1, (St.live_of h2).1⟩ hab
      · rfl
    rw [e]
    exact (ssame_no s a b st w h.lies hab).mono fun e w' ⟨h1, h2⟩ => ⟨h1, h2 ▸ Below.refl _ _⟩
end
def St.release (st : St) (a : Nat) : St × Nat :=
  match st.get a with
  | some _ => (st.released a, 0)
  | none => (st, 2)
theorem srelease_ans (s a : Nat) (st : St) (w : World) (h : Has w s st) (hc : Clean st) : Calls Tryz.prog 32 #[.pointer (some ⟨s, 0, none⟩), .int .u32 a] w fun e w' => e = .returned (.int .i64 ((st.release a).2 : Nat)) ∧ CStep w w' s (st.release a).1 := by
  unfold St.release
  cases ha : st.get a with
  | none =>
    refine (srelease_no s a st w h.lies (St.dead_of ha)).mono ?_
    rintro e w' ⟨rfl, rfl⟩
    exact ⟨rfl, .same h (Below.refl _ _)⟩
  | some f =>
    obtain ⟨hl, rfl⟩ := St.live_of ha
    have hf := freed h.inv hc hl
    refine (release_walk s a st w h hl).mono ?_
    rintro e w' ⟨rfl, h1, h2⟩
    exact ⟨rfl, ⟨h1, hf.inv, Nat.le_trans hf.len h.few⟩, h2⟩
end Go.Proofs.YthoodkbdpnffdaaGreatDoor
