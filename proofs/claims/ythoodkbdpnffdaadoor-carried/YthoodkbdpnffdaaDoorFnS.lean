/-
  Own work: Support of a store's functions, by their tables (walks over contracts, and plain mathematics).
-/
import Derived.Test.YthoodkbdpnffdaaDoorSupW
import Derived.Test.YthoodkbdpnffdaaDoorPubW
import Derived.Test.YthoodkbdpnffdaaDoorFnW
namespace Go.Proofs.YthoodkbdpnffdaaDoor
open Go.RowKit
open Cho (U64 Tab full col Nd Red)

set_option maxHeartbeats 400000 in
theorem support_ok (s a : Nat) (st : St) (w : World) (h : Has w s st) (hl : st.live a) :
    Calls Tryd.prog 22 #[.pointer (some ⟨s, 0, none⟩), .int .u32 a] w fun e w' => e = .returned (.tuple #[.int .u8 (st.sup a : Nat), .int .i64 0]) ∧ Below w.heap.size w w' := by
  have H : Hid (Has w s st) := h
  obtain ⟨go, capo, nv, B, hb, ho, hcur, hcap, hr⟩ := h.lies.ex
  have d1 : w.cell? ⟨s, 63 + 1, none⟩ = some nv := (cell_of_block hb 64).trans (by rw [List.getElem?_toArray, at_64 h.lies.hs30 h.lies.rs30])
  have HR : Hid (w.ownsRow B 122 3 nv st.ns.length (flat st.ns)) := hr
  have HD : Hid (w.cell? ⟨s, 63 + 1, none⟩ = some nv) := d1
  have HROOT : Hid (Calls Tryd.prog 46 #[.pointer (some ⟨s, 0, none⟩), .int .u32 a] w fun e w' => e = .returned (.tuple #[.int .i64 (st.root a : Nat), .int .i64 0]) ∧ w' = w) := root_yes s a st w h.lies hl
  have HT : Hid (st.sup a = supTo st.ns (Cho.reached st.ns [st.root a]) st.ns.length) := rfl
  have hrl := h.inv.root_lt hl
  have hfew := h.few
  clear h hb ho hcur hr d1
  generalize st.sup a = T at *
  generalize st.root a = r at *
  go_enter Tryd.func22, Tryd.ntmps22
  go_wp2_with fail
  refine HROOT.out.mono ?_
  rintro e w1 ⟨rfl, rfl⟩
  go_wp2_with fail
  refine (dsupport_calls s 63 B st.ns nv r _ HD.out HR.out H.out.inv.red.wf (fun n hn => H.out.inv.ord6 _ (H.out.inv.red.var n hn)) hrl (by omega)).mono ?_
  rintro e w2 ⟨rfl, hb2⟩
  go_wp2_with fail
  go_ret2
  exact ⟨by rw [HT.out]; rfl, hb2⟩

/-- Which variables a table hangs on: place by place, variable by variable. -/
def inn (t p acc : Nat) : Nat → Nat
  | 0 => acc
  | i + 1 => if t.testBit p ≠ t.testBit (p ^^^ 2 ^ i) then inn t p acc i ||| 2 ^ i else inn t p acc i
def hg (t n : Nat) : Nat → Nat
  | 0 => 0
  | p + 1 => inn t p (hg t n p) n
theorem inn_bit (t p acc k i : Nat) : (inn t p acc k).testBit i = true ↔ acc.testBit i = true ∨ (i < k ∧ t.testBit p ≠ t.testBit (p ^^^ 2 ^ i)) := by
  induction k with
  | zero => simp [inn]
  | succ k ih =>
    simp only [inn]
    by_cases e : i = k
    · subst e
      split
      · rename_i h
        rw [Nat.testBit_or, Nat.testBit_two_pow_self]; simp [h]
      · rename_i h
        rw [ih]; simp at h; simp [h]
    · have hb : (2 ^ k).testBit i = false := Nat.testBit_two_pow_of_ne (fun h => e h.symm)
      have hlt : (i < k + 1) = (i < k) := by simp; omega
      split
      · rw [Nat.testBit_or, hb, Bool.or_false, ih, hlt]
      · rw [ih, hlt]
theorem hg_bit (t n k i : Nat) : (hg t n k).testBit i = true ↔ i < n ∧ ∃ p, p < k ∧ t.testBit p ≠ t.testBit (p ^^^ 2 ^ i) := by
  induction k with
  | zero => simp [hg]
  | succ k ih =>
    simp only [hg]
    rw [inn_bit, ih]
    constructor
    · rintro (⟨h1, p, h2, h3⟩ | ⟨h1, h2⟩)
      · exact ⟨h1, p, by omega, h3⟩
      · exact ⟨h1, k, by omega, h2⟩
    · rintro ⟨h1, p, h2, h3⟩
      by_cases e : p = k
      · subst e; exact .inr ⟨h1, h3⟩
      · exact .inl ⟨h1, p, by omega, h3⟩
theorem inn_lt (t p acc k : Nat) (ha : acc < 64) (hk : k ≤ 6) : inn t p acc k < 64 := by
  induction k with
  | zero => exact ha
  | succ k ih =>
    simp only [inn]; split
    · exact Nat.or_lt_two_pow (n := 6) (ih (by omega)) (Nat.pow_lt_pow_right (by decide) (by omega))
    · exact ih (by omega)
theorem hg_lt (t n k : Nat) (hn : n ≤ 6) : hg t n k < 64 := by
  induction k with
  | zero => simp [hg]
  | succ k ih => exact inn_lt _ _ _ _ ih hn

theorem xor_put (p i : Nat) : p ^^^ 2 ^ i = Cho.put p i (!p.testBit i) := by
  unfold Cho.put; rw [if_neg (by simp)]
theorem sup_eq {st : St} (h : Inv st) {a : Nat} (ha : st.live a) : st.sup a = hg (st.tab a) st.n (2 ^ st.n) := by
  apply Nat.eq_of_testBit_eq
  intro i
  rw [Bool.eq_iff_iff, sup_bit h ha, hg_bit]
  have hl := h.root_lt ha
  by_cases hi : i < st.n
  · simp only [hi, true_and]
    have key : ∀ p, p < 2 ^ st.n → ((st.tab a).testBit p ≠ (st.tab a).testBit (p ^^^ 2 ^ i) ↔ Cho.ev st.ns (st.root a) p ≠ Cho.ev st.ns (st.root a) (Cho.put p i (!p.testBit i))) := by
      intro p hp
      have hp2 : p ^^^ 2 ^ i < 2 ^ st.n := Nat.xor_lt_two_pow hp (Nat.pow_lt_pow_right (by decide) hi)
      rw [tab_bit st a p hp, tab_bit st a _ hp2, xor_put]
    constructor
    · intro hn
      apply Classical.byContradiction
      intro hno
      apply hn
      intro p b
      have hm : p % 2 ^ st.n < 2 ^ st.n := Nat.mod_lt _ (Nat.two_pow_pos _)
      have e1 : (Cho.put p i b) % 2 ^ st.n = Cho.put (p % 2 ^ st.n) i b := by
        apply Nat.eq_of_testBit_eq
        intro q
        simp only [Nat.testBit_mod_two_pow, Cho.put_testBit]
        by_cases hq : q = i
        · subst hq; simp [hi]
        · simp [hq]
      rw [ev_mask h (Cho.put p i b) _ hl, ev_mask h p _ hl, e1]
      by_cases hb : (p % 2 ^ st.n).testBit i = b
      · rw [show Cho.put (p % 2 ^ st.n) i b = p % 2 ^ st.n from by simp [Cho.put, hb]]
      · have hbb : b = !(p % 2 ^ st.n).testBit i := by revert hb; cases b <;> cases (p % 2 ^ st.n).testBit i <;> simp
        have := fun hne => hno ⟨p % 2 ^ st.n, hm, (key _ hm).2 hne⟩
        rw [hbb]
        exact (Classical.not_not.1 this).symm
    · rintro ⟨p, hp, hne⟩ hall
      exact (key p hp).1 hne (hall p _).symm
  · simp only [hi, false_and, iff_false, Classical.not_not]
    intro p b
    rw [ev_mask h (Cho.put p i b) _ hl, ev_mask h p _ hl]
    congr 1
    apply Nat.eq_of_testBit_eq
    intro q
    simp only [Nat.testBit_mod_two_pow, Cho.put_testBit]
    by_cases hq : q = i
    · subst hq; simp [hi]
    · simp [hq]

end Go.Proofs.YthoodkbdpnffdaaDoor

/-
  Own work: Support and One of a store's functions, by their tables (walks over contracts, and plain mathematics).
-/
namespace Go.Proofs.YthoodkbdpnffdaaDoor
open Go.RowKit
open Cho (U64 Tab full col Nd Red)

theorem fn_support (B : Nat) (w0 w : World) (s n i : Nat) (fs : List Nat) (a : Int) (h : Fn B w0 w s n fs) (hi : i < fs.length) (ha : a = i + 1) :
    Calls Tryd.prog 22 #[.pointer (some ⟨s, 0, none⟩), .int .u32 a] w fun e w' => e = .returned (.tuple #[.int .u8 (hg fs[i] n (2 ^ n) : Nat), .int .i64 0]) ∧ Fn B w0 w' s n fs := by
  obtain ⟨st, hst, hfew, rfl, hall⟩ := h.ex
  obtain ⟨li, ei⟩ := hall i hi
  have := support_ok s (i + 1) st w hst li
  rw [show (((i + 1 : Nat)) : Int) = a from by omega, sup_eq hst.inv li, ei] at this
  refine this.mono ?_
  rintro e w' ⟨rfl, hb⟩
  exact ⟨rfl, h.below hb⟩

/-- What One answers: the place; the error. -/
def oneP (t : Nat) : Nat := if t = 0 then 0 else Cho.least t 64
def oneE (t : Nat) : Int := if t = 0 then 5 else 0
theorem least_lt {t : Nat} (ht : U64 t) (h0 : t ≠ 0) : Cho.least t 64 < 64 := by
  obtain ⟨p, hp, hb⟩ := Cho.nz_bit ht h0
  obtain ⟨h1, h2, _⟩ := Cho.least_spec t 64
  by_cases h : Cho.least t 64 < 64
  · exact h
  · have := h2 p (by omega); rw [hb] at this; cases this
theorem fn_one (B : Nat) (w0 w : World) (s n i : Nat) (fs : List Nat) (a : Int) (h : Fn B w0 w s n fs) (hi : i < fs.length) (ha : a = i + 1) :
    Calls Tryd.prog 21 #[.pointer (some ⟨s, 0, none⟩), .int .u32 a] w fun e w' => e = .returned (.tuple #[.int .u8 (oneP fs[i] : Nat), .int .i64 (oneE fs[i])]) ∧ Fn B w0 w' s n fs := by
  have ht := h.tab i hi
  have h6 := h.n6
  obtain ⟨st, hst, hfew, rfl, hall⟩ := h.ex
  obtain ⟨li, ei⟩ := hall i hi
  by_cases h0 : fs[i] = 0
  · have := one_none s (i + 1) st w hst li (by rw [ei, h0])
    rw [show (((i + 1 : Nat)) : Int) = a from by omega] at this
    refine this.mono ?_
    rintro e w' ⟨rfl, hb⟩
    exact ⟨by simp [oneP, oneE, h0], h.below hb⟩
  · have := one_ok s (i + 1) st w hst li (by rw [ei]; exact h0) (by rw [ei]; exact least_lt (ht.u64 h6) h0)
    rw [show (((i + 1 : Nat)) : Int) = a from by omega, ei] at this
    refine this.mono ?_
    rintro e w' ⟨rfl, hb⟩
    exact ⟨by simp [oneP, oneE, h0], h.below hb⟩
end Go.Proofs.YthoodkbdpnffdaaDoor
