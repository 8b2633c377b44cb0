/-
  Own work: 'Support' of a link is the set of the variables that its function hangs on (a walk, and plain mathematics).
-/
import Derived.Test.YthoodkbdpnffdabDoorPlainI
import Derived.Test.YthoodkbdpnffdabDoorInv
namespace Go.Proofs.YthoodkbdpnffdabDoor
open Go.RowKit
open Cho (U64 Tab full col Nd Red)

/-- The variables of the nodes that are marked, of the first k. -/
def supTo (ns : List Nd) (b : List Bool) : Nat → Nat
  | 0 => 0
  | k + 1 => if b.getD (k + 2) false then supTo ns b k ||| 2 ^ (ns.getD k (0, 0, 0)).1 else supTo ns b k
theorem supTo_lt (ns : List Nd) (b : List Bool) (hv : ∀ n ∈ ns, n.1 < 6) (k : Nat) (hk : k ≤ ns.length) : supTo ns b k < 256 := by
  induction k with
  | zero => simp [supTo]
  | succ k ih =>
    simp only [supTo]; split
    · have hn : ns.getD k (0, 0, 0) = ns[k] := by simp [List.getD, show k < ns.length by omega]
      have := hv ns[k] (List.getElem_mem _)
      rw [hn]
      exact Nat.or_lt_two_pow (n := 8) (ih (by omega)) (Nat.pow_lt_pow_right (by decide) (by omega))
    · exact ih (by omega)
theorem supTo_bit (ns : List Nd) (b : List Bool) (k i : Nat) (hk : k ≤ ns.length) : (supTo ns b k).testBit i = true ↔ ∃ j, ∃ hj : j < ns.length, j < k ∧ b.getD (j + 2) false = true ∧ ns[j].1 = i := by
  induction k with
  | zero => simp [supTo]
  | succ k ih =>
    have hn : ns.getD k (0, 0, 0) = ns[k] := by simp [List.getD, show k < ns.length by omega]
    simp only [supTo]
    split
    · rename_i hb
      rw [Nat.testBit_or, hn, Nat.testBit_two_pow, Bool.or_eq_true, ih (by omega)]
      constructor
      · rintro (⟨j, hj, h1, h2, h3⟩ | h)
        · exact ⟨j, hj, by omega, h2, h3⟩
        · exact ⟨k, by omega, by omega, hb, by simpa using h⟩
      · rintro ⟨j, hj, h1, h2, h3⟩
        by_cases e : j = k
        · subst e; right; simpa using h3
        · left; exact ⟨j, hj, by omega, h2, h3⟩
    · rename_i hb
      rw [ih (by omega)]
      constructor
      · rintro ⟨j, hj, h1, h2, h3⟩; exact ⟨j, hj, by omega, h2, h3⟩
      · rintro ⟨j, hj, h1, h2, h3⟩
        by_cases e : j = k
        · subst e; exact absurd h2 (by simpa using hb)
        · exact ⟨j, hj, by omega, h2, h3⟩

theorem put_comm (p i j : Nat) (a b : Bool) (h : i ≠ j) : Cho.put (Cho.put p i a) j b = Cho.put (Cho.put p j b) i a := by
  apply Nat.eq_of_testBit_eq
  intro q
  simp only [Cho.put_testBit]
  by_cases h1 : q = i <;> by_cases h2 : q = j <;> simp_all

/-- A function hangs on just the variables that its nodes ask for. -/
theorem hangs_iff {ord : List Nat} {ns : List Nd} (h : Red ord ns) (l i : Nat) (hl : l < ns.length + 2) :
    (∃ k, ∃ hk : k < ns.length, Cho.Reach ns [l] (k + 2) ∧ ns[k].1 = i) ↔ ¬ ∀ p b, Cho.ev ns l (Cho.put p i b) = Cho.ev ns l p := by
  constructor
  · rintro ⟨k, hk, hr, hi⟩ hind
    have hbase : ∀ m ∈ [l], m < ns.length + 2 ∧ ∀ p b, Cho.ev ns m (Cho.put p i b) = Cho.ev ns m p := by
      intro m hm
      obtain rfl : m = l := by simpa using hm
      exact ⟨hl, hind⟩
    have hS := hr (fun l => l < ns.length + 2 ∧ ∀ p b, Cho.ev ns l (Cho.put p i b) = Cho.ev ns l p) hbase (fun k hk hS => ?_)
    · -- the node itself
      have hw := h.wf k hk
      have hlow := h.low k hk
      have hv := h.var ns[k] (List.getElem_mem hk)
      apply h.diff k hk
      apply Cho.canon h _ _ _ (Nat.le_max_left _ _) (Nat.le_max_right _ _) (by omega) (by omega)
      intro p
      have e0 := hS.2 p false
      have e1 := hS.2 p true
      rw [Cho.ev_node h.wf _ hk, hi, Cho.put_testBit, if_pos rfl] at e0 e1
      simp only [Bool.false_eq_true, if_false, if_true] at e0 e1
      rw [← hi, Cho.ev_indep h p _ _ _ (by omega) hlow.1 hv] at e0
      rw [← hi, Cho.ev_indep h p _ _ _ (by omega) hlow.2 hv] at e1
      rw [e0, e1]
    · have hw := h.wf k hk
      have hlow := h.low k hk
      have hv := h.var ns[k] (List.getElem_mem hk)
      have hne : ns[k].1 ≠ i := by
        intro hi
        apply h.diff k hk
        apply Cho.canon h _ _ _ (Nat.le_max_left _ _) (Nat.le_max_right _ _) (by omega) (by omega)
        intro p
        have e0 := hS.2 p false
        have e1 := hS.2 p true
        rw [Cho.ev_node h.wf _ hk, hi, Cho.put_testBit, if_pos rfl] at e0 e1
        simp only [Bool.false_eq_true, if_false, if_true] at e0 e1
        rw [← hi, Cho.ev_indep h p _ _ _ (by omega) hlow.1 hv] at e0
        rw [← hi, Cho.ev_indep h p _ _ _ (by omega) hlow.2 hv] at e1
        rw [e0, e1]
      have part : ∀ (c : Bool) p b, (if c then Cho.ev ns ns[k].2.2 (Cho.put p i b) else Cho.ev ns ns[k].2.1 (Cho.put p i b)) = (if c then Cho.ev ns ns[k].2.2 p else Cho.ev ns ns[k].2.1 p) := by
        intro c p b
        have e := hS.2 (Cho.put p ns[k].1 c) b
        rw [put_comm _ _ _ _ _ hne, Cho.ev_node h.wf _ hk, Cho.ev_node h.wf _ hk, Cho.put_testBit, if_pos rfl, Cho.put_testBit, if_pos rfl] at e
        rw [Cho.ev_indep h _ _ _ ns[k].2.1 (by omega) hlow.1 hv, Cho.ev_indep h _ _ _ ns[k].2.2 (by omega) hlow.2 hv] at e
        rw [Cho.ev_indep h _ _ _ ns[k].2.1 (by omega) hlow.1 hv, Cho.ev_indep h _ _ _ ns[k].2.2 (by omega) hlow.2 hv] at e
        exact e
      exact ⟨⟨by omega, fun p b => by simpa using part false p b⟩, ⟨by omega, fun p b => by simpa using part true p b⟩⟩
  · intro hn
    apply Classical.byContradiction
    intro hno
    apply hn
    have hno' : ∀ k (hk : k < ns.length), Cho.Reach ns [l] (k + 2) → ns[k].1 ≠ i := fun k hk hr hi => hno ⟨k, hk, hr, hi⟩
    have key : ∀ m, m < ns.length + 2 → Cho.Reach ns [l] m → ∀ p b, Cho.ev ns m (Cho.put p i b) = Cho.ev ns m p := by
      intro m
      induction m using Nat.strongRecOn with
      | ind m ih =>
        intro hm hr p b
        by_cases h2 : m < 2
        · rw [Cho.ev_small _ _ _ h2, Cho.ev_small _ _ _ h2]
        · obtain ⟨k, rfl⟩ : ∃ k, m = k + 2 := ⟨m - 2, by omega⟩
          have hk : k < ns.length := by omega
          have hw := h.wf k hk
          have hne := hno' k hk hr
          have r1 : Cho.Reach ns [l] ns[k].2.1 := fun S a b => (b k hk (hr S a b)).1
          have r2 : Cho.Reach ns [l] ns[k].2.2 := fun S a b => (b k hk (hr S a b)).2
          rw [Cho.ev_node h.wf _ hk, Cho.ev_node h.wf _ hk, Cho.put_testBit, if_neg hne]
          rw [ih _ (by omega) (by omega) r1, ih _ (by omega) (by omega) r2]
    exact key l hl (fun S a _ => a l (by simp))

theorem bit_or8 (a v : Nat) (ha : a < 256) (hv : v < 6) : bits .or .u8 (a : Int) (IntKind.u8.wrap (2 ^ v)) = ((a ||| 2 ^ v : Nat) : Int) := by
  have h : (2 : Nat) ^ v < 256 := Nat.lt_of_lt_of_le (Nat.pow_lt_pow_right (by decide) hv) (by decide)
  have e : IntKind.u8.wrap (2 ^ v) = ((2 ^ v : Nat) : Int) := by
    rw [IntKind.wrap_u8', show ((2 : Int) ^ v) = ((2 ^ v : Nat) : Int) from by simp, show (256 : Int) = ((256 : Nat) : Int) from rfl, ← Int.natCast_emod, Nat.mod_eq_of_lt h]
  rw [e, u8_or_nat a (2 ^ v) ha h]

/-- The set that a handle's function hangs on. -/
def St.sup (st : St) (a : Nat) : Nat := supTo st.ns (Cho.reached st.ns [st.root a]) st.ns.length
theorem sup_lt {st : St} (h : Inv st) (a : Nat) : st.sup a < 256 := supTo_lt _ _ (fun n hn => h.ord6 _ (h.red.var n hn)) _ (Nat.le_refl _)
theorem sup_bit {st : St} (h : Inv st) {a : Nat} (ha : st.live a) (i : Nat) : (st.sup a).testBit i = true ↔ ¬ ∀ p b, Cho.ev st.ns (st.root a) (Cho.put p i b) = Cho.ev st.ns (st.root a) p := by
  have hl := h.root_lt ha
  rw [← hangs_iff h.red _ _ hl]
  unfold St.sup
  rw [supTo_bit _ _ _ _ (Nat.le_refl _)]
  constructor
  · rintro ⟨j, hj, _, hb, hi⟩
    exact ⟨j, hj, (Cho.reached_iff h.red.wf _ (by simpa using hl) _ (by omega)).1 hb, hi⟩
  · rintro ⟨j, hj, hr, hi⟩
    exact ⟨j, hj, hj, (Cho.reached_iff h.red.wf _ (by simpa using hl) _ (by omega)).2 hr, hi⟩
end Go.Proofs.YthoodkbdpnffdabDoor
