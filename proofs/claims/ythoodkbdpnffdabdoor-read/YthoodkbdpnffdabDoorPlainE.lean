/-
  Own work: what a link says at a place, and the nodes that a table's function gets (plain mathematics).
-/
import Derived.Test.YthoodkbdpnffdabDoorPlainD
namespace Cho

/-- Links lead to earlier nodes alone. -/
def Wf (ns : List Nd) : Prop := ∀ k (hk : k < ns.length), ns[k].2.1 < k + 2 ∧ ns[k].2.2 < k + 2

def go (ns : List Nd) (l p : Nat) : Nat :=
  match ns[l - 2]? with
  | none => 0
  | some n => if p.testBit n.1 then n.2.2 else n.2.1
def evF (ns : List Nd) : Nat → Nat → Nat → Bool
  | 0, l, _ => l == 1
  | f + 1, l, p => if l < 2 then l == 1 else evF ns f (go ns l p) p
/-- What link l says at place p. -/
def ev (ns : List Nd) (l p : Nat) : Bool := evF ns l l p

theorem go_lt {ns : List Nd} (h : Wf ns) {l p : Nat} (h2 : 2 ≤ l) (hl : l < ns.length + 2) : go ns l p < l := by
  unfold go
  have hk : l - 2 < ns.length := by omega
  rw [List.getElem?_eq_getElem hk]
  have := h (l - 2) hk
  simp only
  split <;> omega
theorem evF_fuel {ns : List Nd} (h : Wf ns) (p : Nat) : ∀ (l f : Nat), l < ns.length + 2 → l ≤ f → evF ns f l p = evF ns l l p := by
  intro l
  induction l using Nat.strongRecOn with
  | ind l ih =>
    intro f hl hf
    by_cases h2 : l < 2
    · cases f with
      | zero => obtain rfl : l = 0 := by omega
                rfl
      | succ f =>
        cases l with
        | zero => simp [evF]
        | succ l => simp [evF, h2]
    · obtain ⟨f, rfl⟩ : ∃ g, f = g + 1 := ⟨f - 1, by omega⟩
      obtain ⟨l', rfl⟩ : ∃ g, l = g + 1 := ⟨l - 1, by omega⟩
      have hg := go_lt h (p := p) (by omega) hl
      simp only [evF, if_neg h2]
      rw [ih _ hg f (by omega) (by omega), ih _ hg l' (by omega) (by omega)]
theorem ev_0 (ns : List Nd) (p : Nat) : ev ns 0 p = false := rfl
theorem ev_1 (ns : List Nd) (p : Nat) : ev ns 1 p = true := rfl
theorem ev_small (ns : List Nd) (l p : Nat) (h : l < 2) : ev ns l p = (l == 1) := by
  match l, h with
  | 0, _ => rfl
  | 1, _ => rfl
theorem ev_step {ns : List Nd} (h : Wf ns) {l : Nat} (p : Nat) (h2 : 2 ≤ l) (hl : l < ns.length + 2) : ev ns l p = ev ns (go ns l p) p := by
  unfold ev
  obtain ⟨l', rfl⟩ : ∃ g, l = g + 1 := ⟨l - 1, by omega⟩
  have hg := go_lt h (p := p) h2 hl
  conv => lhs; unfold evF
  rw [if_neg (by omega), evF_fuel h p _ l' (by omega) (by omega)]
theorem ev_node {ns : List Nd} (h : Wf ns) {k : Nat} (p : Nat) (hk : k < ns.length) : ev ns (k + 2) p = if p.testBit ns[k].1 then ev ns ns[k].2.2 p else ev ns ns[k].2.1 p := by
  rw [ev_step h p (by omega) (by omega)]
  unfold go
  rw [show k + 2 - 2 = k from by omega, List.getElem?_eq_getElem hk]
  simp only
  split <;> rfl
theorem go_append {ns ms : List Nd} {l p : Nat} (hl : l < ns.length + 2) (h2 : 2 ≤ l) : go (ns ++ ms) l p = go ns l p := by
  unfold go; rw [List.getElem?_append_left (by omega)]
theorem ev_append {ns ms : List Nd} (h : Wf ns) (p : Nat) : ∀ l, l < ns.length + 2 → ev (ns ++ ms) l p = ev ns l p := by
  intro l
  induction l using Nat.strongRecOn with
  | ind l ih =>
    intro hl
    by_cases h2 : l < 2
    · rw [ev_small _ _ _ h2, ev_small _ _ _ h2]
    · have hg := go_lt h (p := p) (by omega) hl
      have e := go_append (ms := ms) (p := p) hl (by omega)
      -- the longer list is well founded as far as l reaches
      unfold ev
      have key : ∀ f l, l < ns.length + 2 → evF (ns ++ ms) f l p = evF ns f l p := by
        intro f
        induction f with
        | zero => intro l _; rfl
        | succ f ihf =>
          intro l hl
          simp only [evF]
          split
          · rfl
          · rename_i h2
            rw [go_append hl (by omega)]
            exact ihf _ (Nat.lt_trans (go_lt h (by omega) hl) hl)
      exact key l l hl
end Cho
