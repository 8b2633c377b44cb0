/-
  Own work: what is kept of a diagram when only some links are called for (plain mathematics).
-/
import Derived.Test.YthoodkbdpnffdaaDoorPlainH
namespace Cho

/-- Where each link leads to among the nodes that are kept, and these, when k nodes have been looked at. -/
def keepTo (ns : List Nd) (R : List Bool) : Nat → List Nat × List Nd
  | 0 => ((List.replicate (ns.length + 2) 0).set 1 1, [])
  | k + 1 =>
    if R.getD (k + 2) false then
      ((keepTo ns R k).1.set (k + 2) (2 + (keepTo ns R k).2.length),
       (keepTo ns R k).2 ++ [((ns.getD k (0, 0, 0)).1, (keepTo ns R k).1.getD (ns.getD k (0, 0, 0)).2.1 0, (keepTo ns R k).1.getD (ns.getD k (0, 0, 0)).2.2 0)])
    else keepTo ns R k

theorem keepTo_len (ns : List Nd) (R : List Bool) (k : Nat) : (keepTo ns R k).1.length = ns.length + 2 := by
  induction k with
  | zero => simp [keepTo]
  | succ k ih => simp only [keepTo]; split <;> simp [ih]
theorem keepTo_few (ns : List Nd) (R : List Bool) (k : Nat) : (keepTo ns R k).2.length ≤ k := by
  induction k with
  | zero => simp [keepTo]
  | succ k ih =>
    simp only [keepTo]; split
    · simp; omega
    · omega
theorem keepTo_bound (ns : List Nd) (R : List Bool) (k : Nat) : ∀ x ∈ (keepTo ns R k).1, x < (keepTo ns R k).2.length + 2 := by
  induction k with
  | zero =>
    intro x hx
    simp only [keepTo] at hx ⊢
    rcases List.mem_or_eq_of_mem_set hx with h | h
    · have := List.eq_of_mem_replicate h; simp; omega
    · simp; omega
  | succ k ih =>
    simp only [keepTo]; split
    · intro x hx
      simp only at hx ⊢
      rcases List.mem_or_eq_of_mem_set hx with h | h
      · have := ih x h; simp; omega
      · simp; omega
    · exact ih
end Cho
