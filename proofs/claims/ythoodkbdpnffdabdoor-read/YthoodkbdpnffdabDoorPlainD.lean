/-
  Own work: what the listed table gives the walks; the door's own heap meets the condition.
-/
import Derived.Test.YthoodkbdpnffdabDoorRows
import Derived.Test.YthoodkbdpnffdabDoorTie
import Derived.Test.YthoodkbdpnffdabDoorCards
import Derived.Test.YthoodkbdpnffdabDoorTabW
import Derived.ProofKit
import Derived.LaidMore
import Derived.OpenShut
import Derived.Stop.Joined
import Derived.SevenTiedAt
import Derived.Lib.LaidTab
import Derived.Test.YthoodkbdpnffdabDoorPlain
namespace Go.Proofs.YthoodkbdpnffdabDoor
open Go.ChangeShapes Go.WideShapes Go.ChangeAt Go.WideMaps Go.WideElems Go.RowKit

theorem ownKnobs : ownKnob Tryd.prog.godebug = none := by kernel_rfl
theorem gCols : Tryd.prog.globalNamed "choice/tables.columns" = some 0 := by kernel_rfl
theorem tCols : (Tryd.prog.globals[0]?).map (·.type) = some 72 := by kernel_rfl
abbrev laid1 : List (String × DataW Unit) := [("choice/tables.columns", Rows.laid_choice_tables_columns)]

theorem door_met (os : Os) (args : Array Value) : laidMetH Tryd.prog laid1 ((World.doorLaid Tryd.prog 400 os).forCall (fun _ _ => 0) ⟨#[], args, []⟩).memory :=
  laidMetH_of_parts3 (fuel := 8) (laidMet_of_run' 8 (by kernel_rfl) (by kernel_rfl)) (by kernel_rfl) (by kernel_rfl)

theorem of_laid {W : World} (h : laidMetH Tryd.prog laid1 W) : Cols W := by
  rw [MakeChecks.laidMetH_plain _ _ _ (by kernel_rfl)] at h
  have ht := Lib.tabIs_of_head (k := .u64) (zs := [12297829382473034410, 14757395258967641292, 17361641481138401520, 18374966859414961920, 18446462603027742720, 18446744069414584320]) (rest := []) gCols tCols Tryd.underlying72 Tryd.underlying42 (by kernel_rfl) (by kernel_rfl) h
  intro i hi
  have := ht.cell gCols i (by simpa using hi)
  match i, hi with
  | 0, _ => exact this
  | 1, _ => exact this
  | 2, _ => exact this
  | 3, _ => exact this
  | 4, _ => exact this
  | 5, _ => exact this

theorem i64_bd {a : Int} (w : (Lit.int .i64 a).wf = true) : -9223372036854775808 ≤ a ∧ a ≤ 9223372036854775807 := by
  simp [Lit.wf, IntKind.min, IntKind.max, IntKind.signed, IntKind.bits] at w; omega
theorem u64_bd {a : Int} (w : (Lit.int .u64 a).wf = true) : ∃ n : Nat, a = n ∧ Cho.U64 n := by
  have h : 0 ≤ a ∧ a ≤ 18446744073709551615 := by simpa [Lit.wf, IntKind.min, IntKind.max, IntKind.signed, IntKind.bits] using w
  exact ⟨a.toNat, by omega, Cho.U64.mk (by omega)⟩
end Go.Proofs.YthoodkbdpnffdabDoor

/-
  Own work: what the four listed tables give the walks (only the first is read on the roads there are); the door's own heap meets the condition.
-/
namespace Go.Proofs.YthoodkbdpnffdabDoor
open Go.ChangeShapes Go.WideShapes Go.ChangeAt Go.WideMaps Go.WideElems Go.RowKit

abbrev laid4 : List (String × DataW Unit) := [("choice/tables.columns", Rows.laid_choice_tables_columns), ("math/bits.deBruijn32tab", Rows.laid_math_bits_deBruijn32tab), ("math/bits.deBruijn64tab", Rows.laid_math_bits_deBruijn64tab), ("internal/strconv.uint64pow10", Rows.laid_internal_strconv_uint64pow10)]
theorem door_met4 (os : Os) (args : Array Value) : laidMetH Tryd.prog laid4 ((World.doorLaid Tryd.prog 400 os).forCall (fun _ _ => 0) ⟨#[], args, []⟩).memory :=
  laidMetH_of_parts3 (fuel := 8) (laidMet_of_run' 8 (by kernel_rfl) (by kernel_rfl)) (by kernel_rfl) (by kernel_rfl)
theorem of_laid4 {W : World} (h : laidMetH Tryd.prog laid4 W) : Cols W := by
  rw [MakeChecks.laidMetH_plain _ _ _ (by kernel_rfl)] at h
  have ht := Lib.tabIs_of_head (k := .u64) (zs := [12297829382473034410, 14757395258967641292, 17361641481138401520, 18374966859414961920, 18446462603027742720, 18446744069414584320]) (rest := [("math/bits.deBruijn32tab", Rows.laid_math_bits_deBruijn32tab), ("math/bits.deBruijn64tab", Rows.laid_math_bits_deBruijn64tab), ("internal/strconv.uint64pow10", Rows.laid_internal_strconv_uint64pow10)]) gCols tCols Tryd.underlying72 Tryd.underlying42 (by kernel_rfl) (by kernel_rfl) h
  intro i hi
  have := ht.cell gCols i (by simpa using hi)
  match i, hi with
  | 0, _ => exact this
  | 1, _ => exact this
  | 2, _ => exact this
  | 3, _ => exact this
  | 4, _ => exact this
  | 5, _ => exact this
/-- A table put into its block. -/
def putTab (cs : Array Value) : Obj → Obj
  | .cells _ t frozen => .cells cs t frozen
  | o => o
/-- A world for the witness: the listed tables as they are listed. -/
noncomputable def tabWorld (os : Os) : World :=
  { World.holding Tryd.prog os ⟨#[], #[], []⟩ with heap := (((World.holding Tryd.prog os ⟨#[], #[], []⟩).heap.modify 0 (putTab #[.int .u64 12297829382473034410, .int .u64 14757395258967641292, .int .u64 17361641481138401520, .int .u64 18374966859414961920, .int .u64 18446462603027742720, .int .u64 18446744069414584320]))
      |>.modify 1 (putTab #[.int .u64 1, .int .u64 10, .int .u64 100, .int .u64 1000, .int .u64 10000, .int .u64 100000, .int .u64 1000000, .int .u64 10000000, .int .u64 100000000, .int .u64 1000000000, .int .u64 10000000000, .int .u64 100000000000, .int .u64 1000000000000, .int .u64 10000000000000, .int .u64 100000000000000, .int .u64 1000000000000000, .int .u64 10000000000000000, .int .u64 100000000000000000, .int .u64 1000000000000000000, .int .u64 10000000000000000000])
      |>.modify 2 (putTab #[.int .u8 0, .int .u8 1, .int .u8 28, .int .u8 2, .int .u8 29, .int .u8 14, .int .u8 24, .int .u8 3, .int .u8 30, .int .u8 22, .int .u8 20, .int .u8 15, .int .u8 25, .int .u8 17, .int .u8 4, .int .u8 8, .int .u8 31, .int .u8 27, .int .u8 13, .int .u8 23, .int .u8 21, .int .u8 19, .int .u8 16, .int .u8 7, .int .u8 26, .int .u8 12, .int .u8 18, .int .u8 6, .int .u8 11, .int .u8 5, .int .u8 10, .int .u8 9])
      |>.modify 3 (putTab #[.int .u8 0, .int .u8 1, .int .u8 56, .int .u8 2, .int .u8 57, .int .u8 49, .int .u8 28, .int .u8 3, .int .u8 61, .int .u8 58, .int .u8 42, .int .u8 50, .int .u8 38, .int .u8 29, .int .u8 17, .int .u8 4, .int .u8 62, .int .u8 47, .int .u8 59, .int .u8 36, .int .u8 45, .int .u8 43, .int .u8 51, .int .u8 22, .int .u8 53, .int .u8 39, .int .u8 33, .int .u8 30, .int .u8 24, .int .u8 18, .int .u8 12, .int .u8 5, .int .u8 63, .int .u8 55, .int .u8 48, .int .u8 27, .int .u8 60, .int .u8 41, .int .u8 37, .int .u8 16, .int .u8 46, .int .u8 35, .int .u8 44, .int .u8 21, .int .u8 52, .int .u8 32, .int .u8 23, .int .u8 11, .int .u8 54, .int .u8 26, .int .u8 40, .int .u8 15, .int .u8 34, .int .u8 20, .int .u8 31, .int .u8 10, .int .u8 25, .int .u8 14, .int .u8 19, .int .u8 9, .int .u8 13, .int .u8 8, .int .u8 7, .int .u8 6])) }
end Go.Proofs.YthoodkbdpnffdabDoor

/-
  Own work: the plain mathematics of shared nodes: lists of nodes, links, what a link says, how a table's nodes are built.
-/
namespace Cho

/-- A node: its variable, where it goes on for no, where for yes. Link 0 is no, 1 is yes, k + 2 is node k. -/
abbrev Nd := Nat × Nat × Nat

def join (ns : List Nd) (n : Nd) : List Nd × Nat :=
  if n.2.1 = n.2.2 then (ns, n.2.1) else (if n ∈ ns then ns else ns ++ [n], ns.idxOf n + 2)

def build : List Nat → Nat → List Nd → List Nd × Nat
  | [], t, ns => (ns, if t.testBit 0 then 1 else 0)
  | v :: vs, t, ns =>
    join (build vs (fix t v true) (build vs (fix t v false) ns).1).1
      (v, (build vs (fix t v false) ns).2, (build vs (fix t v true) (build vs (fix t v false) ns).1).2)

theorem join_len (ns : List Nd) (n : Nd) : ns.length ≤ (join ns n).1.length ∧ (join ns n).1.length ≤ ns.length + 1 := by
  unfold join
  split
  · exact ⟨Nat.le_refl _, Nat.le_succ _⟩
  · split
    · exact ⟨Nat.le_refl _, Nat.le_succ _⟩
    · simp

theorem idxOf_first {l : List Nd} {n : Nd} {k : Nat} (hk : k < l.length) (e : l[k] = n) (h : ∀ j (hj : j < l.length), j < k → l[j] ≠ n) : l.idxOf n = k := by
  induction l generalizing k with
  | nil => simp at hk
  | cons a l ih =>
    cases k with
    | zero => simp at e; simp [e]
    | succ k =>
      have h0 : a ≠ n := by have := h 0 (by simp) (by omega); simpa using this
      rw [List.idxOf_cons]
      have hb : (a == n) = false := by simpa using h0
      rw [hb]
      have := ih (k := k) (by simpa using hk) (by simpa using e) (fun j hj hjk => by have := h (j + 1) (by simpa using hj) (by omega); simpa using this)
      simp [this]
theorem join_found {ns : List Nd} {v no yes k : Nat} (hn : no ≠ yes) (hk : k < ns.length) (e : ns[k] = (v, no, yes)) (h : ∀ j (hj : j < ns.length), j < k → ns[j] ≠ (v, no, yes)) :
    join ns (v, no, yes) = (ns, k + 2) := by
  have hm : (v, no, yes) ∈ ns := by rw [← e]; exact List.getElem_mem hk
  unfold join
  rw [if_neg hn, if_pos hm, idxOf_first hk e h]
theorem join_new {ns : List Nd} {v no yes : Nat} (hn : no ≠ yes) (h : ∀ j (hj : j < ns.length), ns[j] ≠ (v, no, yes)) :
    join ns (v, no, yes) = (ns ++ [(v, no, yes)], ns.length + 2) := by
  have hm : (v, no, yes) ∉ ns := by
    intro hm
    obtain ⟨j, hj, e⟩ := List.getElem_of_mem hm
    exact h j hj e
  unfold join
  rw [if_neg hn, if_neg hm, List.idxOf_eq_length hm]

theorem build_len (vs : List Nat) : ∀ (t : Nat) (ns : List Nd), ns.length ≤ (build vs t ns).1.length ∧ (build vs t ns).1.length + 1 ≤ ns.length + 2 ^ vs.length := by
  induction vs with
  | nil => intro t ns; simp [build]
  | cons v vs ih =>
    intro t ns
    have h1 := ih (fix t v false) ns
    have h2 := ih (fix t v true) (build vs (fix t v false) ns).1
    have h3 := join_len (build vs (fix t v true) (build vs (fix t v false) ns).1).1 (v, (build vs (fix t v false) ns).2, (build vs (fix t v true) (build vs (fix t v false) ns).1).2)
    have e : 2 ^ (v :: vs).length = 2 * 2 ^ vs.length := by rw [List.length_cons, Nat.pow_succ]; omega
    rw [e]
    simp only [build]
    omega

end Cho
