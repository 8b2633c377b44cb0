/-
  Own work: what the listed table gives the walks; the door's own heap meets the condition.
-/
import Derived.Test.YthoodkbdpnffdaaDoorRows
import Derived.Test.YthoodkbdpnffdaaDoorTie
import Derived.Test.YthoodkbdpnffdaaDoorCards
import Derived.Test.YthoodkbdpnffdaaDoorTabW
import Derived.ProofKit
import Derived.LaidMore
import Derived.OpenShut
import Derived.Stop.Joined
import Derived.SevenTiedAt
import Derived.Lib.LaidTab
namespace Go.Proofs.YthoodkbdpnffdaaDoor
open Go.ChangeShapes Go.WideShapes Go.ChangeAt Go.WideMaps Go.WideElems Go.RowKit

theorem ownKnobs : ownKnob Tryd.prog.godebug = none := by kernel_rfl
theorem gCols : Tryd.prog.globalNamed "choice/tables.columns" = some 0 := by kernel_rfl
theorem tCols : (Tryd.prog.globals[0]?).map (·.type) = some 124 := by kernel_rfl
abbrev laid1 : List (String × DataW Unit) := [("choice/tables.columns", Rows.laid_choice_tables_columns)]

theorem door_met (os : Os) (args : Array Value) : laidMetH Tryd.prog laid1 ((World.doorLaid Tryd.prog 400 os).forCall (fun _ _ => 0) ⟨#[], args, []⟩).memory :=
  laidMetH_of_parts3 (fuel := 8) (laidMet_of_run' 8 (by kernel_rfl) (by kernel_rfl)) (by kernel_rfl) (by kernel_rfl)

theorem of_laid {W : World} (h : laidMetH Tryd.prog laid1 W) : Cols W := by
  rw [MakeChecks.laidMetH_plain _ _ _ (by kernel_rfl)] at h
  have ht := Lib.tabIs_of_head (k := .u64) (zs := [12297829382473034410, 14757395258967641292, 17361641481138401520, 18374966859414961920, 18446462603027742720, 18446744069414584320]) (rest := []) gCols tCols Tryd.underlying124 Tryd.underlying22 (by kernel_rfl) (by kernel_rfl) h
  intro i hi
  have := ht.cell gCols i (by simpa using hi)
  match i, hi with
  | 0, _ => exact this
  | 1, _ => exact this
  | 2, _ => exact this
  | 3, _ => exact this
  | 4, _ => exact this
  | 5, _ => exact this

theorem i64_bd {a : Int} (w : (Lit.int .i64 a).wf = true) : -9223372036854775808 ≤ a ∧ a ≤ 9223372036854775807 := by
  simp [Lit.wf, IntKind.min, IntKind.max, IntKind.signed, IntKind.bits] at w; omega
theorem u64_bd {a : Int} (w : (Lit.int .u64 a).wf = true) : ∃ n : Nat, a = n ∧ Cho.U64 n := by
  have h : 0 ≤ a ∧ a ≤ 18446744073709551615 := by simpa [Lit.wf, IntKind.min, IntKind.max, IntKind.signed, IntKind.bits] using w
  exact ⟨a.toNat, by omega, Cho.U64.mk (by omega)⟩
end Go.Proofs.YthoodkbdpnffdaaDoor
