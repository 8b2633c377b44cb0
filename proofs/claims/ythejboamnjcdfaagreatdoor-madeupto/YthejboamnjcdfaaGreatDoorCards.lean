/-
  DERIVED. GIVEN WITH THE SEED: THE CARDS: each row of YthejboamnjcdfaaGreatDoorRows.lean that lists a variable, with what it lists TIED to the program's text (the seventh form; the later family's looks); each row that meets fmt, with fmt's text TOLD by the authors' own Lean function (tested against real Go, not proved from fmt's source: count such statements apart). THE CARD IS WHAT COUNTS. Prove the row's statement (the work); the ties are given (YthejboamnjcdfaaGreatDoorTie.lean); close each card by the builder's one call (the guide's Derived/Test/ToyasCard.lean, 'card_holds'). Laid BY PROGRAM, IN A SANDBOX (cutbox-door.mjs). By AI agents, Wed Nov 11 2026. No macro, syntax, notation, axiom, sorry.
-/
import Derived.Test.YthejboamnjcdfaaGreatDoorRows
import GoSem.ClaimSeven
namespace Go.Proofs.YthejboamnjcdfaaGreatDoor
namespace Rows

/-- THE TIED CARD OF 'choicelaw.Made'. -/
def madeCard : Claim7 := { stood := { row := madeRow, standIns := [], harness := (true, "cc327ea72aafbf2f1b512412196b063f063d0632348c5fa0783b916d4ac5f964"), looks := false }, kinds := [], alts := [], laidByText := true, laidKinds := [.data], laidTests := true, laidLooks := .later }
def MadeCardSaid : Prop := Claim7.holds Tryz.pinned (.plain (OpenSpec.ofChange madeSpec)) madeCard

/-- THE TIED CARD OF 'choicelaw.Fixed'. -/
def fixedCard : Claim7 := { stood := { row := fixedRow, standIns := [], harness := (true, "cc327ea72aafbf2f1b512412196b063f063d0632348c5fa0783b916d4ac5f964"), looks := false }, kinds := [], alts := [], laidByText := true, laidKinds := [.data], laidTests := true, laidLooks := .later }
def FixedCardSaid : Prop := Claim7.holds Tryz.pinned (.plain (OpenSpec.ofChange fixedSpec)) fixedCard

/-- THE SECOND FORM's CARD OF 'choicelaw.Made'. -/
def madeUptoCard : Claim7 := { stood := { row := madeUptoRow, standIns := [], harness := (true, "cc327ea72aafbf2f1b512412196b063f063d0632348c5fa0783b916d4ac5f964"), looks := false }, kinds := [], alts := [], laidByText := true, laidKinds := [.data], laidTests := true, laidLooks := .later }
def MadeUptoCardSaid : Prop := Claim7.holds Tryz.pinned (.plain (OpenSpec.upto madeSpec)) madeUptoCard

/-- THE SECOND FORM's CARD OF 'choicelaw.Fixed'. -/
def fixedUptoCard : Claim7 := { stood := { row := fixedUptoRow, standIns := [], harness := (true, "cc327ea72aafbf2f1b512412196b063f063d0632348c5fa0783b916d4ac5f964"), looks := false }, kinds := [], alts := [], laidByText := true, laidKinds := [.data], laidTests := true, laidLooks := .later }
def FixedUptoCardSaid : Prop := Claim7.holds Tryz.pinned (.plain (OpenSpec.upto fixedSpec)) fixedUptoCard
end Rows
end Go.Proofs.YthejboamnjcdfaaGreatDoor
