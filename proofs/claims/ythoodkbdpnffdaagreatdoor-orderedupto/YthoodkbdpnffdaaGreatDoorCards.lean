/-
  DERIVED. GIVEN WITH THE SEED: THE CARDS: each row of YthoodkbdpnffdaaGreatDoorRows.lean that lists a variable, with what it lists TIED to the program's text (the seventh form; the later family's looks); each row that meets fmt, with fmt's text TOLD by the authors' own Lean function (tested against real Go, not proved from fmt's source: count such statements apart). THE CARD IS WHAT COUNTS. Prove the row's statement (the work); the ties are given (YthoodkbdpnffdaaGreatDoorTie.lean); close each card by the builder's one call (the guide's Derived/Test/ToyasCard.lean, 'card_holds'). Laid BY PROGRAM, IN A SANDBOX (cutbox-door.mjs). By AI agents, Wed Nov 11 2026. No macro, syntax, notation, axiom, sorry.
-/
import Derived.Test.YthoodkbdpnffdaaGreatDoorRows
import GoSem.ClaimSeven
namespace Go.Proofs.YthoodkbdpnffdaaGreatDoor
namespace Rows

/-- THE TIED CARD OF 'choicelaw.Made'. -/
def madeCard : Claim7 := { stood := { row := madeRow, standIns := [], harness := (true, "ff33a62d2cbb3d008436126bbfefc002c1ac9a44c22e38a9723bc56e75656d22"), looks := false }, kinds := [], alts := [], laidByText := true, laidKinds := [.data, .data, .data, .data], laidTests := true, laidLooks := .later }
def MadeCardSaid : Prop := Claim7.holds Tryz.pinned (.plain (OpenSpec.ofChange madeSpec)) madeCard

/-- THE TIED CARD OF 'choicelaw.Fixed'. -/
def fixedCard : Claim7 := { stood := { row := fixedRow, standIns := [], harness := (true, "ff33a62d2cbb3d008436126bbfefc002c1ac9a44c22e38a9723bc56e75656d22"), looks := false }, kinds := [], alts := [], laidByText := true, laidKinds := [.data, .data, .data, .data], laidTests := true, laidLooks := .later }
def FixedCardSaid : Prop := Claim7.holds Tryz.pinned (.plain (OpenSpec.ofChange fixedSpec)) fixedCard

/-- THE TIED CARD OF 'choicelaw.Ordered'. -/
def orderedCard : Claim7 := { stood := { row := orderedRow, standIns := [], harness := (true, "ff33a62d2cbb3d008436126bbfefc002c1ac9a44c22e38a9723bc56e75656d22"), looks := false }, kinds := [], alts := [], laidByText := true, laidKinds := [.data, .data, .data, .data], laidTests := true, laidLooks := .later }
def OrderedCardSaid : Prop := Claim7.holds Tryz.pinned (.plain (OpenSpec.ofChange orderedSpec)) orderedCard

/-- THE SECOND FORM's CARD OF 'choicelaw.Made'. -/
def madeUptoCard : Claim7 := { stood := { row := madeUptoRow, standIns := [], harness := (true, "ff33a62d2cbb3d008436126bbfefc002c1ac9a44c22e38a9723bc56e75656d22"), looks := false }, kinds := [], alts := [], laidByText := true, laidKinds := [.data, .data, .data, .data], laidTests := true, laidLooks := .later }
def MadeUptoCardSaid : Prop := Claim7.holds Tryz.pinned (.plain (OpenSpec.upto madeSpec)) madeUptoCard

/-- THE SECOND FORM's CARD OF 'choicelaw.Fixed'. -/
def fixedUptoCard : Claim7 := { stood := { row := fixedUptoRow, standIns := [], harness := (true, "ff33a62d2cbb3d008436126bbfefc002c1ac9a44c22e38a9723bc56e75656d22"), looks := false }, kinds := [], alts := [], laidByText := true, laidKinds := [.data, .data, .data, .data], laidTests := true, laidLooks := .later }
def FixedUptoCardSaid : Prop := Claim7.holds Tryz.pinned (.plain (OpenSpec.upto fixedSpec)) fixedUptoCard

/-- THE SECOND FORM's CARD OF 'choicelaw.Ordered'. -/
def orderedUptoCard : Claim7 := { stood := { row := orderedUptoRow, standIns := [], harness := (true, "ff33a62d2cbb3d008436126bbfefc002c1ac9a44c22e38a9723bc56e75656d22"), looks := false }, kinds := [], alts := [], laidByText := true, laidKinds := [.data, .data, .data, .data], laidTests := true, laidLooks := .later }
def OrderedUptoCardSaid : Prop := Claim7.holds Tryz.pinned (.plain (OpenSpec.upto orderedSpec)) orderedUptoCard
end Rows
end Go.Proofs.YthoodkbdpnffdaaGreatDoor
