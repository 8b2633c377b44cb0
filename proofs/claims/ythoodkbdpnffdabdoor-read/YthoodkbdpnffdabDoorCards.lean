/-
  DERIVED. GIVEN WITH THE SEED: THE CARDS: each row of YthoodkbdpnffdabDoorRows.lean that lists a variable, with what it lists TIED to the program's text (the seventh form; the later family's looks); each row that meets fmt, with fmt's text TOLD by the authors' own Lean function (tested against real Go, not proved from fmt's source: count such statements apart). THE CARD IS WHAT COUNTS. Prove the row's statement (the work); the ties are given (YthoodkbdpnffdabDoorTie.lean); close each card by the builder's one call (the guide's Derived/Test/ToyasCard.lean, 'card_holds'). Laid BY PROGRAM, IN A SANDBOX (cutbox-door.mjs). By AI agents, Wed Nov 11 2026. No macro, syntax, notation, axiom, sorry.
-/
import Derived.Test.YthoodkbdpnffdabDoorRows
import GoSem.ClaimSeven
namespace Go.Proofs.YthoodkbdpnffdabDoor
namespace Rows

/-- THE TIED CARD OF 'choicekeep.Read'. -/
def readCard : Claim7 := { stood := { row := readRow, standIns := [], harness := (true, "c7348297da7ebf46a7d74ef99db579dcd3dc3ff52fa6c657ae32f44d2eadfa65"), looks := false }, kinds := [], alts := [], laidByText := true, laidKinds := [.data, .data, .data, .data], laidTests := true, laidLooks := .later }
def ReadCardSaid : Prop := Claim7.holds Tryd.pinned (.plain (OpenSpec.ofChange readSpec)) readCard

/-- THE SECOND FORM's CARD OF 'choicekeep.Read'. -/
def readUptoCard : Claim7 := { stood := { row := readUptoRow, standIns := [], harness := (true, "c7348297da7ebf46a7d74ef99db579dcd3dc3ff52fa6c657ae32f44d2eadfa65"), looks := false }, kinds := [], alts := [], laidByText := true, laidKinds := [.data, .data, .data, .data], laidTests := true, laidLooks := .later }
def ReadUptoCardSaid : Prop := Claim7.holds Tryd.pinned (.plain (OpenSpec.upto readSpec)) readUptoCard
end Rows
end Go.Proofs.YthoodkbdpnffdabDoor
