/-
  DERIVED. GIVEN WITH THE SEED: THE CARDS: each row of YthoodkbdpnffdaaDoorRows.lean that lists a variable, with what it lists TIED to the program's text (the seventh form; the later family's looks); each row that meets fmt, with fmt's text TOLD by the authors' own Lean function (tested against real Go, not proved from fmt's source: count such statements apart). THE CARD IS WHAT COUNTS. Prove the row's statement (the work); the ties are given (YthoodkbdpnffdaaDoorTie.lean); close each card by the builder's one call (the guide's Derived/Test/ToyasCard.lean, 'card_holds'). Laid BY PROGRAM, IN A SANDBOX (cutbox-door.mjs). By AI agents, Wed Nov 11 2026. No macro, syntax, notation, axiom, sorry.
-/
import Derived.Test.YthoodkbdpnffdaaDoorRows
import GoSem.ClaimSeven
namespace Go.Proofs.YthoodkbdpnffdaaDoor
namespace Rows

/-- THE TIED CARD OF 'choicekeep.Joined'. -/
def joinedCard : Claim7 := { stood := { row := joinedRow, standIns := [], harness := (true, "fe2872221715921cb596151cda28a8da725bb1a3ff6357a9e4fda664debe3afd"), looks := false }, kinds := [], alts := [], laidByText := true, laidKinds := [.data], laidTests := true, laidLooks := .later }
def JoinedCardSaid : Prop := Claim7.holds Tryd.pinned (.plain (OpenSpec.ofChange joinedSpec)) joinedCard

/-- THE TIED CARD OF 'choicekeep.Counted'. -/
def countedCard : Claim7 := { stood := { row := countedRow, standIns := [], harness := (true, "fe2872221715921cb596151cda28a8da725bb1a3ff6357a9e4fda664debe3afd"), looks := false }, kinds := [], alts := [], laidByText := true, laidKinds := [.data], laidTests := true, laidLooks := .later }
def CountedCardSaid : Prop := Claim7.holds Tryd.pinned (.plain (OpenSpec.ofChange countedSpec)) countedCard

/-- THE TIED CARD OF 'choicekeep.Reclaimed'. -/
def reclaimedCard : Claim7 := { stood := { row := reclaimedRow, standIns := [], harness := (true, "fe2872221715921cb596151cda28a8da725bb1a3ff6357a9e4fda664debe3afd"), looks := false }, kinds := [], alts := [], laidByText := true, laidKinds := [.data], laidTests := true, laidLooks := .later }
def ReclaimedCardSaid : Prop := Claim7.holds Tryd.pinned (.plain (OpenSpec.ofChange reclaimedSpec)) reclaimedCard

/-- THE TIED CARD OF 'choicekeep.Tight'. -/
def tightCard : Claim7 := { stood := { row := tightRow, standIns := [], harness := (true, "fe2872221715921cb596151cda28a8da725bb1a3ff6357a9e4fda664debe3afd"), looks := false }, kinds := [], alts := [], laidByText := true, laidKinds := [.data], laidTests := true, laidLooks := .later }
def TightCardSaid : Prop := Claim7.holds Tryd.pinned (.plain (OpenSpec.ofChange tightSpec)) tightCard

/-- THE TIED CARD OF 'choicekeep.Split'. -/
def splitCard : Claim7 := { stood := { row := splitRow, standIns := [], harness := (true, "fe2872221715921cb596151cda28a8da725bb1a3ff6357a9e4fda664debe3afd"), looks := false }, kinds := [], alts := [], laidByText := true, laidKinds := [.data], laidTests := true, laidLooks := .later }
def SplitCardSaid : Prop := Claim7.holds Tryd.pinned (.plain (OpenSpec.ofChange splitSpec)) splitCard

/-- THE TIED CARD OF 'choicekeep.Parity'. -/
def parityCard : Claim7 := { stood := { row := parityRow, standIns := [], harness := (true, "fe2872221715921cb596151cda28a8da725bb1a3ff6357a9e4fda664debe3afd"), looks := false }, kinds := [], alts := [], laidByText := true, laidKinds := [.data], laidTests := true, laidLooks := .later }
def ParityCardSaid : Prop := Claim7.holds Tryd.pinned (.plain (OpenSpec.ofChange paritySpec)) parityCard

/-- THE TIED CARD OF 'choicekeep.Swapped'. -/
def swappedCard : Claim7 := { stood := { row := swappedRow, standIns := [], harness := (true, "fe2872221715921cb596151cda28a8da725bb1a3ff6357a9e4fda664debe3afd"), looks := false }, kinds := [], alts := [], laidByText := true, laidKinds := [.data], laidTests := true, laidLooks := .later }
def SwappedCardSaid : Prop := Claim7.holds Tryd.pinned (.plain (OpenSpec.ofChange swappedSpec)) swappedCard

/-- THE TIED CARD OF 'choicekeep.Sifted'. -/
def siftedCard : Claim7 := { stood := { row := siftedRow, standIns := [], harness := (true, "fe2872221715921cb596151cda28a8da725bb1a3ff6357a9e4fda664debe3afd"), looks := false }, kinds := [], alts := [], laidByText := true, laidKinds := [.data], laidTests := true, laidLooks := .later }
def SiftedCardSaid : Prop := Claim7.holds Tryd.pinned (.plain (OpenSpec.ofChange siftedSpec)) siftedCard

/-- THE TIED CARD OF 'choicekeep.Carried'. -/
def carriedCard : Claim7 := { stood := { row := carriedRow, standIns := [], harness := (true, "fe2872221715921cb596151cda28a8da725bb1a3ff6357a9e4fda664debe3afd"), looks := false }, kinds := [], alts := [], laidByText := true, laidKinds := [.data, .data, .data, .data], laidTests := true, laidLooks := .later }
def CarriedCardSaid : Prop := Claim7.holds Tryd.pinned (.plain (OpenSpec.ofChange carriedSpec)) carriedCard

/-- THE SECOND FORM's CARD OF 'choicekeep.Joined'. -/
def joinedUptoCard : Claim7 := { stood := { row := joinedUptoRow, standIns := [], harness := (true, "fe2872221715921cb596151cda28a8da725bb1a3ff6357a9e4fda664debe3afd"), looks := false }, kinds := [], alts := [], laidByText := true, laidKinds := [.data], laidTests := true, laidLooks := .later }
def JoinedUptoCardSaid : Prop := Claim7.holds Tryd.pinned (.plain (OpenSpec.upto joinedSpec)) joinedUptoCard

/-- THE SECOND FORM's CARD OF 'choicekeep.Counted'. -/
def countedUptoCard : Claim7 := { stood := { row := countedUptoRow, standIns := [], harness := (true, "fe2872221715921cb596151cda28a8da725bb1a3ff6357a9e4fda664debe3afd"), looks := false }, kinds := [], alts := [], laidByText := true, laidKinds := [.data], laidTests := true, laidLooks := .later }
def CountedUptoCardSaid : Prop := Claim7.holds Tryd.pinned (.plain (OpenSpec.upto countedSpec)) countedUptoCard

/-- THE SECOND FORM's CARD OF 'choicekeep.Reclaimed'. -/
def reclaimedUptoCard : Claim7 := { stood := { row := reclaimedUptoRow, standIns := [], harness := (true, "fe2872221715921cb596151cda28a8da725bb1a3ff6357a9e4fda664debe3afd"), looks := false }, kinds := [], alts := [], laidByText := true, laidKinds := [.data], laidTests := true, laidLooks := .later }
def ReclaimedUptoCardSaid : Prop := Claim7.holds Tryd.pinned (.plain (OpenSpec.upto reclaimedSpec)) reclaimedUptoCard

/-- THE SECOND FORM's CARD OF 'choicekeep.Tight'. -/
def tightUptoCard : Claim7 := { stood := { row := tightUptoRow, standIns := [], harness := (true, "fe2872221715921cb596151cda28a8da725bb1a3ff6357a9e4fda664debe3afd"), looks := false }, kinds := [], alts := [], laidByText := true, laidKinds := [.data], laidTests := true, laidLooks := .later }
def TightUptoCardSaid : Prop := Claim7.holds Tryd.pinned (.plain (OpenSpec.upto tightSpec)) tightUptoCard

/-- THE SECOND FORM's CARD OF 'choicekeep.Split'. -/
def splitUptoCard : Claim7 := { stood := { row := splitUptoRow, standIns := [], harness := (true, "fe2872221715921cb596151cda28a8da725bb1a3ff6357a9e4fda664debe3afd"), looks := false }, kinds := [], alts := [], laidByText := true, laidKinds := [.data], laidTests := true, laidLooks := .later }
def SplitUptoCardSaid : Prop := Claim7.holds Tryd.pinned (.plain (OpenSpec.upto splitSpec)) splitUptoCard

/-- THE SECOND FORM's CARD OF 'choicekeep.Parity'. -/
def parityUptoCard : Claim7 := { stood := { row := parityUptoRow, standIns := [], harness := (true, "fe2872221715921cb596151cda28a8da725bb1a3ff6357a9e4fda664debe3afd"), looks := false }, kinds := [], alts := [], laidByText := true, laidKinds := [.data], laidTests := true, laidLooks := .later }
def ParityUptoCardSaid : Prop := Claim7.holds Tryd.pinned (.plain (OpenSpec.upto paritySpec)) parityUptoCard

/-- THE SECOND FORM's CARD OF 'choicekeep.Swapped'. -/
def swappedUptoCard : Claim7 := { stood := { row := swappedUptoRow, standIns := [], harness := (true, "fe2872221715921cb596151cda28a8da725bb1a3ff6357a9e4fda664debe3afd"), looks := false }, kinds := [], alts := [], laidByText := true, laidKinds := [.data], laidTests := true, laidLooks := .later }
def SwappedUptoCardSaid : Prop := Claim7.holds Tryd.pinned (.plain (OpenSpec.upto swappedSpec)) swappedUptoCard

/-- THE SECOND FORM's CARD OF 'choicekeep.Sifted'. -/
def siftedUptoCard : Claim7 := { stood := { row := siftedUptoRow, standIns := [], harness := (true, "fe2872221715921cb596151cda28a8da725bb1a3ff6357a9e4fda664debe3afd"), looks := false }, kinds := [], alts := [], laidByText := true, laidKinds := [.data], laidTests := true, laidLooks := .later }
def SiftedUptoCardSaid : Prop := Claim7.holds Tryd.pinned (.plain (OpenSpec.upto siftedSpec)) siftedUptoCard

/-- THE SECOND FORM's CARD OF 'choicekeep.Carried'. -/
def carriedUptoCard : Claim7 := { stood := { row := carriedUptoRow, standIns := [], harness := (true, "fe2872221715921cb596151cda28a8da725bb1a3ff6357a9e4fda664debe3afd"), looks := false }, kinds := [], alts := [], laidByText := true, laidKinds := [.data, .data, .data, .data], laidTests := true, laidLooks := .later }
def CarriedUptoCardSaid : Prop := Claim7.holds Tryd.pinned (.plain (OpenSpec.upto carriedSpec)) carriedUptoCard
end Rows
end Go.Proofs.YthoodkbdpnffdaaDoor
