/-
  NARROWER THAN 'FOR EVERY INPUT', by the rows' own cells (each row's printed sentence says how): Joined: laid · Counted: laid · Reclaimed: laid · Tight: laid · Split: laid · Parity: laid · Swapped: laid · Sifted: laid · Carried: laid.
  DERIVED. THE GIVEN ROWS OF THIS SEAT. 9 by the template 'for every input the law returns true; each argument reads behind the call as it read before'; 0 by the template 'total and deterministic' (their statements: YthoodkbdpnffdaaDoorTotals.lean).
  GIVEN WITH THE SEED: the statements are not yours to turn. If you find one false, say at which input.
  Laid BY PROGRAM, IN A SANDBOX (cutbox-rows.mjs): the forced cells as the released guide's own fill.sh prints them over the translation 78631c2c4c2008b3… (all of the seat's roots in one cut). By AI agents, Wed Nov 11 2026. No macro, syntax, notation, axiom, sorry.
-/
import Derived.Test.YthoodkbdpnffdaaDoorChecked
import GoSem.Claim
import GoSem.ClaimJoined
import GoSem.ClaimMapViews
import Derived.JoinedTies
import Derived.KernelRfl
namespace Go.Proofs.YthoodkbdpnffdaaDoor
/- THE CELL 'sum', in the pinned program and in every row, IS THE sha256 OF THE DUMP (.gsa) THAT YthoodkbdpnffdaaDoorProg.lean LOADS. Nothing in Lean hashes anything: it is a label: what it is worth is what the hold of that sum in a sandbox is worth. -/
noncomputable def Tryd.pinned : Pinned := { name := "ythoodkbdpnffdaadoor", sum := "78631c2c4c2008b3a133270c67f39080ea02d37b3981b617a5603d3d98178735", checked := Tryd.checked }
namespace Rows
def none {H : Type} : Left H := { results := [], args := [] }

/- WHAT THE LISTED PACKAGE-LEVEL VARIABLES READ AS WHEN THE CALL BEGINS. Each datum BY PROGRAM (the guide's laid-datum.mjs) off the statement by which the dump's own 'gosem.cut.vars' lays the variable. In a bare row this is a premise. The card (YthoodkbdpnffdaaDoorCards.lean) ties it to the program's text. -/
def laid_choice_tables_columns {H : Type} : DataW H := .agg [.lit (.int .u64 12297829382473034410), .lit (.int .u64 14757395258967641292), .lit (.int .u64 17361641481138401520), .lit (.int .u64 18374966859414961920), .lit (.int .u64 18446462603027742720), .lit (.int .u64 18446744069414584320)]
def laid_math_bits_deBruijn32tab {H : Type} : DataW H := .agg [.lit (.int .u8 0), .lit (.int .u8 1), .lit (.int .u8 28), .lit (.int .u8 2), .lit (.int .u8 29), .lit (.int .u8 14), .lit (.int .u8 24), .lit (.int .u8 3), .lit (.int .u8 30), .lit (.int .u8 22), .lit (.int .u8 20), .lit (.int .u8 15), .lit (.int .u8 25), .lit (.int .u8 17), .lit (.int .u8 4), .lit (.int .u8 8), .lit (.int .u8 31), .lit (.int .u8 27), .lit (.int .u8 13), .lit (.int .u8 23), .lit (.int .u8 21), .lit (.int .u8 19), .lit (.int .u8 16), .lit (.int .u8 7), .lit (.int .u8 26), .lit (.int .u8 12), .lit (.int .u8 18), .lit (.int .u8 6), .lit (.int .u8 11), .lit (.int .u8 5), .lit (.int .u8 10), .lit (.int .u8 9)]
def laid_math_bits_deBruijn64tab {H : Type} : DataW H := .agg [.lit (.int .u8 0), .lit (.int .u8 1), .lit (.int .u8 56), .lit (.int .u8 2), .lit (.int .u8 57), .lit (.int .u8 49), .lit (.int .u8 28), .lit (.int .u8 3), .lit (.int .u8 61), .lit (.int .u8 58), .lit (.int .u8 42), .lit (.int .u8 50), .lit (.int .u8 38), .lit (.int .u8 29), .lit (.int .u8 17), .lit (.int .u8 4), .lit (.int .u8 62), .lit (.int .u8 47), .lit (.int .u8 59), .lit (.int .u8 36), .lit (.int .u8 45), .lit (.int .u8 43), .lit (.int .u8 51), .lit (.int .u8 22), .lit (.int .u8 53), .lit (.int .u8 39), .lit (.int .u8 33), .lit (.int .u8 30), .lit (.int .u8 24), .lit (.int .u8 18), .lit (.int .u8 12), .lit (.int .u8 5), .lit (.int .u8 63), .lit (.int .u8 55), .lit (.int .u8 48), .lit (.int .u8 27), .lit (.int .u8 60), .lit (.int .u8 41), .lit (.int .u8 37), .lit (.int .u8 16), .lit (.int .u8 46), .lit (.int .u8 35), .lit (.int .u8 44), .lit (.int .u8 21), .lit (.int .u8 52), .lit (.int .u8 32), .lit (.int .u8 23), .lit (.int .u8 11), .lit (.int .u8 54), .lit (.int .u8 26), .lit (.int .u8 40), .lit (.int .u8 15), .lit (.int .u8 34), .lit (.int .u8 20), .lit (.int .u8 31), .lit (.int .u8 10), .lit (.int .u8 25), .lit (.int .u8 14), .lit (.int .u8 19), .lit (.int .u8 9), .lit (.int .u8 13), .lit (.int .u8 8), .lit (.int .u8 7), .lit (.int .u8 6)]
def laid_internal_strconv_uint64pow10 {H : Type} : DataW H := .agg [.lit (.int .u64 1), .lit (.int .u64 10), .lit (.int .u64 100), .lit (.int .u64 1000), .lit (.int .u64 10000), .lit (.int .u64 100000), .lit (.int .u64 1000000), .lit (.int .u64 10000000), .lit (.int .u64 100000000), .lit (.int .u64 1000000000), .lit (.int .u64 10000000000), .lit (.int .u64 100000000000), .lit (.int .u64 1000000000000), .lit (.int .u64 10000000000000), .lit (.int .u64 100000000000000), .lit (.int .u64 1000000000000000), .lit (.int .u64 10000000000000000), .lit (.int .u64 100000000000000000), .lit (.int .u64 1000000000000000000), .lit (.int .u64 10000000000000000000)]

/-- 'choicekeep.Joined': WHATEVER THE INPUT: true; the input reads as it did. -/
def joinedSpec : ChangeSpec := { name := "joined", fn := fun _ => fun
  | [d1, d2, d3, d4] => { results := [.lit (.bool true)], args := [d1, d2, d3, d4] }
  | _ => none }
def joinedRow : OpenClaim := { program := "ythoodkbdpnffdaadoor", sum := "78631c2c4c2008b3a133270c67f39080ea02d37b3981b617a5603d3d98178735", func := "choice/choicekeep.Joined", spec := "joined", recurses := true, named := ["choice/tables.columns"], apart := false, laid := [("choice/tables.columns", laid_choice_tables_columns)] }
def JoinedSaid : Prop := joinedRow.holds Tryd.pinned (OpenSpec.ofChange joinedSpec)

/-- ITS FALSE NEIGHBOUR: 'it returns false'. Refute it at one input. -/
def joinedWrong : ChangeSpec := { name := "joined", fn := fun _ => fun
  | [d1, d2, d3, d4] => { results := [.lit (.bool false)], args := [d1, d2, d3, d4] }
  | _ => none }
def JoinedWrongFalsely : Prop := joinedRow.holds Tryd.pinned (OpenSpec.ofChange joinedWrong)

/-- 'choicekeep.Counted': WHATEVER THE INPUT: true; the input reads as it did. -/
def countedSpec : ChangeSpec := { name := "counted", fn := fun _ => fun
  | [d1, d2] => { results := [.lit (.bool true)], args := [d1, d2] }
  | _ => none }
def countedRow : OpenClaim := { program := "ythoodkbdpnffdaadoor", sum := "78631c2c4c2008b3a133270c67f39080ea02d37b3981b617a5603d3d98178735", func := "choice/choicekeep.Counted", spec := "counted", recurses := true, named := ["choice/tables.columns"], apart := false, laid := [("choice/tables.columns", laid_choice_tables_columns)] }
def CountedSaid : Prop := countedRow.holds Tryd.pinned (OpenSpec.ofChange countedSpec)

/-- ITS FALSE NEIGHBOUR: 'it returns false'. Refute it at one input. -/
def countedWrong : ChangeSpec := { name := "counted", fn := fun _ => fun
  | [d1, d2] => { results := [.lit (.bool false)], args := [d1, d2] }
  | _ => none }
def CountedWrongFalsely : Prop := countedRow.holds Tryd.pinned (OpenSpec.ofChange countedWrong)

/-- 'choicekeep.Reclaimed': WHATEVER THE INPUT: true; the input reads as it did. -/
def reclaimedSpec : ChangeSpec := { name := "reclaimed", fn := fun _ => fun
  | [d1, d2, d3] => { results := [.lit (.bool true)], args := [d1, d2, d3] }
  | _ => none }
def reclaimedRow : OpenClaim := { program := "ythoodkbdpnffdaadoor", sum := "78631c2c4c2008b3a133270c67f39080ea02d37b3981b617a5603d3d98178735", func := "choice/choicekeep.Reclaimed", spec := "reclaimed", recurses := true, named := ["choice/tables.columns"], apart := false, laid := [("choice/tables.columns", laid_choice_tables_columns)] }
def ReclaimedSaid : Prop := reclaimedRow.holds Tryd.pinned (OpenSpec.ofChange reclaimedSpec)

/-- ITS FALSE NEIGHBOUR: 'it returns false'. Refute it at one input. -/
def reclaimedWrong : ChangeSpec := { name := "reclaimed", fn := fun _ => fun
  | [d1, d2, d3] => { results := [.lit (.bool false)], args := [d1, d2, d3] }
  | _ => none }
def ReclaimedWrongFalsely : Prop := reclaimedRow.holds Tryd.pinned (OpenSpec.ofChange reclaimedWrong)

/-- 'choicekeep.Tight': WHATEVER THE INPUT: true; the input reads as it did. -/
def tightSpec : ChangeSpec := { name := "tight", fn := fun _ => fun
  | [d1, d2] => { results := [.lit (.bool true)], args := [d1, d2] }
  | _ => none }
def tightRow : OpenClaim := { program := "ythoodkbdpnffdaadoor", sum := "78631c2c4c2008b3a133270c67f39080ea02d37b3981b617a5603d3d98178735", func := "choice/choicekeep.Tight", spec := "tight", recurses := true, named := ["choice/tables.columns"], apart := false, laid := [("choice/tables.columns", laid_choice_tables_columns)] }
def TightSaid : Prop := tightRow.holds Tryd.pinned (OpenSpec.ofChange tightSpec)

/-- ITS FALSE NEIGHBOUR: 'it returns false'. Refute it at one input. -/
def tightWrong : ChangeSpec := { name := "tight", fn := fun _ => fun
  | [d1, d2] => { results := [.lit (.bool false)], args := [d1, d2] }
  | _ => none }
def TightWrongFalsely : Prop := tightRow.holds Tryd.pinned (OpenSpec.ofChange tightWrong)

/-- 'choicekeep.Split': WHATEVER THE INPUT: true; the input reads as it did. -/
def splitSpec : ChangeSpec := { name := "split", fn := fun _ => fun
  | [d1, d2, d3, d4] => { results := [.lit (.bool true)], args := [d1, d2, d3, d4] }
  | _ => none }
def splitRow : OpenClaim := { program := "ythoodkbdpnffdaadoor", sum := "78631c2c4c2008b3a133270c67f39080ea02d37b3981b617a5603d3d98178735", func := "choice/choicekeep.Split", spec := "split", recurses := true, named := ["choice/tables.columns"], apart := false, laid := [("choice/tables.columns", laid_choice_tables_columns)] }
def SplitSaid : Prop := splitRow.holds Tryd.pinned (OpenSpec.ofChange splitSpec)

/-- ITS FALSE NEIGHBOUR: 'it returns false'. Refute it at one input. -/
def splitWrong : ChangeSpec := { name := "split", fn := fun _ => fun
  | [d1, d2, d3, d4] => { results := [.lit (.bool false)], args := [d1, d2, d3, d4] }
  | _ => none }
def SplitWrongFalsely : Prop := splitRow.holds Tryd.pinned (OpenSpec.ofChange splitWrong)

/-- 'choicekeep.Parity': WHATEVER THE INPUT: true; the input reads as it did. -/
def paritySpec : ChangeSpec := { name := "parity", fn := fun _ => fun
  | [d1, d2] => { results := [.lit (.bool true)], args := [d1, d2] }
  | _ => none }
def parityRow : OpenClaim := { program := "ythoodkbdpnffdaadoor", sum := "78631c2c4c2008b3a133270c67f39080ea02d37b3981b617a5603d3d98178735", func := "choice/choicekeep.Parity", spec := "parity", recurses := true, named := ["choice/tables.columns"], apart := false, laid := [("choice/tables.columns", laid_choice_tables_columns)] }
def ParitySaid : Prop := parityRow.holds Tryd.pinned (OpenSpec.ofChange paritySpec)

/-- ITS FALSE NEIGHBOUR: 'it returns false'. Refute it at one input. -/
def parityWrong : ChangeSpec := { name := "parity", fn := fun _ => fun
  | [d1, d2] => { results := [.lit (.bool false)], args := [d1, d2] }
  | _ => none }
def ParityWrongFalsely : Prop := parityRow.holds Tryd.pinned (OpenSpec.ofChange parityWrong)

/-- 'choicekeep.Swapped': WHATEVER THE INPUT: true; the input reads as it did. -/
def swappedSpec : ChangeSpec := { name := "swapped", fn := fun _ => fun
  | [d1, d2, d3] => { results := [.lit (.bool true)], args := [d1, d2, d3] }
  | _ => none }
def swappedRow : OpenClaim := { program := "ythoodkbdpnffdaadoor", sum := "78631c2c4c2008b3a133270c67f39080ea02d37b3981b617a5603d3d98178735", func := "choice/choicekeep.Swapped", spec := "swapped", recurses := true, named := ["choice/tables.columns"], apart := false, laid := [("choice/tables.columns", laid_choice_tables_columns)] }
def SwappedSaid : Prop := swappedRow.holds Tryd.pinned (OpenSpec.ofChange swappedSpec)

/-- ITS FALSE NEIGHBOUR: 'it returns false'. Refute it at one input. -/
def swappedWrong : ChangeSpec := { name := "swapped", fn := fun _ => fun
  | [d1, d2, d3] => { results := [.lit (.bool false)], args := [d1, d2, d3] }
  | _ => none }
def SwappedWrongFalsely : Prop := swappedRow.holds Tryd.pinned (OpenSpec.ofChange swappedWrong)

/-- 'choicekeep.Sifted': WHATEVER THE INPUT: true; the input reads as it did. -/
def siftedSpec : ChangeSpec := { name := "sifted", fn := fun _ => fun
  | [d1, d2, d3] => { results := [.lit (.bool true)], args := [d1, d2, d3] }
  | _ => none }
def siftedRow : OpenClaim := { program := "ythoodkbdpnffdaadoor", sum := "78631c2c4c2008b3a133270c67f39080ea02d37b3981b617a5603d3d98178735", func := "choice/choicekeep.Sifted", spec := "sifted", recurses := true, named := ["choice/tables.columns"], apart := false, laid := [("choice/tables.columns", laid_choice_tables_columns)] }
def SiftedSaid : Prop := siftedRow.holds Tryd.pinned (OpenSpec.ofChange siftedSpec)

/-- ITS FALSE NEIGHBOUR: 'it returns false'. Refute it at one input. -/
def siftedWrong : ChangeSpec := { name := "sifted", fn := fun _ => fun
  | [d1, d2, d3] => { results := [.lit (.bool false)], args := [d1, d2, d3] }
  | _ => none }
def SiftedWrongFalsely : Prop := siftedRow.holds Tryd.pinned (OpenSpec.ofChange siftedWrong)

/-- 'choicekeep.Carried': WHATEVER THE INPUT: true; the input reads as it did. -/
def carriedSpec : ChangeSpec := { name := "carried", fn := fun _ => fun
  | [d1, d2, d3, d4, d5] => { results := [.lit (.bool true)], args := [d1, d2, d3, d4, d5] }
  | _ => none }
def carriedRow : OpenClaim := { program := "ythoodkbdpnffdaadoor", sum := "78631c2c4c2008b3a133270c67f39080ea02d37b3981b617a5603d3d98178735", func := "choice/choicekeep.Carried", spec := "carried", recurses := true, named := ["choice/tables.columns", "internal/strconv.uint64pow10", "math/bits.deBruijn32tab", "math/bits.deBruijn64tab"], apart := false, laid := [("choice/tables.columns", laid_choice_tables_columns), ("math/bits.deBruijn32tab", laid_math_bits_deBruijn32tab), ("math/bits.deBruijn64tab", laid_math_bits_deBruijn64tab), ("internal/strconv.uint64pow10", laid_internal_strconv_uint64pow10)] }
def CarriedSaid : Prop := carriedRow.holds Tryd.pinned (OpenSpec.ofChange carriedSpec)

/-- ITS FALSE NEIGHBOUR: 'it returns false'. Refute it at one input. -/
def carriedWrong : ChangeSpec := { name := "carried", fn := fun _ => fun
  | [d1, d2, d3, d4, d5] => { results := [.lit (.bool false)], args := [d1, d2, d3, d4, d5] }
  | _ => none }
def CarriedWrongFalsely : Prop := carriedRow.holds Tryd.pinned (OpenSpec.ofChange carriedWrong)

/- THE SECOND FORM. 'bulk': how many values and letters a reading holds, each counted each time it is reached (what is shared counts as often as it is met; a slice's spare places count too). A statement '..UptoSaid' is the law's where the arguments, and the package variables that the reading takes, are together of bulk at most 1048576: NARROWER than '..Said'. Prove '..Said' where nothing that the law and all that it calls make is longer than what came in: it says more and counts as full. Else prove '..UptoSaid'. A law counts once. -/
mutual
def uptoBulk {H : Type} : DataW H → Nat
  | .lit (.string bytes) => bytes.length + 1
  | .lit _ => 1
  | .nil => 1
  | .ptr d => uptoBulk d + 1
  | .slice elems spare => uptoBulkAll elems + uptoBulkAll spare + 1
  | .agg parts => uptoBulkAll parts + 1
  | .iface _ d => uptoBulk d + 1
  | .map entries => uptoBulkEntries entries + 1
  | .held _ => 1
def uptoBulkAll {H : Type} : List (DataW H) → Nat
  | [] => 0
  | d :: r => uptoBulk d + uptoBulkAll r
def uptoBulkEntries {H : Type} : List (Lit × DataW H) → Nat
  | [] => 0
  | x :: r => uptoBulkEntry x + uptoBulkEntries r
def uptoBulkEntry {H : Type} : Lit × DataW H → Nat
  | (.string bytes, d) => bytes.length + uptoBulk d + 1
  | (_, d) => uptoBulk d + 1
 end
def uptoSmall : (H : Type) → List (DataW H) → Bool := fun _ ds => decide (uptoBulkAll ds ≤ 1048576)
def OpenSpec.upto (s : _root_.Go.ChangeSpec) : _root_.Go.OpenSpec := { _root_.Go.OpenSpec.ofChange s with cond := some uptoSmall }

/-- 'choicekeep.Joined', WHERE WHAT IT READS IS OF BULK AT MOST 1048576: true; the input reads as it did. -/
def joinedUptoRow : OpenClaim := { program := "ythoodkbdpnffdaadoor", sum := "78631c2c4c2008b3a133270c67f39080ea02d37b3981b617a5603d3d98178735", func := "choice/choicekeep.Joined", spec := "joined", recurses := true, named := ["choice/tables.columns"], apart := false, laid := [("choice/tables.columns", laid_choice_tables_columns)], narrowed := true }
def JoinedUptoSaid : Prop := joinedUptoRow.holds Tryd.pinned (OpenSpec.upto joinedSpec)

/-- 'choicekeep.Counted', WHERE WHAT IT READS IS OF BULK AT MOST 1048576: true; the input reads as it did. -/
def countedUptoRow : OpenClaim := { program := "ythoodkbdpnffdaadoor", sum := "78631c2c4c2008b3a133270c67f39080ea02d37b3981b617a5603d3d98178735", func := "choice/choicekeep.Counted", spec := "counted", recurses := true, named := ["choice/tables.columns"], apart := false, laid := [("choice/tables.columns", laid_choice_tables_columns)], narrowed := true }
def CountedUptoSaid : Prop := countedUptoRow.holds Tryd.pinned (OpenSpec.upto countedSpec)

/-- 'choicekeep.Reclaimed', WHERE WHAT IT READS IS OF BULK AT MOST 1048576: true; the input reads as it did. -/
def reclaimedUptoRow : OpenClaim := { program := "ythoodkbdpnffdaadoor", sum := "78631c2c4c2008b3a133270c67f39080ea02d37b3981b617a5603d3d98178735", func := "choice/choicekeep.Reclaimed", spec := "reclaimed", recurses := true, named := ["choice/tables.columns"], apart := false, laid := [("choice/tables.columns", laid_choice_tables_columns)], narrowed := true }
def ReclaimedUptoSaid : Prop := reclaimedUptoRow.holds Tryd.pinned (OpenSpec.upto reclaimedSpec)

/-- 'choicekeep.Tight', WHERE WHAT IT READS IS OF BULK AT MOST 1048576: true; the input reads as it did. -/
def tightUptoRow : OpenClaim := { program := "ythoodkbdpnffdaadoor", sum := "78631c2c4c2008b3a133270c67f39080ea02d37b3981b617a5603d3d98178735", func := "choice/choicekeep.Tight", spec := "tight", recurses := true, named := ["choice/tables.columns"], apart := false, laid := [("choice/tables.columns", laid_choice_tables_columns)], narrowed := true }
def TightUptoSaid : Prop := tightUptoRow.holds Tryd.pinned (OpenSpec.upto tightSpec)

/-- 'choicekeep.Split', WHERE WHAT IT READS IS OF BULK AT MOST 1048576: true; the input reads as it did. -/
def splitUptoRow : OpenClaim := { program := "ythoodkbdpnffdaadoor", sum := "78631c2c4c2008b3a133270c67f39080ea02d37b3981b617a5603d3d98178735", func := "choice/choicekeep.Split", spec := "split", recurses := true, named := ["choice/tables.columns"], apart := false, laid := [("choice/tables.columns", laid_choice_tables_columns)], narrowed := true }
def SplitUptoSaid : Prop := splitUptoRow.holds Tryd.pinned (OpenSpec.upto splitSpec)

/-- 'choicekeep.Parity', WHERE WHAT IT READS IS OF BULK AT MOST 1048576: true; the input reads as it did. -/
def parityUptoRow : OpenClaim := { program := "ythoodkbdpnffdaadoor", sum := "78631c2c4c2008b3a133270c67f39080ea02d37b3981b617a5603d3d98178735", func := "choice/choicekeep.Parity", spec := "parity", recurses := true, named := ["choice/tables.columns"], apart := false, laid := [("choice/tables.columns", laid_choice_tables_columns)], narrowed := true }
def ParityUptoSaid : Prop := parityUptoRow.holds Tryd.pinned (OpenSpec.upto paritySpec)

/-- 'choicekeep.Swapped', WHERE WHAT IT READS IS OF BULK AT MOST 1048576: true; the input reads as it did. -/
def swappedUptoRow : OpenClaim := { program := "ythoodkbdpnffdaadoor", sum := "78631c2c4c2008b3a133270c67f39080ea02d37b3981b617a5603d3d98178735", func := "choice/choicekeep.Swapped", spec := "swapped", recurses := true, named := ["choice/tables.columns"], apart := false, laid := [("choice/tables.columns", laid_choice_tables_columns)], narrowed := true }
def SwappedUptoSaid : Prop := swappedUptoRow.holds Tryd.pinned (OpenSpec.upto swappedSpec)

/-- 'choicekeep.Sifted', WHERE WHAT IT READS IS OF BULK AT MOST 1048576: true; the input reads as it did. -/
def siftedUptoRow : OpenClaim := { program := "ythoodkbdpnffdaadoor", sum := "78631c2c4c2008b3a133270c67f39080ea02d37b3981b617a5603d3d98178735", func := "choice/choicekeep.Sifted", spec := "sifted", recurses := true, named := ["choice/tables.columns"], apart := false, laid := [("choice/tables.columns", laid_choice_tables_columns)], narrowed := true }
def SiftedUptoSaid : Prop := siftedUptoRow.holds Tryd.pinned (OpenSpec.upto siftedSpec)

/-- 'choicekeep.Carried', WHERE WHAT IT READS IS OF BULK AT MOST 1048576: true; the input reads as it did. -/
def carriedUptoRow : OpenClaim := { program := "ythoodkbdpnffdaadoor", sum := "78631c2c4c2008b3a133270c67f39080ea02d37b3981b617a5603d3d98178735", func := "choice/choicekeep.Carried", spec := "carried", recurses := true, named := ["choice/tables.columns", "internal/strconv.uint64pow10", "math/bits.deBruijn32tab", "math/bits.deBruijn64tab"], apart := false, laid := [("choice/tables.columns", laid_choice_tables_columns), ("math/bits.deBruijn32tab", laid_math_bits_deBruijn32tab), ("math/bits.deBruijn64tab", laid_math_bits_deBruijn64tab), ("internal/strconv.uint64pow10", laid_internal_strconv_uint64pow10)], narrowed := true }
def CarriedUptoSaid : Prop := carriedUptoRow.holds Tryd.pinned (OpenSpec.upto carriedSpec)

end Rows
end Go.Proofs.YthoodkbdpnffdaaDoor
