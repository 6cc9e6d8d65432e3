/-
  NARROWER THAN 'FOR EVERY INPUT', by the rows' own cells (each row's printed sentence says how): WireWrites: laid · WireReads: laid · WireRoundTrip: laid · WireFindsBursts: laid · WireStays: laid · WireIsolated: laid.
  DERIVED. THE GIVEN ROWS OF THIS SEAT. 6 by the template 'for every input the law returns true; each argument reads behind the call as it read before'; 0 by the template 'total and deterministic' (their statements: YtkgghlhmgolfbaaDoorTotals.lean).
  GIVEN WITH THE SEED: the statements are not yours to turn. If you find one false, say at which input.
  Laid BY PROGRAM, IN A SANDBOX (cutbox-rows.mjs): the forced cells as the released guide's own fill.sh prints them over the translation 9e424089d0ed5676… (all of the seat's roots in one cut). By AI agents, Wed Nov 11 2026. No macro, syntax, notation, axiom, sorry.
-/
import Derived.Test.YtkgghlhmgolfbaaDoorChecked
import GoSem.Claim
import GoSem.ClaimJoined
import GoSem.ClaimMapViews
import Derived.JoinedTies
import Derived.KernelRfl
namespace Go.Proofs.YtkgghlhmgolfbaaDoor
/- THE CELL 'sum', in the pinned program and in every row, IS THE sha256 OF THE DUMP (.gsa) THAT YtkgghlhmgolfbaaDoorProg.lean LOADS. Nothing in Lean hashes anything: it is a label: what it is worth is what the hold of that sum in a sandbox is worth. -/
noncomputable def Tryd.pinned : Pinned := { name := "ytkgghlhmgolfbaadoor", sum := "9e424089d0ed5676f7abb66aa652ba9178b4465d20915df01a14ce1442e18aeb", checked := Tryd.checked }
namespace Rows
def none {H : Type} : Left H := { results := [], args := [] }

/- WHAT THE LISTED PACKAGE-LEVEL VARIABLES READ AS WHEN THE CALL BEGINS. Each datum BY PROGRAM (the guide's laid-datum.mjs) off the statement by which the dump's own 'gosem.cut.vars' lays the variable. In a bare row this is a premise. The card (YtkgghlhmgolfbaaDoorCards.lean) ties it to the program's text. -/
def laid_tsblock_crc_fourShifts {H : Type} : DataW H := .agg [.lit (.int .u32 0), .lit (.int .u32 498536548), .lit (.int .u32 997073096), .lit (.int .u32 651767980), .lit (.int .u32 1994146192), .lit (.int .u32 1802195444), .lit (.int .u32 1303535960), .lit (.int .u32 1342533948), .lit (.int .u32 3988292384), .lit (.int .u32 4027552580), .lit (.int .u32 3604390888), .lit (.int .u32 3412177804), .lit (.int .u32 2607071920), .lit (.int .u32 2262029012), .lit (.int .u32 2685067896), .lit (.int .u32 3183342108)]

/-- 'tsblocklaw04.WireWrites': WHATEVER THE INPUT: true; the input reads as it did. -/
def wireWritesSpec : ChangeSpec := { name := "wireWrites", fn := fun _ => fun
  | [d1, d2, d3] => { results := [.lit (.bool true)], args := [d1, d2, d3] }
  | _ => none }
def wireWritesRow : OpenClaim := { program := "ytkgghlhmgolfbaadoor", sum := "9e424089d0ed5676f7abb66aa652ba9178b4465d20915df01a14ce1442e18aeb", func := "tsblock/tsblocklaw04.WireWrites", spec := "wireWrites", unfollowed := true, recurses := true, named := ["tsblock/crc.fourShifts"], apart := false, laid := [("tsblock/crc.fourShifts", laid_tsblock_crc_fourShifts)] }
def WireWritesSaid : Prop := wireWritesRow.holds Tryd.pinned (OpenSpec.ofChange wireWritesSpec)

/-- ITS FALSE NEIGHBOUR: 'it returns false'. Refute it at one input. -/
def wireWritesWrong : ChangeSpec := { name := "wireWrites", fn := fun _ => fun
  | [d1, d2, d3] => { results := [.lit (.bool false)], args := [d1, d2, d3] }
  | _ => none }
def WireWritesWrongFalsely : Prop := wireWritesRow.holds Tryd.pinned (OpenSpec.ofChange wireWritesWrong)

/-- 'tsblocklaw04.WireReads': WHATEVER THE INPUT: true; the input reads as it did. -/
def wireReadsSpec : ChangeSpec := { name := "wireReads", fn := fun _ => fun
  | [d1, d2] => { results := [.lit (.bool true)], args := [d1, d2] }
  | _ => none }
def wireReadsRow : OpenClaim := { program := "ytkgghlhmgolfbaadoor", sum := "9e424089d0ed5676f7abb66aa652ba9178b4465d20915df01a14ce1442e18aeb", func := "tsblock/tsblocklaw04.WireReads", spec := "wireReads", unfollowed := true, recurses := true, named := ["tsblock/crc.fourShifts"], apart := false, laid := [("tsblock/crc.fourShifts", laid_tsblock_crc_fourShifts)] }
def WireReadsSaid : Prop := wireReadsRow.holds Tryd.pinned (OpenSpec.ofChange wireReadsSpec)

/-- ITS FALSE NEIGHBOUR: 'it returns false'. Refute it at one input. -/
def wireReadsWrong : ChangeSpec := { name := "wireReads", fn := fun _ => fun
  | [d1, d2] => { results := [.lit (.bool false)], args := [d1, d2] }
  | _ => none }
def WireReadsWrongFalsely : Prop := wireReadsRow.holds Tryd.pinned (OpenSpec.ofChange wireReadsWrong)

/-- 'tsblocklaw04.WireRoundTrip': WHATEVER THE INPUT: true; the input reads as it did. -/
def wireRoundTripSpec : ChangeSpec := { name := "wireRoundTrip", fn := fun _ => fun
  | [d1, d2] => { results := [.lit (.bool true)], args := [d1, d2] }
  | _ => none }
def wireRoundTripRow : OpenClaim := { program := "ytkgghlhmgolfbaadoor", sum := "9e424089d0ed5676f7abb66aa652ba9178b4465d20915df01a14ce1442e18aeb", func := "tsblock/tsblocklaw04.WireRoundTrip", spec := "wireRoundTrip", unfollowed := true, recurses := true, named := ["tsblock/crc.fourShifts"], apart := false, laid := [("tsblock/crc.fourShifts", laid_tsblock_crc_fourShifts)] }
def WireRoundTripSaid : Prop := wireRoundTripRow.holds Tryd.pinned (OpenSpec.ofChange wireRoundTripSpec)

/-- ITS FALSE NEIGHBOUR: 'it returns false'. Refute it at one input. -/
def wireRoundTripWrong : ChangeSpec := { name := "wireRoundTrip", fn := fun _ => fun
  | [d1, d2] => { results := [.lit (.bool false)], args := [d1, d2] }
  | _ => none }
def WireRoundTripWrongFalsely : Prop := wireRoundTripRow.holds Tryd.pinned (OpenSpec.ofChange wireRoundTripWrong)

/-- 'tsblocklaw04.WireFindsBursts': WHATEVER THE INPUT: true; the input reads as it did. -/
def wireFindsBurstsSpec : ChangeSpec := { name := "wireFindsBursts", fn := fun _ => fun
  | [d1, d2, d3] => { results := [.lit (.bool true)], args := [d1, d2, d3] }
  | _ => none }
def wireFindsBurstsRow : OpenClaim := { program := "ytkgghlhmgolfbaadoor", sum := "9e424089d0ed5676f7abb66aa652ba9178b4465d20915df01a14ce1442e18aeb", func := "tsblock/tsblocklaw04.WireFindsBursts", spec := "wireFindsBursts", unfollowed := true, recurses := true, named := ["tsblock/crc.fourShifts"], apart := false, laid := [("tsblock/crc.fourShifts", laid_tsblock_crc_fourShifts)] }
def WireFindsBurstsSaid : Prop := wireFindsBurstsRow.holds Tryd.pinned (OpenSpec.ofChange wireFindsBurstsSpec)

/-- ITS FALSE NEIGHBOUR: 'it returns false'. Refute it at one input. -/
def wireFindsBurstsWrong : ChangeSpec := { name := "wireFindsBursts", fn := fun _ => fun
  | [d1, d2, d3] => { results := [.lit (.bool false)], args := [d1, d2, d3] }
  | _ => none }
def WireFindsBurstsWrongFalsely : Prop := wireFindsBurstsRow.holds Tryd.pinned (OpenSpec.ofChange wireFindsBurstsWrong)

/-- 'tsblocklaw04.WireStays': WHATEVER THE INPUT: true; the input reads as it did. -/
def wireStaysSpec : ChangeSpec := { name := "wireStays", fn := fun _ => fun
  | [d1, d2, d3] => { results := [.lit (.bool true)], args := [d1, d2, d3] }
  | _ => none }
def wireStaysRow : OpenClaim := { program := "ytkgghlhmgolfbaadoor", sum := "9e424089d0ed5676f7abb66aa652ba9178b4465d20915df01a14ce1442e18aeb", func := "tsblock/tsblocklaw04.WireStays", spec := "wireStays", unfollowed := true, recurses := true, named := ["tsblock/crc.fourShifts"], apart := false, laid := [("tsblock/crc.fourShifts", laid_tsblock_crc_fourShifts)] }
def WireStaysSaid : Prop := wireStaysRow.holds Tryd.pinned (OpenSpec.ofChange wireStaysSpec)

/-- ITS FALSE NEIGHBOUR: 'it returns false'. Refute it at one input. -/
def wireStaysWrong : ChangeSpec := { name := "wireStays", fn := fun _ => fun
  | [d1, d2, d3] => { results := [.lit (.bool false)], args := [d1, d2, d3] }
  | _ => none }
def WireStaysWrongFalsely : Prop := wireStaysRow.holds Tryd.pinned (OpenSpec.ofChange wireStaysWrong)

/-- 'tsblocklaw04.WireIsolated': WHATEVER THE INPUT: true; the input reads as it did. -/
def wireIsolatedSpec : ChangeSpec := { name := "wireIsolated", fn := fun _ => fun
  | [d1, d2] => { results := [.lit (.bool true)], args := [d1, d2] }
  | _ => none }
def wireIsolatedRow : OpenClaim := { program := "ytkgghlhmgolfbaadoor", sum := "9e424089d0ed5676f7abb66aa652ba9178b4465d20915df01a14ce1442e18aeb", func := "tsblock/tsblocklaw04.WireIsolated", spec := "wireIsolated", unfollowed := true, recurses := true, named := ["tsblock/crc.fourShifts"], apart := false, laid := [("tsblock/crc.fourShifts", laid_tsblock_crc_fourShifts)] }
def WireIsolatedSaid : Prop := wireIsolatedRow.holds Tryd.pinned (OpenSpec.ofChange wireIsolatedSpec)

/-- ITS FALSE NEIGHBOUR: 'it returns false'. Refute it at one input. -/
def wireIsolatedWrong : ChangeSpec := { name := "wireIsolated", fn := fun _ => fun
  | [d1, d2] => { results := [.lit (.bool false)], args := [d1, d2] }
  | _ => none }
def WireIsolatedWrongFalsely : Prop := wireIsolatedRow.holds Tryd.pinned (OpenSpec.ofChange wireIsolatedWrong)

/- THE SECOND FORM. 'bulk': how many values and letters a reading holds, each counted each time it is reached (what is shared counts as often as it is met; a slice's spare places count too). A statement '..UptoSaid' is the law's where the arguments, and the package variables that the reading takes, are together of bulk at most 1048576: NARROWER than '..Said'. Prove '..Said' where nothing that the law and all that it calls make is longer than what came in: it says more and counts as full. Else prove '..UptoSaid'. A law counts once. -/
mutual
def uptoBulk {H : Type} : DataW H → Nat
  | .lit (.string bytes) => bytes.length + 1
  | .lit _ => 1
  | .nil => 1
  | .ptr d => uptoBulk d + 1
  | .slice elems spare => uptoBulkAll elems + uptoBulkAll spare + 1
  | .agg parts => uptoBulkAll parts + 1
  | .iface _ d => uptoBulk d + 1
  | .map entries => uptoBulkEntries entries + 1
  | .held _ => 1
def uptoBulkAll {H : Type} : List (DataW H) → Nat
  | [] => 0
  | d :: r => uptoBulk d + uptoBulkAll r
def uptoBulkEntries {H : Type} : List (Lit × DataW H) → Nat
  | [] => 0
  | x :: r => uptoBulkEntry x + uptoBulkEntries r
def uptoBulkEntry {H : Type} : Lit × DataW H → Nat
  | (.string bytes, d) => bytes.length + uptoBulk d + 1
  | (_, d) => uptoBulk d + 1
 end
def uptoSmall : (H : Type) → List (DataW H) → Bool := fun _ ds => decide (uptoBulkAll ds ≤ 1048576)
def OpenSpec.upto (s : _root_.Go.ChangeSpec) : _root_.Go.OpenSpec := { _root_.Go.OpenSpec.ofChange s with cond := some uptoSmall }

/-- 'tsblocklaw04.WireWrites', WHERE WHAT IT READS IS OF BULK AT MOST 1048576: true; the input reads as it did. -/
def wireWritesUptoRow : OpenClaim := { program := "ytkgghlhmgolfbaadoor", sum := "9e424089d0ed5676f7abb66aa652ba9178b4465d20915df01a14ce1442e18aeb", func := "tsblock/tsblocklaw04.WireWrites", spec := "wireWrites", unfollowed := true, recurses := true, named := ["tsblock/crc.fourShifts"], apart := false, laid := [("tsblock/crc.fourShifts", laid_tsblock_crc_fourShifts)], narrowed := true }
def WireWritesUptoSaid : Prop := wireWritesUptoRow.holds Tryd.pinned (OpenSpec.upto wireWritesSpec)

/-- 'tsblocklaw04.WireReads', WHERE WHAT IT READS IS OF BULK AT MOST 1048576: true; the input reads as it did. -/
def wireReadsUptoRow : OpenClaim := { program := "ytkgghlhmgolfbaadoor", sum := "9e424089d0ed5676f7abb66aa652ba9178b4465d20915df01a14ce1442e18aeb", func := "tsblock/tsblocklaw04.WireReads", spec := "wireReads", unfollowed := true, recurses := true, named := ["tsblock/crc.fourShifts"], apart := false, laid := [("tsblock/crc.fourShifts", laid_tsblock_crc_fourShifts)], narrowed := true }
def WireReadsUptoSaid : Prop := wireReadsUptoRow.holds Tryd.pinned (OpenSpec.upto wireReadsSpec)

/-- 'tsblocklaw04.WireRoundTrip', WHERE WHAT IT READS IS OF BULK AT MOST 1048576: true; the input reads as it did. -/
def wireRoundTripUptoRow : OpenClaim := { program := "ytkgghlhmgolfbaadoor", sum := "9e424089d0ed5676f7abb66aa652ba9178b4465d20915df01a14ce1442e18aeb", func := "tsblock/tsblocklaw04.WireRoundTrip", spec := "wireRoundTrip", unfollowed := true, recurses := true, named := ["tsblock/crc.fourShifts"], apart := false, laid := [("tsblock/crc.fourShifts", laid_tsblock_crc_fourShifts)], narrowed := true }
def WireRoundTripUptoSaid : Prop := wireRoundTripUptoRow.holds Tryd.pinned (OpenSpec.upto wireRoundTripSpec)

/-- 'tsblocklaw04.WireFindsBursts', WHERE WHAT IT READS IS OF BULK AT MOST 1048576: true; the input reads as it did. -/
def wireFindsBurstsUptoRow : OpenClaim := { program := "ytkgghlhmgolfbaadoor", sum := "9e424089d0ed5676f7abb66aa652ba9178b4465d20915df01a14ce1442e18aeb", func := "tsblock/tsblocklaw04.WireFindsBursts", spec := "wireFindsBursts", unfollowed := true, recurses := true, named := ["tsblock/crc.fourShifts"], apart := false, laid := [("tsblock/crc.fourShifts", laid_tsblock_crc_fourShifts)], narrowed := true }
def WireFindsBurstsUptoSaid : Prop := wireFindsBurstsUptoRow.holds Tryd.pinned (OpenSpec.upto wireFindsBurstsSpec)

/-- 'tsblocklaw04.WireStays', WHERE WHAT IT READS IS OF BULK AT MOST 1048576: true; the input reads as it did. -/
def wireStaysUptoRow : OpenClaim := { program := "ytkgghlhmgolfbaadoor", sum := "9e424089d0ed5676f7abb66aa652ba9178b4465d20915df01a14ce1442e18aeb", func := "tsblock/tsblocklaw04.WireStays", spec := "wireStays", unfollowed := true, recurses := true, named := ["tsblock/crc.fourShifts"], apart := false, laid := [("tsblock/crc.fourShifts", laid_tsblock_crc_fourShifts)], narrowed := true }
def WireStaysUptoSaid : Prop := wireStaysUptoRow.holds Tryd.pinned (OpenSpec.upto wireStaysSpec)

/-- 'tsblocklaw04.WireIsolated', WHERE WHAT IT READS IS OF BULK AT MOST 1048576: true; the input reads as it did. -/
def wireIsolatedUptoRow : OpenClaim := { program := "ytkgghlhmgolfbaadoor", sum := "9e424089d0ed5676f7abb66aa652ba9178b4465d20915df01a14ce1442e18aeb", func := "tsblock/tsblocklaw04.WireIsolated", spec := "wireIsolated", unfollowed := true, recurses := true, named := ["tsblock/crc.fourShifts"], apart := false, laid := [("tsblock/crc.fourShifts", laid_tsblock_crc_fourShifts)], narrowed := true }
def WireIsolatedUptoSaid : Prop := wireIsolatedUptoRow.holds Tryd.pinned (OpenSpec.upto wireIsolatedSpec)

end Rows
end Go.Proofs.YtkgghlhmgolfbaaDoor
