/-
  NARROWER THAN 'FOR EVERY INPUT', by the rows' own cells (each row's printed sentence says how): LayoutAssembles: laid · LayoutParses: laid · LayoutRoundTrip: laid · LayoutIsCanonical: laid · LayoutPrefixes: laid · LayoutFindsBursts: laid.
  DERIVED. THE GIVEN ROWS OF THIS SEAT. 6 by the template 'for every input the law returns true; each argument reads behind the call as it read before'; 0 by the template 'total and deterministic' (their statements: YtlgphgipfjlbfaaDoorTotals.lean).
  GIVEN WITH THE SEED: the statements are not yours to turn. If you find one false, say at which input.
  Laid BY PROGRAM, IN A SANDBOX (cutbox-rows.mjs): the forced cells as the released guide's own fill.sh prints them over the translation 051376e86b4aa3c8… (all of the seat's roots in one cut). By AI agents, Wed Nov 11 2026. No macro, syntax, notation, axiom, sorry.
-/
import Derived.Test.YtlgphgipfjlbfaaDoorChecked
import GoSem.Claim
import GoSem.ClaimJoined
import GoSem.ClaimMapViews
import Derived.JoinedTies
import Derived.KernelRfl
namespace Go.Proofs.YtlgphgipfjlbfaaDoor
/- THE CELL 'sum', in the pinned program and in every row, IS THE sha256 OF THE DUMP (.gsa) THAT YtlgphgipfjlbfaaDoorProg.lean LOADS. Nothing in Lean hashes anything: it is a label: what it is worth is what the hold of that sum in a sandbox is worth. -/
noncomputable def Tryd.pinned : Pinned := { name := "ytlgphgipfjlbfaadoor", sum := "051376e86b4aa3c8287d60af984887ba56b82ef970ae381cd3d068bd2cab2fc2", checked := Tryd.checked }
namespace Rows
def none {H : Type} : Left H := { results := [], args := [] }

/- WHAT THE LISTED PACKAGE-LEVEL VARIABLES READ AS WHEN THE CALL BEGINS. Each datum BY PROGRAM (the guide's laid-datum.mjs) off the statement by which the dump's own 'gosem.cut.vars' lays the variable. In a bare row this is a premise. The card (YtlgphgipfjlbfaaDoorCards.lean) ties it to the program's text. -/
def laid_tsblock_crc_fourShifts {H : Type} : DataW H := .agg [.lit (.int .u32 0), .lit (.int .u32 498536548), .lit (.int .u32 997073096), .lit (.int .u32 651767980), .lit (.int .u32 1994146192), .lit (.int .u32 1802195444), .lit (.int .u32 1303535960), .lit (.int .u32 1342533948), .lit (.int .u32 3988292384), .lit (.int .u32 4027552580), .lit (.int .u32 3604390888), .lit (.int .u32 3412177804), .lit (.int .u32 2607071920), .lit (.int .u32 2262029012), .lit (.int .u32 2685067896), .lit (.int .u32 3183342108)]

/-- 'tsblocklaw16.LayoutAssembles': WHATEVER THE INPUT: true; the input reads as it did. -/
def layoutAssemblesSpec : ChangeSpec := { name := "layoutAssembles", fn := fun _ => fun
  | [d] => { results := [.lit (.bool true)], args := [d] }
  | _ => none }
def layoutAssemblesRow : OpenClaim := { program := "ytlgphgipfjlbfaadoor", sum := "051376e86b4aa3c8287d60af984887ba56b82ef970ae381cd3d068bd2cab2fc2", func := "tsblock/tsblocklaw16.LayoutAssembles", spec := "layoutAssembles", unfollowed := true, recurses := true, named := ["tsblock/crc.fourShifts"], apart := false, laid := [("tsblock/crc.fourShifts", laid_tsblock_crc_fourShifts)] }
def LayoutAssemblesSaid : Prop := layoutAssemblesRow.holds Tryd.pinned (OpenSpec.ofChange layoutAssemblesSpec)

/-- ITS FALSE NEIGHBOUR: 'it returns false'. Refute it at one input. -/
def layoutAssemblesWrong : ChangeSpec := { name := "layoutAssembles", fn := fun _ => fun
  | [d] => { results := [.lit (.bool false)], args := [d] }
  | _ => none }
def LayoutAssemblesWrongFalsely : Prop := layoutAssemblesRow.holds Tryd.pinned (OpenSpec.ofChange layoutAssemblesWrong)

/-- 'tsblocklaw16.LayoutParses': WHATEVER THE INPUT: true; the input reads as it did. -/
def layoutParsesSpec : ChangeSpec := { name := "layoutParses", fn := fun _ => fun
  | [d] => { results := [.lit (.bool true)], args := [d] }
  | _ => none }
def layoutParsesRow : OpenClaim := { program := "ytlgphgipfjlbfaadoor", sum := "051376e86b4aa3c8287d60af984887ba56b82ef970ae381cd3d068bd2cab2fc2", func := "tsblock/tsblocklaw16.LayoutParses", spec := "layoutParses", unfollowed := true, recurses := true, named := ["tsblock/crc.fourShifts"], apart := false, laid := [("tsblock/crc.fourShifts", laid_tsblock_crc_fourShifts)] }
def LayoutParsesSaid : Prop := layoutParsesRow.holds Tryd.pinned (OpenSpec.ofChange layoutParsesSpec)

/-- ITS FALSE NEIGHBOUR: 'it returns false'. Refute it at one input. -/
def layoutParsesWrong : ChangeSpec := { name := "layoutParses", fn := fun _ => fun
  | [d] => { results := [.lit (.bool false)], args := [d] }
  | _ => none }
def LayoutParsesWrongFalsely : Prop := layoutParsesRow.holds Tryd.pinned (OpenSpec.ofChange layoutParsesWrong)

/-- 'tsblocklaw16.LayoutRoundTrip': WHATEVER THE INPUT: true; the input reads as it did. -/
def layoutRoundTripSpec : ChangeSpec := { name := "layoutRoundTrip", fn := fun _ => fun
  | [d] => { results := [.lit (.bool true)], args := [d] }
  | _ => none }
def layoutRoundTripRow : OpenClaim := { program := "ytlgphgipfjlbfaadoor", sum := "051376e86b4aa3c8287d60af984887ba56b82ef970ae381cd3d068bd2cab2fc2", func := "tsblock/tsblocklaw16.LayoutRoundTrip", spec := "layoutRoundTrip", unfollowed := true, recurses := true, named := ["tsblock/crc.fourShifts"], apart := false, laid := [("tsblock/crc.fourShifts", laid_tsblock_crc_fourShifts)] }
def LayoutRoundTripSaid : Prop := layoutRoundTripRow.holds Tryd.pinned (OpenSpec.ofChange layoutRoundTripSpec)

/-- ITS FALSE NEIGHBOUR: 'it returns false'. Refute it at one input. -/
def layoutRoundTripWrong : ChangeSpec := { name := "layoutRoundTrip", fn := fun _ => fun
  | [d] => { results := [.lit (.bool false)], args := [d] }
  | _ => none }
def LayoutRoundTripWrongFalsely : Prop := layoutRoundTripRow.holds Tryd.pinned (OpenSpec.ofChange layoutRoundTripWrong)

/-- 'tsblocklaw16.LayoutIsCanonical': WHATEVER THE INPUT: true; the input reads as it did. -/
def layoutIsCanonicalSpec : ChangeSpec := { name := "layoutIsCanonical", fn := fun _ => fun
  | [d] => { results := [.lit (.bool true)], args := [d] }
  | _ => none }
def layoutIsCanonicalRow : OpenClaim := { program := "ytlgphgipfjlbfaadoor", sum := "051376e86b4aa3c8287d60af984887ba56b82ef970ae381cd3d068bd2cab2fc2", func := "tsblock/tsblocklaw16.LayoutIsCanonical", spec := "layoutIsCanonical", unfollowed := true, recurses := true, named := ["tsblock/crc.fourShifts"], apart := false, laid := [("tsblock/crc.fourShifts", laid_tsblock_crc_fourShifts)] }
def LayoutIsCanonicalSaid : Prop := layoutIsCanonicalRow.holds Tryd.pinned (OpenSpec.ofChange layoutIsCanonicalSpec)

/-- ITS FALSE NEIGHBOUR: 'it returns false'. Refute it at one input. -/
def layoutIsCanonicalWrong : ChangeSpec := { name := "layoutIsCanonical", fn := fun _ => fun
  | [d] => { results := [.lit (.bool false)], args := [d] }
  | _ => none }
def LayoutIsCanonicalWrongFalsely : Prop := layoutIsCanonicalRow.holds Tryd.pinned (OpenSpec.ofChange layoutIsCanonicalWrong)

/-- 'tsblocklaw16.LayoutPrefixes': WHATEVER THE INPUT: true; the input reads as it did. -/
def layoutPrefixesSpec : ChangeSpec := { name := "layoutPrefixes", fn := fun _ => fun
  | [d1, d2, d3] => { results := [.lit (.bool true)], args := [d1, d2, d3] }
  | _ => none }
def layoutPrefixesRow : OpenClaim := { program := "ytlgphgipfjlbfaadoor", sum := "051376e86b4aa3c8287d60af984887ba56b82ef970ae381cd3d068bd2cab2fc2", func := "tsblock/tsblocklaw16.LayoutPrefixes", spec := "layoutPrefixes", unfollowed := true, recurses := true, named := ["tsblock/crc.fourShifts"], apart := false, laid := [("tsblock/crc.fourShifts", laid_tsblock_crc_fourShifts)] }
def LayoutPrefixesSaid : Prop := layoutPrefixesRow.holds Tryd.pinned (OpenSpec.ofChange layoutPrefixesSpec)

/-- ITS FALSE NEIGHBOUR: 'it returns false'. Refute it at one input. -/
def layoutPrefixesWrong : ChangeSpec := { name := "layoutPrefixes", fn := fun _ => fun
  | [d1, d2, d3] => { results := [.lit (.bool false)], args := [d1, d2, d3] }
  | _ => none }
def LayoutPrefixesWrongFalsely : Prop := layoutPrefixesRow.holds Tryd.pinned (OpenSpec.ofChange layoutPrefixesWrong)

/-- 'tsblocklaw16.LayoutFindsBursts': WHATEVER THE INPUT: true; the input reads as it did. -/
def layoutFindsBurstsSpec : ChangeSpec := { name := "layoutFindsBursts", fn := fun _ => fun
  | [d1, d2, d3] => { results := [.lit (.bool true)], args := [d1, d2, d3] }
  | _ => none }
def layoutFindsBurstsRow : OpenClaim := { program := "ytlgphgipfjlbfaadoor", sum := "051376e86b4aa3c8287d60af984887ba56b82ef970ae381cd3d068bd2cab2fc2", func := "tsblock/tsblocklaw16.LayoutFindsBursts", spec := "layoutFindsBursts", unfollowed := true, recurses := true, named := ["tsblock/crc.fourShifts"], apart := false, laid := [("tsblock/crc.fourShifts", laid_tsblock_crc_fourShifts)] }
def LayoutFindsBurstsSaid : Prop := layoutFindsBurstsRow.holds Tryd.pinned (OpenSpec.ofChange layoutFindsBurstsSpec)

/-- ITS FALSE NEIGHBOUR: 'it returns false'. Refute it at one input. -/
def layoutFindsBurstsWrong : ChangeSpec := { name := "layoutFindsBursts", fn := fun _ => fun
  | [d1, d2, d3] => { results := [.lit (.bool false)], args := [d1, d2, d3] }
  | _ => none }
def LayoutFindsBurstsWrongFalsely : Prop := layoutFindsBurstsRow.holds Tryd.pinned (OpenSpec.ofChange layoutFindsBurstsWrong)

/- THE SECOND FORM. 'bulk': how many values and letters a reading holds, each counted each time it is reached (what is shared counts as often as it is met; a slice's spare places count too). A statement '..UptoSaid' is the law's where the arguments, and the package variables that the reading takes, are together of bulk at most 1048576: NARROWER than '..Said'. Prove '..Said' where nothing that the law and all that it calls make is longer than what came in: it says more and counts as full. Else prove '..UptoSaid'. A law counts once. -/
mutual
def uptoBulk {H : Type} : DataW H → Nat
  | .lit (.string bytes) => bytes.length + 1
  | .lit _ => 1
  | .nil => 1
  | .ptr d => uptoBulk d + 1
  | .slice elems spare => uptoBulkAll elems + uptoBulkAll spare + 1
  | .agg parts => uptoBulkAll parts + 1
  | .iface _ d => uptoBulk d + 1
  | .map entries => uptoBulkEntries entries + 1
  | .held _ => 1
def uptoBulkAll {H : Type} : List (DataW H) → Nat
  | [] => 0
  | d :: r => uptoBulk d + uptoBulkAll r
def uptoBulkEntries {H : Type} : List (Lit × DataW H) → Nat
  | [] => 0
  | x :: r => uptoBulkEntry x + uptoBulkEntries r
def uptoBulkEntry {H : Type} : Lit × DataW H → Nat
  | (.string bytes, d) => bytes.length + uptoBulk d + 1
  | (_, d) => uptoBulk d + 1
 end
def uptoSmall : (H : Type) → List (DataW H) → Bool := fun _ ds => decide (uptoBulkAll ds ≤ 1048576)
def OpenSpec.upto (s : _root_.Go.ChangeSpec) : _root_.Go.OpenSpec := { _root_.Go.OpenSpec.ofChange s with cond := some uptoSmall }

/-- 'tsblocklaw16.LayoutAssembles', WHERE WHAT IT READS IS OF BULK AT MOST 1048576: true; the input reads as it did. -/
def layoutAssemblesUptoRow : OpenClaim := { program := "ytlgphgipfjlbfaadoor", sum := "051376e86b4aa3c8287d60af984887ba56b82ef970ae381cd3d068bd2cab2fc2", func := "tsblock/tsblocklaw16.LayoutAssembles", spec := "layoutAssembles", unfollowed := true, recurses := true, named := ["tsblock/crc.fourShifts"], apart := false, laid := [("tsblock/crc.fourShifts", laid_tsblock_crc_fourShifts)], narrowed := true }
def LayoutAssemblesUptoSaid : Prop := layoutAssemblesUptoRow.holds Tryd.pinned (OpenSpec.upto layoutAssemblesSpec)

/-- 'tsblocklaw16.LayoutParses', WHERE WHAT IT READS IS OF BULK AT MOST 1048576: true; the input reads as it did. -/
def layoutParsesUptoRow : OpenClaim := { program := "ytlgphgipfjlbfaadoor", sum := "051376e86b4aa3c8287d60af984887ba56b82ef970ae381cd3d068bd2cab2fc2", func := "tsblock/tsblocklaw16.LayoutParses", spec := "layoutParses", unfollowed := true, recurses := true, named := ["tsblock/crc.fourShifts"], apart := false, laid := [("tsblock/crc.fourShifts", laid_tsblock_crc_fourShifts)], narrowed := true }
def LayoutParsesUptoSaid : Prop := layoutParsesUptoRow.holds Tryd.pinned (OpenSpec.upto layoutParsesSpec)

/-- 'tsblocklaw16.LayoutRoundTrip', WHERE WHAT IT READS IS OF BULK AT MOST 1048576: true; the input reads as it did. -/
def layoutRoundTripUptoRow : OpenClaim := { program := "ytlgphgipfjlbfaadoor", sum := "051376e86b4aa3c8287d60af984887ba56b82ef970ae381cd3d068bd2cab2fc2", func := "tsblock/tsblocklaw16.LayoutRoundTrip", spec := "layoutRoundTrip", unfollowed := true, recurses := true, named := ["tsblock/crc.fourShifts"], apart := false, laid := [("tsblock/crc.fourShifts", laid_tsblock_crc_fourShifts)], narrowed := true }
def LayoutRoundTripUptoSaid : Prop := layoutRoundTripUptoRow.holds Tryd.pinned (OpenSpec.upto layoutRoundTripSpec)

/-- 'tsblocklaw16.LayoutIsCanonical', WHERE WHAT IT READS IS OF BULK AT MOST 1048576: true; the input reads as it did. -/
def layoutIsCanonicalUptoRow : OpenClaim := { program := "ytlgphgipfjlbfaadoor", sum := "051376e86b4aa3c8287d60af984887ba56b82ef970ae381cd3d068bd2cab2fc2", func := "tsblock/tsblocklaw16.LayoutIsCanonical", spec := "layoutIsCanonical", unfollowed := true, recurses := true, named := ["tsblock/crc.fourShifts"], apart := false, laid := [("tsblock/crc.fourShifts", laid_tsblock_crc_fourShifts)], narrowed := true }
def LayoutIsCanonicalUptoSaid : Prop := layoutIsCanonicalUptoRow.holds Tryd.pinned (OpenSpec.upto layoutIsCanonicalSpec)

/-- 'tsblocklaw16.LayoutPrefixes', WHERE WHAT IT READS IS OF BULK AT MOST 1048576: true; the input reads as it did. -/
def layoutPrefixesUptoRow : OpenClaim := { program := "ytlgphgipfjlbfaadoor", sum := "051376e86b4aa3c8287d60af984887ba56b82ef970ae381cd3d068bd2cab2fc2", func := "tsblock/tsblocklaw16.LayoutPrefixes", spec := "layoutPrefixes", unfollowed := true, recurses := true, named := ["tsblock/crc.fourShifts"], apart := false, laid := [("tsblock/crc.fourShifts", laid_tsblock_crc_fourShifts)], narrowed := true }
def LayoutPrefixesUptoSaid : Prop := layoutPrefixesUptoRow.holds Tryd.pinned (OpenSpec.upto layoutPrefixesSpec)

/-- 'tsblocklaw16.LayoutFindsBursts', WHERE WHAT IT READS IS OF BULK AT MOST 1048576: true; the input reads as it did. -/
def layoutFindsBurstsUptoRow : OpenClaim := { program := "ytlgphgipfjlbfaadoor", sum := "051376e86b4aa3c8287d60af984887ba56b82ef970ae381cd3d068bd2cab2fc2", func := "tsblock/tsblocklaw16.LayoutFindsBursts", spec := "layoutFindsBursts", unfollowed := true, recurses := true, named := ["tsblock/crc.fourShifts"], apart := false, laid := [("tsblock/crc.fourShifts", laid_tsblock_crc_fourShifts)], narrowed := true }
def LayoutFindsBurstsUptoSaid : Prop := layoutFindsBurstsUptoRow.holds Tryd.pinned (OpenSpec.upto layoutFindsBurstsSpec)

end Rows
end Go.Proofs.YtlgphgipfjlbfaaDoor
