/-
  NARROWER THAN 'FOR EVERY INPUT', by the rows' own cells (each row's printed sentence says how): ChunkChooses: laid · ChunkEncodes: laid · ChunkDecodes: laid · ChunkRoundTrip: laid · ChunkIsCanonical: laid · ChunkSplits: laid.
  DERIVED. THE GIVEN ROWS OF THIS SEAT. 6 by the template 'for every input the law returns true; each argument reads behind the call as it read before'; 0 by the template 'total and deterministic' (their statements: YtgpmoimmpbkgfaaGreatDoorTotals.lean).
  GIVEN WITH THE SEED: the statements are not yours to turn. If you find one false, say at which input.
  Laid BY PROGRAM, IN A SANDBOX (cutbox-rows.mjs): the forced cells as the released guide's own fill.sh prints them over the translation 11381c79eb39ed2c… (all of the seat's roots in one cut). By AI agents, Wed Nov 11 2026. No macro, syntax, notation, axiom, sorry.
-/
import Derived.Test.YtgpmoimmpbkgfaaGreatDoorChecked
import GoSem.Claim
import GoSem.ClaimJoined
import GoSem.ClaimMapViews
import Derived.JoinedTies
import Derived.KernelRfl
namespace Go.Proofs.YtgpmoimmpbkgfaaGreatDoor
/- THE CELL 'sum', in the pinned program and in every row, IS THE sha256 OF THE DUMP (.gsa) THAT YtgpmoimmpbkgfaaGreatDoorProg.lean LOADS. Nothing in Lean hashes anything: it is a label: what it is worth is what the hold of that sum in a sandbox is worth. -/
noncomputable def Tryz.pinned : Pinned := { name := "ytgpmoimmpbkgfaagreatdoor", sum := "11381c79eb39ed2c830b24794bedc2874a503f4ff64fcffca97ec7138c60e6a0", checked := Tryz.checked }
namespace Rows
def none {H : Type} : Left H := { results := [], args := [] }

/- WHAT THE LISTED PACKAGE-LEVEL VARIABLES READ AS WHEN THE CALL BEGINS. Each datum BY PROGRAM (the guide's laid-datum.mjs) off the statement by which the dump's own 'gosem.cut.vars' lays the variable. In a bare row this is a premise. The card (YtgpmoimmpbkgfaaGreatDoorCards.lean) ties it to the program's text. -/
def laid_math_bits_deBruijn64tab {H : Type} : DataW H := .agg [.lit (.int .u8 0), .lit (.int .u8 1), .lit (.int .u8 56), .lit (.int .u8 2), .lit (.int .u8 57), .lit (.int .u8 49), .lit (.int .u8 28), .lit (.int .u8 3), .lit (.int .u8 61), .lit (.int .u8 58), .lit (.int .u8 42), .lit (.int .u8 50), .lit (.int .u8 38), .lit (.int .u8 29), .lit (.int .u8 17), .lit (.int .u8 4), .lit (.int .u8 62), .lit (.int .u8 47), .lit (.int .u8 59), .lit (.int .u8 36), .lit (.int .u8 45), .lit (.int .u8 43), .lit (.int .u8 51), .lit (.int .u8 22), .lit (.int .u8 53), .lit (.int .u8 39), .lit (.int .u8 33), .lit (.int .u8 30), .lit (.int .u8 24), .lit (.int .u8 18), .lit (.int .u8 12), .lit (.int .u8 5), .lit (.int .u8 63), .lit (.int .u8 55), .lit (.int .u8 48), .lit (.int .u8 27), .lit (.int .u8 60), .lit (.int .u8 41), .lit (.int .u8 37), .lit (.int .u8 16), .lit (.int .u8 46), .lit (.int .u8 35), .lit (.int .u8 44), .lit (.int .u8 21), .lit (.int .u8 52), .lit (.int .u8 32), .lit (.int .u8 23), .lit (.int .u8 11), .lit (.int .u8 54), .lit (.int .u8 26), .lit (.int .u8 40), .lit (.int .u8 15), .lit (.int .u8 34), .lit (.int .u8 20), .lit (.int .u8 31), .lit (.int .u8 10), .lit (.int .u8 25), .lit (.int .u8 14), .lit (.int .u8 19), .lit (.int .u8 9), .lit (.int .u8 13), .lit (.int .u8 8), .lit (.int .u8 7), .lit (.int .u8 6)]
def laid_tsblock_times_forms {H : Type} : DataW H := .agg [.agg [.lit (.int .u64 0), .lit (.int .i64 1), .lit (.int .i64 0)], .agg [.lit (.int .u64 2), .lit (.int .i64 2), .lit (.int .i64 7)], .agg [.lit (.int .u64 6), .lit (.int .i64 3), .lit (.int .i64 12)], .agg [.lit (.int .u64 14), .lit (.int .i64 4), .lit (.int .i64 32)], .agg [.lit (.int .u64 15), .lit (.int .i64 4), .lit (.int .i64 64)]]

/-- 'tsblocklaw09.ChunkChooses': WHATEVER THE INPUT: true; the input reads as it did. -/
def chunkChoosesSpec : ChangeSpec := { name := "chunkChooses", fn := fun _ => fun
  | [d] => { results := [.lit (.bool true)], args := [d] }
  | _ => none }
def chunkChoosesRow : OpenClaim := { program := "ytgpmoimmpbkgfaagreatdoor", sum := "11381c79eb39ed2c830b24794bedc2874a503f4ff64fcffca97ec7138c60e6a0", func := "tsblock/tsblocklaw09.ChunkChooses", spec := "chunkChooses", unfollowed := true, recurses := true, named := ["math/bits.deBruijn64tab", "tsblock/times.forms"], apart := false, laid := [("math/bits.deBruijn64tab", laid_math_bits_deBruijn64tab), ("tsblock/times.forms", laid_tsblock_times_forms)] }
def ChunkChoosesSaid : Prop := chunkChoosesRow.holds Tryz.pinned (OpenSpec.ofChange chunkChoosesSpec)

/-- ITS FALSE NEIGHBOUR: 'it returns false'. Refute it at one input. -/
def chunkChoosesWrong : ChangeSpec := { name := "chunkChooses", fn := fun _ => fun
  | [d] => { results := [.lit (.bool false)], args := [d] }
  | _ => none }
def ChunkChoosesWrongFalsely : Prop := chunkChoosesRow.holds Tryz.pinned (OpenSpec.ofChange chunkChoosesWrong)

/-- 'tsblocklaw09.ChunkEncodes': WHATEVER THE INPUT: true; the input reads as it did. -/
def chunkEncodesSpec : ChangeSpec := { name := "chunkEncodes", fn := fun _ => fun
  | [d] => { results := [.lit (.bool true)], args := [d] }
  | _ => none }
def chunkEncodesRow : OpenClaim := { program := "ytgpmoimmpbkgfaagreatdoor", sum := "11381c79eb39ed2c830b24794bedc2874a503f4ff64fcffca97ec7138c60e6a0", func := "tsblock/tsblocklaw09.ChunkEncodes", spec := "chunkEncodes", unfollowed := true, recurses := true, named := ["math/bits.deBruijn64tab", "tsblock/times.forms"], apart := false, laid := [("math/bits.deBruijn64tab", laid_math_bits_deBruijn64tab), ("tsblock/times.forms", laid_tsblock_times_forms)] }
def ChunkEncodesSaid : Prop := chunkEncodesRow.holds Tryz.pinned (OpenSpec.ofChange chunkEncodesSpec)

/-- ITS FALSE NEIGHBOUR: 'it returns false'. Refute it at one input. -/
def chunkEncodesWrong : ChangeSpec := { name := "chunkEncodes", fn := fun _ => fun
  | [d] => { results := [.lit (.bool false)], args := [d] }
  | _ => none }
def ChunkEncodesWrongFalsely : Prop := chunkEncodesRow.holds Tryz.pinned (OpenSpec.ofChange chunkEncodesWrong)

/-- 'tsblocklaw09.ChunkDecodes': WHATEVER THE INPUT: true; the input reads as it did. -/
def chunkDecodesSpec : ChangeSpec := { name := "chunkDecodes", fn := fun _ => fun
  | [d] => { results := [.lit (.bool true)], args := [d] }
  | _ => none }
def chunkDecodesRow : OpenClaim := { program := "ytgpmoimmpbkgfaagreatdoor", sum := "11381c79eb39ed2c830b24794bedc2874a503f4ff64fcffca97ec7138c60e6a0", func := "tsblock/tsblocklaw09.ChunkDecodes", spec := "chunkDecodes", unfollowed := true, recurses := true, named := ["math/bits.deBruijn64tab", "tsblock/times.forms"], apart := false, laid := [("math/bits.deBruijn64tab", laid_math_bits_deBruijn64tab), ("tsblock/times.forms", laid_tsblock_times_forms)] }
def ChunkDecodesSaid : Prop := chunkDecodesRow.holds Tryz.pinned (OpenSpec.ofChange chunkDecodesSpec)

/-- ITS FALSE NEIGHBOUR: 'it returns false'. Refute it at one input. -/
def chunkDecodesWrong : ChangeSpec := { name := "chunkDecodes", fn := fun _ => fun
  | [d] => { results := [.lit (.bool false)], args := [d] }
  | _ => none }
def ChunkDecodesWrongFalsely : Prop := chunkDecodesRow.holds Tryz.pinned (OpenSpec.ofChange chunkDecodesWrong)

/-- 'tsblocklaw09.ChunkRoundTrip': WHATEVER THE INPUT: true; the input reads as it did. -/
def chunkRoundTripSpec : ChangeSpec := { name := "chunkRoundTrip", fn := fun _ => fun
  | [d] => { results := [.lit (.bool true)], args := [d] }
  | _ => none }
def chunkRoundTripRow : OpenClaim := { program := "ytgpmoimmpbkgfaagreatdoor", sum := "11381c79eb39ed2c830b24794bedc2874a503f4ff64fcffca97ec7138c60e6a0", func := "tsblock/tsblocklaw09.ChunkRoundTrip", spec := "chunkRoundTrip", unfollowed := true, recurses := true, named := ["math/bits.deBruijn64tab", "tsblock/times.forms"], apart := false, laid := [("math/bits.deBruijn64tab", laid_math_bits_deBruijn64tab), ("tsblock/times.forms", laid_tsblock_times_forms)] }
def ChunkRoundTripSaid : Prop := chunkRoundTripRow.holds Tryz.pinned (OpenSpec.ofChange chunkRoundTripSpec)

/-- ITS FALSE NEIGHBOUR: 'it returns false'. Refute it at one input. -/
def chunkRoundTripWrong : ChangeSpec := { name := "chunkRoundTrip", fn := fun _ => fun
  | [d] => { results := [.lit (.bool false)], args := [d] }
  | _ => none }
def ChunkRoundTripWrongFalsely : Prop := chunkRoundTripRow.holds Tryz.pinned (OpenSpec.ofChange chunkRoundTripWrong)

/-- 'tsblocklaw09.ChunkIsCanonical': WHATEVER THE INPUT: true; the input reads as it did. -/
def chunkIsCanonicalSpec : ChangeSpec := { name := "chunkIsCanonical", fn := fun _ => fun
  | [d] => { results := [.lit (.bool true)], args := [d] }
  | _ => none }
def chunkIsCanonicalRow : OpenClaim := { program := "ytgpmoimmpbkgfaagreatdoor", sum := "11381c79eb39ed2c830b24794bedc2874a503f4ff64fcffca97ec7138c60e6a0", func := "tsblock/tsblocklaw09.ChunkIsCanonical", spec := "chunkIsCanonical", unfollowed := true, recurses := true, named := ["math/bits.deBruijn64tab", "tsblock/times.forms"], apart := false, laid := [("math/bits.deBruijn64tab", laid_math_bits_deBruijn64tab), ("tsblock/times.forms", laid_tsblock_times_forms)] }
def ChunkIsCanonicalSaid : Prop := chunkIsCanonicalRow.holds Tryz.pinned (OpenSpec.ofChange chunkIsCanonicalSpec)

/-- ITS FALSE NEIGHBOUR: 'it returns false'. Refute it at one input. -/
def chunkIsCanonicalWrong : ChangeSpec := { name := "chunkIsCanonical", fn := fun _ => fun
  | [d] => { results := [.lit (.bool false)], args := [d] }
  | _ => none }
def ChunkIsCanonicalWrongFalsely : Prop := chunkIsCanonicalRow.holds Tryz.pinned (OpenSpec.ofChange chunkIsCanonicalWrong)

/-- 'tsblocklaw09.ChunkSplits': WHATEVER THE INPUT: true; the input reads as it did. -/
def chunkSplitsSpec : ChangeSpec := { name := "chunkSplits", fn := fun _ => fun
  | [d] => { results := [.lit (.bool true)], args := [d] }
  | _ => none }
def chunkSplitsRow : OpenClaim := { program := "ytgpmoimmpbkgfaagreatdoor", sum := "11381c79eb39ed2c830b24794bedc2874a503f4ff64fcffca97ec7138c60e6a0", func := "tsblock/tsblocklaw09.ChunkSplits", spec := "chunkSplits", unfollowed := true, recurses := true, named := ["math/bits.deBruijn64tab", "tsblock/times.forms"], apart := false, laid := [("math/bits.deBruijn64tab", laid_math_bits_deBruijn64tab), ("tsblock/times.forms", laid_tsblock_times_forms)] }
def ChunkSplitsSaid : Prop := chunkSplitsRow.holds Tryz.pinned (OpenSpec.ofChange chunkSplitsSpec)

/-- ITS FALSE NEIGHBOUR: 'it returns false'. Refute it at one input. -/
def chunkSplitsWrong : ChangeSpec := { name := "chunkSplits", fn := fun _ => fun
  | [d] => { results := [.lit (.bool false)], args := [d] }
  | _ => none }
def ChunkSplitsWrongFalsely : Prop := chunkSplitsRow.holds Tryz.pinned (OpenSpec.ofChange chunkSplitsWrong)

/- THE SECOND FORM. 'bulk': how many values and letters a reading holds, each counted each time it is reached (what is shared counts as often as it is met; a slice's spare places count too). A statement '..UptoSaid' is the law's where the arguments, and the package variables that the reading takes, are together of bulk at most 1048576: NARROWER than '..Said'. Prove '..Said' where nothing that the law and all that it calls make is longer than what came in: it says more and counts as full. Else prove '..UptoSaid'. A law counts once. -/
mutual
def uptoBulk {H : Type} : DataW H → Nat
  | .lit (.string bytes) => bytes.length + 1
  | .lit _ => 1
  | .nil => 1
  | .ptr d => uptoBulk d + 1
  | .slice elems spare => uptoBulkAll elems + uptoBulkAll spare + 1
  | .agg parts => uptoBulkAll parts + 1
  | .iface _ d => uptoBulk d + 1
  | .map entries => uptoBulkEntries entries + 1
  | .held _ => 1
def uptoBulkAll {H : Type} : List (DataW H) → Nat
  | [] => 0
  | d :: r => uptoBulk d + uptoBulkAll r
def uptoBulkEntries {H : Type} : List (Lit × DataW H) → Nat
  | [] => 0
  | x :: r => uptoBulkEntry x + uptoBulkEntries r
def uptoBulkEntry {H : Type} : Lit × DataW H → Nat
  | (.string bytes, d) => bytes.length + uptoBulk d + 1
  | (_, d) => uptoBulk d + 1
 end
def uptoSmall : (H : Type) → List (DataW H) → Bool := fun _ ds => decide (uptoBulkAll ds ≤ 1048576)
def OpenSpec.upto (s : _root_.Go.ChangeSpec) : _root_.Go.OpenSpec := { _root_.Go.OpenSpec.ofChange s with cond := some uptoSmall }

/-- 'tsblocklaw09.ChunkChooses', WHERE WHAT IT READS IS OF BULK AT MOST 1048576: true; the input reads as it did. -/
def chunkChoosesUptoRow : OpenClaim := { program := "ytgpmoimmpbkgfaagreatdoor", sum := "11381c79eb39ed2c830b24794bedc2874a503f4ff64fcffca97ec7138c60e6a0", func := "tsblock/tsblocklaw09.ChunkChooses", spec := "chunkChooses", unfollowed := true, recurses := true, named := ["math/bits.deBruijn64tab", "tsblock/times.forms"], apart := false, laid := [("math/bits.deBruijn64tab", laid_math_bits_deBruijn64tab), ("tsblock/times.forms", laid_tsblock_times_forms)], narrowed := true }
def ChunkChoosesUptoSaid : Prop := chunkChoosesUptoRow.holds Tryz.pinned (OpenSpec.upto chunkChoosesSpec)

/-- 'tsblocklaw09.ChunkEncodes', WHERE WHAT IT READS IS OF BULK AT MOST 1048576: true; the input reads as it did. -/
def chunkEncodesUptoRow : OpenClaim := { program := "ytgpmoimmpbkgfaagreatdoor", sum := "11381c79eb39ed2c830b24794bedc2874a503f4ff64fcffca97ec7138c60e6a0", func := "tsblock/tsblocklaw09.ChunkEncodes", spec := "chunkEncodes", unfollowed := true, recurses := true, named := ["math/bits.deBruijn64tab", "tsblock/times.forms"], apart := false, laid := [("math/bits.deBruijn64tab", laid_math_bits_deBruijn64tab), ("tsblock/times.forms", laid_tsblock_times_forms)], narrowed := true }
def ChunkEncodesUptoSaid : Prop := chunkEncodesUptoRow.holds Tryz.pinned (OpenSpec.upto chunkEncodesSpec)

/-- 'tsblocklaw09.ChunkDecodes', WHERE WHAT IT READS IS OF BULK AT MOST 1048576: true; the input reads as it did. -/
def chunkDecodesUptoRow : OpenClaim := { program := "ytgpmoimmpbkgfaagreatdoor", sum := "11381c79eb39ed2c830b24794bedc2874a503f4ff64fcffca97ec7138c60e6a0", func := "tsblock/tsblocklaw09.ChunkDecodes", spec := "chunkDecodes", unfollowed := true, recurses := true, named := ["math/bits.deBruijn64tab", "tsblock/times.forms"], apart := false, laid := [("math/bits.deBruijn64tab", laid_math_bits_deBruijn64tab), ("tsblock/times.forms", laid_tsblock_times_forms)], narrowed := true }
def ChunkDecodesUptoSaid : Prop := chunkDecodesUptoRow.holds Tryz.pinned (OpenSpec.upto chunkDecodesSpec)

/-- 'tsblocklaw09.ChunkRoundTrip', WHERE WHAT IT READS IS OF BULK AT MOST 1048576: true; the input reads as it did. -/
def chunkRoundTripUptoRow : OpenClaim := { program := "ytgpmoimmpbkgfaagreatdoor", sum := "11381c79eb39ed2c830b24794bedc2874a503f4ff64fcffca97ec7138c60e6a0", func := "tsblock/tsblocklaw09.ChunkRoundTrip", spec := "chunkRoundTrip", unfollowed := true, recurses := true, named := ["math/bits.deBruijn64tab", "tsblock/times.forms"], apart := false, laid := [("math/bits.deBruijn64tab", laid_math_bits_deBruijn64tab), ("tsblock/times.forms", laid_tsblock_times_forms)], narrowed := true }
def ChunkRoundTripUptoSaid : Prop := chunkRoundTripUptoRow.holds Tryz.pinned (OpenSpec.upto chunkRoundTripSpec)

/-- 'tsblocklaw09.ChunkIsCanonical', WHERE WHAT IT READS IS OF BULK AT MOST 1048576: true; the input reads as it did. -/
def chunkIsCanonicalUptoRow : OpenClaim := { program := "ytgpmoimmpbkgfaagreatdoor", sum := "11381c79eb39ed2c830b24794bedc2874a503f4ff64fcffca97ec7138c60e6a0", func := "tsblock/tsblocklaw09.ChunkIsCanonical", spec := "chunkIsCanonical", unfollowed := true, recurses := true, named := ["math/bits.deBruijn64tab", "tsblock/times.forms"], apart := false, laid := [("math/bits.deBruijn64tab", laid_math_bits_deBruijn64tab), ("tsblock/times.forms", laid_tsblock_times_forms)], narrowed := true }
def ChunkIsCanonicalUptoSaid : Prop := chunkIsCanonicalUptoRow.holds Tryz.pinned (OpenSpec.upto chunkIsCanonicalSpec)

/-- 'tsblocklaw09.ChunkSplits', WHERE WHAT IT READS IS OF BULK AT MOST 1048576: true; the input reads as it did. -/
def chunkSplitsUptoRow : OpenClaim := { program := "ytgpmoimmpbkgfaagreatdoor", sum := "11381c79eb39ed2c830b24794bedc2874a503f4ff64fcffca97ec7138c60e6a0", func := "tsblock/tsblocklaw09.ChunkSplits", spec := "chunkSplits", unfollowed := true, recurses := true, named := ["math/bits.deBruijn64tab", "tsblock/times.forms"], apart := false, laid := [("math/bits.deBruijn64tab", laid_math_bits_deBruijn64tab), ("tsblock/times.forms", laid_tsblock_times_forms)], narrowed := true }
def ChunkSplitsUptoSaid : Prop := chunkSplitsUptoRow.holds Tryz.pinned (OpenSpec.upto chunkSplitsSpec)

end Rows
end Go.Proofs.YtgpmoimmpbkgfaaGreatDoor
