/-
  No cell of these rows narrows 'for every input' (looked for: loops, veiled, ifaces, maps, wideKeys, modest, calm, conditions, laid).
  DERIVED. THE GIVEN ROWS OF THIS SEAT. 5 by the template 'for every input the law returns true; each argument reads behind the call as it read before'; 0 by the template 'total and deterministic' (their statements: YtmnagmbokajfpaaTotals.lean).
  GIVEN WITH THE SEED: the statements are not yours to turn. If you find one false, say at which input.
  Laid BY PROGRAM, IN A SANDBOX (cutbox-rows.mjs): the forced cells as the released guide's own fill.sh prints them over the translation 5a55101a6c7f746b… (all of the seat's roots in one cut). By AI agents, Wed Nov 11 2026. No macro, syntax, notation, axiom, sorry.
-/
import Derived.Test.YtmnagmbokajfpaaChecked
import GoSem.Claim
import GoSem.ClaimJoined
import GoSem.ClaimMapViews
import Derived.JoinedTies
import Derived.KernelRfl
namespace Go.Proofs.Ytmnagmbokajfpaa
/- THE CELL 'sum', in the pinned program and in every row, IS THE sha256 OF THE DUMP (.gsa) THAT YtmnagmbokajfpaaProg.lean LOADS. Nothing in Lean hashes anything: it is a label: what it is worth is what the hold of that sum in a sandbox is worth. -/
noncomputable def Try.pinned : Pinned := { name := "ytmnagmbokajfpaa", sum := "5a55101a6c7f746bb7b0dc2d8ba723c4100369262d1ddf9ed950c9f89e45daeb", checked := Try.checked }
namespace Rows
def none {H : Type} : Left H := { results := [], args := [] }

/-- 'tsblocklaw13.RecordsEncode': WHATEVER THE INPUT: true; the input reads as it did. -/
def recordsEncodeSpec : ChangeSpec := { name := "recordsEncode", fn := fun _ => fun
  | [d1, d2] => { results := [.lit (.bool true)], args := [d1, d2] }
  | _ => none }
def recordsEncodeRow : OpenClaim := { program := "ytmnagmbokajfpaa", sum := "5a55101a6c7f746bb7b0dc2d8ba723c4100369262d1ddf9ed950c9f89e45daeb", func := "tsblock/tsblocklaw13.RecordsEncode", spec := "recordsEncode", unfollowed := true, recurses := true, apart := false }
def RecordsEncodeSaid : Prop := recordsEncodeRow.holds Try.pinned (OpenSpec.ofChange recordsEncodeSpec)

/-- ITS FALSE NEIGHBOUR: 'it returns false'. Refute it at one input. -/
def recordsEncodeWrong : ChangeSpec := { name := "recordsEncode", fn := fun _ => fun
  | [d1, d2] => { results := [.lit (.bool false)], args := [d1, d2] }
  | _ => none }
def RecordsEncodeWrongFalsely : Prop := recordsEncodeRow.holds Try.pinned (OpenSpec.ofChange recordsEncodeWrong)

/-- 'tsblocklaw13.RecordsDecode': WHATEVER THE INPUT: true; the input reads as it did. -/
def recordsDecodeSpec : ChangeSpec := { name := "recordsDecode", fn := fun _ => fun
  | [d1, d2] => { results := [.lit (.bool true)], args := [d1, d2] }
  | _ => none }
def recordsDecodeRow : OpenClaim := { program := "ytmnagmbokajfpaa", sum := "5a55101a6c7f746bb7b0dc2d8ba723c4100369262d1ddf9ed950c9f89e45daeb", func := "tsblock/tsblocklaw13.RecordsDecode", spec := "recordsDecode", unfollowed := true, recurses := true, apart := false }
def RecordsDecodeSaid : Prop := recordsDecodeRow.holds Try.pinned (OpenSpec.ofChange recordsDecodeSpec)

/-- ITS FALSE NEIGHBOUR: 'it returns false'. Refute it at one input. -/
def recordsDecodeWrong : ChangeSpec := { name := "recordsDecode", fn := fun _ => fun
  | [d1, d2] => { results := [.lit (.bool false)], args := [d1, d2] }
  | _ => none }
def RecordsDecodeWrongFalsely : Prop := recordsDecodeRow.holds Try.pinned (OpenSpec.ofChange recordsDecodeWrong)

/-- 'tsblocklaw13.RecordsRoundTrip': WHATEVER THE INPUT: true; the input reads as it did. -/
def recordsRoundTripSpec : ChangeSpec := { name := "recordsRoundTrip", fn := fun _ => fun
  | [d1, d2] => { results := [.lit (.bool true)], args := [d1, d2] }
  | _ => none }
def recordsRoundTripRow : OpenClaim := { program := "ytmnagmbokajfpaa", sum := "5a55101a6c7f746bb7b0dc2d8ba723c4100369262d1ddf9ed950c9f89e45daeb", func := "tsblock/tsblocklaw13.RecordsRoundTrip", spec := "recordsRoundTrip", unfollowed := true, recurses := true, apart := false }
def RecordsRoundTripSaid : Prop := recordsRoundTripRow.holds Try.pinned (OpenSpec.ofChange recordsRoundTripSpec)

/-- ITS FALSE NEIGHBOUR: 'it returns false'. Refute it at one input. -/
def recordsRoundTripWrong : ChangeSpec := { name := "recordsRoundTrip", fn := fun _ => fun
  | [d1, d2] => { results := [.lit (.bool false)], args := [d1, d2] }
  | _ => none }
def RecordsRoundTripWrongFalsely : Prop := recordsRoundTripRow.holds Try.pinned (OpenSpec.ofChange recordsRoundTripWrong)

/-- 'tsblocklaw13.RecordsAreCanonical': WHATEVER THE INPUT: true; the input reads as it did. -/
def recordsAreCanonicalSpec : ChangeSpec := { name := "recordsAreCanonical", fn := fun _ => fun
  | [d1, d2] => { results := [.lit (.bool true)], args := [d1, d2] }
  | _ => none }
def recordsAreCanonicalRow : OpenClaim := { program := "ytmnagmbokajfpaa", sum := "5a55101a6c7f746bb7b0dc2d8ba723c4100369262d1ddf9ed950c9f89e45daeb", func := "tsblock/tsblocklaw13.RecordsAreCanonical", spec := "recordsAreCanonical", unfollowed := true, recurses := true, apart := false }
def RecordsAreCanonicalSaid : Prop := recordsAreCanonicalRow.holds Try.pinned (OpenSpec.ofChange recordsAreCanonicalSpec)

/-- ITS FALSE NEIGHBOUR: 'it returns false'. Refute it at one input. -/
def recordsAreCanonicalWrong : ChangeSpec := { name := "recordsAreCanonical", fn := fun _ => fun
  | [d1, d2] => { results := [.lit (.bool false)], args := [d1, d2] }
  | _ => none }
def RecordsAreCanonicalWrongFalsely : Prop := recordsAreCanonicalRow.holds Try.pinned (OpenSpec.ofChange recordsAreCanonicalWrong)

/-- 'tsblocklaw13.RecordsPrefixes': WHATEVER THE INPUT: true; the input reads as it did. -/
def recordsPrefixesSpec : ChangeSpec := { name := "recordsPrefixes", fn := fun _ => fun
  | [d1, d2] => { results := [.lit (.bool true)], args := [d1, d2] }
  | _ => none }
def recordsPrefixesRow : OpenClaim := { program := "ytmnagmbokajfpaa", sum := "5a55101a6c7f746bb7b0dc2d8ba723c4100369262d1ddf9ed950c9f89e45daeb", func := "tsblock/tsblocklaw13.RecordsPrefixes", spec := "recordsPrefixes", unfollowed := true, recurses := true, apart := false }
def RecordsPrefixesSaid : Prop := recordsPrefixesRow.holds Try.pinned (OpenSpec.ofChange recordsPrefixesSpec)

/-- ITS FALSE NEIGHBOUR: 'it returns false'. Refute it at one input. -/
def recordsPrefixesWrong : ChangeSpec := { name := "recordsPrefixes", fn := fun _ => fun
  | [d1, d2] => { results := [.lit (.bool false)], args := [d1, d2] }
  | _ => none }
def RecordsPrefixesWrongFalsely : Prop := recordsPrefixesRow.holds Try.pinned (OpenSpec.ofChange recordsPrefixesWrong)

/- THE SECOND FORM. 'bulk': how many values and letters a reading holds, each counted each time it is reached (what is shared counts as often as it is met; a slice's spare places count too). A statement '..UptoSaid' is the law's where the arguments, and the package variables that the reading takes, are together of bulk at most 1048576: NARROWER than '..Said'. Prove '..Said' where nothing that the law and all that it calls make is longer than what came in: it says more and counts as full. Else prove '..UptoSaid'. A law counts once. -/
mutual
def uptoBulk {H : Type} : DataW H → Nat
  | .lit (.string bytes) => bytes.length + 1
  | .lit _ => 1
  | .nil => 1
  | .ptr d => uptoBulk d + 1
  | .slice elems spare => uptoBulkAll elems + uptoBulkAll spare + 1
  | .agg parts => uptoBulkAll parts + 1
  | .iface _ d => uptoBulk d + 1
  | .map entries => uptoBulkEntries entries + 1
  | .held _ => 1
def uptoBulkAll {H : Type} : List (DataW H) → Nat
  | [] => 0
  | d :: r => uptoBulk d + uptoBulkAll r
def uptoBulkEntries {H : Type} : List (Lit × DataW H) → Nat
  | [] => 0
  | x :: r => uptoBulkEntry x + uptoBulkEntries r
def uptoBulkEntry {H : Type} : Lit × DataW H → Nat
  | (.string bytes, d) => bytes.length + uptoBulk d + 1
  | (_, d) => uptoBulk d + 1
 end
def uptoSmall : (H : Type) → List (DataW H) → Bool := fun _ ds => decide (uptoBulkAll ds ≤ 1048576)
def OpenSpec.upto (s : _root_.Go.ChangeSpec) : _root_.Go.OpenSpec := { _root_.Go.OpenSpec.ofChange s with cond := some uptoSmall }

/-- 'tsblocklaw13.RecordsEncode', WHERE WHAT IT READS IS OF BULK AT MOST 1048576: true; the input reads as it did. -/
def recordsEncodeUptoRow : OpenClaim := { program := "ytmnagmbokajfpaa", sum := "5a55101a6c7f746bb7b0dc2d8ba723c4100369262d1ddf9ed950c9f89e45daeb", func := "tsblock/tsblocklaw13.RecordsEncode", spec := "recordsEncode", unfollowed := true, recurses := true, apart := false, narrowed := true }
def RecordsEncodeUptoSaid : Prop := recordsEncodeUptoRow.holds Try.pinned (OpenSpec.upto recordsEncodeSpec)

/-- 'tsblocklaw13.RecordsDecode', WHERE WHAT IT READS IS OF BULK AT MOST 1048576: true; the input reads as it did. -/
def recordsDecodeUptoRow : OpenClaim := { program := "ytmnagmbokajfpaa", sum := "5a55101a6c7f746bb7b0dc2d8ba723c4100369262d1ddf9ed950c9f89e45daeb", func := "tsblock/tsblocklaw13.RecordsDecode", spec := "recordsDecode", unfollowed := true, recurses := true, apart := false, narrowed := true }
def RecordsDecodeUptoSaid : Prop := recordsDecodeUptoRow.holds Try.pinned (OpenSpec.upto recordsDecodeSpec)

/-- 'tsblocklaw13.RecordsRoundTrip', WHERE WHAT IT READS IS OF BULK AT MOST 1048576: true; the input reads as it did. -/
def recordsRoundTripUptoRow : OpenClaim := { program := "ytmnagmbokajfpaa", sum := "5a55101a6c7f746bb7b0dc2d8ba723c4100369262d1ddf9ed950c9f89e45daeb", func := "tsblock/tsblocklaw13.RecordsRoundTrip", spec := "recordsRoundTrip", unfollowed := true, recurses := true, apart := false, narrowed := true }
def RecordsRoundTripUptoSaid : Prop := recordsRoundTripUptoRow.holds Try.pinned (OpenSpec.upto recordsRoundTripSpec)

/-- 'tsblocklaw13.RecordsAreCanonical', WHERE WHAT IT READS IS OF BULK AT MOST 1048576: true; the input reads as it did. -/
def recordsAreCanonicalUptoRow : OpenClaim := { program := "ytmnagmbokajfpaa", sum := "5a55101a6c7f746bb7b0dc2d8ba723c4100369262d1ddf9ed950c9f89e45daeb", func := "tsblock/tsblocklaw13.RecordsAreCanonical", spec := "recordsAreCanonical", unfollowed := true, recurses := true, apart := false, narrowed := true }
def RecordsAreCanonicalUptoSaid : Prop := recordsAreCanonicalUptoRow.holds Try.pinned (OpenSpec.upto recordsAreCanonicalSpec)

/-- 'tsblocklaw13.RecordsPrefixes', WHERE WHAT IT READS IS OF BULK AT MOST 1048576: true; the input reads as it did. -/
def recordsPrefixesUptoRow : OpenClaim := { program := "ytmnagmbokajfpaa", sum := "5a55101a6c7f746bb7b0dc2d8ba723c4100369262d1ddf9ed950c9f89e45daeb", func := "tsblock/tsblocklaw13.RecordsPrefixes", spec := "recordsPrefixes", unfollowed := true, recurses := true, apart := false, narrowed := true }
def RecordsPrefixesUptoSaid : Prop := recordsPrefixesUptoRow.holds Try.pinned (OpenSpec.upto recordsPrefixesSpec)

end Rows
end Go.Proofs.Ytmnagmbokajfpaa
