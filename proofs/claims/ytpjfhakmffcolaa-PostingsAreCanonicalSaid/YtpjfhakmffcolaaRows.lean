/-
  No cell of these rows narrows 'for every input' (looked for: loops, veiled, ifaces, maps, wideKeys, modest, calm, conditions, laid).
  DERIVED. THE GIVEN ROWS OF THIS SEAT. 6 by the template 'for every input the law returns true; each argument reads behind the call as it read before'; 0 by the template 'total and deterministic' (their statements: YtpjfhakmffcolaaTotals.lean).
  GIVEN WITH THE SEED: the statements are not yours to turn. If you find one false, say at which input.
  Laid BY PROGRAM, IN A SANDBOX (cutbox-rows.mjs): the forced cells as the released guide's own fill.sh prints them over the translation a8131766e12c3163… (all of the seat's roots in one cut). By AI agents, Wed Nov 11 2026. No macro, syntax, notation, axiom, sorry.
-/
import Derived.Test.YtpjfhakmffcolaaChecked
import GoSem.Claim
import GoSem.ClaimJoined
import GoSem.ClaimMapViews
import Derived.JoinedTies
import Derived.KernelRfl
namespace Go.Proofs.Ytpjfhakmffcolaa
/- THE CELL 'sum', in the pinned program and in every row, IS THE sha256 OF THE DUMP (.gsa) THAT YtpjfhakmffcolaaProg.lean LOADS. Nothing in Lean hashes anything: it is a label: what it is worth is what the hold of that sum in a sandbox is worth. -/
noncomputable def Try.pinned : Pinned := { name := "ytpjfhakmffcolaa", sum := "a8131766e12c3163aa3b67f66acf6fc25e6def789be5461c4092292b3dbf6d22", checked := Try.checked }
namespace Rows
def none {H : Type} : Left H := { results := [], args := [] }

/-- 'tsblocklaw15.PostingsBuild': WHATEVER THE INPUT: true; the input reads as it did. -/
def postingsBuildSpec : ChangeSpec := { name := "postingsBuild", fn := fun _ => fun
  | [d] => { results := [.lit (.bool true)], args := [d] }
  | _ => none }
def postingsBuildRow : OpenClaim := { program := "ytpjfhakmffcolaa", sum := "a8131766e12c3163aa3b67f66acf6fc25e6def789be5461c4092292b3dbf6d22", func := "tsblock/tsblocklaw15.PostingsBuild", spec := "postingsBuild", inPlace := ["internal/bytealg.abigen_runtime_cmpstring"], unfollowed := true, recurses := true, plainKeys := false, apart := false }
def PostingsBuildSaid : Prop := postingsBuildRow.holds Try.pinned (OpenSpec.ofChange postingsBuildSpec)

/-- ITS FALSE NEIGHBOUR: 'it returns false'. Refute it at one input. -/
def postingsBuildWrong : ChangeSpec := { name := "postingsBuild", fn := fun _ => fun
  | [d] => { results := [.lit (.bool false)], args := [d] }
  | _ => none }
def PostingsBuildWrongFalsely : Prop := postingsBuildRow.holds Try.pinned (OpenSpec.ofChange postingsBuildWrong)

/-- 'tsblocklaw15.PostingsFind': WHATEVER THE INPUT: true; the input reads as it did. -/
def postingsFindSpec : ChangeSpec := { name := "postingsFind", fn := fun _ => fun
  | [d1, d2] => { results := [.lit (.bool true)], args := [d1, d2] }
  | _ => none }
def postingsFindRow : OpenClaim := { program := "ytpjfhakmffcolaa", sum := "a8131766e12c3163aa3b67f66acf6fc25e6def789be5461c4092292b3dbf6d22", func := "tsblock/tsblocklaw15.PostingsFind", spec := "postingsFind", inPlace := ["internal/bytealg.abigen_runtime_cmpstring"], unfollowed := true, recurses := true, plainKeys := false, apart := false }
def PostingsFindSaid : Prop := postingsFindRow.holds Try.pinned (OpenSpec.ofChange postingsFindSpec)

/-- ITS FALSE NEIGHBOUR: 'it returns false'. Refute it at one input. -/
def postingsFindWrong : ChangeSpec := { name := "postingsFind", fn := fun _ => fun
  | [d1, d2] => { results := [.lit (.bool false)], args := [d1, d2] }
  | _ => none }
def PostingsFindWrongFalsely : Prop := postingsFindRow.holds Try.pinned (OpenSpec.ofChange postingsFindWrong)

/-- 'tsblocklaw15.PostingsEncode': WHATEVER THE INPUT: true; the input reads as it did. -/
def postingsEncodeSpec : ChangeSpec := { name := "postingsEncode", fn := fun _ => fun
  | [d1, d2] => { results := [.lit (.bool true)], args := [d1, d2] }
  | _ => none }
def postingsEncodeRow : OpenClaim := { program := "ytpjfhakmffcolaa", sum := "a8131766e12c3163aa3b67f66acf6fc25e6def789be5461c4092292b3dbf6d22", func := "tsblock/tsblocklaw15.PostingsEncode", spec := "postingsEncode", inPlace := ["internal/bytealg.abigen_runtime_cmpstring"], unfollowed := true, recurses := true, plainKeys := false, apart := false }
def PostingsEncodeSaid : Prop := postingsEncodeRow.holds Try.pinned (OpenSpec.ofChange postingsEncodeSpec)

/-- ITS FALSE NEIGHBOUR: 'it returns false'. Refute it at one input. -/
def postingsEncodeWrong : ChangeSpec := { name := "postingsEncode", fn := fun _ => fun
  | [d1, d2] => { results := [.lit (.bool false)], args := [d1, d2] }
  | _ => none }
def PostingsEncodeWrongFalsely : Prop := postingsEncodeRow.holds Try.pinned (OpenSpec.ofChange postingsEncodeWrong)

/-- 'tsblocklaw15.PostingsDecode': WHATEVER THE INPUT: true; the input reads as it did. -/
def postingsDecodeSpec : ChangeSpec := { name := "postingsDecode", fn := fun _ => fun
  | [d1, d2, d3] => { results := [.lit (.bool true)], args := [d1, d2, d3] }
  | _ => none }
def postingsDecodeRow : OpenClaim := { program := "ytpjfhakmffcolaa", sum := "a8131766e12c3163aa3b67f66acf6fc25e6def789be5461c4092292b3dbf6d22", func := "tsblock/tsblocklaw15.PostingsDecode", spec := "postingsDecode", inPlace := ["internal/bytealg.abigen_runtime_cmpstring"], unfollowed := true, recurses := true, plainKeys := false, apart := false }
def PostingsDecodeSaid : Prop := postingsDecodeRow.holds Try.pinned (OpenSpec.ofChange postingsDecodeSpec)

/-- ITS FALSE NEIGHBOUR: 'it returns false'. Refute it at one input. -/
def postingsDecodeWrong : ChangeSpec := { name := "postingsDecode", fn := fun _ => fun
  | [d1, d2, d3] => { results := [.lit (.bool false)], args := [d1, d2, d3] }
  | _ => none }
def PostingsDecodeWrongFalsely : Prop := postingsDecodeRow.holds Try.pinned (OpenSpec.ofChange postingsDecodeWrong)

/-- 'tsblocklaw15.PostingsRoundTrip': WHATEVER THE INPUT: true; the input reads as it did. -/
def postingsRoundTripSpec : ChangeSpec := { name := "postingsRoundTrip", fn := fun _ => fun
  | [d] => { results := [.lit (.bool true)], args := [d] }
  | _ => none }
def postingsRoundTripRow : OpenClaim := { program := "ytpjfhakmffcolaa", sum := "a8131766e12c3163aa3b67f66acf6fc25e6def789be5461c4092292b3dbf6d22", func := "tsblock/tsblocklaw15.PostingsRoundTrip", spec := "postingsRoundTrip", inPlace := ["internal/bytealg.abigen_runtime_cmpstring"], unfollowed := true, recurses := true, plainKeys := false, apart := false }
def PostingsRoundTripSaid : Prop := postingsRoundTripRow.holds Try.pinned (OpenSpec.ofChange postingsRoundTripSpec)

/-- ITS FALSE NEIGHBOUR: 'it returns false'. Refute it at one input. -/
def postingsRoundTripWrong : ChangeSpec := { name := "postingsRoundTrip", fn := fun _ => fun
  | [d] => { results := [.lit (.bool false)], args := [d] }
  | _ => none }
def PostingsRoundTripWrongFalsely : Prop := postingsRoundTripRow.holds Try.pinned (OpenSpec.ofChange postingsRoundTripWrong)

/-- 'tsblocklaw15.PostingsAreCanonical': WHATEVER THE INPUT: true; the input reads as it did. -/
def postingsAreCanonicalSpec : ChangeSpec := { name := "postingsAreCanonical", fn := fun _ => fun
  | [d1, d2, d3] => { results := [.lit (.bool true)], args := [d1, d2, d3] }
  | _ => none }
def postingsAreCanonicalRow : OpenClaim := { program := "ytpjfhakmffcolaa", sum := "a8131766e12c3163aa3b67f66acf6fc25e6def789be5461c4092292b3dbf6d22", func := "tsblock/tsblocklaw15.PostingsAreCanonical", spec := "postingsAreCanonical", inPlace := ["internal/bytealg.abigen_runtime_cmpstring"], unfollowed := true, recurses := true, plainKeys := false, apart := false }
def PostingsAreCanonicalSaid : Prop := postingsAreCanonicalRow.holds Try.pinned (OpenSpec.ofChange postingsAreCanonicalSpec)

/-- ITS FALSE NEIGHBOUR: 'it returns false'. Refute it at one input. -/
def postingsAreCanonicalWrong : ChangeSpec := { name := "postingsAreCanonical", fn := fun _ => fun
  | [d1, d2, d3] => { results := [.lit (.bool false)], args := [d1, d2, d3] }
  | _ => none }
def PostingsAreCanonicalWrongFalsely : Prop := postingsAreCanonicalRow.holds Try.pinned (OpenSpec.ofChange postingsAreCanonicalWrong)

/- THE SECOND FORM. 'bulk': how many values and letters a reading holds, each counted each time it is reached (what is shared counts as often as it is met; a slice's spare places count too). A statement '..UptoSaid' is the law's where the arguments, and the package variables that the reading takes, are together of bulk at most 1048576: NARROWER than '..Said'. Prove '..Said' where nothing that the law and all that it calls make is longer than what came in: it says more and counts as full. Else prove '..UptoSaid'. A law counts once. -/
mutual
def uptoBulk {H : Type} : DataW H → Nat
  | .lit (.string bytes) => bytes.length + 1
  | .lit _ => 1
  | .nil => 1
  | .ptr d => uptoBulk d + 1
  | .slice elems spare => uptoBulkAll elems + uptoBulkAll spare + 1
  | .agg parts => uptoBulkAll parts + 1
  | .iface _ d => uptoBulk d + 1
  | .map entries => uptoBulkEntries entries + 1
  | .held _ => 1
def uptoBulkAll {H : Type} : List (DataW H) → Nat
  | [] => 0
  | d :: r => uptoBulk d + uptoBulkAll r
def uptoBulkEntries {H : Type} : List (Lit × DataW H) → Nat
  | [] => 0
  | x :: r => uptoBulkEntry x + uptoBulkEntries r
def uptoBulkEntry {H : Type} : Lit × DataW H → Nat
  | (.string bytes, d) => bytes.length + uptoBulk d + 1
  | (_, d) => uptoBulk d + 1
 end
def uptoSmall : (H : Type) → List (DataW H) → Bool := fun _ ds => decide (uptoBulkAll ds ≤ 1048576)
def OpenSpec.upto (s : _root_.Go.ChangeSpec) : _root_.Go.OpenSpec := { _root_.Go.OpenSpec.ofChange s with cond := some uptoSmall }

/-- 'tsblocklaw15.PostingsBuild', WHERE WHAT IT READS IS OF BULK AT MOST 1048576: true; the input reads as it did. -/
def postingsBuildUptoRow : OpenClaim := { program := "ytpjfhakmffcolaa", sum := "a8131766e12c3163aa3b67f66acf6fc25e6def789be5461c4092292b3dbf6d22", func := "tsblock/tsblocklaw15.PostingsBuild", spec := "postingsBuild", inPlace := ["internal/bytealg.abigen_runtime_cmpstring"], unfollowed := true, recurses := true, plainKeys := false, apart := false, narrowed := true }
def PostingsBuildUptoSaid : Prop := postingsBuildUptoRow.holds Try.pinned (OpenSpec.upto postingsBuildSpec)

/-- 'tsblocklaw15.PostingsFind', WHERE WHAT IT READS IS OF BULK AT MOST 1048576: true; the input reads as it did. -/
def postingsFindUptoRow : OpenClaim := { program := "ytpjfhakmffcolaa", sum := "a8131766e12c3163aa3b67f66acf6fc25e6def789be5461c4092292b3dbf6d22", func := "tsblock/tsblocklaw15.PostingsFind", spec := "postingsFind", inPlace := ["internal/bytealg.abigen_runtime_cmpstring"], unfollowed := true, recurses := true, plainKeys := false, apart := false, narrowed := true }
def PostingsFindUptoSaid : Prop := postingsFindUptoRow.holds Try.pinned (OpenSpec.upto postingsFindSpec)

/-- 'tsblocklaw15.PostingsEncode', WHERE WHAT IT READS IS OF BULK AT MOST 1048576: true; the input reads as it did. -/
def postingsEncodeUptoRow : OpenClaim := { program := "ytpjfhakmffcolaa", sum := "a8131766e12c3163aa3b67f66acf6fc25e6def789be5461c4092292b3dbf6d22", func := "tsblock/tsblocklaw15.PostingsEncode", spec := "postingsEncode", inPlace := ["internal/bytealg.abigen_runtime_cmpstring"], unfollowed := true, recurses := true, plainKeys := false, apart := false, narrowed := true }
def PostingsEncodeUptoSaid : Prop := postingsEncodeUptoRow.holds Try.pinned (OpenSpec.upto postingsEncodeSpec)

/-- 'tsblocklaw15.PostingsDecode', WHERE WHAT IT READS IS OF BULK AT MOST 1048576: true; the input reads as it did. -/
def postingsDecodeUptoRow : OpenClaim := { program := "ytpjfhakmffcolaa", sum := "a8131766e12c3163aa3b67f66acf6fc25e6def789be5461c4092292b3dbf6d22", func := "tsblock/tsblocklaw15.PostingsDecode", spec := "postingsDecode", inPlace := ["internal/bytealg.abigen_runtime_cmpstring"], unfollowed := true, recurses := true, plainKeys := false, apart := false, narrowed := true }
def PostingsDecodeUptoSaid : Prop := postingsDecodeUptoRow.holds Try.pinned (OpenSpec.upto postingsDecodeSpec)

/-- 'tsblocklaw15.PostingsRoundTrip', WHERE WHAT IT READS IS OF BULK AT MOST 1048576: true; the input reads as it did. -/
def postingsRoundTripUptoRow : OpenClaim := { program := "ytpjfhakmffcolaa", sum := "a8131766e12c3163aa3b67f66acf6fc25e6def789be5461c4092292b3dbf6d22", func := "tsblock/tsblocklaw15.PostingsRoundTrip", spec := "postingsRoundTrip", inPlace := ["internal/bytealg.abigen_runtime_cmpstring"], unfollowed := true, recurses := true, plainKeys := false, apart := false, narrowed := true }
def PostingsRoundTripUptoSaid : Prop := postingsRoundTripUptoRow.holds Try.pinned (OpenSpec.upto postingsRoundTripSpec)

/-- 'tsblocklaw15.PostingsAreCanonical', WHERE WHAT IT READS IS OF BULK AT MOST 1048576: true; the input reads as it did. -/
def postingsAreCanonicalUptoRow : OpenClaim := { program := "ytpjfhakmffcolaa", sum := "a8131766e12c3163aa3b67f66acf6fc25e6def789be5461c4092292b3dbf6d22", func := "tsblock/tsblocklaw15.PostingsAreCanonical", spec := "postingsAreCanonical", inPlace := ["internal/bytealg.abigen_runtime_cmpstring"], unfollowed := true, recurses := true, plainKeys := false, apart := false, narrowed := true }
def PostingsAreCanonicalUptoSaid : Prop := postingsAreCanonicalUptoRow.holds Try.pinned (OpenSpec.upto postingsAreCanonicalSpec)

end Rows
end Go.Proofs.Ytpjfhakmffcolaa
