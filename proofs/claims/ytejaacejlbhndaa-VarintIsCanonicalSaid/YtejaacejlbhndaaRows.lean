/-
  No cell of these rows narrows 'for every input' (looked for: loops, veiled, ifaces, maps, wideKeys, modest, calm, conditions, laid).
  DERIVED. THE GIVEN ROWS OF THIS SEAT. 6 by the template 'for every input the law returns true; each argument reads behind the call as it read before'; 0 by the template 'total and deterministic' (their statements: YtejaacejlbhndaaTotals.lean).
  GIVEN WITH THE SEED: the statements are not yours to turn. If you find one false, say at which input.
  Laid BY PROGRAM, IN A SANDBOX (cutbox-rows.mjs): the forced cells as the released guide's own fill.sh prints them over the translation 1c7ed5ab014013e4… (all of the seat's roots in one cut). By AI agents, Wed Nov 11 2026. No macro, syntax, notation, axiom, sorry.
-/
import Derived.Test.YtejaacejlbhndaaChecked
import GoSem.Claim
import GoSem.ClaimJoined
import GoSem.ClaimMapViews
import Derived.JoinedTies
import Derived.KernelRfl
namespace Go.Proofs.Ytejaacejlbhndaa
/- THE CELL 'sum', in the pinned program and in every row, IS THE sha256 OF THE DUMP (.gsa) THAT YtejaacejlbhndaaProg.lean LOADS. Nothing in Lean hashes anything: it is a label: what it is worth is what the hold of that sum in a sandbox is worth. -/
noncomputable def Try.pinned : Pinned := { name := "ytejaacejlbhndaa", sum := "1c7ed5ab014013e4224739efcc696b04d09beff56cd6db109f320305bb3fcc04", checked := Try.checked }
namespace Rows
def none {H : Type} : Left H := { results := [], args := [] }

/-- 'tsblocklaw02.VarintEncodes': WHATEVER THE INPUT: true; the input reads as it did. -/
def varintEncodesSpec : ChangeSpec := { name := "varintEncodes", fn := fun _ => fun
  | [d1, d2] => { results := [.lit (.bool true)], args := [d1, d2] }
  | _ => none }
def varintEncodesRow : OpenClaim := { program := "ytejaacejlbhndaa", sum := "1c7ed5ab014013e4224739efcc696b04d09beff56cd6db109f320305bb3fcc04", func := "tsblock/tsblocklaw02.VarintEncodes", spec := "varintEncodes", unfollowed := true, recurses := true, apart := false }
def VarintEncodesSaid : Prop := varintEncodesRow.holds Try.pinned (OpenSpec.ofChange varintEncodesSpec)

/-- ITS FALSE NEIGHBOUR: 'it returns false'. Refute it at one input. -/
def varintEncodesWrong : ChangeSpec := { name := "varintEncodes", fn := fun _ => fun
  | [d1, d2] => { results := [.lit (.bool false)], args := [d1, d2] }
  | _ => none }
def VarintEncodesWrongFalsely : Prop := varintEncodesRow.holds Try.pinned (OpenSpec.ofChange varintEncodesWrong)

/-- 'tsblocklaw02.VarintEncodesSigned': WHATEVER THE INPUT: true; the input reads as it did. -/
def varintEncodesSignedSpec : ChangeSpec := { name := "varintEncodesSigned", fn := fun _ => fun
  | [d1, d2] => { results := [.lit (.bool true)], args := [d1, d2] }
  | _ => none }
def varintEncodesSignedRow : OpenClaim := { program := "ytejaacejlbhndaa", sum := "1c7ed5ab014013e4224739efcc696b04d09beff56cd6db109f320305bb3fcc04", func := "tsblock/tsblocklaw02.VarintEncodesSigned", spec := "varintEncodesSigned", unfollowed := true, recurses := true, apart := false }
def VarintEncodesSignedSaid : Prop := varintEncodesSignedRow.holds Try.pinned (OpenSpec.ofChange varintEncodesSignedSpec)

/-- ITS FALSE NEIGHBOUR: 'it returns false'. Refute it at one input. -/
def varintEncodesSignedWrong : ChangeSpec := { name := "varintEncodesSigned", fn := fun _ => fun
  | [d1, d2] => { results := [.lit (.bool false)], args := [d1, d2] }
  | _ => none }
def VarintEncodesSignedWrongFalsely : Prop := varintEncodesSignedRow.holds Try.pinned (OpenSpec.ofChange varintEncodesSignedWrong)

/-- 'tsblocklaw02.VarintDecodes': WHATEVER THE INPUT: true; the input reads as it did. -/
def varintDecodesSpec : ChangeSpec := { name := "varintDecodes", fn := fun _ => fun
  | [d1, d2] => { results := [.lit (.bool true)], args := [d1, d2] }
  | _ => none }
def varintDecodesRow : OpenClaim := { program := "ytejaacejlbhndaa", sum := "1c7ed5ab014013e4224739efcc696b04d09beff56cd6db109f320305bb3fcc04", func := "tsblock/tsblocklaw02.VarintDecodes", spec := "varintDecodes", unfollowed := true, recurses := true, apart := false }
def VarintDecodesSaid : Prop := varintDecodesRow.holds Try.pinned (OpenSpec.ofChange varintDecodesSpec)

/-- ITS FALSE NEIGHBOUR: 'it returns false'. Refute it at one input. -/
def varintDecodesWrong : ChangeSpec := { name := "varintDecodes", fn := fun _ => fun
  | [d1, d2] => { results := [.lit (.bool false)], args := [d1, d2] }
  | _ => none }
def VarintDecodesWrongFalsely : Prop := varintDecodesRow.holds Try.pinned (OpenSpec.ofChange varintDecodesWrong)

/-- 'tsblocklaw02.VarintRoundTrip': WHATEVER THE INPUT: true; the input reads as it did. -/
def varintRoundTripSpec : ChangeSpec := { name := "varintRoundTrip", fn := fun _ => fun
  | [d1, d2, d3] => { results := [.lit (.bool true)], args := [d1, d2, d3] }
  | _ => none }
def varintRoundTripRow : OpenClaim := { program := "ytejaacejlbhndaa", sum := "1c7ed5ab014013e4224739efcc696b04d09beff56cd6db109f320305bb3fcc04", func := "tsblock/tsblocklaw02.VarintRoundTrip", spec := "varintRoundTrip", unfollowed := true, recurses := true, apart := false }
def VarintRoundTripSaid : Prop := varintRoundTripRow.holds Try.pinned (OpenSpec.ofChange varintRoundTripSpec)

/-- ITS FALSE NEIGHBOUR: 'it returns false'. Refute it at one input. -/
def varintRoundTripWrong : ChangeSpec := { name := "varintRoundTrip", fn := fun _ => fun
  | [d1, d2, d3] => { results := [.lit (.bool false)], args := [d1, d2, d3] }
  | _ => none }
def VarintRoundTripWrongFalsely : Prop := varintRoundTripRow.holds Try.pinned (OpenSpec.ofChange varintRoundTripWrong)

/-- 'tsblocklaw02.VarintIsCanonical': WHATEVER THE INPUT: true; the input reads as it did. -/
def varintIsCanonicalSpec : ChangeSpec := { name := "varintIsCanonical", fn := fun _ => fun
  | [d1, d2] => { results := [.lit (.bool true)], args := [d1, d2] }
  | _ => none }
def varintIsCanonicalRow : OpenClaim := { program := "ytejaacejlbhndaa", sum := "1c7ed5ab014013e4224739efcc696b04d09beff56cd6db109f320305bb3fcc04", func := "tsblock/tsblocklaw02.VarintIsCanonical", spec := "varintIsCanonical", unfollowed := true, recurses := true, apart := false }
def VarintIsCanonicalSaid : Prop := varintIsCanonicalRow.holds Try.pinned (OpenSpec.ofChange varintIsCanonicalSpec)

/-- ITS FALSE NEIGHBOUR: 'it returns false'. Refute it at one input. -/
def varintIsCanonicalWrong : ChangeSpec := { name := "varintIsCanonical", fn := fun _ => fun
  | [d1, d2] => { results := [.lit (.bool false)], args := [d1, d2] }
  | _ => none }
def VarintIsCanonicalWrongFalsely : Prop := varintIsCanonicalRow.holds Try.pinned (OpenSpec.ofChange varintIsCanonicalWrong)

/-- 'tsblocklaw02.VarintPrefixes': WHATEVER THE INPUT: true; the input reads as it did. -/
def varintPrefixesSpec : ChangeSpec := { name := "varintPrefixes", fn := fun _ => fun
  | [d] => { results := [.lit (.bool true)], args := [d] }
  | _ => none }
def varintPrefixesRow : OpenClaim := { program := "ytejaacejlbhndaa", sum := "1c7ed5ab014013e4224739efcc696b04d09beff56cd6db109f320305bb3fcc04", func := "tsblock/tsblocklaw02.VarintPrefixes", spec := "varintPrefixes", unfollowed := true, recurses := true, apart := false }
def VarintPrefixesSaid : Prop := varintPrefixesRow.holds Try.pinned (OpenSpec.ofChange varintPrefixesSpec)

/-- ITS FALSE NEIGHBOUR: 'it returns false'. Refute it at one input. -/
def varintPrefixesWrong : ChangeSpec := { name := "varintPrefixes", fn := fun _ => fun
  | [d] => { results := [.lit (.bool false)], args := [d] }
  | _ => none }
def VarintPrefixesWrongFalsely : Prop := varintPrefixesRow.holds Try.pinned (OpenSpec.ofChange varintPrefixesWrong)

/- THE SECOND FORM. 'bulk': how many values and letters a reading holds, each counted each time it is reached (what is shared counts as often as it is met; a slice's spare places count too). A statement '..UptoSaid' is the law's where the arguments, and the package variables that the reading takes, are together of bulk at most 1048576: NARROWER than '..Said'. Prove '..Said' where nothing that the law and all that it calls make is longer than what came in: it says more and counts as full. Else prove '..UptoSaid'. A law counts once. -/
mutual
def uptoBulk {H : Type} : DataW H → Nat
  | .lit (.string bytes) => bytes.length + 1
  | .lit _ => 1
  | .nil => 1
  | .ptr d => uptoBulk d + 1
  | .slice elems spare => uptoBulkAll elems + uptoBulkAll spare + 1
  | .agg parts => uptoBulkAll parts + 1
  | .iface _ d => uptoBulk d + 1
  | .map entries => uptoBulkEntries entries + 1
  | .held _ => 1
def uptoBulkAll {H : Type} : List (DataW H) → Nat
  | [] => 0
  | d :: r => uptoBulk d + uptoBulkAll r
def uptoBulkEntries {H : Type} : List (Lit × DataW H) → Nat
  | [] => 0
  | x :: r => uptoBulkEntry x + uptoBulkEntries r
def uptoBulkEntry {H : Type} : Lit × DataW H → Nat
  | (.string bytes, d) => bytes.length + uptoBulk d + 1
  | (_, d) => uptoBulk d + 1
 end
def uptoSmall : (H : Type) → List (DataW H) → Bool := fun _ ds => decide (uptoBulkAll ds ≤ 1048576)
def OpenSpec.upto (s : _root_.Go.ChangeSpec) : _root_.Go.OpenSpec := { _root_.Go.OpenSpec.ofChange s with cond := some uptoSmall }

/-- 'tsblocklaw02.VarintEncodes', WHERE WHAT IT READS IS OF BULK AT MOST 1048576: true; the input reads as it did. -/
def varintEncodesUptoRow : OpenClaim := { program := "ytejaacejlbhndaa", sum := "1c7ed5ab014013e4224739efcc696b04d09beff56cd6db109f320305bb3fcc04", func := "tsblock/tsblocklaw02.VarintEncodes", spec := "varintEncodes", unfollowed := true, recurses := true, apart := false, narrowed := true }
def VarintEncodesUptoSaid : Prop := varintEncodesUptoRow.holds Try.pinned (OpenSpec.upto varintEncodesSpec)

/-- 'tsblocklaw02.VarintEncodesSigned', WHERE WHAT IT READS IS OF BULK AT MOST 1048576: true; the input reads as it did. -/
def varintEncodesSignedUptoRow : OpenClaim := { program := "ytejaacejlbhndaa", sum := "1c7ed5ab014013e4224739efcc696b04d09beff56cd6db109f320305bb3fcc04", func := "tsblock/tsblocklaw02.VarintEncodesSigned", spec := "varintEncodesSigned", unfollowed := true, recurses := true, apart := false, narrowed := true }
def VarintEncodesSignedUptoSaid : Prop := varintEncodesSignedUptoRow.holds Try.pinned (OpenSpec.upto varintEncodesSignedSpec)

/-- 'tsblocklaw02.VarintDecodes', WHERE WHAT IT READS IS OF BULK AT MOST 1048576: true; the input reads as it did. -/
def varintDecodesUptoRow : OpenClaim := { program := "ytejaacejlbhndaa", sum := "1c7ed5ab014013e4224739efcc696b04d09beff56cd6db109f320305bb3fcc04", func := "tsblock/tsblocklaw02.VarintDecodes", spec := "varintDecodes", unfollowed := true, recurses := true, apart := false, narrowed := true }
def VarintDecodesUptoSaid : Prop := varintDecodesUptoRow.holds Try.pinned (OpenSpec.upto varintDecodesSpec)

/-- 'tsblocklaw02.VarintRoundTrip', WHERE WHAT IT READS IS OF BULK AT MOST 1048576: true; the input reads as it did. -/
def varintRoundTripUptoRow : OpenClaim := { program := "ytejaacejlbhndaa", sum := "1c7ed5ab014013e4224739efcc696b04d09beff56cd6db109f320305bb3fcc04", func := "tsblock/tsblocklaw02.VarintRoundTrip", spec := "varintRoundTrip", unfollowed := true, recurses := true, apart := false, narrowed := true }
def VarintRoundTripUptoSaid : Prop := varintRoundTripUptoRow.holds Try.pinned (OpenSpec.upto varintRoundTripSpec)

/-- 'tsblocklaw02.VarintIsCanonical', WHERE WHAT IT READS IS OF BULK AT MOST 1048576: true; the input reads as it did. -/
def varintIsCanonicalUptoRow : OpenClaim := { program := "ytejaacejlbhndaa", sum := "1c7ed5ab014013e4224739efcc696b04d09beff56cd6db109f320305bb3fcc04", func := "tsblock/tsblocklaw02.VarintIsCanonical", spec := "varintIsCanonical", unfollowed := true, recurses := true, apart := false, narrowed := true }
def VarintIsCanonicalUptoSaid : Prop := varintIsCanonicalUptoRow.holds Try.pinned (OpenSpec.upto varintIsCanonicalSpec)

/-- 'tsblocklaw02.VarintPrefixes', WHERE WHAT IT READS IS OF BULK AT MOST 1048576: true; the input reads as it did. -/
def varintPrefixesUptoRow : OpenClaim := { program := "ytejaacejlbhndaa", sum := "1c7ed5ab014013e4224739efcc696b04d09beff56cd6db109f320305bb3fcc04", func := "tsblock/tsblocklaw02.VarintPrefixes", spec := "varintPrefixes", unfollowed := true, recurses := true, apart := false, narrowed := true }
def VarintPrefixesUptoSaid : Prop := varintPrefixesUptoRow.holds Try.pinned (OpenSpec.upto varintPrefixesSpec)

end Rows
end Go.Proofs.Ytejaacejlbhndaa
