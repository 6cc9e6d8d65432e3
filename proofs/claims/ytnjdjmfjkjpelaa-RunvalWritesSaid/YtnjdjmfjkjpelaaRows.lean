/-
  No cell of these rows narrows 'for every input' (looked for: loops, veiled, ifaces, maps, wideKeys, modest, calm, conditions, laid).
  DERIVED. THE GIVEN ROWS OF THIS SEAT. 6 by the template 'for every input the law returns true; each argument reads behind the call as it read before'; 0 by the template 'total and deterministic' (their statements: YtnjdjmfjkjpelaaTotals.lean).
  GIVEN WITH THE SEED: the statements are not yours to turn. If you find one false, say at which input.
  Laid BY PROGRAM, IN A SANDBOX (cutbox-rows.mjs): the forced cells as the released guide's own fill.sh prints them over the translation 9d30390b01153dd9… (all of the seat's roots in one cut). By AI agents, Wed Nov 11 2026. No macro, syntax, notation, axiom, sorry.
-/
import Derived.Test.YtnjdjmfjkjpelaaChecked
import GoSem.Claim
import GoSem.ClaimJoined
import GoSem.ClaimMapViews
import Derived.JoinedTies
import Derived.KernelRfl
namespace Go.Proofs.Ytnjdjmfjkjpelaa
/- THE CELL 'sum', in the pinned program and in every row, IS THE sha256 OF THE DUMP (.gsa) THAT YtnjdjmfjkjpelaaProg.lean LOADS. Nothing in Lean hashes anything: it is a label: what it is worth is what the hold of that sum in a sandbox is worth. -/
noncomputable def Try.pinned : Pinned := { name := "ytnjdjmfjkjpelaa", sum := "9d30390b01153dd91a38beab6b45f8a42f971c59ed183ddce98b3b26426219d1", checked := Try.checked }
namespace Rows
def none {H : Type} : Left H := { results := [], args := [] }

/-- 'tsblocklaw07.RunvalSplits': WHATEVER THE INPUT: true; the input reads as it did. -/
def runvalSplitsSpec : ChangeSpec := { name := "runvalSplits", fn := fun _ => fun
  | [d] => { results := [.lit (.bool true)], args := [d] }
  | _ => none }
def runvalSplitsRow : OpenClaim := { program := "ytnjdjmfjkjpelaa", sum := "9d30390b01153dd91a38beab6b45f8a42f971c59ed183ddce98b3b26426219d1", func := "tsblock/tsblocklaw07.RunvalSplits", spec := "runvalSplits", unfollowed := true, recurses := true, apart := false }
def RunvalSplitsSaid : Prop := runvalSplitsRow.holds Try.pinned (OpenSpec.ofChange runvalSplitsSpec)

/-- ITS FALSE NEIGHBOUR: 'it returns false'. Refute it at one input. -/
def runvalSplitsWrong : ChangeSpec := { name := "runvalSplits", fn := fun _ => fun
  | [d] => { results := [.lit (.bool false)], args := [d] }
  | _ => none }
def RunvalSplitsWrongFalsely : Prop := runvalSplitsRow.holds Try.pinned (OpenSpec.ofChange runvalSplitsWrong)

/-- 'tsblocklaw07.RunvalJoins': WHATEVER THE INPUT: true; the input reads as it did. -/
def runvalJoinsSpec : ChangeSpec := { name := "runvalJoins", fn := fun _ => fun
  | [d] => { results := [.lit (.bool true)], args := [d] }
  | _ => none }
def runvalJoinsRow : OpenClaim := { program := "ytnjdjmfjkjpelaa", sum := "9d30390b01153dd91a38beab6b45f8a42f971c59ed183ddce98b3b26426219d1", func := "tsblock/tsblocklaw07.RunvalJoins", spec := "runvalJoins", unfollowed := true, recurses := true, apart := false }
def RunvalJoinsSaid : Prop := runvalJoinsRow.holds Try.pinned (OpenSpec.ofChange runvalJoinsSpec)

/-- ITS FALSE NEIGHBOUR: 'it returns false'. Refute it at one input. -/
def runvalJoinsWrong : ChangeSpec := { name := "runvalJoins", fn := fun _ => fun
  | [d] => { results := [.lit (.bool false)], args := [d] }
  | _ => none }
def RunvalJoinsWrongFalsely : Prop := runvalJoinsRow.holds Try.pinned (OpenSpec.ofChange runvalJoinsWrong)

/-- 'tsblocklaw07.RunvalWrites': WHATEVER THE INPUT: true; the input reads as it did. -/
def runvalWritesSpec : ChangeSpec := { name := "runvalWrites", fn := fun _ => fun
  | [d1, d2] => { results := [.lit (.bool true)], args := [d1, d2] }
  | _ => none }
def runvalWritesRow : OpenClaim := { program := "ytnjdjmfjkjpelaa", sum := "9d30390b01153dd91a38beab6b45f8a42f971c59ed183ddce98b3b26426219d1", func := "tsblock/tsblocklaw07.RunvalWrites", spec := "runvalWrites", unfollowed := true, recurses := true, apart := false }
def RunvalWritesSaid : Prop := runvalWritesRow.holds Try.pinned (OpenSpec.ofChange runvalWritesSpec)

/-- ITS FALSE NEIGHBOUR: 'it returns false'. Refute it at one input. -/
def runvalWritesWrong : ChangeSpec := { name := "runvalWrites", fn := fun _ => fun
  | [d1, d2] => { results := [.lit (.bool false)], args := [d1, d2] }
  | _ => none }
def RunvalWritesWrongFalsely : Prop := runvalWritesRow.holds Try.pinned (OpenSpec.ofChange runvalWritesWrong)

/-- 'tsblocklaw07.RunvalReads': WHATEVER THE INPUT: true; the input reads as it did. -/
def runvalReadsSpec : ChangeSpec := { name := "runvalReads", fn := fun _ => fun
  | [d1, d2] => { results := [.lit (.bool true)], args := [d1, d2] }
  | _ => none }
def runvalReadsRow : OpenClaim := { program := "ytnjdjmfjkjpelaa", sum := "9d30390b01153dd91a38beab6b45f8a42f971c59ed183ddce98b3b26426219d1", func := "tsblock/tsblocklaw07.RunvalReads", spec := "runvalReads", unfollowed := true, recurses := true, apart := false }
def RunvalReadsSaid : Prop := runvalReadsRow.holds Try.pinned (OpenSpec.ofChange runvalReadsSpec)

/-- ITS FALSE NEIGHBOUR: 'it returns false'. Refute it at one input. -/
def runvalReadsWrong : ChangeSpec := { name := "runvalReads", fn := fun _ => fun
  | [d1, d2] => { results := [.lit (.bool false)], args := [d1, d2] }
  | _ => none }
def RunvalReadsWrongFalsely : Prop := runvalReadsRow.holds Try.pinned (OpenSpec.ofChange runvalReadsWrong)

/-- 'tsblocklaw07.RunvalRoundTrip': WHATEVER THE INPUT: true; the input reads as it did. -/
def runvalRoundTripSpec : ChangeSpec := { name := "runvalRoundTrip", fn := fun _ => fun
  | [d] => { results := [.lit (.bool true)], args := [d] }
  | _ => none }
def runvalRoundTripRow : OpenClaim := { program := "ytnjdjmfjkjpelaa", sum := "9d30390b01153dd91a38beab6b45f8a42f971c59ed183ddce98b3b26426219d1", func := "tsblock/tsblocklaw07.RunvalRoundTrip", spec := "runvalRoundTrip", unfollowed := true, recurses := true, apart := false }
def RunvalRoundTripSaid : Prop := runvalRoundTripRow.holds Try.pinned (OpenSpec.ofChange runvalRoundTripSpec)

/-- ITS FALSE NEIGHBOUR: 'it returns false'. Refute it at one input. -/
def runvalRoundTripWrong : ChangeSpec := { name := "runvalRoundTrip", fn := fun _ => fun
  | [d] => { results := [.lit (.bool false)], args := [d] }
  | _ => none }
def RunvalRoundTripWrongFalsely : Prop := runvalRoundTripRow.holds Try.pinned (OpenSpec.ofChange runvalRoundTripWrong)

/-- 'tsblocklaw07.RunvalIsCanonical': WHATEVER THE INPUT: true; the input reads as it did. -/
def runvalIsCanonicalSpec : ChangeSpec := { name := "runvalIsCanonical", fn := fun _ => fun
  | [d1, d2] => { results := [.lit (.bool true)], args := [d1, d2] }
  | _ => none }
def runvalIsCanonicalRow : OpenClaim := { program := "ytnjdjmfjkjpelaa", sum := "9d30390b01153dd91a38beab6b45f8a42f971c59ed183ddce98b3b26426219d1", func := "tsblock/tsblocklaw07.RunvalIsCanonical", spec := "runvalIsCanonical", unfollowed := true, recurses := true, apart := false }
def RunvalIsCanonicalSaid : Prop := runvalIsCanonicalRow.holds Try.pinned (OpenSpec.ofChange runvalIsCanonicalSpec)

/-- ITS FALSE NEIGHBOUR: 'it returns false'. Refute it at one input. -/
def runvalIsCanonicalWrong : ChangeSpec := { name := "runvalIsCanonical", fn := fun _ => fun
  | [d1, d2] => { results := [.lit (.bool false)], args := [d1, d2] }
  | _ => none }
def RunvalIsCanonicalWrongFalsely : Prop := runvalIsCanonicalRow.holds Try.pinned (OpenSpec.ofChange runvalIsCanonicalWrong)

/- THE SECOND FORM. 'bulk': how many values and letters a reading holds, each counted each time it is reached (what is shared counts as often as it is met; a slice's spare places count too). A statement '..UptoSaid' is the law's where the arguments, and the package variables that the reading takes, are together of bulk at most 1048576: NARROWER than '..Said'. Prove '..Said' where nothing that the law and all that it calls make is longer than what came in: it says more and counts as full. Else prove '..UptoSaid'. A law counts once. -/
mutual
def uptoBulk {H : Type} : DataW H → Nat
  | .lit (.string bytes) => bytes.length + 1
  | .lit _ => 1
  | .nil => 1
  | .ptr d => uptoBulk d + 1
  | .slice elems spare => uptoBulkAll elems + uptoBulkAll spare + 1
  | .agg parts => uptoBulkAll parts + 1
  | .iface _ d => uptoBulk d + 1
  | .map entries => uptoBulkEntries entries + 1
  | .held _ => 1
def uptoBulkAll {H : Type} : List (DataW H) → Nat
  | [] => 0
  | d :: r => uptoBulk d + uptoBulkAll r
def uptoBulkEntries {H : Type} : List (Lit × DataW H) → Nat
  | [] => 0
  | x :: r => uptoBulkEntry x + uptoBulkEntries r
def uptoBulkEntry {H : Type} : Lit × DataW H → Nat
  | (.string bytes, d) => bytes.length + uptoBulk d + 1
  | (_, d) => uptoBulk d + 1
 end
def uptoSmall : (H : Type) → List (DataW H) → Bool := fun _ ds => decide (uptoBulkAll ds ≤ 1048576)
def OpenSpec.upto (s : _root_.Go.ChangeSpec) : _root_.Go.OpenSpec := { _root_.Go.OpenSpec.ofChange s with cond := some uptoSmall }

/-- 'tsblocklaw07.RunvalSplits', WHERE WHAT IT READS IS OF BULK AT MOST 1048576: true; the input reads as it did. -/
def runvalSplitsUptoRow : OpenClaim := { program := "ytnjdjmfjkjpelaa", sum := "9d30390b01153dd91a38beab6b45f8a42f971c59ed183ddce98b3b26426219d1", func := "tsblock/tsblocklaw07.RunvalSplits", spec := "runvalSplits", unfollowed := true, recurses := true, apart := false, narrowed := true }
def RunvalSplitsUptoSaid : Prop := runvalSplitsUptoRow.holds Try.pinned (OpenSpec.upto runvalSplitsSpec)

/-- 'tsblocklaw07.RunvalJoins', WHERE WHAT IT READS IS OF BULK AT MOST 1048576: true; the input reads as it did. -/
def runvalJoinsUptoRow : OpenClaim := { program := "ytnjdjmfjkjpelaa", sum := "9d30390b01153dd91a38beab6b45f8a42f971c59ed183ddce98b3b26426219d1", func := "tsblock/tsblocklaw07.RunvalJoins", spec := "runvalJoins", unfollowed := true, recurses := true, apart := false, narrowed := true }
def RunvalJoinsUptoSaid : Prop := runvalJoinsUptoRow.holds Try.pinned (OpenSpec.upto runvalJoinsSpec)

/-- 'tsblocklaw07.RunvalWrites', WHERE WHAT IT READS IS OF BULK AT MOST 1048576: true; the input reads as it did. -/
def runvalWritesUptoRow : OpenClaim := { program := "ytnjdjmfjkjpelaa", sum := "9d30390b01153dd91a38beab6b45f8a42f971c59ed183ddce98b3b26426219d1", func := "tsblock/tsblocklaw07.RunvalWrites", spec := "runvalWrites", unfollowed := true, recurses := true, apart := false, narrowed := true }
def RunvalWritesUptoSaid : Prop := runvalWritesUptoRow.holds Try.pinned (OpenSpec.upto runvalWritesSpec)

/-- 'tsblocklaw07.RunvalReads', WHERE WHAT IT READS IS OF BULK AT MOST 1048576: true; the input reads as it did. -/
def runvalReadsUptoRow : OpenClaim := { program := "ytnjdjmfjkjpelaa", sum := "9d30390b01153dd91a38beab6b45f8a42f971c59ed183ddce98b3b26426219d1", func := "tsblock/tsblocklaw07.RunvalReads", spec := "runvalReads", unfollowed := true, recurses := true, apart := false, narrowed := true }
def RunvalReadsUptoSaid : Prop := runvalReadsUptoRow.holds Try.pinned (OpenSpec.upto runvalReadsSpec)

/-- 'tsblocklaw07.RunvalRoundTrip', WHERE WHAT IT READS IS OF BULK AT MOST 1048576: true; the input reads as it did. -/
def runvalRoundTripUptoRow : OpenClaim := { program := "ytnjdjmfjkjpelaa", sum := "9d30390b01153dd91a38beab6b45f8a42f971c59ed183ddce98b3b26426219d1", func := "tsblock/tsblocklaw07.RunvalRoundTrip", spec := "runvalRoundTrip", unfollowed := true, recurses := true, apart := false, narrowed := true }
def RunvalRoundTripUptoSaid : Prop := runvalRoundTripUptoRow.holds Try.pinned (OpenSpec.upto runvalRoundTripSpec)

/-- 'tsblocklaw07.RunvalIsCanonical', WHERE WHAT IT READS IS OF BULK AT MOST 1048576: true; the input reads as it did. -/
def runvalIsCanonicalUptoRow : OpenClaim := { program := "ytnjdjmfjkjpelaa", sum := "9d30390b01153dd91a38beab6b45f8a42f971c59ed183ddce98b3b26426219d1", func := "tsblock/tsblocklaw07.RunvalIsCanonical", spec := "runvalIsCanonical", unfollowed := true, recurses := true, apart := false, narrowed := true }
def RunvalIsCanonicalUptoSaid : Prop := runvalIsCanonicalUptoRow.holds Try.pinned (OpenSpec.upto runvalIsCanonicalSpec)

end Rows
end Go.Proofs.Ytnjdjmfjkjpelaa
