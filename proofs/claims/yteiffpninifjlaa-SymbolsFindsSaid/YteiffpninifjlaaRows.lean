/-
  No cell of these rows narrows 'for every input' (looked for: loops, veiled, ifaces, maps, wideKeys, modest, calm, conditions, laid).
  DERIVED. THE GIVEN ROWS OF THIS SEAT. 6 by the template 'for every input the law returns true; each argument reads behind the call as it read before'; 0 by the template 'total and deterministic' (their statements: YteiffpninifjlaaTotals.lean).
  GIVEN WITH THE SEED: the statements are not yours to turn. If you find one false, say at which input.
  Laid BY PROGRAM, IN A SANDBOX (cutbox-rows.mjs): the forced cells as the released guide's own fill.sh prints them over the translation 5df4dd44ded1897a… (all of the seat's roots in one cut). By AI agents, Wed Nov 11 2026. No macro, syntax, notation, axiom, sorry.
-/
import Derived.Test.YteiffpninifjlaaChecked
import GoSem.Claim
import GoSem.ClaimJoined
import GoSem.ClaimMapViews
import Derived.JoinedTies
import Derived.KernelRfl
namespace Go.Proofs.Yteiffpninifjlaa
/- THE CELL 'sum', in the pinned program and in every row, IS THE sha256 OF THE DUMP (.gsa) THAT YteiffpninifjlaaProg.lean LOADS. Nothing in Lean hashes anything: it is a label: what it is worth is what the hold of that sum in a sandbox is worth. -/
noncomputable def Try.pinned : Pinned := { name := "yteiffpninifjlaa", sum := "5df4dd44ded1897a6cae62dc332bd10fdad7a1a5ce52c472fd42460edf674996", checked := Try.checked }
namespace Rows
def none {H : Type} : Left H := { results := [], args := [] }

/-- 'tsblocklaw10.SymbolsTables': WHATEVER THE INPUT: true; the input reads as it did. -/
def symbolsTablesSpec : ChangeSpec := { name := "symbolsTables", fn := fun _ => fun
  | [d] => { results := [.lit (.bool true)], args := [d] }
  | _ => none }
def symbolsTablesRow : OpenClaim := { program := "yteiffpninifjlaa", sum := "5df4dd44ded1897a6cae62dc332bd10fdad7a1a5ce52c472fd42460edf674996", func := "tsblock/tsblocklaw10.SymbolsTables", spec := "symbolsTables", unfollowed := true, recurses := true, apart := false }
def SymbolsTablesSaid : Prop := symbolsTablesRow.holds Try.pinned (OpenSpec.ofChange symbolsTablesSpec)

/-- ITS FALSE NEIGHBOUR: 'it returns false'. Refute it at one input. -/
def symbolsTablesWrong : ChangeSpec := { name := "symbolsTables", fn := fun _ => fun
  | [d] => { results := [.lit (.bool false)], args := [d] }
  | _ => none }
def SymbolsTablesWrongFalsely : Prop := symbolsTablesRow.holds Try.pinned (OpenSpec.ofChange symbolsTablesWrong)

/-- 'tsblocklaw10.SymbolsFinds': WHATEVER THE INPUT: true; the input reads as it did. -/
def symbolsFindsSpec : ChangeSpec := { name := "symbolsFinds", fn := fun _ => fun
  | [d1, d2] => { results := [.lit (.bool true)], args := [d1, d2] }
  | _ => none }
def symbolsFindsRow : OpenClaim := { program := "yteiffpninifjlaa", sum := "5df4dd44ded1897a6cae62dc332bd10fdad7a1a5ce52c472fd42460edf674996", func := "tsblock/tsblocklaw10.SymbolsFinds", spec := "symbolsFinds", unfollowed := true, recurses := true, apart := false }
def SymbolsFindsSaid : Prop := symbolsFindsRow.holds Try.pinned (OpenSpec.ofChange symbolsFindsSpec)

/-- ITS FALSE NEIGHBOUR: 'it returns false'. Refute it at one input. -/
def symbolsFindsWrong : ChangeSpec := { name := "symbolsFinds", fn := fun _ => fun
  | [d1, d2] => { results := [.lit (.bool false)], args := [d1, d2] }
  | _ => none }
def SymbolsFindsWrongFalsely : Prop := symbolsFindsRow.holds Try.pinned (OpenSpec.ofChange symbolsFindsWrong)

/-- 'tsblocklaw10.SymbolsEncodes': WHATEVER THE INPUT: true; the input reads as it did. -/
def symbolsEncodesSpec : ChangeSpec := { name := "symbolsEncodes", fn := fun _ => fun
  | [d] => { results := [.lit (.bool true)], args := [d] }
  | _ => none }
def symbolsEncodesRow : OpenClaim := { program := "yteiffpninifjlaa", sum := "5df4dd44ded1897a6cae62dc332bd10fdad7a1a5ce52c472fd42460edf674996", func := "tsblock/tsblocklaw10.SymbolsEncodes", spec := "symbolsEncodes", unfollowed := true, recurses := true, apart := false }
def SymbolsEncodesSaid : Prop := symbolsEncodesRow.holds Try.pinned (OpenSpec.ofChange symbolsEncodesSpec)

/-- ITS FALSE NEIGHBOUR: 'it returns false'. Refute it at one input. -/
def symbolsEncodesWrong : ChangeSpec := { name := "symbolsEncodes", fn := fun _ => fun
  | [d] => { results := [.lit (.bool false)], args := [d] }
  | _ => none }
def SymbolsEncodesWrongFalsely : Prop := symbolsEncodesRow.holds Try.pinned (OpenSpec.ofChange symbolsEncodesWrong)

/-- 'tsblocklaw10.SymbolsDecodes': WHATEVER THE INPUT: true; the input reads as it did. -/
def symbolsDecodesSpec : ChangeSpec := { name := "symbolsDecodes", fn := fun _ => fun
  | [d] => { results := [.lit (.bool true)], args := [d] }
  | _ => none }
def symbolsDecodesRow : OpenClaim := { program := "yteiffpninifjlaa", sum := "5df4dd44ded1897a6cae62dc332bd10fdad7a1a5ce52c472fd42460edf674996", func := "tsblock/tsblocklaw10.SymbolsDecodes", spec := "symbolsDecodes", unfollowed := true, recurses := true, apart := false }
def SymbolsDecodesSaid : Prop := symbolsDecodesRow.holds Try.pinned (OpenSpec.ofChange symbolsDecodesSpec)

/-- ITS FALSE NEIGHBOUR: 'it returns false'. Refute it at one input. -/
def symbolsDecodesWrong : ChangeSpec := { name := "symbolsDecodes", fn := fun _ => fun
  | [d] => { results := [.lit (.bool false)], args := [d] }
  | _ => none }
def SymbolsDecodesWrongFalsely : Prop := symbolsDecodesRow.holds Try.pinned (OpenSpec.ofChange symbolsDecodesWrong)

/-- 'tsblocklaw10.SymbolsRoundTrip': WHATEVER THE INPUT: true; the input reads as it did. -/
def symbolsRoundTripSpec : ChangeSpec := { name := "symbolsRoundTrip", fn := fun _ => fun
  | [d] => { results := [.lit (.bool true)], args := [d] }
  | _ => none }
def symbolsRoundTripRow : OpenClaim := { program := "yteiffpninifjlaa", sum := "5df4dd44ded1897a6cae62dc332bd10fdad7a1a5ce52c472fd42460edf674996", func := "tsblock/tsblocklaw10.SymbolsRoundTrip", spec := "symbolsRoundTrip", unfollowed := true, recurses := true, apart := false }
def SymbolsRoundTripSaid : Prop := symbolsRoundTripRow.holds Try.pinned (OpenSpec.ofChange symbolsRoundTripSpec)

/-- ITS FALSE NEIGHBOUR: 'it returns false'. Refute it at one input. -/
def symbolsRoundTripWrong : ChangeSpec := { name := "symbolsRoundTrip", fn := fun _ => fun
  | [d] => { results := [.lit (.bool false)], args := [d] }
  | _ => none }
def SymbolsRoundTripWrongFalsely : Prop := symbolsRoundTripRow.holds Try.pinned (OpenSpec.ofChange symbolsRoundTripWrong)

/-- 'tsblocklaw10.SymbolsAreCanonical': WHATEVER THE INPUT: true; the input reads as it did. -/
def symbolsAreCanonicalSpec : ChangeSpec := { name := "symbolsAreCanonical", fn := fun _ => fun
  | [d] => { results := [.lit (.bool true)], args := [d] }
  | _ => none }
def symbolsAreCanonicalRow : OpenClaim := { program := "yteiffpninifjlaa", sum := "5df4dd44ded1897a6cae62dc332bd10fdad7a1a5ce52c472fd42460edf674996", func := "tsblock/tsblocklaw10.SymbolsAreCanonical", spec := "symbolsAreCanonical", unfollowed := true, recurses := true, apart := false }
def SymbolsAreCanonicalSaid : Prop := symbolsAreCanonicalRow.holds Try.pinned (OpenSpec.ofChange symbolsAreCanonicalSpec)

/-- ITS FALSE NEIGHBOUR: 'it returns false'. Refute it at one input. -/
def symbolsAreCanonicalWrong : ChangeSpec := { name := "symbolsAreCanonical", fn := fun _ => fun
  | [d] => { results := [.lit (.bool false)], args := [d] }
  | _ => none }
def SymbolsAreCanonicalWrongFalsely : Prop := symbolsAreCanonicalRow.holds Try.pinned (OpenSpec.ofChange symbolsAreCanonicalWrong)

/- THE SECOND FORM. 'bulk': how many values and letters a reading holds, each counted each time it is reached (what is shared counts as often as it is met; a slice's spare places count too). A statement '..UptoSaid' is the law's where the arguments, and the package variables that the reading takes, are together of bulk at most 1048576: NARROWER than '..Said'. Prove '..Said' where nothing that the law and all that it calls make is longer than what came in: it says more and counts as full. Else prove '..UptoSaid'. A law counts once. -/
mutual
def uptoBulk {H : Type} : DataW H → Nat
  | .lit (.string bytes) => bytes.length + 1
  | .lit _ => 1
  | .nil => 1
  | .ptr d => uptoBulk d + 1
  | .slice elems spare => uptoBulkAll elems + uptoBulkAll spare + 1
  | .agg parts => uptoBulkAll parts + 1
  | .iface _ d => uptoBulk d + 1
  | .map entries => uptoBulkEntries entries + 1
  | .held _ => 1
def uptoBulkAll {H : Type} : List (DataW H) → Nat
  | [] => 0
  | d :: r => uptoBulk d + uptoBulkAll r
def uptoBulkEntries {H : Type} : List (Lit × DataW H) → Nat
  | [] => 0
  | x :: r => uptoBulkEntry x + uptoBulkEntries r
def uptoBulkEntry {H : Type} : Lit × DataW H → Nat
  | (.string bytes, d) => bytes.length + uptoBulk d + 1
  | (_, d) => uptoBulk d + 1
 end
def uptoSmall : (H : Type) → List (DataW H) → Bool := fun _ ds => decide (uptoBulkAll ds ≤ 1048576)
def OpenSpec.upto (s : _root_.Go.ChangeSpec) : _root_.Go.OpenSpec := { _root_.Go.OpenSpec.ofChange s with cond := some uptoSmall }

/-- 'tsblocklaw10.SymbolsTables', WHERE WHAT IT READS IS OF BULK AT MOST 1048576: true; the input reads as it did. -/
def symbolsTablesUptoRow : OpenClaim := { program := "yteiffpninifjlaa", sum := "5df4dd44ded1897a6cae62dc332bd10fdad7a1a5ce52c472fd42460edf674996", func := "tsblock/tsblocklaw10.SymbolsTables", spec := "symbolsTables", unfollowed := true, recurses := true, apart := false, narrowed := true }
def SymbolsTablesUptoSaid : Prop := symbolsTablesUptoRow.holds Try.pinned (OpenSpec.upto symbolsTablesSpec)

/-- 'tsblocklaw10.SymbolsFinds', WHERE WHAT IT READS IS OF BULK AT MOST 1048576: true; the input reads as it did. -/
def symbolsFindsUptoRow : OpenClaim := { program := "yteiffpninifjlaa", sum := "5df4dd44ded1897a6cae62dc332bd10fdad7a1a5ce52c472fd42460edf674996", func := "tsblock/tsblocklaw10.SymbolsFinds", spec := "symbolsFinds", unfollowed := true, recurses := true, apart := false, narrowed := true }
def SymbolsFindsUptoSaid : Prop := symbolsFindsUptoRow.holds Try.pinned (OpenSpec.upto symbolsFindsSpec)

/-- 'tsblocklaw10.SymbolsEncodes', WHERE WHAT IT READS IS OF BULK AT MOST 1048576: true; the input reads as it did. -/
def symbolsEncodesUptoRow : OpenClaim := { program := "yteiffpninifjlaa", sum := "5df4dd44ded1897a6cae62dc332bd10fdad7a1a5ce52c472fd42460edf674996", func := "tsblock/tsblocklaw10.SymbolsEncodes", spec := "symbolsEncodes", unfollowed := true, recurses := true, apart := false, narrowed := true }
def SymbolsEncodesUptoSaid : Prop := symbolsEncodesUptoRow.holds Try.pinned (OpenSpec.upto symbolsEncodesSpec)

/-- 'tsblocklaw10.SymbolsDecodes', WHERE WHAT IT READS IS OF BULK AT MOST 1048576: true; the input reads as it did. -/
def symbolsDecodesUptoRow : OpenClaim := { program := "yteiffpninifjlaa", sum := "5df4dd44ded1897a6cae62dc332bd10fdad7a1a5ce52c472fd42460edf674996", func := "tsblock/tsblocklaw10.SymbolsDecodes", spec := "symbolsDecodes", unfollowed := true, recurses := true, apart := false, narrowed := true }
def SymbolsDecodesUptoSaid : Prop := symbolsDecodesUptoRow.holds Try.pinned (OpenSpec.upto symbolsDecodesSpec)

/-- 'tsblocklaw10.SymbolsRoundTrip', WHERE WHAT IT READS IS OF BULK AT MOST 1048576: true; the input reads as it did. -/
def symbolsRoundTripUptoRow : OpenClaim := { program := "yteiffpninifjlaa", sum := "5df4dd44ded1897a6cae62dc332bd10fdad7a1a5ce52c472fd42460edf674996", func := "tsblock/tsblocklaw10.SymbolsRoundTrip", spec := "symbolsRoundTrip", unfollowed := true, recurses := true, apart := false, narrowed := true }
def SymbolsRoundTripUptoSaid : Prop := symbolsRoundTripUptoRow.holds Try.pinned (OpenSpec.upto symbolsRoundTripSpec)

/-- 'tsblocklaw10.SymbolsAreCanonical', WHERE WHAT IT READS IS OF BULK AT MOST 1048576: true; the input reads as it did. -/
def symbolsAreCanonicalUptoRow : OpenClaim := { program := "yteiffpninifjlaa", sum := "5df4dd44ded1897a6cae62dc332bd10fdad7a1a5ce52c472fd42460edf674996", func := "tsblock/tsblocklaw10.SymbolsAreCanonical", spec := "symbolsAreCanonical", unfollowed := true, recurses := true, apart := false, narrowed := true }
def SymbolsAreCanonicalUptoSaid : Prop := symbolsAreCanonicalUptoRow.holds Try.pinned (OpenSpec.upto symbolsAreCanonicalSpec)

end Rows
end Go.Proofs.Yteiffpninifjlaa
