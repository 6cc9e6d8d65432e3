/-
  No cell of these rows narrows 'for every input' (looked for: loops, veiled, ifaces, maps, wideKeys, modest, calm, conditions, laid).
  DERIVED. THE GIVEN ROWS OF THIS SEAT. 6 by the template 'for every input the law returns true; each argument reads behind the call as it read before'; 0 by the template 'total and deterministic' (their statements: YtpgdedehhaibmaaTotals.lean).
  GIVEN WITH THE SEED: the statements are not yours to turn. If you find one false, say at which input.
  Laid BY PROGRAM, IN A SANDBOX (cutbox-rows.mjs): the forced cells as the released guide's own fill.sh prints them over the translation 9f86d5cf0fdaf3cd… (all of the seat's roots in one cut). By AI agents, Wed Nov 11 2026. No macro, syntax, notation, axiom, sorry.
-/
import Derived.Test.YtpgdedehhaibmaaChecked
import GoSem.Claim
import GoSem.ClaimJoined
import GoSem.ClaimMapViews
import Derived.JoinedTies
import Derived.KernelRfl
namespace Go.Proofs.Ytpgdedehhaibmaa
/- THE CELL 'sum', in the pinned program and in every row, IS THE sha256 OF THE DUMP (.gsa) THAT YtpgdedehhaibmaaProg.lean LOADS. Nothing in Lean hashes anything: it is a label: what it is worth is what the hold of that sum in a sandbox is worth. -/
noncomputable def Try.pinned : Pinned := { name := "ytpgdedehhaibmaa", sum := "9f86d5cf0fdaf3cd702c6889d689ef0508aa05eb9551feb886b3875c6e5290e7", checked := Try.checked }
namespace Rows
def none {H : Type} : Left H := { results := [], args := [] }

/-- 'tsblocklaw11.LabelsCheck': WHATEVER THE INPUT: true; the input reads as it did. -/
def labelsCheckSpec : ChangeSpec := { name := "labelsCheck", fn := fun _ => fun
  | [d] => { results := [.lit (.bool true)], args := [d] }
  | _ => none }
def labelsCheckRow : OpenClaim := { program := "ytpgdedehhaibmaa", sum := "9f86d5cf0fdaf3cd702c6889d689ef0508aa05eb9551feb886b3875c6e5290e7", func := "tsblock/tsblocklaw11.LabelsCheck", spec := "labelsCheck", inPlace := ["internal/bytealg.abigen_runtime_cmpstring"], unfollowed := true, recurses := true, apart := false }
def LabelsCheckSaid : Prop := labelsCheckRow.holds Try.pinned (OpenSpec.ofChange labelsCheckSpec)

/-- ITS FALSE NEIGHBOUR: 'it returns false'. Refute it at one input. -/
def labelsCheckWrong : ChangeSpec := { name := "labelsCheck", fn := fun _ => fun
  | [d] => { results := [.lit (.bool false)], args := [d] }
  | _ => none }
def LabelsCheckWrongFalsely : Prop := labelsCheckRow.holds Try.pinned (OpenSpec.ofChange labelsCheckWrong)

/-- 'tsblocklaw11.LabelsNormalize': WHATEVER THE INPUT: true; the input reads as it did. -/
def labelsNormalizeSpec : ChangeSpec := { name := "labelsNormalize", fn := fun _ => fun
  | [d] => { results := [.lit (.bool true)], args := [d] }
  | _ => none }
def labelsNormalizeRow : OpenClaim := { program := "ytpgdedehhaibmaa", sum := "9f86d5cf0fdaf3cd702c6889d689ef0508aa05eb9551feb886b3875c6e5290e7", func := "tsblock/tsblocklaw11.LabelsNormalize", spec := "labelsNormalize", inPlace := ["internal/bytealg.abigen_runtime_cmpstring"], unfollowed := true, recurses := true, apart := false }
def LabelsNormalizeSaid : Prop := labelsNormalizeRow.holds Try.pinned (OpenSpec.ofChange labelsNormalizeSpec)

/-- ITS FALSE NEIGHBOUR: 'it returns false'. Refute it at one input. -/
def labelsNormalizeWrong : ChangeSpec := { name := "labelsNormalize", fn := fun _ => fun
  | [d] => { results := [.lit (.bool false)], args := [d] }
  | _ => none }
def LabelsNormalizeWrongFalsely : Prop := labelsNormalizeRow.holds Try.pinned (OpenSpec.ofChange labelsNormalizeWrong)

/-- 'tsblocklaw11.LabelsCompare': WHATEVER THE INPUT: true; the input reads as it did. -/
def labelsCompareSpec : ChangeSpec := { name := "labelsCompare", fn := fun _ => fun
  | [d1, d2] => { results := [.lit (.bool true)], args := [d1, d2] }
  | _ => none }
def labelsCompareRow : OpenClaim := { program := "ytpgdedehhaibmaa", sum := "9f86d5cf0fdaf3cd702c6889d689ef0508aa05eb9551feb886b3875c6e5290e7", func := "tsblock/tsblocklaw11.LabelsCompare", spec := "labelsCompare", inPlace := ["internal/bytealg.abigen_runtime_cmpstring"], unfollowed := true, recurses := true, apart := false }
def LabelsCompareSaid : Prop := labelsCompareRow.holds Try.pinned (OpenSpec.ofChange labelsCompareSpec)

/-- ITS FALSE NEIGHBOUR: 'it returns false'. Refute it at one input. -/
def labelsCompareWrong : ChangeSpec := { name := "labelsCompare", fn := fun _ => fun
  | [d1, d2] => { results := [.lit (.bool false)], args := [d1, d2] }
  | _ => none }
def LabelsCompareWrongFalsely : Prop := labelsCompareRow.holds Try.pinned (OpenSpec.ofChange labelsCompareWrong)

/-- 'tsblocklaw11.LabelsTransitive': WHATEVER THE INPUT: true; the input reads as it did. -/
def labelsTransitiveSpec : ChangeSpec := { name := "labelsTransitive", fn := fun _ => fun
  | [d1, d2, d3] => { results := [.lit (.bool true)], args := [d1, d2, d3] }
  | _ => none }
def labelsTransitiveRow : OpenClaim := { program := "ytpgdedehhaibmaa", sum := "9f86d5cf0fdaf3cd702c6889d689ef0508aa05eb9551feb886b3875c6e5290e7", func := "tsblock/tsblocklaw11.LabelsTransitive", spec := "labelsTransitive", inPlace := ["internal/bytealg.abigen_runtime_cmpstring"], unfollowed := true, recurses := true, apart := false }
def LabelsTransitiveSaid : Prop := labelsTransitiveRow.holds Try.pinned (OpenSpec.ofChange labelsTransitiveSpec)

/-- ITS FALSE NEIGHBOUR: 'it returns false'. Refute it at one input. -/
def labelsTransitiveWrong : ChangeSpec := { name := "labelsTransitive", fn := fun _ => fun
  | [d1, d2, d3] => { results := [.lit (.bool false)], args := [d1, d2, d3] }
  | _ => none }
def LabelsTransitiveWrongFalsely : Prop := labelsTransitiveRow.holds Try.pinned (OpenSpec.ofChange labelsTransitiveWrong)

/-- 'tsblocklaw11.LabelsGet': WHATEVER THE INPUT: true; the input reads as it did. -/
def labelsGetSpec : ChangeSpec := { name := "labelsGet", fn := fun _ => fun
  | [d1, d2] => { results := [.lit (.bool true)], args := [d1, d2] }
  | _ => none }
def labelsGetRow : OpenClaim := { program := "ytpgdedehhaibmaa", sum := "9f86d5cf0fdaf3cd702c6889d689ef0508aa05eb9551feb886b3875c6e5290e7", func := "tsblock/tsblocklaw11.LabelsGet", spec := "labelsGet", inPlace := ["internal/bytealg.abigen_runtime_cmpstring"], unfollowed := true, recurses := true, apart := false }
def LabelsGetSaid : Prop := labelsGetRow.holds Try.pinned (OpenSpec.ofChange labelsGetSpec)

/-- ITS FALSE NEIGHBOUR: 'it returns false'. Refute it at one input. -/
def labelsGetWrong : ChangeSpec := { name := "labelsGet", fn := fun _ => fun
  | [d1, d2] => { results := [.lit (.bool false)], args := [d1, d2] }
  | _ => none }
def LabelsGetWrongFalsely : Prop := labelsGetRow.holds Try.pinned (OpenSpec.ofChange labelsGetWrong)

/-- 'tsblocklaw11.LabelsForgetOrder': WHATEVER THE INPUT: true; the input reads as it did. -/
def labelsForgetOrderSpec : ChangeSpec := { name := "labelsForgetOrder", fn := fun _ => fun
  | [d1, d2] => { results := [.lit (.bool true)], args := [d1, d2] }
  | _ => none }
def labelsForgetOrderRow : OpenClaim := { program := "ytpgdedehhaibmaa", sum := "9f86d5cf0fdaf3cd702c6889d689ef0508aa05eb9551feb886b3875c6e5290e7", func := "tsblock/tsblocklaw11.LabelsForgetOrder", spec := "labelsForgetOrder", inPlace := ["internal/bytealg.abigen_runtime_cmpstring"], unfollowed := true, recurses := true, apart := false }
def LabelsForgetOrderSaid : Prop := labelsForgetOrderRow.holds Try.pinned (OpenSpec.ofChange labelsForgetOrderSpec)

/-- ITS FALSE NEIGHBOUR: 'it returns false'. Refute it at one input. -/
def labelsForgetOrderWrong : ChangeSpec := { name := "labelsForgetOrder", fn := fun _ => fun
  | [d1, d2] => { results := [.lit (.bool false)], args := [d1, d2] }
  | _ => none }
def LabelsForgetOrderWrongFalsely : Prop := labelsForgetOrderRow.holds Try.pinned (OpenSpec.ofChange labelsForgetOrderWrong)

/- THE SECOND FORM. 'bulk': how many values and letters a reading holds, each counted each time it is reached (what is shared counts as often as it is met; a slice's spare places count too). A statement '..UptoSaid' is the law's where the arguments, and the package variables that the reading takes, are together of bulk at most 1048576: NARROWER than '..Said'. Prove '..Said' where nothing that the law and all that it calls make is longer than what came in: it says more and counts as full. Else prove '..UptoSaid'. A law counts once. -/
mutual
def uptoBulk {H : Type} : DataW H → Nat
  | .lit (.string bytes) => bytes.length + 1
  | .lit _ => 1
  | .nil => 1
  | .ptr d => uptoBulk d + 1
  | .slice elems spare => uptoBulkAll elems + uptoBulkAll spare + 1
  | .agg parts => uptoBulkAll parts + 1
  | .iface _ d => uptoBulk d + 1
  | .map entries => uptoBulkEntries entries + 1
  | .held _ => 1
def uptoBulkAll {H : Type} : List (DataW H) → Nat
  | [] => 0
  | d :: r => uptoBulk d + uptoBulkAll r
def uptoBulkEntries {H : Type} : List (Lit × DataW H) → Nat
  | [] => 0
  | x :: r => uptoBulkEntry x + uptoBulkEntries r
def uptoBulkEntry {H : Type} : Lit × DataW H → Nat
  | (.string bytes, d) => bytes.length + uptoBulk d + 1
  | (_, d) => uptoBulk d + 1
 end
def uptoSmall : (H : Type) → List (DataW H) → Bool := fun _ ds => decide (uptoBulkAll ds ≤ 1048576)
def OpenSpec.upto (s : _root_.Go.ChangeSpec) : _root_.Go.OpenSpec := { _root_.Go.OpenSpec.ofChange s with cond := some uptoSmall }

/-- 'tsblocklaw11.LabelsCheck', WHERE WHAT IT READS IS OF BULK AT MOST 1048576: true; the input reads as it did. -/
def labelsCheckUptoRow : OpenClaim := { program := "ytpgdedehhaibmaa", sum := "9f86d5cf0fdaf3cd702c6889d689ef0508aa05eb9551feb886b3875c6e5290e7", func := "tsblock/tsblocklaw11.LabelsCheck", spec := "labelsCheck", inPlace := ["internal/bytealg.abigen_runtime_cmpstring"], unfollowed := true, recurses := true, apart := false, narrowed := true }
def LabelsCheckUptoSaid : Prop := labelsCheckUptoRow.holds Try.pinned (OpenSpec.upto labelsCheckSpec)

/-- 'tsblocklaw11.LabelsNormalize', WHERE WHAT IT READS IS OF BULK AT MOST 1048576: true; the input reads as it did. -/
def labelsNormalizeUptoRow : OpenClaim := { program := "ytpgdedehhaibmaa", sum := "9f86d5cf0fdaf3cd702c6889d689ef0508aa05eb9551feb886b3875c6e5290e7", func := "tsblock/tsblocklaw11.LabelsNormalize", spec := "labelsNormalize", inPlace := ["internal/bytealg.abigen_runtime_cmpstring"], unfollowed := true, recurses := true, apart := false, narrowed := true }
def LabelsNormalizeUptoSaid : Prop := labelsNormalizeUptoRow.holds Try.pinned (OpenSpec.upto labelsNormalizeSpec)

/-- 'tsblocklaw11.LabelsCompare', WHERE WHAT IT READS IS OF BULK AT MOST 1048576: true; the input reads as it did. -/
def labelsCompareUptoRow : OpenClaim := { program := "ytpgdedehhaibmaa", sum := "9f86d5cf0fdaf3cd702c6889d689ef0508aa05eb9551feb886b3875c6e5290e7", func := "tsblock/tsblocklaw11.LabelsCompare", spec := "labelsCompare", inPlace := ["internal/bytealg.abigen_runtime_cmpstring"], unfollowed := true, recurses := true, apart := false, narrowed := true }
def LabelsCompareUptoSaid : Prop := labelsCompareUptoRow.holds Try.pinned (OpenSpec.upto labelsCompareSpec)

/-- 'tsblocklaw11.LabelsTransitive', WHERE WHAT IT READS IS OF BULK AT MOST 1048576: true; the input reads as it did. -/
def labelsTransitiveUptoRow : OpenClaim := { program := "ytpgdedehhaibmaa", sum := "9f86d5cf0fdaf3cd702c6889d689ef0508aa05eb9551feb886b3875c6e5290e7", func := "tsblock/tsblocklaw11.LabelsTransitive", spec := "labelsTransitive", inPlace := ["internal/bytealg.abigen_runtime_cmpstring"], unfollowed := true, recurses := true, apart := false, narrowed := true }
def LabelsTransitiveUptoSaid : Prop := labelsTransitiveUptoRow.holds Try.pinned (OpenSpec.upto labelsTransitiveSpec)

/-- 'tsblocklaw11.LabelsGet', WHERE WHAT IT READS IS OF BULK AT MOST 1048576: true; the input reads as it did. -/
def labelsGetUptoRow : OpenClaim := { program := "ytpgdedehhaibmaa", sum := "9f86d5cf0fdaf3cd702c6889d689ef0508aa05eb9551feb886b3875c6e5290e7", func := "tsblock/tsblocklaw11.LabelsGet", spec := "labelsGet", inPlace := ["internal/bytealg.abigen_runtime_cmpstring"], unfollowed := true, recurses := true, apart := false, narrowed := true }
def LabelsGetUptoSaid : Prop := labelsGetUptoRow.holds Try.pinned (OpenSpec.upto labelsGetSpec)

/-- 'tsblocklaw11.LabelsForgetOrder', WHERE WHAT IT READS IS OF BULK AT MOST 1048576: true; the input reads as it did. -/
def labelsForgetOrderUptoRow : OpenClaim := { program := "ytpgdedehhaibmaa", sum := "9f86d5cf0fdaf3cd702c6889d689ef0508aa05eb9551feb886b3875c6e5290e7", func := "tsblock/tsblocklaw11.LabelsForgetOrder", spec := "labelsForgetOrder", inPlace := ["internal/bytealg.abigen_runtime_cmpstring"], unfollowed := true, recurses := true, apart := false, narrowed := true }
def LabelsForgetOrderUptoSaid : Prop := labelsForgetOrderUptoRow.holds Try.pinned (OpenSpec.upto labelsForgetOrderSpec)

end Rows
end Go.Proofs.Ytpgdedehhaibmaa
