/-
  NARROWER THAN 'FOR EVERY INPUT', by the rows' own cells (each row's printed sentence says how): TimesWrites: laid · TimesReads: laid · TimesRoundTrip: laid · TimesAreCanonical: laid · TimesSizes: laid · TimesShift: laid.
  DERIVED. THE GIVEN ROWS OF THIS SEAT. 6 by the template 'for every input the law returns true; each argument reads behind the call as it read before'; 0 by the template 'total and deterministic' (their statements: YtjgiaibpipgjjaaDoorTotals.lean).
  GIVEN WITH THE SEED: the statements are not yours to turn. If you find one false, say at which input.
  Laid BY PROGRAM, IN A SANDBOX (cutbox-rows.mjs): the forced cells as the released guide's own fill.sh prints them over the translation 531134ab33eaf1f2… (all of the seat's roots in one cut). By AI agents, Wed Nov 11 2026. No macro, syntax, notation, axiom, sorry.
-/
import Derived.Test.YtjgiaibpipgjjaaDoorChecked
import GoSem.Claim
import GoSem.ClaimJoined
import GoSem.ClaimMapViews
import Derived.JoinedTies
import Derived.KernelRfl
namespace Go.Proofs.YtjgiaibpipgjjaaDoor
/- THE CELL 'sum', in the pinned program and in every row, IS THE sha256 OF THE DUMP (.gsa) THAT YtjgiaibpipgjjaaDoorProg.lean LOADS. Nothing in Lean hashes anything: it is a label: what it is worth is what the hold of that sum in a sandbox is worth. -/
noncomputable def Tryd.pinned : Pinned := { name := "ytjgiaibpipgjjaadoor", sum := "531134ab33eaf1f28676fd588f31538df88793cd4e49ac5f15b14cc942ec179f", checked := Tryd.checked }
namespace Rows
def none {H : Type} : Left H := { results := [], args := [] }

/- WHAT THE LISTED PACKAGE-LEVEL VARIABLES READ AS WHEN THE CALL BEGINS. Each datum BY PROGRAM (the guide's laid-datum.mjs) off the statement by which the dump's own 'gosem.cut.vars' lays the variable. In a bare row this is a premise. The card (YtjgiaibpipgjjaaDoorCards.lean) ties it to the program's text. -/
def laid_tsblock_times_forms {H : Type} : DataW H := .agg [.agg [.lit (.int .u64 0), .lit (.int .i64 1), .lit (.int .i64 0)], .agg [.lit (.int .u64 2), .lit (.int .i64 2), .lit (.int .i64 7)], .agg [.lit (.int .u64 6), .lit (.int .i64 3), .lit (.int .i64 12)], .agg [.lit (.int .u64 14), .lit (.int .i64 4), .lit (.int .i64 32)], .agg [.lit (.int .u64 15), .lit (.int .i64 4), .lit (.int .i64 64)]]

/-- 'tsblocklaw05.TimesWrites': WHATEVER THE INPUT: true; the input reads as it did. -/
def timesWritesSpec : ChangeSpec := { name := "timesWrites", fn := fun _ => fun
  | [d1, d2] => { results := [.lit (.bool true)], args := [d1, d2] }
  | _ => none }
def timesWritesRow : OpenClaim := { program := "ytjgiaibpipgjjaadoor", sum := "531134ab33eaf1f28676fd588f31538df88793cd4e49ac5f15b14cc942ec179f", func := "tsblock/tsblocklaw05.TimesWrites", spec := "timesWrites", unfollowed := true, recurses := true, named := ["tsblock/times.forms"], apart := false, laid := [("tsblock/times.forms", laid_tsblock_times_forms)] }
def TimesWritesSaid : Prop := timesWritesRow.holds Tryd.pinned (OpenSpec.ofChange timesWritesSpec)

/-- ITS FALSE NEIGHBOUR: 'it returns false'. Refute it at one input. -/
def timesWritesWrong : ChangeSpec := { name := "timesWrites", fn := fun _ => fun
  | [d1, d2] => { results := [.lit (.bool false)], args := [d1, d2] }
  | _ => none }
def TimesWritesWrongFalsely : Prop := timesWritesRow.holds Tryd.pinned (OpenSpec.ofChange timesWritesWrong)

/-- 'tsblocklaw05.TimesReads': WHATEVER THE INPUT: true; the input reads as it did. -/
def timesReadsSpec : ChangeSpec := { name := "timesReads", fn := fun _ => fun
  | [d1, d2] => { results := [.lit (.bool true)], args := [d1, d2] }
  | _ => none }
def timesReadsRow : OpenClaim := { program := "ytjgiaibpipgjjaadoor", sum := "531134ab33eaf1f28676fd588f31538df88793cd4e49ac5f15b14cc942ec179f", func := "tsblock/tsblocklaw05.TimesReads", spec := "timesReads", unfollowed := true, recurses := true, named := ["tsblock/times.forms"], apart := false, laid := [("tsblock/times.forms", laid_tsblock_times_forms)] }
def TimesReadsSaid : Prop := timesReadsRow.holds Tryd.pinned (OpenSpec.ofChange timesReadsSpec)

/-- ITS FALSE NEIGHBOUR: 'it returns false'. Refute it at one input. -/
def timesReadsWrong : ChangeSpec := { name := "timesReads", fn := fun _ => fun
  | [d1, d2] => { results := [.lit (.bool false)], args := [d1, d2] }
  | _ => none }
def TimesReadsWrongFalsely : Prop := timesReadsRow.holds Tryd.pinned (OpenSpec.ofChange timesReadsWrong)

/-- 'tsblocklaw05.TimesRoundTrip': WHATEVER THE INPUT: true; the input reads as it did. -/
def timesRoundTripSpec : ChangeSpec := { name := "timesRoundTrip", fn := fun _ => fun
  | [d] => { results := [.lit (.bool true)], args := [d] }
  | _ => none }
def timesRoundTripRow : OpenClaim := { program := "ytjgiaibpipgjjaadoor", sum := "531134ab33eaf1f28676fd588f31538df88793cd4e49ac5f15b14cc942ec179f", func := "tsblock/tsblocklaw05.TimesRoundTrip", spec := "timesRoundTrip", unfollowed := true, recurses := true, named := ["tsblock/times.forms"], apart := false, laid := [("tsblock/times.forms", laid_tsblock_times_forms)] }
def TimesRoundTripSaid : Prop := timesRoundTripRow.holds Tryd.pinned (OpenSpec.ofChange timesRoundTripSpec)

/-- ITS FALSE NEIGHBOUR: 'it returns false'. Refute it at one input. -/
def timesRoundTripWrong : ChangeSpec := { name := "timesRoundTrip", fn := fun _ => fun
  | [d] => { results := [.lit (.bool false)], args := [d] }
  | _ => none }
def TimesRoundTripWrongFalsely : Prop := timesRoundTripRow.holds Tryd.pinned (OpenSpec.ofChange timesRoundTripWrong)

/-- 'tsblocklaw05.TimesAreCanonical': WHATEVER THE INPUT: true; the input reads as it did. -/
def timesAreCanonicalSpec : ChangeSpec := { name := "timesAreCanonical", fn := fun _ => fun
  | [d1, d2] => { results := [.lit (.bool true)], args := [d1, d2] }
  | _ => none }
def timesAreCanonicalRow : OpenClaim := { program := "ytjgiaibpipgjjaadoor", sum := "531134ab33eaf1f28676fd588f31538df88793cd4e49ac5f15b14cc942ec179f", func := "tsblock/tsblocklaw05.TimesAreCanonical", spec := "timesAreCanonical", unfollowed := true, recurses := true, named := ["tsblock/times.forms"], apart := false, laid := [("tsblock/times.forms", laid_tsblock_times_forms)] }
def TimesAreCanonicalSaid : Prop := timesAreCanonicalRow.holds Tryd.pinned (OpenSpec.ofChange timesAreCanonicalSpec)

/-- ITS FALSE NEIGHBOUR: 'it returns false'. Refute it at one input. -/
def timesAreCanonicalWrong : ChangeSpec := { name := "timesAreCanonical", fn := fun _ => fun
  | [d1, d2] => { results := [.lit (.bool false)], args := [d1, d2] }
  | _ => none }
def TimesAreCanonicalWrongFalsely : Prop := timesAreCanonicalRow.holds Tryd.pinned (OpenSpec.ofChange timesAreCanonicalWrong)

/-- 'tsblocklaw05.TimesSizes': WHATEVER THE INPUT: true; the input reads as it did. -/
def timesSizesSpec : ChangeSpec := { name := "timesSizes", fn := fun _ => fun
  | [d1, d2, d3] => { results := [.lit (.bool true)], args := [d1, d2, d3] }
  | _ => none }
def timesSizesRow : OpenClaim := { program := "ytjgiaibpipgjjaadoor", sum := "531134ab33eaf1f28676fd588f31538df88793cd4e49ac5f15b14cc942ec179f", func := "tsblock/tsblocklaw05.TimesSizes", spec := "timesSizes", unfollowed := true, recurses := true, named := ["tsblock/times.forms"], apart := false, laid := [("tsblock/times.forms", laid_tsblock_times_forms)] }
def TimesSizesSaid : Prop := timesSizesRow.holds Tryd.pinned (OpenSpec.ofChange timesSizesSpec)

/-- ITS FALSE NEIGHBOUR: 'it returns false'. Refute it at one input. -/
def timesSizesWrong : ChangeSpec := { name := "timesSizes", fn := fun _ => fun
  | [d1, d2, d3] => { results := [.lit (.bool false)], args := [d1, d2, d3] }
  | _ => none }
def TimesSizesWrongFalsely : Prop := timesSizesRow.holds Tryd.pinned (OpenSpec.ofChange timesSizesWrong)

/-- 'tsblocklaw05.TimesShift': WHATEVER THE INPUT: true; the input reads as it did. -/
def timesShiftSpec : ChangeSpec := { name := "timesShift", fn := fun _ => fun
  | [d1, d2] => { results := [.lit (.bool true)], args := [d1, d2] }
  | _ => none }
def timesShiftRow : OpenClaim := { program := "ytjgiaibpipgjjaadoor", sum := "531134ab33eaf1f28676fd588f31538df88793cd4e49ac5f15b14cc942ec179f", func := "tsblock/tsblocklaw05.TimesShift", spec := "timesShift", unfollowed := true, recurses := true, named := ["tsblock/times.forms"], apart := false, laid := [("tsblock/times.forms", laid_tsblock_times_forms)] }
def TimesShiftSaid : Prop := timesShiftRow.holds Tryd.pinned (OpenSpec.ofChange timesShiftSpec)

/-- ITS FALSE NEIGHBOUR: 'it returns false'. Refute it at one input. -/
def timesShiftWrong : ChangeSpec := { name := "timesShift", fn := fun _ => fun
  | [d1, d2] => { results := [.lit (.bool false)], args := [d1, d2] }
  | _ => none }
def TimesShiftWrongFalsely : Prop := timesShiftRow.holds Tryd.pinned (OpenSpec.ofChange timesShiftWrong)

/- THE SECOND FORM. 'bulk': how many values and letters a reading holds, each counted each time it is reached (what is shared counts as often as it is met; a slice's spare places count too). A statement '..UptoSaid' is the law's where the arguments, and the package variables that the reading takes, are together of bulk at most 1048576: NARROWER than '..Said'. Prove '..Said' where nothing that the law and all that it calls make is longer than what came in: it says more and counts as full. Else prove '..UptoSaid'. A law counts once. -/
mutual
def uptoBulk {H : Type} : DataW H → Nat
  | .lit (.string bytes) => bytes.length + 1
  | .lit _ => 1
  | .nil => 1
  | .ptr d => uptoBulk d + 1
  | .slice elems spare => uptoBulkAll elems + uptoBulkAll spare + 1
  | .agg parts => uptoBulkAll parts + 1
  | .iface _ d => uptoBulk d + 1
  | .map entries => uptoBulkEntries entries + 1
  | .held _ => 1
def uptoBulkAll {H : Type} : List (DataW H) → Nat
  | [] => 0
  | d :: r => uptoBulk d + uptoBulkAll r
def uptoBulkEntries {H : Type} : List (Lit × DataW H) → Nat
  | [] => 0
  | x :: r => uptoBulkEntry x + uptoBulkEntries r
def uptoBulkEntry {H : Type} : Lit × DataW H → Nat
  | (.string bytes, d) => bytes.length + uptoBulk d + 1
  | (_, d) => uptoBulk d + 1
 end
def uptoSmall : (H : Type) → List (DataW H) → Bool := fun _ ds => decide (uptoBulkAll ds ≤ 1048576)
def OpenSpec.upto (s : _root_.Go.ChangeSpec) : _root_.Go.OpenSpec := { _root_.Go.OpenSpec.ofChange s with cond := some uptoSmall }

/-- 'tsblocklaw05.TimesWrites', WHERE WHAT IT READS IS OF BULK AT MOST 1048576: true; the input reads as it did. -/
def timesWritesUptoRow : OpenClaim := { program := "ytjgiaibpipgjjaadoor", sum := "531134ab33eaf1f28676fd588f31538df88793cd4e49ac5f15b14cc942ec179f", func := "tsblock/tsblocklaw05.TimesWrites", spec := "timesWrites", unfollowed := true, recurses := true, named := ["tsblock/times.forms"], apart := false, laid := [("tsblock/times.forms", laid_tsblock_times_forms)], narrowed := true }
def TimesWritesUptoSaid : Prop := timesWritesUptoRow.holds Tryd.pinned (OpenSpec.upto timesWritesSpec)

/-- 'tsblocklaw05.TimesReads', WHERE WHAT IT READS IS OF BULK AT MOST 1048576: true; the input reads as it did. -/
def timesReadsUptoRow : OpenClaim := { program := "ytjgiaibpipgjjaadoor", sum := "531134ab33eaf1f28676fd588f31538df88793cd4e49ac5f15b14cc942ec179f", func := "tsblock/tsblocklaw05.TimesReads", spec := "timesReads", unfollowed := true, recurses := true, named := ["tsblock/times.forms"], apart := false, laid := [("tsblock/times.forms", laid_tsblock_times_forms)], narrowed := true }
def TimesReadsUptoSaid : Prop := timesReadsUptoRow.holds Tryd.pinned (OpenSpec.upto timesReadsSpec)

/-- 'tsblocklaw05.TimesRoundTrip', WHERE WHAT IT READS IS OF BULK AT MOST 1048576: true; the input reads as it did. -/
def timesRoundTripUptoRow : OpenClaim := { program := "ytjgiaibpipgjjaadoor", sum := "531134ab33eaf1f28676fd588f31538df88793cd4e49ac5f15b14cc942ec179f", func := "tsblock/tsblocklaw05.TimesRoundTrip", spec := "timesRoundTrip", unfollowed := true, recurses := true, named := ["tsblock/times.forms"], apart := false, laid := [("tsblock/times.forms", laid_tsblock_times_forms)], narrowed := true }
def TimesRoundTripUptoSaid : Prop := timesRoundTripUptoRow.holds Tryd.pinned (OpenSpec.upto timesRoundTripSpec)

/-- 'tsblocklaw05.TimesAreCanonical', WHERE WHAT IT READS IS OF BULK AT MOST 1048576: true; the input reads as it did. -/
def timesAreCanonicalUptoRow : OpenClaim := { program := "ytjgiaibpipgjjaadoor", sum := "531134ab33eaf1f28676fd588f31538df88793cd4e49ac5f15b14cc942ec179f", func := "tsblock/tsblocklaw05.TimesAreCanonical", spec := "timesAreCanonical", unfollowed := true, recurses := true, named := ["tsblock/times.forms"], apart := false, laid := [("tsblock/times.forms", laid_tsblock_times_forms)], narrowed := true }
def TimesAreCanonicalUptoSaid : Prop := timesAreCanonicalUptoRow.holds Tryd.pinned (OpenSpec.upto timesAreCanonicalSpec)

/-- 'tsblocklaw05.TimesSizes', WHERE WHAT IT READS IS OF BULK AT MOST 1048576: true; the input reads as it did. -/
def timesSizesUptoRow : OpenClaim := { program := "ytjgiaibpipgjjaadoor", sum := "531134ab33eaf1f28676fd588f31538df88793cd4e49ac5f15b14cc942ec179f", func := "tsblock/tsblocklaw05.TimesSizes", spec := "timesSizes", unfollowed := true, recurses := true, named := ["tsblock/times.forms"], apart := false, laid := [("tsblock/times.forms", laid_tsblock_times_forms)], narrowed := true }
def TimesSizesUptoSaid : Prop := timesSizesUptoRow.holds Tryd.pinned (OpenSpec.upto timesSizesSpec)

/-- 'tsblocklaw05.TimesShift', WHERE WHAT IT READS IS OF BULK AT MOST 1048576: true; the input reads as it did. -/
def timesShiftUptoRow : OpenClaim := { program := "ytjgiaibpipgjjaadoor", sum := "531134ab33eaf1f28676fd588f31538df88793cd4e49ac5f15b14cc942ec179f", func := "tsblock/tsblocklaw05.TimesShift", spec := "timesShift", unfollowed := true, recurses := true, named := ["tsblock/times.forms"], apart := false, laid := [("tsblock/times.forms", laid_tsblock_times_forms)], narrowed := true }
def TimesShiftUptoSaid : Prop := timesShiftUptoRow.holds Tryd.pinned (OpenSpec.upto timesShiftSpec)

end Rows
end Go.Proofs.YtjgiaibpipgjjaaDoor
