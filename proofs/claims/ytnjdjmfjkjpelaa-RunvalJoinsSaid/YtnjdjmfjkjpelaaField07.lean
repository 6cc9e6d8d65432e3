/- Layer 7: the statement's Runs. -/
import Derived.Test.YtnjdjmfjkjpelaaProg
import Derived.Test.YtnjdjmfjkjpelaaOpen
namespace Go.Proofs.Ytnjdjmfjkjpelaa
open Go Go.RowKit
def run7Cells (a : Nat × Int) : List Value := [.int .u64 (a.1 : Int), .int .i64 a.2]
def run7Ok (a : Nat × Int) : Prop := a.1 < 18446744073709551616 ∧ -9223372036854775808 ≤ a.2 ∧ a.2 < 9223372036854775808
theorem flat_run7 : Flat Try.prog 36 2 run7Cells run7Ok :=
  (flat_struct2 Try.underlying36 (by kernel_rfl) rfl rfl (flat_u64 Try.underlying29 (by kernel_rfl)) (flat_i64 Try.underlying3 (by kernel_rfl))).map fun a h => ⟨a, h, rfl⟩
end Go.Proofs.Ytnjdjmfjkjpelaa
