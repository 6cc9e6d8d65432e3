/- Layer 1: the law's fields. -/
import Derived.Test.YtgcfgickpooaaaaProg
import Derived.Test.YtgcfgickpooaaaaOpen
namespace Go.Proofs.Ytgcfgickpooaaaa
open Go Go.RowKit
/-- A field's cells. -/
def fieldCells (a : Nat × Int) : List Value := [.int .u64 (a.1 : Int), .int .i64 a.2]
def fieldOk (a : Nat × Int) : Prop := a.1 < 18446744073709551616 ∧ -9223372036854775808 ≤ a.2 ∧ a.2 < 9223372036854775808
theorem flat_field : Flat Try.prog 51 2 fieldCells fieldOk :=
  (flat_struct2 Try.underlying51 (by kernel_rfl) rfl rfl (flat_u64 Try.underlying42 (by kernel_rfl)) (flat_i64 Try.underlying3 (by kernel_rfl))).map fun a h => ⟨a, h, rfl⟩
end Go.Proofs.Ytgcfgickpooaaaa
