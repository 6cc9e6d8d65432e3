/- math/bits.Mul of 1 and a small number, as slices.Repeat calls it for lists of one element. -/
import Derived.Test.YtnjdjmfjkjpelaaRef01C
set_option linter.unusedVariables false
namespace Go.Proofs.Ytnjdjmfjkjpelaa
open Go Go.RowKit

theorem mul64_one (n : Nat) (hn : n < 4294967296) (w : World) : Calls Try.prog 46 #[.int .u64 1, .int .u64 (n : Int)] w fun e w' => e = .returned (.tuple #[.int .u64 0, .int .u64 (n : Int)]) ∧ w = w' := by
  have hb : (n : Int) < 4294967296 := by omega
  have e1 : bits BinOp.and IntKind.u64 1 4294967295 = 1 := by decide
  have e2 : bits BinOp.and IntKind.u64 (n : Int) 4294967295 = (n : Int) := by
    have := bits_mask .u64 64 (by decide) wraps_u64 32 (by decide) (n : Int) (Int.natCast_nonneg _) (by omega)
    simp only [Int.reduceSub, Int.reducePow] at this
    rw [this]; omega
  have e3 : (n : Int) / 4294967296 = 0 := by omega
  have e4 : bits BinOp.and IntKind.u64 0 4294967295 = 0 := by decide
  go_enter Try.func46, Try.ntmps46
  go_wp2_with fail
  go_ret2
  exact ⟨rfl, rfl⟩
theorem mul_one (n : Nat) (hn : n < 4294967296) (w : World) : Calls Try.prog 35 #[.int .u64 1, .int .u64 (n : Int)] w fun e w' => e = .returned (.tuple #[.int .u64 0, .int .u64 (n : Int)]) ∧ w = w' := by
  have HM := Lib.hid (mul64_one n hn w)
  clear hn
  go_enter Try.func35, Try.ntmps35
  go_wp2_with fail
  refine HM.out.mono ?_
  rintro e w2 ⟨rfl, rfl⟩
  go_wp2_with fail
  go_ret2
  exact ⟨rfl, rfl⟩
end Go.Proofs.Ytnjdjmfjkjpelaa
