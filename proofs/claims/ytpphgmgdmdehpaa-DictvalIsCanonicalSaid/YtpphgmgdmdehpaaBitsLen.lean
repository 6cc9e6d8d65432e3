/- math/bits.Len, laid by hand. -/
import Derived.Test.YtpphgmgdmdehpaaProg
import Derived.Shelf.Small.Bits
set_option linter.unusedVariables false
namespace Go.Proofs.Ytpphgmgdmdehpaa
open Go

def renN : Go.Shelf.Ren := ⟨fun | 125 => 38 | 128 => 52 | 129 => 53 | n => n, fun | 3 => 3 | 4 => 4 | 5 => 5 | 9 => 9 | 46 => 66 | 51 => 87 | 53 => 25 | n => n, fun n => n⟩
theorem laysN : Go.Proofs.Lays.n125 Try.prog renN := { mixed := by kernel_rfl, f125 := Try.func38.trans (congrArg some (by kernel_rfl)), f128 := Try.func52.trans (congrArg some (by kernel_rfl)), f129 := Try.func53.trans (congrArg some (by kernel_rfl)), t3 := Try.underlying3, a3 := Try.isAgg3, z3 := Try.sizeOf3, v3 := Try.zeroValue3, t4 := Try.underlying4, a4 := Try.isAgg4, z4 := Try.sizeOf4, v4 := Try.zeroValue4, t5 := Try.underlying5, a5 := Try.isAgg5, z5 := Try.sizeOf5, v5 := Try.zeroValue5, t9 := Try.underlying9, a9 := Try.isAgg9, z9 := Try.sizeOf9, v9 := Try.zeroValue9, t46 := Try.underlying66, a46 := Try.isAgg66, z46 := Try.sizeOf66, v46 := Try.zeroValue66, t51 := Try.underlying87, a51 := Try.isAgg87, z51 := Try.sizeOf87, v51 := Try.zeroValue87, t53 := Try.underlying25, a53 := Try.isAgg25, z53 := Try.sizeOf25, v53 := Try.zeroValue25 }
theorem bits_len (x : Nat) (hx : x < 18446744073709551616) (w : World) : Calls Try.prog 38 #[.int .u64 (x : Int)] w fun e w' => e = .returned (.int .i64 (Lib.bitLen x : Nat)) ∧ w' = w :=
  (Any.bits_Len laysN (x : Int) w (by omega) (by omega)).mono fun e w' h => by
    rw [Int.toNat_natCast] at h
    exact h
end Go.Proofs.Ytpphgmgdmdehpaa
