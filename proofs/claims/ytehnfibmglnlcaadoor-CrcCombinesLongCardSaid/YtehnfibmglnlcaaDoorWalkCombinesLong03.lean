/- Layer 3: CrcCombinesLong, walked. -/
import Derived.Test.YtehnfibmglnlcaaDoorAlive03
set_option linter.unusedVariables false
namespace Go.Proofs.YtehnfibmglnlcaaDoor.crcCombinesLong
open Go Go.RowKit

set_option maxHeartbeats 1000000 in
theorem walk (w : World) (hT : Tab w) (a : Nat) (ha : a < 4294967296) (n : Nat) (hn : n < 4294967296) (m : Nat) (hm : m < 4294967296) :
    Calls Tryd.prog 6 #[.int .u32 a, .int .u32 n, .int .u32 m] w fun e w' => e = .returned (.bool true) ∧ Below w.heap.size w w' := by
  have HT := Lib.hid hT
  clear hT
  have HE : Hid (zeros m (zeros n a) = zeros (n + m) a) := by show _ = _; rw [zeros_add]
  have HA := Lib.hid (zeros_lt (n := n) ha)
  have HS : Hid ((n : Int) + (m : Int) = ((n + m : Nat) : Int)) := by show _ = _; omega
  go_enter Tryd.func6, Tryd.ntmps6
  go_wp2_with fail
  refine (crc_combine a 0 n _ HT.out ha (by decide) (by omega)).mono ?_
  rintro e w1 ⟨rfl, hB⟩
  rw [Nat.xor_zero]
  have HB1 := Lib.hid hB
  have HT1 := Lib.hid (HT.out.below HB1.out (Nat.le_refl _))
  clear hB
  generalize zeros n a = A at *
  go_wp2_with fail
  refine (crc_combine A 0 m _ HT1.out HA.out (by decide) (by omega)).mono ?_
  rintro e w2 ⟨rfl, hB⟩
  rw [Nat.xor_zero]
  have HB2 := Lib.hid (HB1.out.trans (hB.mono HB1.out.size))
  have HT2 := Lib.hid (HT.out.below HB2.out (Nat.le_refl _))
  clear hB HT1
  generalize zeros m A = Z at *
  go_wp2_with fail
  refine (alive_any _ HT2.out).mono ?_
  rintro e w3 ⟨rfl, hB⟩
  have HB3 := Lib.hid (HB2.out.trans (hB.mono HB2.out.size))
  have HT3 := Lib.hid (HT.out.below HB3.out (Nat.le_refl _))
  clear hB HT2
  go_wp2_with fail
  rw [HS.out]
  refine (crc_combine a 0 (n + m) _ HT3.out ha (by decide) (by omega)).mono ?_
  rintro e w4 ⟨rfl, hB⟩
  rw [Nat.xor_zero, ← HE.out]
  have HB4 := Lib.hid (HB3.out.trans (hB.mono HB3.out.size))
  clear hB HT3 HE
  go_wp2_with fail
  refine (crc_combine_neg a a _ _ (by omega)).mono ?_
  rintro e w5 ⟨rfl, rfl⟩
  go_wp2_with fail
  go_ret
  exact ⟨rfl, HB4.out⟩
end Go.Proofs.YtehnfibmglnlcaaDoor.crcCombinesLong
