/- Layer 6: the library's counts of leading and trailing zeros, as the program calls them. -/
import Derived.Test.YtnhopiggknfimaaDoorXorC
import Derived.Test.YtnhopiggknfimaaDoorBitioD
import Derived.Test.YtnhopiggknfimaaDoorStruct
import Derived.Shelf.Small.Bits
import Derived.Shelf.Spec.TrailingZeros
set_option linter.unusedVariables false
set_option maxRecDepth 20000
namespace Go.Proofs.YtnhopiggknfimaaDoor
open Go Go.RowKit

theorem bitLen_log {f x : Nat} (h0 : x ≠ 0) (h : x < 2 ^ f) : Lib.bitLenAux f x = Nat.log2 x + 1 := by
  induction f generalizing x with
  | zero => simp at h; omega
  | succ f ih =>
    rw [Lib.bitLenAux, if_neg h0]
    by_cases h1 : x / 2 = 0
    · have : x = 1 := by omega
      subst this
      cases f <;> rfl
    · have hl : Nat.log2 x = Nat.log2 (x / 2) + 1 := by rw [Nat.log2_def x, if_pos (by omega)]
      rw [ih h1 (by rw [Nat.pow_succ] at h; omega), hl]; omega
theorem lead_bitLen {x : Nat} (h0 : x ≠ 0) (h : x < 18446744073709551616) : (64 : Int) - (Lib.bitLen x : Int) = (leadV x : Int) := by
  have h1 : Nat.log2 x < 64 := (Nat.log2_lt h0).2 (by simpa using h)
  rw [Lib.bitLen, bitLen_log h0 (by simpa using h), leadV]; omega
theorem trail_ctz (f x : Nat) : Lib.ctzFrom f x = tz f x := by
  induction f generalizing x with
  | zero => rfl
  | succ f ih =>
    rw [Lib.ctzFrom, tz, ih]
    by_cases h : x % 2 = 1
    · rw [if_pos h, if_neg (by omega)]
    · rw [if_neg h, if_pos (by omega)]
theorem trail_lib {x : Nat} (h0 : x ≠ 0) : Lib.ctz 64 x = trailV x := by rw [Lib.ctz, if_neg h0, trail_ctz]; rfl

def renL : Go.Shelf.Ren := ⟨fun | 129 => 55 | 134 => 52 | n => n, fun | 3 => 3 | 4 => 4 | 5 => 5 | 9 => 9 | 46 => 88 | 53 => 28 | n => n, fun n => n⟩
theorem laysL : Go.Proofs.Lays.n134 Tryd.prog renL := { mixed := by kernel_rfl, f129 := Tryd.func55.trans (congrArg some (by kernel_rfl)), f134 := Tryd.func52.trans (congrArg some (by kernel_rfl)), t3 := Tryd.underlying3, a3 := Tryd.isAgg3, z3 := Tryd.sizeOf3, v3 := Tryd.zeroValue3, t4 := Tryd.underlying4, a4 := Tryd.isAgg4, z4 := Tryd.sizeOf4, v4 := Tryd.zeroValue4, t5 := Tryd.underlying5, a5 := Tryd.isAgg5, z5 := Tryd.sizeOf5, v5 := Tryd.zeroValue5, t9 := Tryd.underlying9, a9 := Tryd.isAgg9, z9 := Tryd.sizeOf9, v9 := Tryd.zeroValue9, t46 := Tryd.underlying88, a46 := Tryd.isAgg88, z46 := Tryd.sizeOf88, v46 := Tryd.zeroValue88, t53 := Tryd.underlying28, a53 := Tryd.isAgg28, z53 := Tryd.sizeOf28, v53 := Tryd.zeroValue28 }
def renT : Go.Shelf.Ren := ⟨fun | 29 => 53 | n => n, fun | 0 => 0 | 3 => 3 | 4 => 4 | 5 => 5 | 22 => 28 | 25 => 88 | 54 => 108 | n => n, fun | 1 => 0 | n => n⟩
theorem laysT : Go.Proofs.Lays7.n29 Tryd.prog renT := { mixed := by kernel_rfl, f29 := Tryd.func53.trans (congrArg some (by kernel_rfl)), t0 := Tryd.underlying0, a0 := Tryd.isAgg0, z0 := Tryd.sizeOf0, v0 := Tryd.zeroValue0, i0 := by kernel_rfl, t3 := Tryd.underlying3, a3 := Tryd.isAgg3, z3 := Tryd.sizeOf3, v3 := Tryd.zeroValue3, i3 := by kernel_rfl, t4 := Tryd.underlying4, a4 := Tryd.isAgg4, z4 := Tryd.sizeOf4, v4 := Tryd.zeroValue4, i4 := by kernel_rfl, t5 := Tryd.underlying5, a5 := Tryd.isAgg5, z5 := Tryd.sizeOf5, v5 := Tryd.zeroValue5, i5 := by kernel_rfl, t22 := Tryd.underlying28, a22 := Tryd.isAgg28, z22 := Tryd.sizeOf28, v22 := Tryd.zeroValue28, i22 := by kernel_rfl, t25 := Tryd.underlying88, a25 := Tryd.isAgg88, z25 := Tryd.sizeOf88, v25 := Tryd.zeroValue88, i25 := by kernel_rfl, t54 := Tryd.underlying108, a54 := Tryd.isAgg108, z54 := Tryd.sizeOf108, g1 := by kernel_rfl }

/-- The library's table of 64 bytes. -/
def TabZ (w : World) : Prop := TabAt 0 Lib.deBruijn64tab w
theorem TabZ.lt {w : World} (h : TabZ w) : 0 < w.heap.size := World.block_lt_of_cell? w _ (h 0 (by decide))
theorem TabZ.block {w w' : World} (h : TabZ w) (hb : w'.heap[0]? = w.heap[0]?) : TabZ w' := fun j hj => by
  have := h j hj
  unfold World.cell? at this ⊢
  rw [hb]
  exact this
theorem TabZ.below {w w' : World} {B : Nat} (h : TabZ w) (hb : Below B w w') (hB : w.heap.size ≤ B) : TabZ w' := h.block (hb.block _ (Nat.lt_of_lt_of_le h.lt hB))

theorem lz64 (x : Nat) (hx : x < 18446744073709551616) (h0 : x ≠ 0) (w : World) : Calls Tryd.prog 52 #[.int .u64 (x : Int)] w fun e w' => e = .returned (.int .i64 (leadV x : Int)) ∧ w' = w :=
  (Any.bits_LeadingZeros64 laysL (x : Int) w (by omega) (by omega)).mono fun e w' h => by
    rw [Int.toNat_natCast, lead_bitLen h0 hx] at h
    exact h
theorem tz64 (x : Nat) (hx : x < 18446744073709551616) (h0 : x ≠ 0) (w : World) (hT : TabZ w) : Calls Tryd.prog 53 #[.int .u64 (x : Int)] w fun e w' => e = .returned (.int .i64 (trailV x : Int)) ∧ w' = w :=
  (Any7.bits_TrailingZeros64 laysT x hx w (fun _ => hT)).mono fun e w' h => by
    rw [trail_lib h0] at h
    exact h
end Go.Proofs.YtnhopiggknfimaaDoor
