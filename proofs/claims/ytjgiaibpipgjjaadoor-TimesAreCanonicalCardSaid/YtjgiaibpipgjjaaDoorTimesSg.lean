/- Layer 5: the number whose two's complement is the lowest bits of a word, and the forms that are possible, as the program takes them. -/
import Derived.Test.YtjgiaibpipgjjaaDoorTimes
import Derived.Test.YtjgiaibpipgjjaaDoorBitioD
import Derived.Test.YtjgiaibpipgjjaaDoorArray
set_option linter.unusedVariables false
namespace Go.Proofs.YtjgiaibpipgjjaaDoor
open Go Go.RowKit

theorem signed_0 (u : Nat) (hu : u < 18446744073709551616) (w : World) :
    Calls Tryd.prog 43 #[.int .u64 (u : Int), .int .i64 0] w fun e w' => e = .returned (.int .i64 (signT (u % 2 ^ 0) 0)) ∧ w = w' := by
  have HE : Hid (wrap64 (IntKind.u64.wrap ((u : Int) * 18446744073709551616)) / 18446744073709551616 = signT (u % 2 ^ 0) 0) := by
    show _ = _
    simp only [signT, IntKind.wrap_u64, w64_eq]
    omega
  go_enter Tryd.func43, Tryd.ntmps43
  go_wp2_with fail
  go_ret
  exact ⟨by rw [← HE.out]; rfl, rfl⟩
theorem signed_7 (u : Nat) (hu : u < 18446744073709551616) (w : World) :
    Calls Tryd.prog 43 #[.int .u64 (u : Int), .int .i64 7] w fun e w' => e = .returned (.int .i64 (signT (u % 2 ^ 7) 7)) ∧ w = w' := by
  have HE : Hid (wrap64 (IntKind.u64.wrap ((u : Int) * 144115188075855872)) / 144115188075855872 = signT (u % 2 ^ 7) 7) := by
    show _ = _
    simp only [signT, IntKind.wrap_u64, w64_eq]
    omega
  go_enter Tryd.func43, Tryd.ntmps43
  go_wp2_with fail
  go_ret
  exact ⟨by rw [← HE.out]; rfl, rfl⟩
theorem signed_12 (u : Nat) (hu : u < 18446744073709551616) (w : World) :
    Calls Tryd.prog 43 #[.int .u64 (u : Int), .int .i64 12] w fun e w' => e = .returned (.int .i64 (signT (u % 2 ^ 12) 12)) ∧ w = w' := by
  have HE : Hid (wrap64 (IntKind.u64.wrap ((u : Int) * 4503599627370496)) / 4503599627370496 = signT (u % 2 ^ 12) 12) := by
    show _ = _
    simp only [signT, IntKind.wrap_u64, w64_eq]
    omega
  go_enter Tryd.func43, Tryd.ntmps43
  go_wp2_with fail
  go_ret
  exact ⟨by rw [← HE.out]; rfl, rfl⟩
theorem signed_32 (u : Nat) (hu : u < 18446744073709551616) (w : World) :
    Calls Tryd.prog 43 #[.int .u64 (u : Int), .int .i64 32] w fun e w' => e = .returned (.int .i64 (signT (u % 2 ^ 32) 32)) ∧ w = w' := by
  have HE : Hid (wrap64 (IntKind.u64.wrap ((u : Int) * 4294967296)) / 4294967296 = signT (u % 2 ^ 32) 32) := by
    show _ = _
    simp only [signT, IntKind.wrap_u64, w64_eq]
    omega
  go_enter Tryd.func43, Tryd.ntmps43
  go_wp2_with fail
  go_ret
  exact ⟨by rw [← HE.out]; rfl, rfl⟩
theorem signed_64 (u : Nat) (hu : u < 18446744073709551616) (w : World) :
    Calls Tryd.prog 43 #[.int .u64 (u : Int), .int .i64 64] w fun e w' => e = .returned (.int .i64 (signT (u % 2 ^ 64) 64)) ∧ w = w' := by
  have HE : Hid (wrap64 (u : Int) = signT (u % 2 ^ 64) 64) := by
    show _ = _
    simp only [signT, w64_eq]
    omega
  go_enter Tryd.func43, Tryd.ntmps43
  go_wp2_with fail
  go_ret
  exact ⟨by rw [← HE.out]; rfl, rfl⟩
theorem signed_any (u k : Nat) (hk : k ≤ 4) (hu : u < 18446744073709551616) (w : World) :
    Calls Tryd.prog 43 #[.int .u64 (u : Int), .int .i64 (widthT k : Int)] w fun e w' => e = .returned (.int .i64 (signT (u % 2 ^ widthT k) (widthT k))) ∧ w = w' := by
  match k, hk with
  | 0, _ => exact signed_0 u hu w
  | 1, _ => exact signed_7 u hu w
  | 2, _ => exact signed_12 u hu w
  | 3, _ => exact signed_32 u hu w
  | 4, _ => exact signed_64 u hu w

/-- A form as a value: its mark, the bits of the mark, the bits of the number. -/
def markT : Nat → Nat
  | 0 => 0
  | 1 => 2
  | 2 => 6
  | 3 => 14
  | _ => 15
def markLenT : Nat → Nat
  | 0 => 1
  | 1 => 2
  | 2 => 3
  | _ => 4
def formCells (k : Nat) : List Value := [.int .u64 (markT k : Int), .int .i64 (markLenT k : Int), .int .i64 (widthT k : Int)]
def formV (k : Nat) : Value := .agg (formCells k).toArray
theorem mark_bits {k : Nat} (hk : k ≤ 4) : fieldBits (markT k) (markLenT k) = headT k := by
  match k, hk with
  | 0, _ => rfl
  | 1, _ => rfl
  | 2, _ => rfl
  | 3, _ => rfl
  | 4, _ => rfl
theorem markLen_le (k : Nat) : markLenT k ≤ 4 := by unfold markLenT; split <;> omega

/-- A number is its own sign in a form exactly if its form is no later one. -/
theorem fits_iff {x : Int} {k : Nat} (hk : k ≤ 3) : (signT (ofI x % 2 ^ widthT k) (widthT k) = x) ↔ formT x ≤ k := by
  match k, hk with
  | 0, _ =>
    simp only [widthT, signT, ofI, formT]
    repeat' split
    all_goals omega
  | 1, _ =>
    simp only [widthT, signT, ofI, formT]
    repeat' split
    all_goals omega
  | 2, _ =>
    simp only [widthT, signT, ofI, formT]
    repeat' split
    all_goals omega
  | 3, _ =>
    simp only [widthT, signT, ofI, formT]
    repeat' split
    all_goals omega

theorem possible_any (x : Int) (k : Nat) (hk : k ≤ 3) (w : World) :
    Calls Tryd.prog 41 #[formV k, .int .i64 x] w fun e w' => e = .returned (.bool (decide (formT x ≤ k))) ∧ Below w.heap.size w w' := by
  have HX : Hid (signT (ofI x % 2 ^ widthT k) (widthT k) = x ↔ formT x ≤ k) := fits_iff hk
  have HS := fun w => Lib.hid (signed_any (ofI x) k (by omega) (ofI_lt x) w)
  have hwr := wrap_ofI x
  have HC : Hid (formV k = .agg (formCells k).toArray) := rfl
  go_enter Tryd.func41, Tryd.ntmps41
  go_wp2_with (refine wpList_boxA rfl 67 (.tmp 0) rfl (formCells k) rfl ?_)
  intro w1 hb hB hs
  have HB := Lib.hid hB
  have c2 : w1.cell? ⟨w.heap.size, 2, none⟩ = some (.int .i64 (widthT k : Int)) := by rw [hb.cell]; rfl
  clear hb hB hs
  go_wp2_with fail
  refine (HS w1).out.mono ?_
  rintro e w2 ⟨rfl, rfl⟩
  generalize signT (ofI x % 2 ^ widthT k) (widthT k) = y at *
  go_wp2_with fail
  go_ret
  refine ⟨ret_bool ?_, HB.out⟩
  by_cases h : y = x
  · have := HX.out.1 h
    simp [h, this]
  · have : ¬ formT x ≤ k := fun e => h (HX.out.2 e)
    simp [h, this]
end Go.Proofs.YtjgiaibpipgjjaaDoor
