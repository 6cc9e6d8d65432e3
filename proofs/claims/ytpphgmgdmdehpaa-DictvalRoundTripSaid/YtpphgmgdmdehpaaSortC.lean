/- slices.Sort of words: reverseRangeOrdered. -/
import Derived.Test.YtpphgmgdmdehpaaSortA
set_option linter.unusedVariables false
set_option maxRecDepth 20000
namespace Go.Proofs.Ytpphgmgdmdehpaa
open Go Go.RowKit

set_option maxHeartbeats 8000000 in
theorem reverse_range_u64 (g n c a b : Nat) (d : Array Nat) (w : World) (h : SU w w g n c d) (hab : a ≤ b) (hb : b ≤ n) (hn : n < 4611686018427387904) :
    Calls Try.prog 63 #[.slice (some ⟨g, 0, none⟩) n c, .int .i64 (a : Int), .int .i64 (b : Int)] w fun e w' => e = .returned (.tuple #[]) ∧ ∃ d', SU w w' g n c d' ∧ Sort.PermIn a b d d' := by
  have HS := Lib.hid h
  clear h
  go_enter Try.func63, Try.ntmps63
  go_wp2_with fail
  go_loopw [6, 7] (fun iv jv wr => ∃ (i : Nat) (j : Int) (x : Array Nat), a ≤ i ∧ iv = .int .i64 (i : Int) ∧ jv = .int .i64 j ∧ j < (b : Int) ∧ -1 ≤ j ∧ (i : Int) ≤ (b : Int) + 1 ∧ Hid (SU w wr g n c x) ∧ Hid (Sort.PermIn a b d x)) (fun _ jv _ => (intOf jv + 1).toNat)
  case atStart => exact ⟨a, (b : Int) - 1, d, Nat.le_refl _, rfl, by go_num, by omega, by omega, by omega, HS.out, Sort.permIn_refl _ _ _⟩
  case round =>
    obtain ⟨i, j, x, hai, rfl, rfl, hjb, hj1, hib, HX, HP⟩ := hrel
    clear HS
    by_cases hlt : (i : Int) < j
    · obtain ⟨j, rfl⟩ : ∃ m : Nat, j = (m : Int) := ⟨j.toNat, by omega⟩
      have hci := HX.out.cell (i := i) (by omega)
      have hcj := HX.out.cell (i := j) (by omega)
      have hfi := HX.out.free i
      have hfj := HX.out.free j
      have hin : (i : Int) < (n : Int) := by omega
      have hjn : (j : Int) < (n : Int) := by omega
      have HS2 := Lib.hid (HX.out.swp (i := i) (j := j) (by omega) (by omega))
      have HP2 : Hid (Sort.PermIn a b d (Sort.swp x i j)) := Sort.permIn_trans _ _ _ _ _ HP.out (Sort.swp_permIn x a b i j hai (by omega) (by omega) (by omega) (by rw [HX.out.sz]; exact hb))
      have hij : ¬ (i = j) := by omega
      generalize x[i]! = p at *
      generalize x[j]! = q at *
      go_wp2_with fail
      go_big_region
      go_wp2_with fail
      go_round
      case rel => exact ⟨i + 1, (j : Int) - 1, _, by omega, by go_num, by go_num, by omega, by omega, by omega, HS2.out, HP2.out⟩
      case measure => simp [intOf] <;> omega
    · go_wp2_with fail
      go_end0
      exact ⟨rfl, x, HX.out, HP.out⟩
end Go.Proofs.Ytpphgmgdmdehpaa
