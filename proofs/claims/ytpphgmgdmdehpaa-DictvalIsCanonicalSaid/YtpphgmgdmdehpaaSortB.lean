/- slices.Sort of words: insertionSortOrdered. -/
import Derived.Test.YtpphgmgdmdehpaaSortA
set_option linter.unusedVariables false
set_option maxRecDepth 20000
namespace Go.Proofs.Ytpphgmgdmdehpaa
open Go Go.RowKit

theorem insOuter_step {a b i : Nat} {d : Array Nat} (h : i < b) : Sort.insOuter ltU a b i d = Sort.insOuter ltU a b (i + 1) (Sort.insInner ltU a i d) := by rw [Sort.insOuter, if_pos h]
theorem insOuter_end {a b i : Nat} {d : Array Nat} (h : ¬ i < b) : Sort.insOuter ltU a b i d = d := by rw [Sort.insOuter, if_neg h]
theorem insInner_step {a j : Nat} {d : Array Nat} (h : a < j + 1) (hl : ltU d[j + 1]! d[j]! = true) : Sort.insInner ltU a (j + 1) d = Sort.insInner ltU a j (Sort.swp d (j + 1) j) := by
  rw [Sort.insInner, if_pos (by rw [hl]; simpa using h)]
theorem insInner_le {a j : Nat} {d : Array Nat} (h : j ≤ a) : Sort.insInner ltU a j d = d := by
  cases j with
  | zero => rfl
  | succ j => rw [Sort.insInner, if_neg (by simp; omega)]
theorem insInner_not {a j : Nat} {d : Array Nat} (hl : ltU d[j + 1]! d[j]! = false) : Sort.insInner ltU a (j + 1) d = d := by rw [Sort.insInner, if_neg (by rw [hl]; simp)]

set_option maxHeartbeats 8000000 in
theorem insertion_u64 (g n c a b : Nat) (d : Array Nat) (w : World) (h : SU w w g n c d) (hab : a ≤ b) (hb : b ≤ n) (hn : n < 4611686018427387904) :
    Calls Try.prog 59 #[.slice (some ⟨g, 0, none⟩) n c, .int .i64 (a : Int), .int .i64 (b : Int)] w fun e w' => e = .returned (.tuple #[]) ∧ SU w w' g n c (Sort.insertionSort ltU d a b) := by
  have HS := Lib.hid h
  clear h
  go_enter Try.func59, Try.ntmps59
  go_wp2_with fail
  go_loopw [6] (fun iv wr => ∃ (i : Nat) (x : Array Nat), a < i ∧ i ≤ b + 1 ∧ iv = .int .i64 (i : Int) ∧ Hid (SU w wr g n c x) ∧ Hid (Sort.insOuter ltU a b i x = Sort.insertionSort ltU d a b)) (fun iv _ => b + 1 - (intOf iv).toNat)
  case atStart => exact ⟨a + 1, d, by omega, by omega, by go_num, HS.out, rfl⟩
  case round =>
    obtain ⟨i, x, hai, hib, rfl, HX, HE⟩ := hrel
    clear HS
    by_cases hlt : i < b
    · have hlt' : (i : Int) < (b : Int) := by omega
      rw [insOuter_step hlt] at HE
      go_wp2_with fail
      go_loopw [7] (fun jv wr => ∃ (j : Nat) (y : Array Nat), a ≤ j ∧ j ≤ i ∧ jv = .int .i64 (j : Int) ∧ Hid (SU w wr g n c y) ∧ Hid (Sort.insInner ltU a j y = Sort.insInner ltU a i x)) (fun jv _ => (intOf jv).toNat)
      case atStart => exact ⟨i, x, by omega, Nat.le_refl _, rfl, HX.out, rfl⟩
      case round =>
        obtain ⟨j, y, haj, hji, rfl, HY, HI⟩ := hrel
        clear HX
        by_cases hja : a < j
        · obtain ⟨j, rfl⟩ : ∃ q, j = q + 1 := ⟨j - 1, by omega⟩
          have hgt : (a : Int) < ((j + 1 : Nat) : Int) := by omega
          have hgd : decide (((j : Int) + 1) > (a : Int)) = true := decide_eq_true (by omega)
          have hc1 := HY.out.cell (i := j + 1) (by omega)
          have hc0 := HY.out.cell (i := j) (by omega)
          have hf1 := HY.out.free (j + 1)
          have hf0 := HY.out.free j
          obtain ⟨p, hp⟩ : ∃ p, y[j + 1]! = p := ⟨_, rfl⟩
          obtain ⟨q, hq⟩ : ∃ q, y[j]! = q := ⟨_, rfl⟩
          rw [hp] at hc1
          rw [hq] at hc0
          have HP := Lib.hid hp; have HQ := Lib.hid hq
          clear hp hq
          have hn1 : ((j + 1 : Nat) : Int) < (n : Int) := by omega
          have hn0 : (j : Int) < (n : Int) := by omega
          go_wp2_with fail
          go_quiet ((go_at_call 50; refine Calls.quiet_of_same (less_u64' _ _ _)))
          cases hlv : ltU p q with
          | true =>
            have HN : Hid (Sort.insInner ltU a j (Sort.swp y (j + 1) j) = Sort.insInner ltU a i x) := by
              show _ = _
              rw [← HI.out, insInner_step (by omega) (by rw [HP.out, HQ.out]; exact hlv)]
            have HS2 := Lib.hid ((HY.out.drewN nq).swp (i := j + 1) (j := j) (by omega) (by omega))
            rw [HP.out, HQ.out] at HS2
            have hd1 : (wr.drewN nq).cell? ⟨g, j + 1, none⟩ = some (.int .u64 (p : Int)) := hc1
            have hd0 : (wr.drewN nq).cell? ⟨g, j, none⟩ = some (.int .u64 (q : Int)) := hc0
            have he1 : (wr.drewN nq).frozen? ⟨g, j + 1, none⟩ = false := hf1
            have he0 : (wr.drewN nq).frozen? ⟨g, j, none⟩ = false := hf0
            have hjj : ¬ (j + 1 = j) := by omega
            generalize wr.drewN nq = wq at *
            clear hc1 hc0 hf1 hf0
            go_wp2_with fail
            go_big_region
            go_wp2_with fail
            go_round
            case rel => exact ⟨j, _, by omega, by omega, rfl, HS2.out, HN.out⟩
            case measure => simp [intOf]
          | false =>
            have HN : Hid (Sort.insOuter ltU a b (i + 1) y = Sort.insertionSort ltU d a b) := by
              show _ = _
              rw [← HE.out, ← HI.out, insInner_not (by rw [HP.out, HQ.out]; exact hlv)]
            have HX2 := Lib.hid (HY.out.drewN nq)
            generalize wr.drewN nq = wq at *
            go_wp2_with fail
            go_round
            case rel => exact ⟨i + 1, y, by omega, by omega, by go_num, HX2.out, HN.out⟩
            case measure => simp [intOf]; omega
        · obtain rfl : j = a := by omega
          have HN : Hid (Sort.insOuter ltU j b (i + 1) y = Sort.insertionSort ltU d j b) := by
            show _ = _
            rw [← HE.out, ← HI.out, insInner_le (Nat.le_refl _)]
          go_wp2_with fail
          go_quiet ((go_at_call 50; refine Calls.quiet_of_same (less_u64' _ _ _)))
          have HX2 := Lib.hid (HY.out.drewN nq)
          generalize wr.drewN nq = wq at *
          go_wp2_with fail
          go_round
          case rel => exact ⟨i + 1, y, by omega, by omega, by go_num, HX2.out, HN.out⟩
          case measure => simp [intOf]; omega
    · have hlt' : ¬ (i : Int) < (b : Int) := by omega
      go_wp2_with fail
      go_end0
      refine ⟨rfl, ?_⟩
      rw [← HE.out, insOuter_end hlt]
      exact HX.out
end Go.Proofs.Ytpphgmgdmdehpaa
