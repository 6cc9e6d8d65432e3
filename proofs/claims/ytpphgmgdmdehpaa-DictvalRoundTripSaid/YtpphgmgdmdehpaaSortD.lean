/- slices.Sort of words: siftDownOrdered. -/
import Derived.Test.YtpphgmgdmdehpaaSortA
set_option linter.unusedVariables false
set_option maxRecDepth 20000
namespace Go.Proofs.Ytpphgmgdmdehpaa
open Go Go.RowKit

theorem siftDown_eq (hi first root : Nat) (d : Array Nat) : Sort.siftDown ltU hi first root d = (if 2 * root + 1 ≥ hi then d else
    if 2 * root + 1 + 1 < hi && ltU d[first + (2 * root + 1)]! d[first + (2 * root + 1) + 1]! then
      if !ltU d[first + root]! d[first + (2 * root + 2)]! then d else Sort.siftDown ltU hi first (2 * root + 2) (Sort.swp d (first + root) (first + (2 * root + 2)))
    else
      if !ltU d[first + root]! d[first + (2 * root + 1)]! then d else Sort.siftDown ltU hi first (2 * root + 1) (Sort.swp d (first + root) (first + (2 * root + 1)))) := by
  rw [Sort.siftDown]
  by_cases h1 : 2 * root + 1 ≥ hi
  · rw [dif_pos h1, if_pos h1]
  · rw [dif_neg h1, if_neg h1]
    by_cases h2 : (decide (2 * root + 1 + 1 < hi) && ltU d[first + (2 * root + 1)]! d[first + (2 * root + 1) + 1]!) = true
    · have h3 : 2 * root + 2 < hi := by simp at h2; omega
      rw [if_pos h2, if_pos h2, dif_pos h3]
    · rw [if_neg h2, if_neg h2]

set_option maxHeartbeats 8000000 in
theorem sift_down_u64 (g n c lo hi first : Nat) (d : Array Nat) (w : World) (h : SU w w g n c d) (hb : first + hi ≤ n) (hn : n < 4611686018427387904) (hlo : lo ≤ n) :
    Calls Try.prog 69 #[.slice (some ⟨g, 0, none⟩) n c, .int .i64 (lo : Int), .int .i64 (hi : Int), .int .i64 (first : Int)] w fun e w' => e = .returned (.tuple #[]) ∧ SU w w' g n c (Sort.siftDown ltU hi first lo d) := by
  have HS := Lib.hid h
  clear h
  go_enter Try.func69, Try.ntmps69
  go_wp2_with fail
  go_loopw [8] (fun rv wr => ∃ (r : Nat) (x : Array Nat), rv = .int .i64 (r : Int) ∧ r ≤ n ∧ Hid (SU w wr g n c x) ∧ Hid (Sort.siftDown ltU hi first r x = Sort.siftDown ltU hi first lo d)) (fun rv _ => n + 1 - (intOf rv).toNat)
  case atStart => exact ⟨lo, d, rfl, hlo, HS.out, rfl⟩
  case round =>
    obtain ⟨r, x, rfl, hrn, HX, HE⟩ := hrel
    clear HS
    have hd := siftDown_eq hi first r x
    have hri : (r : Int) ≤ 4611686018427387904 := by omega
    by_cases h1 : 2 * r + 1 ≥ hi
    · rw [if_pos h1] at hd
      rw [hd] at HE
      have h1i : (hi : Int) ≤ 2 * (r : Int) + 1 := by omega
      clear hd
      go_wp2_with fail
      go_end0
      refine ⟨rfl, ?_⟩
      rw [← HE.out]
      exact HX.out
    · rw [if_neg h1] at hd
      rw [hd] at HE
      have h1i : ¬ (hi : Int) ≤ 2 * (r : Int) + 1 := by omega
      have h1k : 2 * (r : Int) + 1 < (hi : Int) := by omega
      clear hd
      by_cases h2 : 2 * r + 1 + 1 < hi
      · have hc1 := HX.out.cell (i := first + (2 * r + 1)) (by omega)
        have hf1 := HX.out.free (first + (2 * r + 1))
        have hc2 := HX.out.cell (i := first + (2 * r + 1) + 1) (by omega)
        have hf2 := HX.out.free (first + (2 * r + 1) + 1)
        have h2i : 2 * (r : Int) + 1 + 1 < (hi : Int) := by omega
        go_wp2_with fail
        go_quiet ((go_at_call 50; refine Calls.quiet_of_same (less_u64' _ _ _)))
        have HX2 := Lib.hid (HX.out.drewN nq)
        clear hc1 hf1 hc2 hf2
        cases hlv : ltU x[first + (2 * r + 1)]! x[first + (2 * r + 1) + 1]! with
        | true =>
          rw [hlv, if_pos (by simpa using h2)] at HE
          generalize World.drewN _ nq = wr1 at *
          clear HX
          have hk0 := HX2.out.cell (i := first + r) (by omega)
          have hk1 := HX2.out.cell (i := first + (2 * r + 1 + 1)) (by omega)
          have hg0 := HX2.out.free (first + r)
          have hg1 := HX2.out.free (first + (2 * r + 1 + 1))
          have HS2 := Lib.hid ((HX2.out.drewN 0).here)
          go_wp2_with fail
          go_quiet ((go_at_call 50; refine Calls.quiet_of_same (less_u64' _ _ _)))
          have HX3 := Lib.hid (HX2.out.drewN nq)
          cases hlq : ltU x[first + r]! x[first + (2 * r + 1 + 1)]! with
          | false =>
            rw [hlq] at HE
            have HE2 : Hid (x = Sort.siftDown ltU hi first lo d) := by
              have h := HE.out
              show _ = _
              simpa using h
            go_wp2_with fail
            refine bodyPost_ret (results_none rfl _ _ _) rfl ?_
            refine ⟨rfl, ?_⟩
            rw [← HE2.out]
            exact HX3.out
          | true =>
            rw [hlq] at HE
            have HE2 : Hid (Sort.siftDown ltU hi first (2 * r + 1 + 1) (Sort.swp x (first + r) (first + (2 * r + 1 + 1))) = Sort.siftDown ltU hi first lo d) := by
              have h := HE.out
              show _ = _
              simpa using h
            have HS3 := Lib.hid (HX3.out.swp (i := first + r) (j := first + (2 * r + 1 + 1)) (by omega) (by omega))
            have hl0 := HX3.out.cell (i := first + r) (by omega)
            have hl1 := HX3.out.cell (i := first + (2 * r + 1 + 1)) (by omega)
            have hm0 := HX3.out.free (first + r)
            have hm1 := HX3.out.free (first + (2 * r + 1 + 1))
            have hij : ¬ (first + r = first + (2 * r + 1 + 1)) := by omega
            clear hk0 hk1 hg0 hg1 HE
            generalize x[first + r]! = p at *
            generalize x[first + (2 * r + 1 + 1)]! = q at *
            generalize World.drewN _ nq = wq at *
            go_wp2_with fail
            go_big_region
            go_wp2_with fail
            go_round
            case rel => exact ⟨2 * r + 1 + 1, _, by go_num, by omega, HS3.out, HE2.out⟩
            case measure => simp [intOf] <;> omega
        | false =>
          rw [hlv, if_neg (by simp)] at HE
          generalize World.drewN _ nq = wr1 at *
          clear HX
          have hk0 := HX2.out.cell (i := first + r) (by omega)
          have hk1 := HX2.out.cell (i := first + (2 * r + 1)) (by omega)
          have hg0 := HX2.out.free (first + r)
          have hg1 := HX2.out.free (first + (2 * r + 1))
          have HS2 := Lib.hid ((HX2.out.drewN 0).here)
          go_wp2_with fail
          go_quiet ((go_at_call 50; refine Calls.quiet_of_same (less_u64' _ _ _)))
          have HX3 := Lib.hid (HX2.out.drewN nq)
          cases hlq : ltU x[first + r]! x[first + (2 * r + 1)]! with
          | false =>
            rw [hlq] at HE
            have HE2 : Hid (x = Sort.siftDown ltU hi first lo d) := by
              have h := HE.out
              show _ = _
              simpa using h
            go_wp2_with fail
            refine bodyPost_ret (results_none rfl _ _ _) rfl ?_
            refine ⟨rfl, ?_⟩
            rw [← HE2.out]
            exact HX3.out
          | true =>
            rw [hlq] at HE
            have HE2 : Hid (Sort.siftDown ltU hi first (2 * r + 1) (Sort.swp x (first + r) (first + (2 * r + 1))) = Sort.siftDown ltU hi first lo d) := by
              have h := HE.out
              show _ = _
              simpa using h
            have HS3 := Lib.hid (HX3.out.swp (i := first + r) (j := first + (2 * r + 1)) (by omega) (by omega))
            have hl0 := HX3.out.cell (i := first + r) (by omega)
            have hl1 := HX3.out.cell (i := first + (2 * r + 1)) (by omega)
            have hm0 := HX3.out.free (first + r)
            have hm1 := HX3.out.free (first + (2 * r + 1))
            have hij : ¬ (first + r = first + (2 * r + 1)) := by omega
            clear hk0 hk1 hg0 hg1 HE
            generalize x[first + r]! = p at *
            generalize x[first + (2 * r + 1)]! = q at *
            generalize World.drewN _ nq = wq at *
            go_wp2_with fail
            go_big_region
            go_wp2_with fail
            go_round
            case rel => exact ⟨2 * r + 1, _, by go_num, by omega, HS3.out, HE2.out⟩
            case measure => simp [intOf] <;> omega
      · have h2i : ¬ (2 * (r : Int) + 1 + 1 < (hi : Int)) := by omega
        rw [if_neg (by simp; omega)] at HE
        have hgd : decide (2 * (r : Int) + 1 + 1 < (hi : Int)) = false := decide_eq_false h2i
        go_wp2_with fail
        go_quiet ((go_at_call 50; refine Calls.quiet_of_same (less_u64' _ _ _)))
        have HX2 := Lib.hid (HX.out.drewN nq)
        generalize World.drewN _ nq = wr1 at *
        clear HX
        have hk0 := HX2.out.cell (i := first + r) (by omega)
        have hk1 := HX2.out.cell (i := first + (2 * r + 1)) (by omega)
        have hg0 := HX2.out.free (first + r)
        have hg1 := HX2.out.free (first + (2 * r + 1))
        have HS2 := Lib.hid ((HX2.out.drewN 0).here)
        go_wp2_with fail
        go_quiet ((go_at_call 50; refine Calls.quiet_of_same (less_u64' _ _ _)))
        have HX3 := Lib.hid (HX2.out.drewN nq)
        cases hlq : ltU x[first + r]! x[first + (2 * r + 1)]! with
        | false =>
          rw [hlq] at HE
          have HE2 : Hid (x = Sort.siftDown ltU hi first lo d) := by
            have h := HE.out
            show _ = _
            simpa using h
          go_wp2_with fail
          refine bodyPost_ret (results_none rfl _ _ _) rfl ?_
          refine ⟨rfl, ?_⟩
          rw [← HE2.out]
          exact HX3.out
        | true =>
          rw [hlq] at HE
          have HE2 : Hid (Sort.siftDown ltU hi first (2 * r + 1) (Sort.swp x (first + r) (first + (2 * r + 1))) = Sort.siftDown ltU hi first lo d) := by
            have h := HE.out
            show _ = _
            simpa using h
          have HS3 := Lib.hid (HX3.out.swp (i := first + r) (j := first + (2 * r + 1)) (by omega) (by omega))
          have hl0 := HX3.out.cell (i := first + r) (by omega)
          have hl1 := HX3.out.cell (i := first + (2 * r + 1)) (by omega)
          have hm0 := HX3.out.free (first + r)
          have hm1 := HX3.out.free (first + (2 * r + 1))
          have hij : ¬ (first + r = first + (2 * r + 1)) := by omega
          clear hk0 hk1 hg0 hg1 HE
          generalize x[first + r]! = p at *
          generalize x[first + (2 * r + 1)]! = q at *
          generalize World.drewN _ nq = wq at *
          go_wp2_with fail
          go_big_region
          go_wp2_with fail
          go_round
          case rel => exact ⟨2 * r + 1, _, by go_num, by omega, HS3.out, HE2.out⟩
          case measure => simp [intOf] <;> omega
end Go.Proofs.Ytpphgmgdmdehpaa
