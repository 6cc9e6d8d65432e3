/- slices.Sort of words: heapSortOrdered. -/
import Derived.Test.YtpphgmgdmdehpaaSortD
set_option linter.unusedVariables false
set_option maxRecDepth 20000
namespace Go.Proofs.Ytpphgmgdmdehpaa
open Go Go.RowKit

theorem heapBuild_step (hi first k : Nat) (d : Array Nat) : Sort.heapBuild ltU hi first (k + 1) d = Sort.heapBuild ltU hi first k (Sort.siftDown ltU hi first k d) := rfl
theorem heapPop_step (first k : Nat) (d : Array Nat) : Sort.heapPop ltU first (k + 1) d = Sort.heapPop ltU first k (Sort.siftDown ltU k first 0 (Sort.swp d first (first + k))) := rfl

set_option maxHeartbeats 8000000 in
theorem heap_sort_u64 (g n c a b : Nat) (d : Array Nat) (w : World) (h : SU w w g n c d) (hab : a < b) (hb : b ≤ n) (hn : n < 4611686018427387904) :
    Calls Try.prog 60 #[.slice (some ⟨g, 0, none⟩) n c, .int .i64 (a : Int), .int .i64 (b : Int)] w fun e w' => e = .returned (.tuple #[]) ∧ SU w w' g n c (Sort.heapSort ltU d a b) := by
  have HS := Lib.hid h
  clear h
  obtain ⟨m, hm0⟩ : ∃ m, b - a = m := ⟨_, rfl⟩
  have hm : 0 < m := by omega
  have hsub : (b : Int) - (a : Int) = (m : Int) := by omega
  have hE : Sort.heapSort ltU d a b = Sort.heapPop ltU a m (Sort.heapBuild ltU m a ((m - 1) / 2 + 1) d) := by
    rw [Sort.heapSort, hm0]
  rw [hE]
  have hbm : a + m ≤ n := by omega
  clear hE hab hm0 hb
  obtain ⟨q, hq⟩ : ∃ q, (m - 1) / 2 = q := ⟨_, rfl⟩
  have hdv : Hid (((m : Int) - 1) / 2 = (q : Int)) := by show _ = _; omega
  have hql : q ≤ n := by omega
  rw [hq]
  clear hq
  go_enter Try.func60, Try.ntmps60
  go_wp2_with fail
  go_loopw [9] (fun iv wr => ∃ (k : Nat) (x : Array Nat), k ≤ n + 1 ∧ iv = .int .i64 ((k : Int) - 1) ∧ Hid (SU w wr g n c x) ∧ Hid (Sort.heapBuild ltU m a k x = Sort.heapBuild ltU m a (q + 1) d)) (fun iv _ => (intOf iv + 1).toNat)
  case atStart => exact ⟨q + 1, d, by omega, by rw [hdv.out]; go_num, HS.out, rfl⟩
  case round =>
    obtain ⟨k, x, hkn, rfl, HX, HE⟩ := hrel
    clear HS
    cases k with
    | succ k =>
      have hkv : ((k + 1 : Nat) : Int) - 1 = (k : Int) := by omega
      rw [hkv]
      clear hkv
      have hk0 : (0 : Int) ≤ (k : Int) := by omega
      rw [heapBuild_step] at HE
      have HC := Lib.hid (sift_down_u64 g n c k m a x wr HX.out.here hbm hn (by omega))
      go_wp2_with fail
      refine HC.out.mono ?_
      rintro e w1 ⟨rfl, h1⟩
      have HX1 := Lib.hid (HX.out.trans h1)
      clear h1 HC HX
      go_wp2_with fail
      go_round
      case rel => exact ⟨k, _, by omega, by go_num, HX1.out, HE.out⟩
      case measure => simp [intOf] <;> omega
    | zero =>
      have HE2 : x = Sort.heapBuild ltU m a (q + 1) d := HE.out
      have hkv : ((0 : Nat) : Int) - 1 = -1 := by omega
      rw [hkv]
      clear HE hkv
      go_wp2_with fail
      go_loopw [10] (fun iv wr => ∃ (k : Nat) (z : Array Nat), k ≤ m ∧ iv = .int .i64 ((k : Int) - 1) ∧ Hid (SU w wr g n c z) ∧ Hid (Sort.heapPop ltU a k z = Sort.heapPop ltU a m x)) (fun iv _ => (intOf iv + 1).toNat)
      case atStart => exact ⟨m, x, Nat.le_refl _, rfl, HX.out, rfl⟩
      case round =>
        obtain ⟨k, z, hkm, rfl, HZ, HE⟩ := hrel
        clear HX
        rcases k with _ | _ | k
        · have hkv : ((0 : Nat) : Int) - 1 = -1 := by omega
          rw [hkv]
          clear hkv
          go_wp2_with fail
          go_end0
          refine ⟨rfl, ?_⟩
          rw [← HE2, ← HE.out]
          exact HZ.out
        · have hkv : ((0 + 1 : Nat) : Int) - 1 = 0 := by omega
          rw [hkv]
          clear hkv
          rw [heapPop_step, Nat.add_zero] at HE
          have hci := HZ.out.cell (i := a) (by omega)
          have hfi := HZ.out.free a
          have han : (a : Int) < (n : Int) := by omega
          have hakn : (a : Int) + (0 : Int) < (n : Int) := by omega
          have HS2 := Lib.hid (HZ.out.swp (i := a) (j := a) (by omega) (by omega))
          generalize Sort.swp z a (a) = z2 at *
          generalize z[a]! = p at *
          go_wp2_with fail
          go_big_region
          generalize World.drew _ = w2 at *
          have HC := Lib.hid (sift_down_u64 g n c 0 0 a z2 w2 HS2.out.here (by omega) hn (by omega))
          go_wp2_with fail
          refine HC.out.mono ?_
          rintro e w3 ⟨rfl, h3⟩
          have HX3 := Lib.hid (HS2.out.trans h3)
          clear h3 HC HS2
          go_wp2_with fail
          go_round
          case rel => exact ⟨0, _, by omega, by go_num, HX3.out, HE.out⟩
          case measure => simp [intOf] <;> omega
        · have hkv : ((k + 1 + 1 : Nat) : Int) - 1 = ((k + 1 : Nat) : Int) := by omega
          rw [hkv]
          clear hkv
          rw [heapPop_step] at HE
          obtain ⟨k', hk'⟩ : ∃ k', k + 1 = k' := ⟨_, rfl⟩
          rw [hk'] at HE ⊢
          have hk0 : (0 : Int) ≤ (k' : Int) := by omega
          have hk1 : 0 < k' := by omega
          have hkm : k' + 1 ≤ m := by omega
          clear hk'
          have hci := HZ.out.cell (i := a) (by omega)
          have hfi := HZ.out.free a
          have hcj := HZ.out.cell (i := a + k') (by omega)
          have hfj := HZ.out.free (a + k')
          have hij : ¬ (a = a + k') := by omega
          have han : (a : Int) < (n : Int) := by omega
          have hakn : (a : Int) + (k' : Int) < (n : Int) := by omega
          have HS2 := Lib.hid (HZ.out.swp (i := a) (j := a + k') (by omega) (by omega))
          generalize Sort.swp z a (a + k') = z2 at *
          generalize z[a]! = p at *
          generalize z[a + k']! = r at *
          go_wp2_with fail
          go_big_region
          generalize World.drew _ = w2 at *
          have HC := Lib.hid (sift_down_u64 g n c 0 k' a z2 w2 HS2.out.here (by omega) hn (by omega))
          go_wp2_with fail
          refine HC.out.mono ?_
          rintro e w3 ⟨rfl, h3⟩
          have HX3 := Lib.hid (HS2.out.trans h3)
          clear h3 HC HS2
          go_wp2_with fail
          go_round
          case rel => exact ⟨k', _, by omega, by go_num, HX3.out, HE.out⟩
          case measure => simp [intOf] <;> omega
end Go.Proofs.Ytpphgmgdmdehpaa
