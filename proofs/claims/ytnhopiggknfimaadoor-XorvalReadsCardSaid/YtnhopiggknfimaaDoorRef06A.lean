/- Layer 6: the reference's zeros, inside and outside. -/
import Derived.Test.YtnhopiggknfimaaDoorXorB
import Derived.Test.YtnhopiggknfimaaDoorRef01C
set_option linter.unusedVariables false
namespace Go.Proofs.YtnhopiggknfimaaDoor
open Go Go.RowKit

theorem lead_bit {x : Nat} (hx : x < 18446744073709551616) (h0 : x ≠ 0) : x.testBit (63 - leadV x) = true := by
  have h1 : Nat.log2 x < 64 := (Nat.log2_lt h0).2 (by simpa using hx)
  have h2 := @Nat.lt_log2_self x
  have h3 := Nat.log2_self_le h0
  rw [leadV, show 63 - (63 - Nat.log2 x) = Nat.log2 x by omega, Nat.testBit_eq_decide_div_mod_eq, decide_eq_true_iff]
  have h4 : x / 2 ^ Nat.log2 x = 1 := by
    rw [Nat.pow_succ] at h2
    generalize 2 ^ Nat.log2 x = P at *
    have hP : 0 < P := by omega
    exact Nat.div_eq_of_lt_le (by omega) (by omega)
  rw [h4]
theorem lead_no {x i : Nat} (hx : x < 18446744073709551616) (h0 : x ≠ 0) (hi : i < leadV x) : x.testBit (63 - i) = false := by
  apply Nat.testBit_lt_two_pow
  exact Nat.lt_of_lt_of_le (lead_lt hx h0) (Nat.pow_le_pow_right (by decide) (by omega))
theorem trail_no {x i : Nat} (hi : i < trailV x) : x.testBit i = false := by
  obtain ⟨c, hc⟩ := tz_dvd 64 x
  rw [Nat.testBit_eq_decide_div_mod_eq, decide_eq_false_iff_not]
  have e : x = 2 ^ i * (2 * (2 ^ (tz 64 x - i - 1) * c)) := by
    rw [← Nat.mul_assoc 2, ← Nat.pow_succ', show (tz 64 x - i - 1).succ = tz 64 x - i by have : i < tz 64 x := hi; omega, ← Nat.mul_assoc, ← Nat.pow_add, show i + (tz 64 x - i) = tz 64 x by have : i < tz 64 x := hi; omega]
    exact hc
  rw [e, Nat.mul_div_cancel_left _ (Nat.two_pow_pos i)]
  omega
theorem trail_bit {x : Nat} (hx : x < 18446744073709551616) (h0 : x ≠ 0) : x.testBit (trailV x) = true := by
  obtain ⟨c, hc⟩ := tz_dvd 64 x
  have hw := window hx h0
  rw [Nat.testBit_eq_decide_div_mod_eq, decide_eq_true_iff]
  have hd : x / 2 ^ trailV x = c := by
    show x / 2 ^ tz 64 x = c
    exact Nat.div_eq_of_eq_mul_right (Nat.two_pow_pos _) hc
  rw [hd]
  by_cases ho : c % 2 = 1
  · exact ho
  · have h2 : 2 ^ (trailV x + 1) ∣ x := by
      refine ⟨c / 2, ?_⟩
      show x = 2 ^ (tz 64 x + 1) * (c / 2)
      rw [Nat.pow_succ, Nat.mul_assoc, show 2 * (c / 2) = c by omega]
      exact hc
    have h3 := le_tz 64 (trailV x + 1) x (by omega) h2
    have h4 : trailV x + 1 ≤ trailV x := h3
    omega

theorem ref_inside (x t : Nat) (hx : x < 18446744073709551616) (ht : t ≤ 64) (w : World) : Calls Tryd.prog 33 #[.int .u64 (x : Int), .int .i64 (t : Int)] w fun e w' => e = .returned (.int .u64 ((x / 2 ^ t : Nat) : Int)) ∧ w' = w := by
  have HT := Lib.hid ht
  have HX := Lib.hid hx
  clear ht hx
  go_enter Tryd.func33, Tryd.ntmps33
  go_wp2
  go_loop [0, 5] (fun v c => ∃ k : Nat, k ≤ t ∧ c = .int .i64 (k : Int) ∧ v = .int .u64 ((x / 2 ^ k : Nat) : Int)) (fun _ c => t - (intOf c).toNat)
  case atStart => exact ⟨0, Nat.zero_le _, rfl, by simp⟩
  case round =>
    obtain ⟨k, hk, rfl, rfl⟩ := hrel
    by_cases hlt : k < t
    · have hk64 : (k : Int) < 64 := by have := HT.out; omega
      have HV : Hid (x / 2 ^ (k + 1) = x / 2 ^ k / 2) := by show _ = _; rw [Nat.pow_succ, Nat.div_div_eq_div_mul]
      have hb : x / 2 ^ k ≤ x := Nat.div_le_self _ _
      have hb2 : ((x / 2 ^ k : Nat) : Int) ≤ 18446744073709551615 := by have := HX.out; omega
      clear hb
      generalize x / 2 ^ k = V at *
      go_wp2
      go_round
      case rel => exact ⟨k + 1, by omega, by go_num, by rw [HV.out]; go_num⟩
      case measure => simp [intOf]; omega
    · obtain rfl : k = t := by omega
      go_wp2
      go_ret
      exact ⟨rfl, rfl⟩
theorem ref_outside (x t : Nat) (ht : t ≤ 64) (hx : x * 2 ^ t < 18446744073709551616) (w : World) : Calls Tryd.prog 41 #[.int .u64 (x : Int), .int .i64 (t : Int)] w fun e w' => e = .returned (.int .u64 ((x * 2 ^ t : Nat) : Int)) ∧ w' = w := by
  have HT := Lib.hid ht
  have HX := Lib.hid hx
  clear ht hx
  go_enter Tryd.func41, Tryd.ntmps41
  go_wp2
  go_loop [0, 5] (fun v c => ∃ k : Nat, k ≤ t ∧ c = .int .i64 (k : Int) ∧ v = .int .u64 ((x * 2 ^ k : Nat) : Int)) (fun _ c => t - (intOf c).toNat)
  case atStart => exact ⟨0, Nat.zero_le _, rfl, by simp⟩
  case round =>
    obtain ⟨k, hk, rfl, rfl⟩ := hrel
    by_cases hlt : k < t
    · have hk64 : (k : Int) < 64 := by have := HT.out; omega
      have HV : Hid (x * 2 ^ (k + 1) = x * 2 ^ k * 2) := by show _ = _; rw [Nat.pow_succ, Nat.mul_assoc]
      have hb : x * 2 ^ (k + 1) ≤ x * 2 ^ t := Nat.mul_le_mul_left _ (Nat.pow_le_pow_right (by decide) (by omega))
      have hb2 : ((x * 2 ^ k : Nat) : Int) * 2 ≤ 18446744073709551615 := by have h1 := HX.out; have h2 := HV.out; omega
      clear hb
      generalize x * 2 ^ k = V at *
      go_wp2
      go_round
      case rel => exact ⟨k + 1, by omega, by go_num, by rw [HV.out]; go_num⟩
      case measure => simp [intOf]; omega
    · obtain rfl : k = t := by omega
      go_wp2
      go_ret
      exact ⟨rfl, rfl⟩

set_option maxHeartbeats 1000000 in
theorem ref_zeros (x : Nat) (hx : x < 18446744073709551616) (h0 : x ≠ 0) (w : World) : Calls Tryd.prog 32 #[.int .u64 (x : Int)] w fun e w' => e = .returned (.tuple #[.int .i64 (leadV x : Int), .int .i64 (trailV x : Int)]) ∧ Below w.heap.size w w' := by
  have HW := Lib.hid (ref_write (.slice none 0 0) [] x 64 w (World.ownsRow_nil _ _ _ _) hx (by decide) (by simp))
  have HWin := Lib.hid (window hx h0)
  have HBit : Hid (∀ i (h : i < 64), (fieldBits x 64)[i]? = some (x.testBit (63 - i))) := fun i h => fieldBits_get x 64 i h
  have HL := Lib.hid (lead_bit hx h0)
  have HLn : Hid (∀ i, i < leadV x → x.testBit (63 - i) = false) := fun i h => lead_no hx h0 h
  have HTb := Lib.hid (trail_bit hx h0)
  have HTn : Hid (∀ i, i < trailV x → x.testBit i = false) := fun i h => trail_no h
  have HFl : Hid ((fieldBits x 64).length = 64) := fieldBits_length x 64
  rw [List.nil_append] at HW
  clear hx h0
  generalize fieldBits x 64 = L at *
  generalize leadV x = ld at *
  generalize trailV x = tr at *
  go_enter Tryd.func32, Tryd.ntmps32
  go_wp2_with fail
  refine HW.out.mono ?_
  rintro e w1 ⟨v1, rfl, hR⟩
  have HB1 : Hid (Below w.heap.size w w1) := hR.mods.below (Nat.le_refl _) (fun k _ e => by cases e)
  have HR1 : Hid (Rd w1 1 v1 64 (bls L)) := by
    show Rd _ _ _ _ _
    have h := Rd.of_owns hR.own
    rw [HFl.out] at h
    exact h
  have HNe : Hid (bls L ≠ []) := fun e => by have := congrArg List.length e; rw [bls_length, HFl.out] at this; simp at this
  obtain ⟨b, off, c, hv, hm1, hm2, hcell⟩ := HR1.out.at HNe.out
  subst hv
  have HC : Hid (∀ i, i < 64 → w1.cell? ⟨b, off + i, none⟩ = some (.bool (x.testBit (63 - i)))) := fun i h => hcell i _ (by rw [bls, List.getElem?_map, HBit.out i h]; rfl)
  clear hR hm1 hm2 hcell HW HBit
  go_wp2_with fail
  go_loop [5] (fun c => ∃ k : Nat, k ≤ ld ∧ c = .int .i64 (k : Int)) (fun c => ld - (intOf c).toNat)
  case atStart => exact ⟨0, Nat.zero_le _, rfl⟩
  case round =>
    obtain ⟨k, hk, rfl⟩ := hrel
    have hk64 : (k : Int) < 64 := by have := HWin.out; omega
    have hcell := HC.out k (by have := HWin.out; omega)
    by_cases hlt : k < ld
    · rw [HLn.out k hlt] at hcell
      go_wp2
      go_round
      case rel => exact ⟨k + 1, by omega, by go_num⟩
      case measure => simp [intOf]; omega
    · obtain rfl : k = ld := by omega
      rw [HL.out] at hcell
      go_wp2_with fail
      go_loop [6] (fun c => ∃ j : Nat, j ≤ tr ∧ c = .int .i64 (j : Int)) (fun c => tr - (intOf c).toNat)
      case atStart => exact ⟨0, Nat.zero_le _, rfl⟩
      case round =>
        obtain ⟨j, hj, rfl⟩ := hrel
        have hj64 : (j : Int) ≤ 63 := by have := HWin.out; omega
        have hsub : (63 : Int) - (j : Int) = ((63 - j : Nat) : Int) := by omega
        have hs64 : ((63 - j : Nat) : Int) < 64 := by omega
        have hcj := HC.out (63 - j) (by omega)
        rw [show 63 - (63 - j) = j by have := HWin.out; omega] at hcj
        have HJ : Hid (j ≤ 63) := by have := HWin.out; show _ ≤ _; omega
        by_cases hlt2 : j < tr
        · rw [HTn.out j hlt2] at hcj
          generalize 63 - j = m at *
          go_wp2
          go_round
          case rel => exact ⟨j + 1, by omega, by go_num⟩
          case measure => simp [intOf]; omega
        · obtain rfl : j = tr := by omega
          rw [HTb.out] at hcj
          generalize 63 - j = m at *
          go_wp2
          go_ret2
          exact ⟨rfl, HB1.out⟩
end Go.Proofs.YtnhopiggknfimaaDoor
