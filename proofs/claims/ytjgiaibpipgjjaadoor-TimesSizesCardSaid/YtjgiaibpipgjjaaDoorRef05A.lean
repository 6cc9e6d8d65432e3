/- Layer 5: the reference's form and Signed. -/
import Derived.Test.YtjgiaibpipgjjaaDoorTimes
import Derived.Test.YtjgiaibpipgjjaaDoorRef01C
set_option linter.unusedVariables false
namespace Go.Proofs.YtjgiaibpipgjjaaDoor
open Go Go.RowKit

set_option maxHeartbeats 1000000 in
theorem ref_form (x : Int) (w : World) : Calls Tryd.prog 32 #[.int .i64 x] w fun e w' => e = .returned (.int .i64 (formT x : Int)) ∧ w' = w := by
  by_cases h0 : x = 0
  · subst h0
    go_enter Tryd.func32, Tryd.ntmps32
    go_wp2
    go_ret
    exact ⟨rfl, rfl⟩
  · have hb : (x == 0) = false := by rw [beq_eq_false_iff_ne]; exact h0
    by_cases hp : 0 ≤ x
    · have a1 : (-64 : Int) ≤ x := by omega
      have a2 : (-2048 : Int) ≤ x := by omega
      have a3 : (-2147483648 : Int) ≤ x := by omega
      by_cases b1 : x ≤ 63
      · have HF : Hid (formT x = 1) := by show _ = _; unfold formT; (repeat (first | rw [if_pos (by omega)] | rw [if_neg (by omega)]))
        go_enter Tryd.func32, Tryd.ntmps32
        go_wp2
        go_ret
        exact ⟨by rw [HF.out]; rfl, rfl⟩
      · by_cases b2 : x ≤ 2047
        · have HF : Hid (formT x = 2) := by show _ = _; unfold formT; (repeat (first | rw [if_pos (by omega)] | rw [if_neg (by omega)]))
          go_enter Tryd.func32, Tryd.ntmps32
          go_wp2
          go_ret
          exact ⟨by rw [HF.out]; rfl, rfl⟩
        · by_cases b3 : x ≤ 2147483647
          · have HF : Hid (formT x = 3) := by show _ = _; unfold formT; (repeat (first | rw [if_pos (by omega)] | rw [if_neg (by omega)]))
            go_enter Tryd.func32, Tryd.ntmps32
            go_wp2
            go_ret
            exact ⟨by rw [HF.out]; rfl, rfl⟩
          · have HF : Hid (formT x = 4) := by show _ = _; unfold formT; (repeat (first | rw [if_pos (by omega)] | rw [if_neg (by omega)]))
            go_enter Tryd.func32, Tryd.ntmps32
            go_wp2
            go_ret
            exact ⟨by rw [HF.out]; rfl, rfl⟩
    · have b1 : x ≤ 63 := by omega
      have b2 : x ≤ 2047 := by omega
      have b3 : x ≤ 2147483647 := by omega
      by_cases a1 : (-64 : Int) ≤ x
      · have HF : Hid (formT x = 1) := by show _ = _; unfold formT; (repeat (first | rw [if_pos (by omega)] | rw [if_neg (by omega)]))
        go_enter Tryd.func32, Tryd.ntmps32
        go_wp2
        go_ret
        exact ⟨by rw [HF.out]; rfl, rfl⟩
      · by_cases a2 : (-2048 : Int) ≤ x
        · have HF : Hid (formT x = 2) := by show _ = _; unfold formT; (repeat (first | rw [if_pos (by omega)] | rw [if_neg (by omega)]))
          go_enter Tryd.func32, Tryd.ntmps32
          go_wp2
          go_ret
          exact ⟨by rw [HF.out]; rfl, rfl⟩
        · by_cases a3 : (-2147483648 : Int) ≤ x
          · have HF : Hid (formT x = 3) := by show _ = _; unfold formT; (repeat (first | rw [if_pos (by omega)] | rw [if_neg (by omega)]))
            go_enter Tryd.func32, Tryd.ntmps32
            go_wp2
            go_ret
            exact ⟨by rw [HF.out]; rfl, rfl⟩
          · have HF : Hid (formT x = 4) := by show _ = _; unfold formT; (repeat (first | rw [if_pos (by omega)] | rw [if_neg (by omega)]))
            go_enter Tryd.func32, Tryd.ntmps32
            go_wp2
            go_ret
            exact ⟨by rw [HF.out]; rfl, rfl⟩

set_option maxHeartbeats 400000 in
theorem ref_signed (u n : Nat) (hn : 1 ≤ n ∧ n ≤ 64) (hu : u < 2 ^ n) (w : World) : Calls Tryd.prog 37 #[.int .u64 (u : Int), .int .i64 (n : Int)] w fun e w' => e = .returned (.int .i64 (signT u n)) ∧ w' = w := by
  have HN := Lib.hid hn; have HU := Lib.hid hu
  clear hn hu
  go_enter Tryd.func37, Tryd.ntmps37
  go_wp2
  go_loop [5, 6] (fun h i => ∃ k : Nat, 1 ≤ k ∧ k ≤ n ∧ i = .int .i64 (k : Int) ∧ h = .int .u64 ((2 ^ (k - 1) : Nat) : Int)) (fun _ i => n - (intOf i).toNat)
  case atStart => exact ⟨1, by omega, HN.out.1, rfl, rfl⟩
  case round =>
    obtain ⟨k, h1, h2, rfl, rfl⟩ := hrel
    by_cases hlt : k < n
    · have hU : 2 ^ (k + 1 - 1) = 2 ^ (k - 1) * 2 := by rw [show k + 1 - 1 = (k - 1) + 1 from by omega, Nat.pow_succ]
      have hU2 : 2 ^ (k - 1) ≤ 2 ^ 62 := Nat.pow_le_pow_right (by omega) (by have := HN.out; omega)
      have HU2 := Lib.hid hU; clear hU
      generalize 2 ^ (k - 1) = U at *
      have hU3 : (U : Int) ≤ 4611686018427387904 := by omega
      clear hU2
      have hk : (k : Int) ≤ 64 := by have := HN.out; omega
      go_wp2
      go_round
      case rel => exact ⟨k + 1, by omega, by omega, by go_num, by rw [HU2.out]; go_num⟩
      case measure => simp [intOf]; omega
    · obtain rfl : k = n := by omega
      have hpow : 2 ^ k = 2 ^ (k - 1) * 2 := by have := HN.out; rw [← Nat.pow_succ]; congr 1; omega
      have hp2 : 2 ^ (k - 1) ≤ 2 ^ 63 := Nat.pow_le_pow_right (by omega) (by have := HN.out; omega)
      have hp3 : 0 < 2 ^ (k - 1) := Nat.two_pow_pos _
      have hc : ((2 : Int) ^ k) = ((2 ^ k : Nat) : Int) := by simp
      have HS : Hid (signT u k = if 2 ^ (k - 1) ≤ u then (u : Int) - ((2 ^ k : Nat) : Int) else (u : Int)) := by show _ = _; rw [signT, hc]
      clear hc
      have hu := HU.out
      rw [hpow] at HS hu
      clear hpow HU
      generalize 2 ^ (k - 1) = H at *
      have hH : H ≤ 9223372036854775808 := by simpa using hp2
      clear hp2
      by_cases hge : H ≤ u
      · have hge' : (H : Int) ≤ (u : Int) := by omega
        have e1 : IntKind.u64.wrap ((u : Int) - (H : Int)) = (u : Int) - (H : Int) := by rw [IntKind.wrap_u64]; omega
        have HV : Hid (wrap64 (IntKind.u64.wrap ((u : Int) - (H : Int) - (H : Int))) = signT u k) := by
          show _ = _
          rw [HS.out, if_pos hge, w64_eq, IntKind.wrap_u64]; omega
        clear hu hH hp3 h1 h2 hlt
        go_wp2
        go_ret
        exact ⟨by rw [← HV.out]; rfl, rfl⟩
      · have hge' : ¬ (H : Int) ≤ (u : Int) := by omega
        have HV : Hid (signT u k = (u : Int)) := by show _ = _; rw [HS.out, if_neg hge]
        have e1 : IntKind.i64.wrap (u : Int) = (u : Int) := IntWalk.i64_in _ (by omega)
        go_wp2
        go_ret
        exact ⟨by rw [HV.out]; rfl, rfl⟩
end Go.Proofs.YtjgiaibpipgjjaaDoor
