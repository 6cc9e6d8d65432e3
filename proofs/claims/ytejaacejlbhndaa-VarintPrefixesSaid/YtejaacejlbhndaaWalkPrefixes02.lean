/- Layer 2: VarintPrefixes, walked. -/
import Derived.Test.YtejaacejlbhndaaAlive02
set_option linter.unusedVariables false
namespace Go.Proofs.Ytejaacejlbhndaa.varintPrefixes
open Go Go.RowKit

theorem read_prefix {x k : Nat} (hx : x < 18446744073709551616) (hk : k < (groups x).length) : readAt ((groups x).take k) ((0 : Nat) : Int) = (0, 0, 3) := by
  have h := readFrom_prefix x 0 0 k (by omega) (by simpa using hx) hk
  have h2 := readAt_in (l := (groups x).take k) (o := 0) (Nat.zero_le _) (a := 0) (n := 0) (e := 3) (by rw [List.drop_zero]; exact h)
  rw [h2]
  rfl

set_option maxHeartbeats 1000000 in
theorem walk (w : World) (x : Nat) (hx : x < 18446744073709551616) :
    Calls Try.prog 8 #[.int .u64 x] w fun e w' => e = .returned (.bool true) ∧ Below w.heap.size w w' := by
  have hten := groups_ten hx
  go_enter Try.func8, Try.ntmps8
  go_wp2_with fail
  refine (ref_encode x hx _).mono ?_
  rintro e w1 ⟨r, rfl, hM⟩
  obtain ⟨p, c, hr⟩ := (Rd.of_owns hM.1).shape
  subst hr
  have HR := Lib.hid (Rd.of_owns hM.1)
  have HB := Lib.hid hM.2
  have hnc : (groups x).length ≤ c := by obtain ⟨_, _, e, _, h, _⟩ := HR.out; cases e; exact h
  clear hM
  have HRP : Hid (∀ k, k < (groups x).length → readAt ((groups x).take k) ((0 : Nat) : Int) = (0, 0, 3)) := fun k hk => read_prefix hx hk
  have HG := Lib.hid (groups_lt x)
  generalize groups x = g at *
  go_wp2_with fail
  go_loop [12] (fun i => ∃ k : Nat, k ≤ g.length ∧ i = .int .i64 (k : Int)) (fun i => g.length - (intOf i).toNat)
  case atStart => exact ⟨0, Nat.zero_le _, rfl⟩
  case round =>
    obtain ⟨k, hk, rfl⟩ := hrel
    by_cases hlt : k < g.length
    · have hlt' : (k : Int) < (g.length : Int) := by omega
      have HT : Hid (Rd w1 1 (.slice p k c) (g.take k).length (u8s (g.take k))) := by
        show Rd _ _ _ _ _
        have := HR.out.upto k hk
        rw [List.length_take, Nat.min_eq_left hk]
        simpa [u8s, List.map_take] using this
      have HT8 : Hid (∀ a ∈ g.take k, a < 256) := fun a ha => HG.out a (List.mem_of_mem_take ha)
      go_wp2_with (refine wpList_upto Try.elemU8 _ _ _ _ k hk hnc rfl _ _ rfl rfl rfl ?_)
      refine (get_any _ (g.take k) ((0 : Nat) : Int) _ HT.out HT8.out).mono ?_
      rintro e w2 ⟨rfl, rfl⟩
      rw [HRP.out k hlt]
      go_wp2_with fail
      go_round
      case rel => exact ⟨k + 1, by omega, by go_num⟩
      case measure => simp [intOf]; omega
    · obtain rfl : k = g.length := by omega
      go_wp2_with fail
      refine (alive_any _).mono ?_
      rintro e w2 ⟨rfl, hB⟩
      have HB2 := Lib.hid (HB.out.trans (hB.mono HB.out.size))
      clear hB
      go_wp2_with fail
      go_ret
      exact ⟨rfl, HB2.out⟩
end Go.Proofs.Ytejaacejlbhndaa.varintPrefixes
