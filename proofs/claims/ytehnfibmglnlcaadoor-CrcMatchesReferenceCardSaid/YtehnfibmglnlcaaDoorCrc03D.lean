/- Layer 3: Combine. -/
import Derived.Test.YtehnfibmglnlcaaDoorCrc03C
set_option linter.unusedVariables false
namespace Go.Proofs.YtehnfibmglnlcaaDoor
open Go Go.RowKit

theorem crc_combine_neg (a b : Nat) (n : Int) (w : World) (hn : n < 0) :
    Calls Tryd.prog 19 #[.int .u32 (a : Int), .int .u32 (b : Int), .int .i64 n] w fun e w' => e = .returned (.int .u32 0) ∧ w = w' := by
  go_enter Tryd.func19, Tryd.ntmps19
  go_wp2_with fail
  go_ret
  exact ⟨rfl, rfl⟩

set_option maxHeartbeats 1000000 in
theorem crc_combine (a b n : Nat) (w : World) (hT : Tab w) (ha : a < 4294967296) (hb : b < 4294967296) (hn : n < 9223372036854775808) :
    Calls Tryd.prog 19 #[.int .u32 (a : Int), .int .u32 (b : Int), .int .i64 (n : Int)] w fun e w' => e = .returned (.int .u32 ((zeros n a ^^^ b : Nat) : Int)) ∧ Below w.heap.size w w' := by
  have HT := Lib.hid hT
  have HB := Lib.hid hb
  clear hT hb
  have hn0 : ¬ (n : Int) < 0 := by omega
  go_enter Tryd.func19, Tryd.ntmps19
  go_wp2_with fail
  refine (crc_zeroByte _ HT.out).mono ?_
  rintro e w1 ⟨rfl, hB⟩
  have HB1 := Lib.hid hB
  have HIl : Hid (∀ k, (u32s (images k)).length = 32) := fun k => by rw [u32s_length, images_length]
  have HI1 : Hid (∀ k, ∀ u ∈ u32s (images k), u.oneCell' = true) := fun k => u32s_one _
  have HMt : Hid (∀ k, mat k = .agg (u32s (images k)).toArray) := fun k => rfl
  clear hB
  rw [HMt.out 1]
  go_wp2_with (refine wpList_allocA Tryd.arrM rfl rfl ?_)
  intro w2 hk hB hsz
  have HB2 := Lib.hid (HB1.out.trans (hB.mono HB1.out.size))
  have HK2 := Lib.hid hk
  obtain ⟨g, hg⟩ : ∃ g, w1.heap.size = g := ⟨_, rfl⟩
  have hgw : w.heap.size ≤ g := hg ▸ HB1.out.size
  rw [hg] at HK2 ⊢
  clear hk hB hsz hg HB1
  go_wp2_with (refine wpList_storeA Tryd.arrM rfl _ _ rfl g rfl (u32s (images 1)) _ rfl HK2.out (by simp) (HIl.out 1) (HI1.out 1) ?_)
  intro w3 hk hm hsz
  have HB3 : Hid (Below w.heap.size w w3) := HB2.out.trans (hm.below HB2.out.size (fun i hi e => by omega))
  have HK3 := Lib.hid hk
  clear hk hm hsz HB2 HK2
  go_wp2_with fail
  go_loopw [7, 9] (fun st rest wr => ∃ K r S : Nat, rest = .int .i64 (r : Int) ∧ st = .int .u32 (S : Int) ∧ S < 4294967296 ∧ r ≤ n ∧ Hid (zeros (K * r) S = zeros n a) ∧ Hid (Blk wr g (u32s (images K))) ∧ Hid (Below w.heap.size w wr)) (fun _ rest _ => (intOf rest).toNat)
  case atStart => exact ⟨1, n, a, rfl, rfl, ha, Nat.le_refl _, by show _ = _; rw [Nat.one_mul], HK3, HB3⟩
  case round =>
    obtain ⟨K, r, S, rfl, rfl, hS, hr, hE, HKr, HBr⟩ := hrel
    have HE := Lib.hid hE.out
    clear hE
    have HZh := Lib.hid (zeros_half K r S)
    have HQ := Lib.hid (fun (w : World) => crc_square K w)
    rw [show mat K = .agg (u32s (images K)).toArray from rfl] at HQ
    by_cases hr0 : r = 0
    · subst hr0
      have HF : Hid (S = zeros n a) := by show _ = _; rw [← HE.out, Nat.mul_zero, zeros_none]
      have HX := Lib.hid (u32_xor_nat S b hS HB.out)
      go_wp2_with fail
      go_ret
      exact ⟨ret_int (by rw [← HF.out, ← HX.out]), HBr.out⟩
    · have hr1 : (0 : Int) < (r : Int) := by omega
      by_cases hodd : r % 2 = 1
      · have hodd' : (r : Int) % 2 = 1 := by omega
        rw [if_pos hodd] at HZh
        have hS2 := zeros_lt (n := K) hS
        have HA := Lib.hid (fun (w : World) => crc_apply K S w hS)
        rw [show mat K = .agg (u32s (images K)).toArray from rfl] at HA
        generalize zeros K S = S2 at *
        go_wp2_with (refine wpList_loadA Tryd.arrM rfl _ rfl g rfl _ HKr.out (HIl.out K) ?_)
        refine (HA.out _).mono ?_
        rintro e w4 ⟨rfl, hB⟩
        have HK4 := Lib.hid ((Mods.of_below hB (fun _ => False)).blk HKr.out (fun h => h))
        have HB4 := Lib.hid (HBr.out.trans (hB.mono HBr.out.size))
        clear hB
        go_wp2_with (refine wpList_loadA Tryd.arrM rfl _ rfl g rfl _ HK4.out (HIl.out K) ?_)
        refine (HQ.out _).mono ?_
        rintro e w5 ⟨rfl, hB⟩
        have HK5 := Lib.hid ((Mods.of_below hB (fun _ => False)).blk HK4.out (fun h => h))
        have HB5 := Lib.hid (HB4.out.trans (hB.mono HB4.out.size))
        clear hB
        rw [HMt.out (2 * K)]
        go_wp2_with (refine wpList_storeA Tryd.arrM rfl _ _ rfl g rfl (u32s (images (2 * K))) _ rfl HK5.out (HIl.out K) (HIl.out (2 * K)) (HI1.out (2 * K)) ?_)
        intro w6 hk hm hsz
        have HB6 : Hid (Below w.heap.size w w6) := HB5.out.trans (hm.below HB5.out.size (fun i hi e => by omega))
        have HK6 := Lib.hid hk
        have HE6 := Lib.hid (HZh.out.symm.trans HE.out)
        clear hk hm hsz HB5 HK5
        go_wp2_with fail
        go_roundw
        case rel => exact ⟨2 * K, r / 2, S2, by go_num, rfl, hS2, by omega, HE6, HK6, HB6⟩
        case measure => simp [intOf]; omega
      · have hodd' : ¬ (r : Int) % 2 = 1 := by omega
        rw [if_neg hodd] at HZh
        go_wp2_with (refine wpList_loadA Tryd.arrM rfl _ rfl g rfl _ HKr.out (HIl.out K) ?_)
        refine (HQ.out _).mono ?_
        rintro e w5 ⟨rfl, hB⟩
        have HK5 := Lib.hid ((Mods.of_below hB (fun _ => False)).blk HKr.out (fun h => h))
        have HB5 := Lib.hid (HBr.out.trans (hB.mono HBr.out.size))
        clear hB
        rw [HMt.out (2 * K)]
        go_wp2_with (refine wpList_storeA Tryd.arrM rfl _ _ rfl g rfl (u32s (images (2 * K))) _ rfl HK5.out (HIl.out K) (HIl.out (2 * K)) (HI1.out (2 * K)) ?_)
        intro w6 hk hm hsz
        have HB6 : Hid (Below w.heap.size w w6) := HB5.out.trans (hm.below HB5.out.size (fun i hi e => by omega))
        have HK6 := Lib.hid hk
        have HE6 := Lib.hid (HZh.out.symm.trans HE.out)
        clear hk hm hsz HB5 HK5
        go_wp2_with fail
        go_roundw
        case rel => exact ⟨2 * K, r / 2, S, by go_num, rfl, hS, by omega, HE6, HK6, HB6⟩
        case measure => simp [intOf]; omega
end Go.Proofs.YtehnfibmglnlcaaDoor
