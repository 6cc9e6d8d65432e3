/- Layer 3: linear changes of states, as arrays of 32 words. -/
import Derived.Test.YtehnfibmglnlcaaDoorCrc03A
import Derived.Test.YtehnfibmglnlcaaDoorArray
set_option linter.unusedVariables false
namespace Go.Proofs.YtehnfibmglnlcaaDoor
open Go Go.RowKit

theorem Tryd.arrM : Arr Tryd.prog 42 22 32 (.int .u32 0) := Arr.mk' Tryd.underlying42 (by kernel_rfl) (by kernel_rfl) Tryd.underlying22 rfl

theorem bit_tmod (s j : Nat) : ((s : Int) / 2 ^ j).tmod 2 = ((s / 2 ^ j % 2 : Nat) : Int) := by
  have e : (s : Int) / 2 ^ j = ((s / 2 ^ j : Nat) : Int) := by simp
  rw [e]; exact (Int.ofNat_tmod _ 2).symm

/-- What becomes of the 32 states with one bit, as an array. -/
def mat (k : Nat) : Value := .agg (u32s (images k)).toArray

set_option maxHeartbeats 1000000 in
theorem crc_apply (k s : Nat) (w : World) (hs : s < 4294967296) :
    Calls Tryd.prog 24 #[mat k, .int .u32 (s : Int)] w fun e w' => e = .returned (.int .u32 (zeros k s : Int)) ∧ Below w.heap.size w w' := by
  go_enter Tryd.func24, Tryd.ntmps24
  go_wp2_with (refine wpList_boxA rfl _ _ rfl (u32s (images k)) rfl ?_)
  intro w1 hb hB hsz
  have HB := Lib.hid hB
  have HK := Lib.hid hb
  have HG : Hid (∀ j, j < 32 → (u32s (images k))[j]? = some (.int .u32 ((zeros k (2 ^ j) : Nat) : Int))) := fun j hj => u32s_get _ _ _ (images_get k j hj)
  have HL : Hid ((u32s (images k)).length = 32) := by show _ = _; rw [u32s_length, images_length]
  have HS := Lib.hid (zeros_step k s)
  have HZ : Hid (∀ j, zeros k (s % 2 ^ j) < 4294967296) := fun j => zeros_lt (Nat.lt_of_le_of_lt (Nat.mod_le _ _) hs)
  have HI : Hid (∀ j, j < 32 → zeros k (2 ^ j) < 4294967296) := fun j hj => image_lt k j hj
  have H0 : Hid (zeros k (s % 2 ^ 0) = 0) := by show _ = _; rw [Nat.pow_zero, Nat.mod_one, zeros_of_none]
  have HE : Hid (∀ j, j = 32 → zeros k (s % 2 ^ j) = zeros k s) := fun j hj => by subst hj; rw [Nat.mod_eq_of_lt hs]
  clear hB hb hsz
  unfold mat
  generalize u32s (images k) = cs at *
  go_wp2_with (refine wpList_loadA Tryd.arrM rfl _ rfl w.heap.size rfl _ HK.out HL.out ?_)
  go_loop [5, 9] (fun r i => ∃ j : Nat, j ≤ 32 ∧ i = .int .i64 (j : Int) ∧ r = .int .u32 ((zeros k (s % 2 ^ j) : Nat) : Int)) (fun _ i => 32 - (intOf i).toNat)
  case atStart => exact ⟨0, by decide, rfl, by rw [H0.out]; rfl⟩
  case round =>
    obtain ⟨j, hj, rfl, rfl⟩ := hrel
    by_cases hlt : j < 32
    · have hlt' : (j : Int) < 32 := by omega
      have HSj := Lib.hid (HS.out j)
      have hX := HZ.out j
      have hY := HI.out j hlt
      have HGj := Lib.hid (HG.out j hlt)
      generalize zeros k (s % 2 ^ j) = X at *
      generalize zeros k (2 ^ j) = Y at *
      have HX := Lib.hid (u32_xor_nat X Y hX hY)
      by_cases hodd : s / 2 ^ j % 2 = 1
      · have hodd' : (((s : Int) / 2 ^ j).tmod 2 == 1) = true := by rw [bit_tmod, hodd]; rfl
        rw [if_pos hodd] at HSj
        go_wp2_with (refine wpList_indexA Tryd.arrM rfl _ _ rfl cs rfl j rfl hlt _ HGj.out ?_)
        go_round
        case rel => exact ⟨j + 1, by omega, by go_num, by rw [HSj.out, HX.out]⟩
        case measure => simp [intOf]; omega
      · have hodd' : (((s : Int) / 2 ^ j).tmod 2 == 1) = false := by rw [bit_tmod, show s / 2 ^ j % 2 = 0 by omega]; rfl
        rw [if_neg hodd] at HSj
        go_wp2_with (refine wpList_indexA Tryd.arrM rfl _ _ rfl cs rfl j rfl hlt _ HGj.out ?_)
        go_round
        case rel => exact ⟨j + 1, by omega, by go_num, by rw [HSj.out]⟩
        case measure => simp [intOf]; omega
    · have hlt' : ¬ (j : Int) < 32 := by omega
      have HEj := Lib.hid (HE.out j (by omega))
      rw [HEj.out]
      clear hj hlt
      go_wp2_with fail
      go_ret
      exact ⟨rfl, HB.out⟩

set_option maxHeartbeats 1000000 in
theorem crc_square (k : Nat) (w : World) :
    Calls Tryd.prog 25 #[mat k] w fun e w' => e = .returned (mat (2 * k)) ∧ Below w.heap.size w w' := by
  go_enter Tryd.func25, Tryd.ntmps25
  go_wp2_with (refine wpList_boxA rfl _ _ rfl (u32s (images k)) rfl ?_)
  intro w1 hb hB hsz
  have HB1 := Lib.hid hB
  have HK1 := Lib.hid hb
  have HZ1 := Lib.hid hsz
  clear hB hb hsz
  go_wp2_with (refine wpList_allocA Tryd.arrM rfl rfl ?_)
  intro w2 hb hB hsz
  have hz2 : w2.heap.size = w.heap.size + 2 := by rw [hsz, HZ1.out]
  have HB2 := Lib.hid (HB1.out.trans (hB.mono HB1.out.size))
  have HK2 := Lib.hid ((Mods.of_below hB (fun _ => False)).blk HK1.out (fun h => h))
  rw [HZ1.out] at hb
  have HR2 := Lib.hid hb
  have HZ2 := Lib.hid hz2
  rw [HZ1.out]
  clear hB hb hsz HB1 HK1 hz2 HZ1
  go_wp2_with (refine wpList_allocA Tryd.arrM rfl rfl ?_)
  intro w3 hb hB hsz
  have HB3 := Lib.hid (HB2.out.trans (hB.mono HB2.out.size))
  have HK3 := Lib.hid ((Mods.of_below hB (fun _ => False)).blk HK2.out (fun h => h))
  have HR3 := Lib.hid ((Mods.of_below hB (fun _ => False)).blk HR2.out (fun h => h))
  rw [HZ2.out] at hb hsz ⊢
  have HT3 := Lib.hid hb
  have HZ3 := Lib.hid hsz
  clear hB hb hsz HB2 HK2 HR2 HZ2
  have HL : Hid ((u32s (images k)).length = 32) := by show _ = _; rw [u32s_length, images_length]
  have HG : Hid (∀ j, j < 32 → (u32s (images k))[j]? = some (.int .u32 ((zeros k (2 ^ j) : Nat) : Int))) := fun j hj => u32s_get _ _ _ (images_get k j hj)
  have HA := Lib.hid (fun (s : Nat) (w : World) (hs : s < 4294967296) => crc_apply k s w hs)
  have HI : Hid (∀ j, j < 32 → zeros k (2 ^ j) < 4294967296) := fun j hj => image_lt k j hj
  have HT0 : Hid (Blk w3 (w.heap.size + 2) (u32s (partly (2 * k) 0))) := by show Blk _ _ _; rw [partly_none]; simpa [u32s] using HT3.out
  have HP : Hid (∀ j, j < 32 → (u32s (partly (2 * k) j)).set j (.int .u32 ((zeros k (zeros k (2 ^ j)) : Nat) : Int)) = u32s (partly (2 * k) (j + 1))) := fun j hj => by rw [u32s_set, zeros_twice, partly_set _ _ hj]
  have HPl : Hid (∀ j, j ≤ 32 → (u32s (partly (2 * k) j)).length = 32) := fun j hj => by rw [u32s_length, partly_length _ _ hj]
  have HPe : Hid (∀ j, j = 32 → mat (2 * k) = .agg (u32s (partly (2 * k) j)).toArray) := fun j hj => by rw [hj, partly_all]; rfl
  have HP1 : Hid (∀ j, ∀ u ∈ u32s (partly (2 * k) j), u.oneCell' = true) := fun j => u32s_one _
  clear HT3
  unfold mat at HA ⊢
  generalize u32s (images k) = cs at *
  go_wp2_with (refine wpList_loadA Tryd.arrM rfl _ rfl w.heap.size rfl _ HK3.out HL.out ?_)
  go_loopw [7] (fun i wr => ∃ j : Nat, j ≤ 32 ∧ i = .int .i64 (j : Int) ∧ Hid (Blk wr w.heap.size cs) ∧ Hid (Blk wr (w.heap.size + 1) (List.replicate 32 (.int .u32 0))) ∧ Hid (Blk wr (w.heap.size + 2) (u32s (partly (2 * k) j))) ∧ Hid (Below w.heap.size w wr)) (fun i _ => 32 - (intOf i).toNat)
  case atStart => exact ⟨0, by decide, rfl, HK3, HR3, HT0, HB3⟩
  case round =>
    obtain ⟨j, hj, rfl, HKj, HRj, HTj, HBj⟩ := hrel
    by_cases hlt : j < 32
    · have hlt' : (j : Int) < 32 := by omega
      have HGj := Lib.hid (HG.out j hlt)
      have HIj := Lib.hid (HI.out j hlt)
      have HPj := Lib.hid (HP.out j hlt)
      generalize zeros k (2 ^ j) = Y at *
      go_wp2_with (first
        | (refine wpList_indexA Tryd.arrM rfl _ _ rfl cs rfl j rfl hlt _ HGj.out ?_)
        | (refine wpList_loadA Tryd.arrM rfl _ rfl w.heap.size rfl _ HKj.out HL.out ?_))
      refine (HA.out Y _ HIj.out).mono ?_
      rintro e w4 ⟨rfl, hB⟩
      have hm := Mods.of_below hB (fun _ => False)
      have HK4 := Lib.hid (hm.blk HKj.out (fun h => h))
      have HR4 := Lib.hid (hm.blk HRj.out (fun h => h))
      have HT4 := Lib.hid (hm.blk HTj.out (fun h => h))
      have HB4 := Lib.hid (HBj.out.trans (hB.mono HBj.out.size))
      have hfro := HT4.out.free j
      obtain ⟨v0, hv0⟩ : ∃ v0, (u32s (partly (2 * k) j))[j]? = some v0 := ⟨_, List.getElem?_eq_getElem (by rw [HPl.out j hj]; exact hlt)⟩
      have hcell := (HT4.out.cell j).trans hv0
      clear hm hB hv0
      have HKn : Hid (Blk (w4.setCell ⟨w.heap.size + 2, j, none⟩ (.int .u32 ((zeros k Y : Nat) : Int))) w.heap.size cs) := HK4.out.set_other (by show _ ≠ w.heap.size + 2; omega) _
      have HRn : Hid (Blk (w4.setCell ⟨w.heap.size + 2, j, none⟩ (.int .u32 ((zeros k Y : Nat) : Int))) (w.heap.size + 1) (List.replicate 32 (.int .u32 0))) := HR4.out.set_other (by show _ ≠ w.heap.size + 2; omega) _
      have HTn : Hid (Blk (w4.setCell ⟨w.heap.size + 2, j, none⟩ (.int .u32 ((zeros k Y : Nat) : Int))) (w.heap.size + 2) (u32s (partly (2 * k) (j + 1)))) := by show Blk _ _ _; rw [← HPj.out]; exact HT4.out.set j _
      have HBn : Hid (Below w.heap.size w (w4.setCell ⟨w.heap.size + 2, j, none⟩ (.int .u32 ((zeros k Y : Nat) : Int)))) := HB4.out.setCell (by show _ ≤ w.heap.size + 2; omega) _
      go_wp2_with fail
      go_roundw
      case rel => exact ⟨j + 1, by omega, by go_num, HKn, HRn, HTn, HBn⟩
      case measure => simp [intOf]; omega
    · have hlt' : ¬ (j : Int) < 32 := by omega
      have HPj := Lib.hid (HPe.out j (by omega))
      have HLj := Lib.hid (HPl.out j hj)
      have HOj := Lib.hid (HP1.out j)
      clear hj hlt
      generalize u32s (partly (2 * k) j) = ds at *
      go_wp2_with (first
        | (refine wpList_loadA Tryd.arrM rfl _ rfl (w.heap.size + 2) rfl _ HTj.out HLj.out ?_)
        | (refine wpList_storeA Tryd.arrM rfl _ _ rfl (w.heap.size + 1) rfl ds _ rfl HRj.out (by simp) HLj.out HOj.out ?_))
      intro w5 hb hm hsz
      have HB5 : Hid (Below w.heap.size w w5) := HBj.out.trans (hm.below HBj.out.size (fun i hi e => by omega))
      have HR5 := Lib.hid hb
      clear hb hm hsz
      go_wp2_with fail
      exact bodyPost_ret (resultsA (p := 2) Tryd.arrM (by kernel_rfl) _ (w.heap.size + 1) rfl ds HR5.out HLj.out) rfl ⟨by rw [HPj.out], HB5.out⟩

set_option maxHeartbeats 1000000 in
theorem crc_zeroByte (w : World) (hT : Tab w) :
    Calls Tryd.prog 23 #[] w fun e w' => e = .returned (mat 1) ∧ Below w.heap.size w w' := by
  have HT := Lib.hid hT
  clear hT
  go_enter Tryd.func23, Tryd.ntmps23
  go_wp2_with (refine wpList_allocA Tryd.arrM rfl rfl ?_)
  intro w1 hb hB hsz
  have HB1 := Lib.hid hB
  have HR1 := Lib.hid hb
  have HZ1 := Lib.hid hsz
  clear hB hb hsz
  go_wp2_with (refine wpList_allocA Tryd.arrM rfl rfl ?_)
  intro w2 hb hB hsz
  have HB2 := Lib.hid (HB1.out.trans (hB.mono HB1.out.size))
  have HR2 := Lib.hid ((Mods.of_below hB (fun _ => False)).blk HR1.out (fun h => h))
  rw [HZ1.out] at hb ⊢
  have HT0 : Hid (Blk w2 (w.heap.size + 1) (u32s (partly 1 0))) := by show Blk _ _ _; rw [partly_none]; simpa [u32s] using hb
  clear hB hb hsz HB1 HR1 HZ1
  have HP : Hid (∀ j, j < 32 → (u32s (partly 1 j)).set j (.int .u32 ((zeros 1 (2 ^ j) : Nat) : Int)) = u32s (partly 1 (j + 1))) := fun j hj => by rw [u32s_set, partly_set _ _ hj]
  have HPl : Hid (∀ j, j ≤ 32 → (u32s (partly 1 j)).length = 32) := fun j hj => by rw [u32s_length, partly_length _ _ hj]
  have HPe : Hid (∀ j, j = 32 → mat 1 = .agg (u32s (partly 1 j)).toArray) := fun j hj => by rw [hj, partly_all]; rfl
  have HP1 : Hid (∀ j, ∀ u ∈ u32s (partly 1 j), u.oneCell' = true) := fun j => u32s_one _
  go_wp2_with fail
  go_loopw [3] (fun i wr => ∃ j : Nat, j ≤ 32 ∧ i = .int .i64 (j : Int) ∧ Hid (Blk wr w.heap.size (List.replicate 32 (.int .u32 0))) ∧ Hid (Blk wr (w.heap.size + 1) (u32s (partly 1 j))) ∧ Hid (Below w.heap.size w wr)) (fun i _ => 32 - (intOf i).toNat)
  case atStart => exact ⟨0, by decide, rfl, HR2, HT0, HB2⟩
  case round =>
    obtain ⟨j, hj, rfl, HRj, HTj, HBj⟩ := hrel
    by_cases hlt : j < 32
    · have hlt' : (j : Int) < 32 := by omega
      have HPj := Lib.hid (HP.out j hlt)
      have hYl := two_pow_lt32 hlt
      have HZo := Lib.hid (zeros_one (2 ^ j))
      have HPw : Hid ((2 : Int) ^ j = ((2 ^ j : Nat) : Int)) := by show _ = _; simp
      have HYl := Lib.hid hYl
      clear hYl
      obtain ⟨Y0, hY0⟩ : ∃ Y0, 2 ^ j = Y0 := ⟨_, rfl⟩
      rw [hY0] at HPj HYl HPw HZo
      clear hY0
      have HB3 : Hid (Below w.heap.size w (wr.alloc (.cells #[.int .u8 0] 5))) := HBj.out.alloc HBj.out.size _
      have HLit : Hid (Rd (wr.alloc (.cells #[.int .u8 0] 5)) 1 (.slice (some ⟨wr.heap.size, 0, none⟩) 1 1) [0].length (u8s [0])) := lit_rd wr #[.int .u8 0] [0] rfl (by decide)
      have HT3 := Lib.hid (HT.out.below HB3.out (Nat.le_refl _))
      have HR3 := Lib.hid (HRj.out.alloc (.cells #[.int .u8 0] 5))
      have HT4 := Lib.hid (HTj.out.alloc (.cells #[.int .u8 0] 5))
      have HMod : Hid ((Y0 : Int) % 4294967296 = (Y0 : Int)) := by show _ = _; have := HYl.out; omega
      have H08 : ∀ c ∈ [0], c < 256 := by intro c hc; simp at hc; omega
      have HC := Lib.hid (crc_update Y0 (.slice (some ⟨wr.heap.size, 0, none⟩) 1 1) [0] (wr.alloc (.cells #[.int .u8 0] 5)) HT3.out HYl.out HLit.out H08)
      go_wp2_with fail
      rw [HPw.out, HMod.out]
      refine HC.out.mono ?_
      rintro e w4 ⟨rfl, rfl⟩
      rw [← HZo.out]
      generalize wr.alloc (.cells #[.int .u8 0] 5) = w4 at *
      have hfro := HT4.out.free j
      obtain ⟨v0, hv0⟩ : ∃ v0, (u32s (partly 1 j))[j]? = some v0 := ⟨_, List.getElem?_eq_getElem (by rw [HPl.out j hj]; exact hlt)⟩
      have hcell := (HT4.out.cell j).trans hv0
      clear hv0 HZo HYl HLit HT3
      generalize zeros 1 Y0 = Y at *
      have HRn : Hid (Blk (w4.setCell ⟨w.heap.size + 1, j, none⟩ (.int .u32 (Y : Int))) w.heap.size (List.replicate 32 (.int .u32 0))) := HR3.out.set_other (by show _ ≠ w.heap.size + 1; omega) _
      have HTn : Hid (Blk (w4.setCell ⟨w.heap.size + 1, j, none⟩ (.int .u32 (Y : Int))) (w.heap.size + 1) (u32s (partly 1 (j + 1)))) := by show Blk _ _ _; rw [← HPj.out]; exact HT4.out.set j _
      have HBn : Hid (Below w.heap.size w (w4.setCell ⟨w.heap.size + 1, j, none⟩ (.int .u32 (Y : Int)))) := HB3.out.setCell (by show _ ≤ w.heap.size + 1; omega) _
      go_wp2_with fail
      go_roundw
      case rel => exact ⟨j + 1, by omega, by go_num, HRn, HTn, HBn⟩
      case measure => simp [intOf]; omega
    · have hlt' : ¬ (j : Int) < 32 := by omega
      have HPj := Lib.hid (HPe.out j (by omega))
      have HLj := Lib.hid (HPl.out j hj)
      have HOj := Lib.hid (HP1.out j)
      clear hj hlt
      generalize u32s (partly 1 j) = ds at *
      go_wp2_with (first
        | (refine wpList_loadA Tryd.arrM rfl _ rfl (w.heap.size + 1) rfl _ HTj.out HLj.out ?_)
        | (refine wpList_storeA Tryd.arrM rfl _ _ rfl w.heap.size rfl ds _ rfl HRj.out (by simp) HLj.out HOj.out ?_))
      intro w5 hb hm hsz
      have HB5 : Hid (Below w.heap.size w w5) := HBj.out.trans (hm.below HBj.out.size (fun i hi e => by omega))
      have HR5 := Lib.hid hb
      clear hb hm hsz
      go_wp2_with fail
      exact bodyPost_ret (resultsA (p := 0) Tryd.arrM (by kernel_rfl) _ w.heap.size rfl ds HR5.out HLj.out) rfl ⟨by rw [HPj.out], HB5.out⟩
end Go.Proofs.YtehnfibmglnlcaaDoor
