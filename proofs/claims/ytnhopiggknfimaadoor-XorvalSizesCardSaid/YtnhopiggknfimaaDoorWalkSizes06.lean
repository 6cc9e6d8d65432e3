/- Layer 6: XorvalSizes, walked over the interface. -/
import Derived.Test.YtnhopiggknfimaaDoorXorI
import Derived.Test.YtnhopiggknfimaaDoorCloneU
import Derived.Test.YtnhopiggknfimaaDoorRepeat
set_option linter.unusedVariables false
namespace Go.Proofs.YtnhopiggknfimaaDoor.xorvalSizes
open Go Go.RowKit
variable {G : Nat} {T : World → Prop}

theorem lit_one (w : World) (x : Nat) : Rd (w.alloc (.cells #[.int .u64 (x : Int)] 28)) 1 (.slice (some ⟨w.heap.size, 0, none⟩) 1 1) 1 (u64s [x]) :=
  Rd.of_owns (World.ownsRow_lit (base := 0) w #[.int .u64 (x : Int)] 1 (Nat.zero_le _) (by simp [maxLen]) (by simp))

set_option maxHeartbeats 8000000 in
theorem walk (I : VIf G T) (hal : ∀ w, T w → Calls Tryd.prog 9 #[] w fun e w' => e = .returned (.bool true) ∧ Below w.heap.size w w')
    (w : World) (hT : T w) (x : Nat) (hx : in64u x) (n : Nat) (hn : n < 256) (lv : Value) (l : List Nat) (ok : ∀ t ∈ l, in64u t) (hl : Rd w 1 lv l.length (u64s l)) :
    Calls Tryd.prog 7 #[.int .u64 (x : Int), .int .u8 (n : Int), lv] w fun e w' => e = .returned (.bool true) ∧ Below w.heap.size w w' := by
  have HT := Lib.hid hT; have HL := Lib.hid hl; have HO := Lib.hid ok; have HAL := Lib.hid hal; have HX := Lib.hid hx; have HNn := Lib.hid hn
  obtain ⟨pl, cl, hv⟩ := hl.shape
  subst hv
  clear hT hl ok hal hx
  by_cases hlt : (300 : Int) < (l.length : Int)
  · go_enter Tryd.func7, Tryd.ntmps7
    go_wp2_with fail
    refine (HAL.out _ HT.out).mono ?_
    rintro e w1 ⟨rfl, hB⟩
    go_wp2_with fail
    go_ret
    exact ⟨rfl, hB⟩
  have HN : Hid (l.length ≤ 300) := by show _ ≤ _; omega
  have hn255 : (n : Int) ≤ 255 := by omega
  have HB1 : Hid (Below w.heap.size w (w.alloc (.cells #[.int .u64 (x : Int)] 28))) := (Below.refl _ _).alloc (Nat.le_refl _) _
  have HRep := Lib.hid (repeat_one _ x n (by omega) _ (lit_one w x))
  clear hn
  go_enter Tryd.func7, Tryd.ntmps7
  go_wp2_with fail
  refine HRep.out.mono ?_
  rintro e w2 ⟨r2, rfl, hM⟩
  have HB2 := Lib.hid (HB1.out.trans (hM.2.mono HB1.out.size))
  have HM2 := Lib.hid (Rd.of_owns hM.1)
  have HT2 := Lib.hid (I.below HT.out HB2.out)
  obtain ⟨p2, c2, hv⟩ := (Rd.of_owns hM.1).shape
  subst hv
  clear hM HRep HB1
  have HRl : Hid (∀ w', Below w2.heap.size w2 w' → Rd w' 1 (.slice p2 n c2) (List.replicate n x).length (u64s (List.replicate n x))) := fun w' hb => by rw [List.length_replicate]; exact HM2.out.below hb
  have HRi : Hid (∀ t ∈ List.replicate n x, in64u t) := fun t ht => by rw [List.eq_of_mem_replicate ht]; exact HX.out
  have HRz : Hid (78 * (List.replicate n x).length ≤ 70368744177000) := by show _ ≤ _; rw [List.length_replicate]; have := HNn.out; omega
  by_cases h0 : n = 0
  · subst h0
    have HEn : Hid ((encV (List.replicate 0 x)).length = 0) := rfl
    go_wp2_with fail
    refine (HAL.out _ HT2.out).mono ?_
    rintro e w3 ⟨rfl, hB⟩
    have HB3 := Lib.hid (HB2.out.trans (hB.mono HB2.out.size))
    have HT3 := Lib.hid (I.below HT2.out hB)
    have HS3 := Lib.hid (I.size _ (List.replicate 0 x) w3 HT3.out (HRl.out _ hB) HRi.out HRz.out)
    rw [HEn.out] at HS3
    clear hB HB2 HT2
    go_wp2_with fail
    refine HS3.out.mono ?_
    rintro e w4 ⟨rfl, hB⟩
    have HB4 := Lib.hid (HB3.out.trans (hB.mono HB3.out.size))
    have HT4 := Lib.hid (I.below HT3.out hB)
    have HS4 := Lib.hid (I.size _ l w4 HT4.out (HL.out.below HB4.out) HO.out (by have := HN.out; omega))
    have HLe : Hid ((encV l).length ≤ 78 * l.length) := encV_len l
    have HMo : Hid ((encV l).length ≤ (encV (l ++ l)).length) := encV_mono l l
    have HLe2 : Hid ((encV (l ++ l)).length ≤ 46800) := by show _ ≤ _; have := encV_len (l ++ l); have := HN.out; rw [List.length_append] at *; omega
    clear hB HB3 HT3 HS3
    have hle : ((encV l).length : Int) ≤ 78 * (l.length : Int) := by have := HLe.out; omega
    generalize hL1 : (encV l).length = L1 at *
    have HL1 := Lib.hid hL1
    clear hL1
    go_wp2_with fail
    refine HS4.out.mono ?_
    rintro e w5 ⟨rfl, hB⟩
    have HB5 := Lib.hid (HB4.out.trans (hB.mono HB4.out.size))
    have HT5 := Lib.hid (I.below HT4.out hB)
    have HCl := Lib.hid (clone_u64 _ l w5 (HL.out.below HB5.out) (by have := HN.out; omega))
    clear hB HB4 HT4 HS4
    go_wp2_with fail
    refine HCl.out.mono ?_
    rintro e w6 ⟨r6, rfl, hM⟩
    have HB6 := Lib.hid (HB5.out.trans (hM.2.mono HB5.out.size))
    have HT6 := Lib.hid (I.below HT5.out hM.2)
    have HM6 := Lib.hid hM.1
    obtain ⟨p6, c6, hv⟩ := (Rd.of_owns hM.1).shape
    subst hv
    have H56 : Hid (w.heap.size ≤ w5.heap.size) := HB5.out.size
    have HLr := Lib.hid (HL.out.below HB6.out)
    have HLb : Hid ((l.length + l.length) * 8 ≤ 140737488355328 ∧ l.length + l.length ≤ maxLen) := by show _ ∧ _; have := HN.out; unfold maxLen; omega
    clear hM HCl HB5 HT5 hle
    go_wp2_with (at_builtin; refine wpList_extend Tryd.elemU64 w6 _ _ _ _ _ _ (owns_rebase HM6.out (fun _ _ => Nat.zero_le _)) HLr.out (u64s_one l) HLb.out rfl _ _ rfl rfl rfl ?_)
    intro v7 w7 hown hmods hfr
    have HM7 : Hid (Rd w7 1 v7 (l ++ l).length (u64s (l ++ l))) := by
      show Rd _ _ _ _ _
      rw [List.length_append, u64s_append]; exact Rd.of_owns hown
    have hB7 : Below w.heap.size w6 w7 := hmods.below HB6.out.size (fun k hk e => by have := (HM6.out.lt k e).1; have := H56.out; omega)
    have HB7 := Lib.hid (HB6.out.trans hB7)
    have HT7 := Lib.hid (I.below HT.out HB7.out)
    have HS7 := Lib.hid (I.size _ (l ++ l) w7 HT7.out HM7.out (fun t ht => by rcases List.mem_append.1 ht with h | h <;> exact HO.out t h) (by have := HN.out; rw [List.length_append]; omega))
    obtain ⟨p7, c7, hv⟩ := (Rd.of_owns hown).shape
    subst hv
    clear hown hmods hfr hB7 HB6 HT6 HM6 HLr HLb
    go_wp2_with fail
    refine HS7.out.mono ?_
    rintro e w8 ⟨rfl, hB⟩
    have HB8 := Lib.hid (HB7.out.trans (hB.mono HB7.out.size))
    have HT8 := Lib.hid (I.below HT7.out hB)
    have HS8 := Lib.hid (I.size _ l w8 HT8.out (HL.out.below HB8.out) HO.out (by have := HN.out; omega))
    rw [HL1.out] at HS8
    clear hB HB7 HT7 HS7
    have hmo : (L1 : Int) ≤ ((encV (l ++ l)).length : Int) := by have := HMo.out; omega
    generalize (encV (l ++ l)).length = L2 at *
    go_wp2_with fail
    refine HS8.out.mono ?_
    rintro e w9 ⟨rfl, hB⟩
    have HB9 := Lib.hid (HB8.out.trans (hB.mono HB8.out.size))
    clear hB HB8 HT8 HS8
    go_wp2_with fail
    go_ret
    exact ⟨rfl, HB9.out⟩
  · have hpos : (0 : Int) < (n : Int) := by omega
    have HEn : Hid ((encV (List.replicate n x)).length = 63 + n) := encV_same x n (by omega)
    clear h0
    go_wp2_with fail
    refine (HAL.out _ HT2.out).mono ?_
    rintro e w3 ⟨rfl, hB⟩
    have HB3 := Lib.hid (HB2.out.trans (hB.mono HB2.out.size))
    have HT3 := Lib.hid (I.below HT2.out hB)
    have HS3 := Lib.hid (I.size _ (List.replicate n x) w3 HT3.out (HRl.out _ hB) HRi.out HRz.out)
    rw [HEn.out] at HS3
    clear hB HB2 HT2
    go_wp2_with fail
    refine HS3.out.mono ?_
    rintro e w4 ⟨rfl, hB⟩
    have HB4 := Lib.hid (HB3.out.trans (hB.mono HB3.out.size))
    have HT4 := Lib.hid (I.below HT3.out hB)
    have HS4 := Lib.hid (I.size _ l w4 HT4.out (HL.out.below HB4.out) HO.out (by have := HN.out; omega))
    have HLe : Hid ((encV l).length ≤ 78 * l.length) := encV_len l
    have HMo : Hid ((encV l).length ≤ (encV (l ++ l)).length) := encV_mono l l
    have HLe2 : Hid ((encV (l ++ l)).length ≤ 46800) := by show _ ≤ _; have := encV_len (l ++ l); have := HN.out; rw [List.length_append] at *; omega
    clear hB HB3 HT3 HS3
    have hle : ((encV l).length : Int) ≤ 78 * (l.length : Int) := by have := HLe.out; omega
    generalize hL1 : (encV l).length = L1 at *
    have HL1 := Lib.hid hL1
    clear hL1
    go_wp2_with fail
    refine HS4.out.mono ?_
    rintro e w5 ⟨rfl, hB⟩
    have HB5 := Lib.hid (HB4.out.trans (hB.mono HB4.out.size))
    have HT5 := Lib.hid (I.below HT4.out hB)
    have HCl := Lib.hid (clone_u64 _ l w5 (HL.out.below HB5.out) (by have := HN.out; omega))
    clear hB HB4 HT4 HS4
    go_wp2_with fail
    refine HCl.out.mono ?_
    rintro e w6 ⟨r6, rfl, hM⟩
    have HB6 := Lib.hid (HB5.out.trans (hM.2.mono HB5.out.size))
    have HT6 := Lib.hid (I.below HT5.out hM.2)
    have HM6 := Lib.hid hM.1
    obtain ⟨p6, c6, hv⟩ := (Rd.of_owns hM.1).shape
    subst hv
    have H56 : Hid (w.heap.size ≤ w5.heap.size) := HB5.out.size
    have HLr := Lib.hid (HL.out.below HB6.out)
    have HLb : Hid ((l.length + l.length) * 8 ≤ 140737488355328 ∧ l.length + l.length ≤ maxLen) := by show _ ∧ _; have := HN.out; unfold maxLen; omega
    clear hM HCl HB5 HT5 hle
    go_wp2_with (at_builtin; refine wpList_extend Tryd.elemU64 w6 _ _ _ _ _ _ (owns_rebase HM6.out (fun _ _ => Nat.zero_le _)) HLr.out (u64s_one l) HLb.out rfl _ _ rfl rfl rfl ?_)
    intro v7 w7 hown hmods hfr
    have HM7 : Hid (Rd w7 1 v7 (l ++ l).length (u64s (l ++ l))) := by
      show Rd _ _ _ _ _
      rw [List.length_append, u64s_append]; exact Rd.of_owns hown
    have hB7 : Below w.heap.size w6 w7 := hmods.below HB6.out.size (fun k hk e => by have := (HM6.out.lt k e).1; have := H56.out; omega)
    have HB7 := Lib.hid (HB6.out.trans hB7)
    have HT7 := Lib.hid (I.below HT.out HB7.out)
    have HS7 := Lib.hid (I.size _ (l ++ l) w7 HT7.out HM7.out (fun t ht => by rcases List.mem_append.1 ht with h | h <;> exact HO.out t h) (by have := HN.out; rw [List.length_append]; omega))
    obtain ⟨p7, c7, hv⟩ := (Rd.of_owns hown).shape
    subst hv
    clear hown hmods hfr hB7 HB6 HT6 HM6 HLr HLb
    go_wp2_with fail
    refine HS7.out.mono ?_
    rintro e w8 ⟨rfl, hB⟩
    have HB8 := Lib.hid (HB7.out.trans (hB.mono HB7.out.size))
    have HT8 := Lib.hid (I.below HT7.out hB)
    have HS8 := Lib.hid (I.size _ l w8 HT8.out (HL.out.below HB8.out) HO.out (by have := HN.out; omega))
    rw [HL1.out] at HS8
    clear hB HB7 HT7 HS7
    have hmo : (L1 : Int) ≤ ((encV (l ++ l)).length : Int) := by have := HMo.out; omega
    generalize (encV (l ++ l)).length = L2 at *
    go_wp2_with fail
    refine HS8.out.mono ?_
    rintro e w9 ⟨rfl, hB⟩
    have HB9 := Lib.hid (HB8.out.trans (hB.mono HB8.out.size))
    clear hB HB8 HT8 HS8
    go_wp2_with fail
    go_ret
    exact ⟨rfl, HB9.out⟩
end Go.Proofs.YtnhopiggknfimaaDoor.xorvalSizes
