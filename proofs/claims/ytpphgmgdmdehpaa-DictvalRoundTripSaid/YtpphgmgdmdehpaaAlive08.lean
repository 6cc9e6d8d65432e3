/- Layer 8: the example of the chapter, over the interface. -/
import Derived.Test.YtpphgmgdmdehpaaBitioLen
import Derived.Test.YtpphgmgdmdehpaaDictI
set_option linter.unusedVariables false
namespace Go.Proofs.Ytpphgmgdmdehpaa
open Go Go.RowKit
variable {G : Nat} {T : World → Prop}

theorem enc_sixD : (encD [9, 7, 9]).length = 138 := by decide +kernel
theorem ok_sixD : okD [9, 7, 9] = true := by decide +kernel
theorem dict_sixD : dictD [9, 7, 9] = [7, 9] := by decide +kernel
theorem size_sixD : sizeD [9, 7, 9] = 138 := by rw [sizeD, if_pos ok_sixD, enc_sixD]; rfl
theorem in_sixD : ∀ t ∈ ([9, 7, 9] : List Nat), in64u t := by
  intro t ht
  simp only [List.mem_cons, List.not_mem_nil, or_false] at ht
  rcases ht with rfl | rfl | rfl <;> (unfold in64u; omega)
theorem back_sixD : ∃ z : List Bool, decD 3 (unpack (pack (encD [9, 7, 9]))) = ⟨0, [9, 7, 9], z⟩ := by
  rw [unpack_pack]
  exact ⟨_, decD_back [9, 7, 9] _ in_sixD (by decide +kernel)⟩
theorem lit_sixD (w : World) : Rd (w.alloc (.cells #[.int .u64 9, .int .u64 7, .int .u64 9] 25)) 1 (.slice (some ⟨w.heap.size, 0, none⟩) 3 3) ([9, 7, 9] : List Nat).length (u64s [9, 7, 9]) :=
  Rd.of_owns (World.ownsRow_lit (base := 0) w #[.int .u64 9, .int .u64 7, .int .u64 9] 3 (Nat.zero_le _) (by simp [maxLen]) (by simp))

set_option maxHeartbeats 2000000 in
theorem alive_ofD (I : DIf G T) (w : World) (hT : T w) : Calls Try.prog 9 #[] w fun e w' => e = .returned (.bool true) ∧ Below w.heap.size w w' := by
  have HT := Lib.hid hT
  have HE4 := Lib.hid enc_sixD
  clear hT
  go_enter Try.func9, Try.ntmps9
  go_wp2_with fail
  refine (new_writer _).mono ?_
  rintro e w1 ⟨rfl, hW, hB⟩
  have HW1 := Lib.hid (WrD.new I HT.out hW hB)
  have HBb : Hid (Below w1.heap.size w1 (w1.alloc (.cells #[.int .u64 9, .int .u64 7, .int .u64 9] 25))) := (Below.refl _ _).alloc (Nat.le_refl _) _
  have HB1 := Lib.hid (hB.trans (HBb.out.mono hB.size))
  have HL1 := Lib.hid (lit_sixD w1)
  have HWb := Lib.hid (HW1.out.below I HBb.out)
  have HPl : Hid (w.heap.size < w1.heap.size) := hW.blk.lt
  have HPut := Lib.hid (I.put w.heap.size (.slice none 0 0) (.slice (some ⟨w1.heap.size, 0, none⟩) 3 3) [] [9, 7, 9] _ HWb.out.tab HWb.out.wr (Nat.le_trans HWb.out.low HWb.out.far) (fun k e => by cases e) HL1.out in_sixD (fun _ k hk => ⟨by have h : w1.heap.size = k := Option.some.inj hk; have := HPl.out; omega, fun e => by cases e⟩) (by simp) (by simp))
  rw [List.nil_append, putD_ok ok_sixD, ok_sixD, if_pos rfl] at HPut
  clear hW hB HW1 HBb
  go_wp2_with fail
  refine HPut.out.mono ?_
  rintro e w2 ⟨rfl, v2, hW, hU⟩
  obtain ⟨h1, h2⟩ := HWb.out.step I hW hU
  have HW2 := Lib.hid h1
  have HB2 := Lib.hid (HB1.out.trans h2)
  have HSm : Hid ((pack (encD [9, 7, 9])).length ≤ 140737488355328 ∧ (pack (encD [9, 7, 9])).length ≤ 8796093022200) := by show _ ∧ _; rw [pack_length, HE4.out]; omega
  obtain ⟨z, hz⟩ := back_sixD
  have HZ := Lib.hid hz
  have HX : Hid ((encD [9, 7, 9]).length ≤ 1125899906842624) := by show _ ≤ _; rw [HE4.out]; omega
  clear h1 h2 hW hU HPut HWb HL1 HB1 hz
  generalize encD [9, 7, 9] = E at *
  go_wp2_with fail
  refine (wbytes _ _ _ _ HW2.out.wr HX.out).mono ?_
  rintro e w3 ⟨r3, rfl, hM⟩
  have HW3 := Lib.hid (HW2.out.below I hM.2)
  have HB3 := Lib.hid (HB2.out.trans (hM.2.mono HB2.out.size))
  have HR3 := Lib.hid (Rd.of_owns hM.1)
  clear hM HW2 HB2
  go_wp2_with fail
  refine (new_reader _ (pack E) w3 HR3.out HSm.out.1 (pack_lt _)).mono ?_
  rintro e w4 ⟨rp, rv, rfl, hR, hB, hrp, hrv⟩
  have HW4 := Lib.hid (HW3.out.below I hB)
  have HB4 := Lib.hid (HB3.out.trans (hB.mono HB3.out.size))
  have HRp : Hid (w3.heap.size ≤ rp) := hrp
  have HPlt : Hid (w.heap.size < w3.heap.size ∧ ∀ k, v2.ownBlock = some k → k < w3.heap.size) := ⟨HW3.out.wr.blk.lt, owns_lt HW3.out.wr.own⟩
  have HGet := Lib.hid (I.get rp rv 0 3 (pack E) w4 HW4.out.tab hR (by have := HW4.out.low; have := HPlt.out.1; omega) (by omega) HSm.out.2)
  rw [List.drop_zero, HZ.out] at HGet
  clear hR hB hrp hrv HW3 HB3 HR3
  go_wp2_with fail
  refine HGet.out.mono ?_
  rintro e w5 ⟨⟨r5, rfl, hr5, _⟩, hq⟩
  have HW5 := Lib.hid (HW4.out.mods I hq.mods (fun e => by have := HRp.out; have := HPlt.out.1; omega) (fun k hk e => by have := HRp.out; have := HPlt.out.2 k hk; omega) (fun k hk e => by have := HW4.out.low; have := HRp.out; have := HPlt.out.1; omega))
  have HB5 : Hid (Below w.heap.size w w5) := HB4.out.trans (hq.mods.below HB4.out.size (fun k hk e => by have := HRp.out; have := HPlt.out.1; omega))
  have HL5 : Hid (Rd w5 1 r5 ([9, 7, 9] : List Nat).length (u64s [9, 7, 9])) := hr5
  obtain ⟨q5, c5, hv⟩ : ∃ p c, r5 = .slice p 3 c := hr5.shape
  subst hv
  clear hr5 hq HGet HW4 HB4
  have hlw := wlen w.heap.size v2 E w5 HW5.out.wr
  rw [HE4.out] at hlw
  have HLw := Lib.hid hlw
  clear hlw
  go_wp2_with fail
  refine HLw.out.mono ?_
  rintro e w6 ⟨rfl, rfl⟩
  have HB6 : Hid (Below w.heap.size w (w5.alloc (.cells #[.int .u64 9, .int .u64 7, .int .u64 9] 25))) := HB5.out.alloc HB5.out.size _
  have hbz : Below w5.heap.size w5 (w5.alloc (.cells #[.int .u64 9, .int .u64 7, .int .u64 9] 25)) := (Below.refl _ _).alloc (Nat.le_refl _) _
  have HT6 := Lib.hid (I.below HW5.out.tab hbz)
  have HL6 := Lib.hid (HL5.out.below hbz)
  have HK6 := Lib.hid (lit_sixD w5)
  clear HW5 HB5 HL5 HLw hbz
  go_wp2_with fail
  generalize w5.alloc (.cells #[.int .u64 9, .int .u64 7, .int .u64 9] 25) = w6 at *
  refine (equal_u64 _ _ [9, 7, 9] [9, 7, 9] w6 HL6.out HK6.out).mono ?_
  rintro e w7 ⟨rfl, hB⟩
  have hd : decide (([9, 7, 9] : List Nat) = [9, 7, 9]) = true := by decide
  rw [hd]
  have HB7 := Lib.hid (HB6.out.trans (hB.mono HB6.out.size))
  have HT7 := Lib.hid (I.below HT6.out hB)
  have HL7 := Lib.hid (HL6.out.below hB)
  have HS7 : Hid (∀ w9, T w9 → Rd w9 1 (.slice q5 3 c5) ([9, 7, 9] : List Nat).length (u64s [9, 7, 9]) → Calls Try.prog 24 #[.slice q5 3 c5] w9 fun e w' => e = .returned (.int .i64 138) ∧ Below w9.heap.size w9 w') := fun w9 hT hL => by
    have h := I.size _ [9, 7, 9] w9 hT hL in_sixD (by simp)
    rw [size_sixD] at h
    exact h
  clear hB hd HB6 HT6 HL6 HK6
  go_wp2_with fail
  refine (HS7.out _ HT7.out HL7.out).mono ?_
  rintro e w8 ⟨rfl, hB⟩
  have HB8 := Lib.hid (HB7.out.trans (hB.mono HB7.out.size))
  have HT8 := Lib.hid (I.below HT7.out hB)
  have HL8 := Lib.hid (HL7.out.below hB)
  have hdc := I.dict _ [9, 7, 9] w8 HT8.out HL8.out in_sixD (by simp)
  rw [dict_sixD] at hdc
  have HDc := Lib.hid hdc
  clear hB HB7 HT7 HL7 HS7 hdc
  go_wp2_with fail
  refine HDc.out.mono ?_
  rintro e w9 ⟨r9, rfl, hM⟩
  have HB9 := Lib.hid (HB8.out.trans (hM.2.mono HB8.out.size))
  have HT9 := Lib.hid (I.below HT8.out hM.2)
  have HL9 : Hid (Rd w9 1 r9 ([7, 9] : List Nat).length (u64s [7, 9])) := Rd.of_owns hM.1
  obtain ⟨q9, c9, hv⟩ : ∃ p c, r9 = .slice p 2 c := HL9.out.shape
  subst hv
  have HB10 : Hid (Below w.heap.size w (w9.alloc (.cells #[.int .u64 7, .int .u64 9] 25))) := HB9.out.alloc HB9.out.size _
  have hbz : Below w9.heap.size w9 (w9.alloc (.cells #[.int .u64 7, .int .u64 9] 25)) := (Below.refl _ _).alloc (Nat.le_refl _) _
  have HT10 := Lib.hid (I.below HT9.out hbz)
  have HL10 := Lib.hid (HL9.out.below hbz)
  have HK10 : Hid (Rd (w9.alloc (.cells #[.int .u64 7, .int .u64 9] 25)) 1 (.slice (some ⟨w9.heap.size, 0, none⟩) 2 2) ([7, 9] : List Nat).length (u64s [7, 9])) :=
    Rd.of_owns (World.ownsRow_lit (base := 0) w9 #[.int .u64 7, .int .u64 9] 2 (Nat.zero_le _) (by simp [maxLen]) (by simp))
  clear hM HDc HB8 HT8 HL8 HB9 HT9 HL9 hbz
  go_wp2_with fail
  generalize w9.alloc (.cells #[.int .u64 7, .int .u64 9] 25) = w10 at *
  refine (equal_u64 _ _ [7, 9] [7, 9] w10 HL10.out HK10.out).mono ?_
  rintro e w11 ⟨rfl, hB⟩
  have hd : decide (([7, 9] : List Nat) = [7, 9]) = true := by decide
  rw [hd]
  have HB11 := Lib.hid (HB10.out.trans (hB.mono HB10.out.size))
  have HT11 := Lib.hid (I.below HT10.out hB)
  have HWd := Lib.hid (I.width 128 w11 HT11.out (by omega) (by omega))
  have HWe : Hid (widthI 128 = 7) := by show _ = _; decide +kernel
  clear hB hd HB10 HT10 HL10 HK10
  go_wp2_with fail
  refine HWd.out.mono ?_
  rintro e w12 ⟨rfl, hB⟩
  rw [HWe.out]
  have HB12 := Lib.hid (HB11.out.trans (hB.mono HB11.out.size))
  go_wp2_with fail
  go_ret
  exact ⟨rfl, HB12.out⟩
end Go.Proofs.Ytpphgmgdmdehpaa
