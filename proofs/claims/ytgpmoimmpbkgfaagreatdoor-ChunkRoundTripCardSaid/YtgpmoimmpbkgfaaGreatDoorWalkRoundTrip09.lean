/- Layer 9: ChunkRoundTrip, walked over the interface. -/
import Derived.Test.YtgpmoimmpbkgfaaGreatDoorMrg3
set_option linter.unusedVariables false
set_option maxRecDepth 20000
namespace Go.Proofs.YtgpmoimmpbkgfaaGreatDoor.chunkRoundTrip
open Go Go.RowKit
variable {G : Nat} {T : World → Prop}

theorem encC_byte (l : List (Int × Nat)) : ∀ x ∈ (encC l).1, x < 256 := by
  rw [encC]
  split
  · intro x hx; cases hx
  · split
    · intro x hx; cases hx
    · next h =>
      intro x hx
      rcases List.mem_cons.1 hx with e | hx
      · rcases choose_tag (valuesC l) with h | h | h <;> omega
      · rcases List.mem_cons.1 hx with e | hx
        · omega
        · exact pack_lt _ x hx
theorem encC_len (l : List (Int × Nat)) : (encC l).1.length ≤ 100000 := by
  rw [encC]
  split
  · simp
  · split
    · simp
    · next h =>
      have h1 := bitsC_len (chooseC (valuesC l)) (valuesC l)
      have h2 := encT_len (timesC l)
      have e1 : (timesC l).length = l.length := by simp [timesC]
      have e2 : (valuesC l).length = l.length := by simp [valuesC]
      rw [List.length_cons, List.length_cons, pack_length, List.length_append]
      omega

set_option maxHeartbeats 4000000 in
theorem walk (I : CIf G T) (hal : ∀ w, T w → Calls Tryz.prog 9 #[] w fun e w' => e = .returned (.bool true) ∧ Below w.heap.size w w')
    (w : World) (hT : T w) (lv : Value) (l : List (Int × Nat)) (ok : ∀ s ∈ l, sampleOk s) (hl : Rd w 2 lv l.length (samCells l)) :
    Calls Tryz.prog 6 #[lv] w fun e w' => e = .returned (.bool true) ∧ Below w.heap.size w w' := by
  have HT := Lib.hid hT; have HL := Lib.hid hl; have HO := Lib.hid ok; have HAL := Lib.hid hal
  obtain ⟨pl, cl, hv⟩ := hl.shape
  subst hv
  clear hT hl ok hal
  by_cases hlt : 2000 < l.length
  · have hlt' : (2000 : Int) < (l.length : Int) := by omega
    go_enter Tryz.func6, Tryz.ntmps6
    go_wp2_with fail
    refine (HAL.out _ HT.out).mono ?_
    rintro e w1 ⟨rfl, hB⟩
    go_wp2_with fail
    go_ret
    exact ⟨rfl, hB⟩
  · have hlt' : ¬ (2000 : Int) < (l.length : Int) := by omega
    have HN : Hid (l.length ≤ 2000) := by show _ ≤ _; omega
    have HEn := Lib.hid (I.encode _ l w HT.out HL.out HO.out (by omega))
    clear hlt
    by_cases h0 : l.length = 0
    · have hz : (l.length : Int) = 0 := by omega
      have he : encC l = ([], 21) := by rw [encC, if_pos (List.eq_nil_of_length_eq_zero h0)]
      rw [he] at HEn
      clear h0 he
      go_enter Tryz.func6, Tryz.ntmps6
      go_wp2_with fail
      refine HEn.out.mono ?_
      rintro e w1 ⟨r1, rfl, hr, hB⟩
      have HB1 := Lib.hid hB
      have HT1 := Lib.hid (I.below HT.out hB)
      obtain ⟨p1, c1, hv1⟩ : ∃ p c, r1 = .slice p 0 c := hr.shape
      subst hv1
      clear hr hB HEn
      go_wp2_with fail
      refine (HAL.out _ HT1.out).mono ?_
      rintro e w2 ⟨rfl, hB⟩
      have HB2 := Lib.hid (HB1.out.trans (hB.mono HB1.out.size))
      go_wp2_with fail
      go_ret
      exact ⟨rfl, HB2.out⟩
    · have hz : ¬ (l.length : Int) = 0 := by omega
      have hzb : ((l.length : Int) == 0) = false := by rw [beq_eq_false_iff_ne]; exact hz
      have hne : l ≠ [] := fun e => h0 (by rw [e]; rfl)
      by_cases h120 : 120 < l.length
      · have h120' : (120 : Int) < (l.length : Int) := by omega
        have he : encC l = ([], 7) := by rw [encC, if_neg hne, if_pos h120]
        rw [he] at HEn
        clear h0 he hne h120
        go_enter Tryz.func6, Tryz.ntmps6
        go_wp2_with fail
        refine HEn.out.mono ?_
        rintro e w1 ⟨r1, rfl, hr, hB⟩
        have HB1 := Lib.hid hB
        have HT1 := Lib.hid (I.below HT.out hB)
        obtain ⟨p1, c1, hv1⟩ : ∃ p c, r1 = .slice p 0 c := hr.shape
        subst hv1
        clear hr hB HEn
        go_wp2_with fail
        refine (HAL.out _ HT1.out).mono ?_
        rintro e w2 ⟨rfl, hB⟩
        have HB2 := Lib.hid (HB1.out.trans (hB.mono HB1.out.size))
        go_wp2_with fail
        go_ret
        exact ⟨rfl, HB2.out⟩
      · have h120' : ¬ (120 : Int) < (l.length : Int) := by omega
        have he : (encC l).2 = 0 := by rw [encC, if_neg hne, if_neg h120]
        have HDc := Lib.hid (decC_back l hne (by omega) HO.out)
        have HBy := Lib.hid (encC_byte l)
        have HEl := Lib.hid (encC_len l)
        rw [he] at HEn
        clear h0 he hne h120
        generalize (encC l).1 = E at *
        go_enter Tryz.func6, Tryz.ntmps6
        go_wp2_with fail
        refine HEn.out.mono ?_
        rintro e w1 ⟨r1, rfl, hr, hB⟩
        have HB1 := Lib.hid hB
        have HT1 := Lib.hid (I.below HT.out hB)
        have HDe := Lib.hid (I.decode _ E w1 HT1.out hr HBy.out (by have := HEl.out; omega))
        rw [HDc.out] at HDe
        obtain ⟨p1, c1, hv1⟩ := hr.shape
        subst hv1
        clear hr hB HEn
        go_wp2_with fail
        refine HDe.out.mono ?_
        rintro e w2 ⟨r2, rfl, hr, hB⟩
        have HB2 := Lib.hid (HB1.out.trans (hB.mono HB1.out.size))
        have HT2 := Lib.hid (I.below HT1.out hB)
        have HM2 : Hid (Rd w2 2 r2 l.length (samCells l)) := hr
        obtain ⟨p2, c2, hv2⟩ : ∃ p c, r2 = .slice p l.length c := hr.shape
        subst hv2
        clear hr hB HDe HB1 HT1
        go_wp2_with fail
        refine (HAL.out _ HT2.out).mono ?_
        rintro e w3 ⟨rfl, hB⟩
        have HB3 := Lib.hid (HB2.out.trans (hB.mono HB2.out.size))
        have HM3 := Lib.hid (HM2.out.below hB)
        have HL3 := Lib.hid (HL.out.below HB3.out)
        clear hB HB2 HM2
        go_wp2_with fail
        refine (equal_sam _ _ l w3 (by have := HN.out; omega) HL3.out HM3.out).mono ?_
        rintro e w4 ⟨rfl, hB⟩
        have HB4 := Lib.hid (HB3.out.trans (hB.mono HB3.out.size))
        go_wp2_with fail
        go_ret
        exact ⟨rfl, HB4.out⟩
end Go.Proofs.YtgpmoimmpbkgfaaGreatDoor.chunkRoundTrip
