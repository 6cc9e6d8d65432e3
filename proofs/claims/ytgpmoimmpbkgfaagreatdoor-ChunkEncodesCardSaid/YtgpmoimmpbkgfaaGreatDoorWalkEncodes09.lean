/- Layer 9: ChunkEncodes, walked over the interface. -/
import Derived.Test.YtgpmoimmpbkgfaaGreatDoorMrg3
import Derived.Test.YtgpmoimmpbkgfaaGreatDoorMrg15
import Derived.Test.YtgpmoimmpbkgfaaGreatDoorMrg17
set_option linter.unusedVariables false
set_option maxRecDepth 20000
namespace Go.Proofs.YtgpmoimmpbkgfaaGreatDoor.chunkEncodes
open Go Go.RowKit
variable {G : Nat} {T : World → Prop}

theorem encC_byte (l : List (Int × Nat)) : ∀ x ∈ (encC l).1, x < 256 := by
  rw [encC]
  split
  · intro x hx; cases hx
  · split
    · intro x hx; cases hx
    · next h =>
      intro x hx
      rcases List.mem_cons.1 hx with e | hx
      · rcases choose_tag (valuesC l) with h | h | h <;> omega
      · rcases List.mem_cons.1 hx with e | hx
        · omega
        · exact pack_lt _ x hx

theorem encC_err (l : List (Int × Nat)) : (encC l).2 ≤ 21 := by
  rw [encC]
  split
  · exact Nat.le_refl _
  · split <;> simp

set_option maxHeartbeats 4000000 in
theorem walk (I : CIf G T) (hal : ∀ w, T w → Calls Tryz.prog 9 #[] w fun e w' => e = .returned (.bool true) ∧ Below w.heap.size w w')
    (w : World) (hT : T w) (lv : Value) (l : List (Int × Nat)) (ok : ∀ s ∈ l, sampleOk s) (hl : Rd w 2 lv l.length (samCells l)) :
    Calls Tryz.prog 4 #[lv] w fun e w' => e = .returned (.bool true) ∧ Below w.heap.size w w' := by
  have HT := Lib.hid hT; have HL := Lib.hid hl; have HO := Lib.hid ok; have HAL := Lib.hid hal
  obtain ⟨pl, cl, hv⟩ := hl.shape
  subst hv
  clear hT hl ok hal
  by_cases hlt : 2000 < l.length
  · have hlt' : (2000 : Int) < (l.length : Int) := by omega
    go_enter Tryz.func4, Tryz.ntmps4
    go_wp2_with fail
    refine (HAL.out _ HT.out).mono ?_
    rintro e w1 ⟨rfl, hB⟩
    go_wp2_with fail
    go_ret
    exact ⟨rfl, hB⟩
  · have hlt' : ¬ (2000 : Int) < (l.length : Int) := by omega
    have HN : Hid (l.length ≤ 2000) := by show _ ≤ _; omega
    have HBy := Lib.hid (encC_byte l)
    have hen := encC_err l
    clear hlt
    go_enter Tryz.func4, Tryz.ntmps4
    go_wp2_with fail
    refine (clone_sam _ l w HL.out (by have := HN.out; omega)).mono ?_
    rintro e w1 ⟨r1, rfl, hM⟩
    have HB1 := Lib.hid hM.2
    have HC1 := Lib.hid (Rd.of_owns hM.1)
    have HT1 := Lib.hid (I.below HT.out hM.2)
    obtain ⟨p1, c1, hv1⟩ := (Rd.of_owns hM.1).shape
    subst hv1
    have HEn := Lib.hid (I.encode _ l w1 HT1.out (HL.out.below hM.2) HO.out (by have := HN.out; omega))
    have HRe : Hid (∀ w2, Below w.heap.size w w2 → Calls Tryz.prog 16 #[.slice pl l.length cl] w2 fun e w' => ∃ r, e = .returned (.tuple #[r, .int .i64 ((encC l).2 : Int)]) ∧ Rd w' 1 r (encC l).1.length (u8s (encC l).1) ∧ Below w2.heap.size w2 w') := fun w2 hb => ref_encode09 _ l w2 (HL.out.below hb) HO.out (by have := HN.out; omega)
    clear hM
    generalize (encC l).1 = E at *
    generalize (encC l).2 = en at *
    have hei : (en : Int) ≤ 21 := by omega
    go_wp2_with fail
    refine HEn.out.mono ?_
    rintro e w2 ⟨r2, rfl, hr, hB⟩
    have HB2 := Lib.hid (HB1.out.trans (hB.mono HB1.out.size))
    have HT2 := Lib.hid (I.below HT1.out hB)
    have HC2 := Lib.hid (HC1.out.below hB)
    have HE2 := Lib.hid hr
    obtain ⟨p2, c2, hv2⟩ := hr.shape
    subst hv2
    clear hr hB HEn HB1 HT1 HC1
    go_wp2_with fail
    refine (HRe.out _ HB2.out).mono ?_
    rintro e w3 ⟨r3, rfl, hr, hB⟩
    have HB3 := Lib.hid (HB2.out.trans (hB.mono HB2.out.size))
    have HT3 := Lib.hid (I.below HT2.out hB)
    have HC3 := Lib.hid (HC2.out.below hB)
    have HE3 := Lib.hid (HE2.out.below hB)
    have HF3 := Lib.hid hr
    obtain ⟨p3, c3, hv3⟩ := hr.shape
    subst hv3
    clear hr hB HRe HB2 HT2 HC2 HE2
    go_wp2_with fail
    refine (HAL.out _ HT3.out).mono ?_
    rintro e w4 ⟨rfl, hB⟩
    have HB4 := Lib.hid (HB3.out.trans (hB.mono HB3.out.size))
    have HC4 := Lib.hid (HC3.out.below hB)
    have HE4 := Lib.hid (HE3.out.below hB)
    have HF4 := Lib.hid (HF3.out.below hB)
    clear hB HB3 HT3 HC3 HE3 HF3
    go_wp2_with fail
    refine (equal_any _ _ _ _ _ _ _ HE4.out HF4.out HBy.out HBy.out).mono ?_
    rintro e w5 ⟨rfl, rfl⟩
    have hd : decide (E = E) = true := by simp
    rw [hd]
    have HL4 := Lib.hid (HL.out.below HB4.out)
    clear hd HE4 HF4
    go_wp2_with fail
    refine (equal_sam _ _ l w4 (by have := HN.out; omega) HL4.out HC4.out).mono ?_
    rintro e w6 ⟨rfl, hB⟩
    have HB6 := Lib.hid (HB4.out.trans (hB.mono HB4.out.size))
    go_wp2_with fail
    go_ret
    exact ⟨rfl, HB6.out⟩
end Go.Proofs.YtgpmoimmpbkgfaaGreatDoor.chunkEncodes
