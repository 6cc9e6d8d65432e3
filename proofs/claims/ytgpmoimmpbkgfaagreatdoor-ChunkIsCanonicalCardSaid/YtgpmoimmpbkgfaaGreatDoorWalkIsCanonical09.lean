/- Layer 9: ChunkIsCanonical, walked over the interface. -/
import Derived.Test.YtgpmoimmpbkgfaaGreatDoorMrg3
set_option linter.unusedVariables false
set_option maxRecDepth 20000
namespace Go.Proofs.YtgpmoimmpbkgfaaGreatDoor.chunkIsCanonical
open Go Go.RowKit
variable {G : Nat} {T : World → Prop}

set_option maxHeartbeats 4000000 in
theorem walk (I : CIf G T) (hal : ∀ w, T w → Calls Tryz.prog 9 #[] w fun e w' => e = .returned (.bool true) ∧ Below w.heap.size w w')
    (w : World) (hT : T w) (bv : Value) (b : List Nat) (ok : ∀ x ∈ b, x < 256) (hb : Rd w 1 bv b.length (u8s b)) :
    Calls Tryz.prog 7 #[bv] w fun e w' => e = .returned (.bool true) ∧ Below w.heap.size w w' := by
  have HT := Lib.hid hT; have HL := Lib.hid hb; have HO := Lib.hid ok; have HAL := Lib.hid hal
  obtain ⟨pl, cl, hv⟩ := hb.shape
  subst hv
  clear hT hb ok hal
  by_cases hlt : 2000 < b.length
  · have hlt' : (2000 : Int) < (b.length : Int) := by omega
    go_enter Tryz.func7, Tryz.ntmps7
    go_wp2_with fail
    refine (HAL.out _ HT.out).mono ?_
    rintro e w1 ⟨rfl, hB⟩
    go_wp2_with fail
    go_ret
    exact ⟨rfl, hB⟩
  · have hlt' : ¬ (2000 : Int) < (b.length : Int) := by omega
    have HDe := Lib.hid (I.decode _ b w HT.out HL.out HO.out (by omega))
    have HNil := Lib.hid (decC_nil b)
    have HInv := Lib.hid (decC_inv b HO.out)
    clear hlt
    obtain ⟨l, en, hd⟩ : ∃ l en, decC b = (l, en) := ⟨_, _, rfl⟩
    rw [hd] at HDe HNil HInv
    simp only at HDe HNil HInv
    clear hd
    go_enter Tryz.func7, Tryz.ntmps7
    go_wp2_with fail
    refine HDe.out.mono ?_
    rintro e w1 ⟨r1, rfl, hr, hB⟩
    have HB1 := Lib.hid hB
    have HT1 := Lib.hid (I.below HT.out hB)
    have HM1 := Lib.hid hr
    obtain ⟨p1, c1, hv1⟩ := hr.shape
    subst hv1
    clear hr hB HDe
    by_cases he : en = 0
    · subst he
      obtain ⟨i1, i2, i3, i4⟩ := HInv.out rfl
      have HEn := Lib.hid (I.encode _ l w1 HT1.out HM1.out i4 (by omega))
      rw [i1] at HEn
      clear i1 i2 i3 i4 HInv HNil
      go_wp2_with fail
      refine HEn.out.mono ?_
      rintro e w2 ⟨r2, rfl, hr, hB⟩
      have HB2 := Lib.hid (HB1.out.trans (hB.mono HB1.out.size))
      have HT2 := Lib.hid (I.below HT1.out hB)
      have HC2 : Hid (Rd w2 1 r2 b.length (u8s b)) := hr
      obtain ⟨p2, c2, hv2⟩ : ∃ p c, r2 = .slice p b.length c := hr.shape
      subst hv2
      clear hr hB HEn HB1 HT1 HM1
      go_wp2_with fail
      refine (HAL.out _ HT2.out).mono ?_
      rintro e w3 ⟨rfl, hB⟩
      have HB3 := Lib.hid (HB2.out.trans (hB.mono HB2.out.size))
      have HC3 := Lib.hid (HC2.out.below hB)
      have HL3 := Lib.hid (HL.out.below HB3.out)
      clear hB HB2 HC2
      go_wp2_with fail
      refine (equal_any _ _ _ _ _ _ _ HL3.out HC3.out HO.out HO.out).mono ?_
      rintro e w4 ⟨rfl, rfl⟩
      have hd : decide (b = b) = true := by simp
      rw [hd]
      go_wp2_with fail
      go_ret
      exact ⟨rfl, HB3.out⟩
    · have hen : ¬ (en : Int) = 0 := by omega
      have henb : ((en : Int) == 0) = false := by rw [beq_eq_false_iff_ne]; exact hen
      have hl0 := HNil.out he
      subst hl0
      clear he HInv HNil
      go_wp2_with fail
      refine (HAL.out _ HT1.out).mono ?_
      rintro e w2 ⟨rfl, hB⟩
      have HB2 := Lib.hid (HB1.out.trans (hB.mono HB1.out.size))
      go_wp2_with fail
      go_ret
      exact ⟨rfl, HB2.out⟩
end Go.Proofs.YtgpmoimmpbkgfaaGreatDoor.chunkIsCanonical
