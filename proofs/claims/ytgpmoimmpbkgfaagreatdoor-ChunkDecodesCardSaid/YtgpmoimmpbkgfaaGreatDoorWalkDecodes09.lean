/- Layer 9: ChunkDecodes, walked over the interface. -/
import Derived.Test.YtgpmoimmpbkgfaaGreatDoorMrg3
import Derived.Test.YtgpmoimmpbkgfaaGreatDoorMrg19
set_option linter.unusedVariables false
set_option maxRecDepth 20000
namespace Go.Proofs.YtgpmoimmpbkgfaaGreatDoor.chunkDecodes
open Go Go.RowKit
variable {G : Nat} {T : World → Prop}


set_option maxHeartbeats 4000000 in
theorem walk (I : CIf G T) (hal : ∀ w, T w → Calls Tryz.prog 9 #[] w fun e w' => e = .returned (.bool true) ∧ Below w.heap.size w w')
    (w : World) (hT : T w) (bv : Value) (b : List Nat) (ok : ∀ x ∈ b, x < 256) (hb : Rd w 1 bv b.length (u8s b)) :
    Calls Tryz.prog 5 #[bv] w fun e w' => e = .returned (.bool true) ∧ Below w.heap.size w w' := by
  have HT := Lib.hid hT; have HL := Lib.hid hb; have HO := Lib.hid ok; have HAL := Lib.hid hal
  obtain ⟨pl, cl, hv⟩ := hb.shape
  subst hv
  clear hT hb ok hal
  by_cases hlt : 2000 < b.length
  · have hlt' : (2000 : Int) < (b.length : Int) := by omega
    go_enter Tryz.func5, Tryz.ntmps5
    go_wp2_with fail
    refine (HAL.out _ HT.out).mono ?_
    rintro e w1 ⟨rfl, hB⟩
    go_wp2_with fail
    go_ret
    exact ⟨rfl, hB⟩
  · have hlt' : ¬ (2000 : Int) < (b.length : Int) := by omega
    have HDe := Lib.hid (I.decode _ b w HT.out HL.out HO.out (by omega))
    have HRe : Hid (∀ w2, Below w.heap.size w w2 → Calls Tryz.prog 20 #[.slice pl b.length cl] w2 (DecPost w2 (decC b))) := fun w2 hb => ref_decode09 _ b w2 (HL.out.below hb) HO.out (by omega)
    have HLen : Hid ((decC b).1.length ≤ 120) := by
      show _ ≤ _
      by_cases h : (decC b).2 = 0
      · exact (decC_inv b HO.out h).2.2.1
      · rw [decC_nil b h]; simp
    unfold DecPost at HRe
    clear hlt
    generalize (decC b).1 = l at *
    generalize (decC b).2 = en at *
    go_enter Tryz.func5, Tryz.ntmps5
    go_wp2_with fail
    refine HDe.out.mono ?_
    rintro e w2 ⟨r2, rfl, hr, hB⟩
    have HB2 := Lib.hid hB
    have HT2 := Lib.hid (I.below HT.out hB)
    have HM2 := Lib.hid hr
    obtain ⟨p2, c2, hv2⟩ := hr.shape
    subst hv2
    clear hr hB HDe
    go_wp2_with fail
    refine (HRe.out _ HB2.out).mono ?_
    rintro e w3 ⟨r3, rfl, hr, hB⟩
    have HB3 := Lib.hid (HB2.out.trans (hB.mono HB2.out.size))
    have HT3 := Lib.hid (I.below HT2.out hB)
    have HM3 := Lib.hid (HM2.out.below hB)
    have HR3 := Lib.hid hr
    obtain ⟨p3, c3, hv3⟩ := hr.shape
    subst hv3
    clear hr hB HRe HB2 HT2 HM2
    go_wp2_with fail
    refine (HAL.out _ HT3.out).mono ?_
    rintro e w4 ⟨rfl, hB⟩
    have HB4 := Lib.hid (HB3.out.trans (hB.mono HB3.out.size))
    have HM4 := Lib.hid (HM3.out.below hB)
    have HR4 := Lib.hid (HR3.out.below hB)
    clear hB HB3 HT3 HM3 HR3
    go_wp2_with fail
    refine (equal_sam _ _ l w4 (by have := HLen.out; omega) HM4.out HR4.out).mono ?_
    rintro e w6 ⟨rfl, hB⟩
    have HB6 := Lib.hid (HB4.out.trans (hB.mono HB4.out.size))
    go_wp2_with fail
    go_ret
    exact ⟨rfl, HB6.out⟩
end Go.Proofs.YtgpmoimmpbkgfaaGreatDoor.chunkDecodes
