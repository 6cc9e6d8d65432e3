/- Layer 11: LabelsCheck, walked over the interface. -/
import Derived.Test.YtpgdedehhaibmaaMrg2
import Derived.Test.YtpgdedehhaibmaaMrg4
set_option linter.unusedVariables false
namespace Go.Proofs.Ytpgdedehhaibmaa.labelsCheck
open Go Go.RowKit
variable {G : Nat} {T : World → Prop}

set_option maxRecDepth 20000 in
set_option maxHeartbeats 8000000 in
theorem walk (I : LaIf G T) (hal : ∀ w, T w → Calls Try.prog 10 #[] w fun e w' => e = .returned (.bool true) ∧ Below w.heap.size w w')
    (w : World) (hT : T w) (lv : Value) (l : List Lab) (okl : LabSized l) (hl : Rd w 2 lv l.length (labCells l)) :
    Calls Try.prog 3 #[lv] w fun e w' => e = .returned (.bool true) ∧ Below w.heap.size w w' := by
  have HT := Lib.hid hT; have HAL := Lib.hid hal
  have HLl := Lib.hid hl; have HSl := Lib.hid okl
  obtain ⟨pl, cl, hv⟩ := hl.shape
  subst hv
  clear hT hal hl okl
  go_enter Try.func3, Try.ntmps3
  go_wp2_with fail
  refine (large11 _ l w HLl.out HSl.out).mono ?_
  rintro e w1 ⟨he, hB⟩
  have HB1 := Lib.hid hB
  have HT1 := Lib.hid (I.below HT.out hB)
  have K1l := Lib.hid (HLl.out.below hB)
  clear HT HLl hB
  rcases he with rfl | ⟨rfl, hnl, _⟩
  · go_wp2_with fail
    refine (HAL.out _ HT1.out).mono ?_
    rintro e wz ⟨rfl, hB⟩
    have HBz := Lib.hid (HB1.out.trans (hB.mono HB1.out.size))
    go_wp2_with fail
    go_ret
    exact ⟨rfl, HBz.out⟩
  · have HNl : Hid (l.length ≤ 200) := hnl
    clear hnl
    have HC := Lib.hid (checkL_le l)
    go_wp2_with fail
    refine (HAL.out _ HT1.out).mono ?_
    rintro e w2 ⟨rfl, hB⟩
    have HB2 := Lib.hid (HB1.out.trans (hB.mono HB1.out.size))
    have HT2 := Lib.hid (I.below HT1.out hB)
    have K2l := Lib.hid (K1l.out.below hB)
    clear HB1 HT1 K1l hB
    go_wp2_with fail
    refine (I.check _ l w2 HT2.out K2l.out HSl.out (by have := HNl.out; omega)).mono ?_
    rintro e w3 ⟨rfl, hB⟩
    have HB3 := Lib.hid (HB2.out.trans (hB.mono HB2.out.size))
    have HT3 := Lib.hid (I.below HT2.out hB)
    have K3l := Lib.hid (K2l.out.below hB)
    clear HB2 HT2 K2l hB
    have HR := Lib.hid (ref_check11 _ l w3 K3l.out HSl.out (by have := HNl.out; omega))
    have hci : (checkL l : Int) ≤ 18 := by have := HC.out; omega
    generalize checkL l = c at *
    go_wp2_with fail
    refine (HR.out).mono ?_
    rintro e w4 ⟨rfl, hB⟩
    have HB4 := Lib.hid (HB3.out.trans (hB.mono HB3.out.size))
    have HT4 := Lib.hid (I.below HT3.out hB)
    have K4l := Lib.hid (K3l.out.below hB)
    clear HB3 HT3 K3l hB
    go_wp2_with fail
    go_ret
    exact ⟨rfl, HB4.out⟩
end Go.Proofs.Ytpgdedehhaibmaa.labelsCheck
