/- Layer 12: ModelChecks, walked over the interface. -/
import Derived.Test.YtkodhbkmpnokjaaGreatMrg3
import Derived.Test.YtkodhbkmpnokjaaGreatMrg7
import Derived.Test.YtkodhbkmpnokjaaGreatMrg8
set_option linter.unusedVariables false
namespace Go.Proofs.YtkodhbkmpnokjaaGreat.modelChecks
open Go Go.RowKit
variable {G : Nat} {T : World → Prop}

set_option maxRecDepth 20000 in
set_option maxHeartbeats 8000000 in
theorem walk (I : MoIf G T) (hal : ∀ w, T w → Calls Tryz.prog 10 #[] w fun e w' => e = .returned (.bool true) ∧ Below w.heap.size w w')
    (w : World) (hT : T w) (bv : Value) (b : List Ser) (okb : Sized b) (hb : RdB w bv b) :
    Calls Tryz.prog 3 #[bv] w fun e w' => e = .returned (.bool true) ∧ Below w.heap.size w w' := by
  have HT := Lib.hid hT; have HAL := Lib.hid hal
  have HLb := Lib.hid hb; have HSb := Lib.hid okb
  obtain ⟨pb, cb, hv⟩ := hb.shape
  subst hv
  clear hT hal hb okb
  go_enter Tryz.func3, Tryz.ntmps3
  go_wp2_with fail
  refine (large12 _ b w HLb.out HSb.out).mono ?_
  rintro e w1 ⟨he, hB⟩
  have HB1 := Lib.hid (hB)
  have HT1 := Lib.hid (I.below HT.out hB)
  have K1b := Lib.hid (HLb.out.below hB)
  clear HT HLb hB
  rcases he with rfl | ⟨rfl, hsm, _⟩
  · have := trivial
    go_wp2_with fail
    refine (HAL.out _ HT1.out).mono ?_
    rintro e wz ⟨rfl, hB⟩
    have HBz := Lib.hid (HB1.out.trans (hB.mono HB1.out.size))
    go_wp2_with fail
    go_ret
    exact ⟨rfl, HBz.out⟩
  · have Mb := Lib.hid hsm
    clear hsm
    go_wp2_with fail
    refine (HAL.out _ HT1.out).mono ?_
    rintro e w2 ⟨rfl, hB⟩
    have HB2 := Lib.hid (HB1.out.trans (hB.mono HB1.out.size))
    have HT2 := Lib.hid (I.below HT1.out hB)
    have K2b := Lib.hid (K1b.out.below hB)
    clear HT1 HB1 K1b hB
    have hci : (checkB b : Int) ≤ 21 := by have := checkB_le b; omega
    have HC := Lib.hid (I.check _ b w2 HT2.out K2b.out HSb.out Mb.out)
    have HR := Lib.hid (fun w h => ref_check12 (.slice pb b.length cb) b w h Mb.out HSb.out)
    generalize checkB b = cc at *
    go_wp2_with fail
    refine (HC.out).mono ?_
    rintro e w3 ⟨rfl, hB⟩
    have HB3 := Lib.hid (HB2.out.trans (hB.mono HB2.out.size))
    have HT3 := Lib.hid (I.below HT2.out hB)
    have K3b := Lib.hid (K2b.out.below hB)
    clear HT2 HB2 K2b hB
    go_wp2_with fail
    refine (HR.out w3 K3b.out).mono ?_
    rintro e w4 ⟨rfl, hB⟩
    have HB4 := Lib.hid (HB3.out.trans (hB.mono HB3.out.size))
    have HT4 := Lib.hid (I.below HT3.out hB)
    have K4b := Lib.hid (K3b.out.below hB)
    clear HT3 HB3 K3b hB
    go_wp2_with fail
    go_ret
    exact ⟨rfl, HB4.out⟩
end Go.Proofs.YtkodhbkmpnokjaaGreat.modelChecks
