/- Layer 12: ModelCompares, walked over the interface. -/
import Derived.Test.YtkodhbkmpnokjaaGreatMrg3
import Derived.Test.YtkodhbkmpnokjaaGreatMrg7
import Derived.Test.YtkodhbkmpnokjaaGreatMrg8
set_option linter.unusedVariables false
namespace Go.Proofs.YtkodhbkmpnokjaaGreat.modelCompares
open Go Go.RowKit
variable {G : Nat} {T : World → Prop}

set_option maxRecDepth 20000 in
set_option maxHeartbeats 8000000 in
theorem walk (I : MoIf G T) (hal : ∀ w, T w → Calls Tryz.prog 10 #[] w fun e w' => e = .returned (.bool true) ∧ Below w.heap.size w w')
    (w : World) (hT : T w) (av : Value) (a : List Ser) (oka : Sized a) (ha : RdB w av a) (bv : Value) (b : List Ser) (okb : Sized b) (hb : RdB w bv b) :
    Calls Tryz.prog 5 #[av, bv] w fun e w' => e = .returned (.bool true) ∧ Below w.heap.size w w' := by
  have HT := Lib.hid hT; have HAL := Lib.hid hal
  have HLa := Lib.hid ha; have HSa := Lib.hid oka
  obtain ⟨pa, ca, hv⟩ := ha.shape
  subst hv
  have HLb := Lib.hid hb; have HSb := Lib.hid okb
  obtain ⟨pb, cb, hv⟩ := hb.shape
  subst hv
  clear hT hal ha oka hb okb
  go_enter Tryz.func5, Tryz.ntmps5
  go_wp2_with fail
  refine (large12 _ a w HLa.out HSa.out).mono ?_
  rintro e w1 ⟨he, hB⟩
  have HB1 := Lib.hid (hB)
  have HT1 := Lib.hid (I.below HT.out hB)
  have K1a := Lib.hid (HLa.out.below hB)
  have K1b := Lib.hid (HLb.out.below hB)
  clear HT HLa HLb hB
  rcases he with rfl | ⟨rfl, hsm, _⟩
  · have := trivial
    go_wp2_with fail
    refine (HAL.out _ HT1.out).mono ?_
    rintro e wz ⟨rfl, hB⟩
    have HBz := Lib.hid (HB1.out.trans (hB.mono HB1.out.size))
    go_wp2_with fail
    go_ret
    exact ⟨rfl, HBz.out⟩
  · have Ma := Lib.hid hsm
    clear hsm
    go_wp2_with fail
    refine (large12 _ b w1 K1b.out HSb.out).mono ?_
    rintro e w2 ⟨he, hB⟩
    have HB2 := Lib.hid (HB1.out.trans (hB.mono HB1.out.size))
    have HT2 := Lib.hid (I.below HT1.out hB)
    have K2a := Lib.hid (K1a.out.below hB)
    have K2b := Lib.hid (K1b.out.below hB)
    clear HT1 HB1 K1a K1b hB
    rcases he with rfl | ⟨rfl, hsm, _⟩
    · have := trivial
      go_wp2_with fail
      refine (HAL.out _ HT2.out).mono ?_
      rintro e wz ⟨rfl, hB⟩
      have HBz := Lib.hid (HB2.out.trans (hB.mono HB2.out.size))
      go_wp2_with fail
      go_ret
      exact ⟨rfl, HBz.out⟩
    · have Mb := Lib.hid hsm
      clear hsm
      go_wp2_with fail
      refine (HAL.out _ HT2.out).mono ?_
      rintro e w3 ⟨rfl, hB⟩
      have HB3 := Lib.hid (HB2.out.trans (hB.mono HB2.out.size))
      have HT3 := Lib.hid (I.below HT2.out hB)
      have K3a := Lib.hid (K2a.out.below hB)
      have K3b := Lib.hid (K2b.out.below hB)
      clear HT2 HB2 K2a K2b hB
      go_wp2_with fail
      refine (I.equal _ _ a b w3 HT3.out K3a.out K3b.out HSa.out HSb.out Ma.out Mb.out).mono ?_
      rintro e w4 ⟨rfl, hB⟩
      have HB4 := Lib.hid (HB3.out.trans (hB.mono HB3.out.size))
      have HT4 := Lib.hid (I.below HT3.out hB)
      have K4a := Lib.hid (K3a.out.below hB)
      have K4b := Lib.hid (K3b.out.below hB)
      clear HT3 HB3 K3a K3b hB
      go_wp2_with fail
      refine (ref_equal12 _ _ a b w4 K4a.out K4b.out Ma.out Mb.out).mono ?_
      rintro e w5 ⟨rfl, hB⟩
      have HB5 := Lib.hid (HB4.out.trans (hB.mono HB4.out.size))
      have HT5 := Lib.hid (I.below HT4.out hB)
      have K5a := Lib.hid (K4a.out.below hB)
      have K5b := Lib.hid (K4b.out.below hB)
      clear HT4 HB4 K4a K4b hB
      go_wp2_with fail
      refine (I.equal _ _ a a w5 HT5.out K5a.out K5a.out HSa.out HSa.out Ma.out Ma.out).mono ?_
      rintro e w6 ⟨rfl, hB⟩
      have HB6 := Lib.hid (HB5.out.trans (hB.mono HB5.out.size))
      have HT6 := Lib.hid (I.below HT5.out hB)
      have K6a := Lib.hid (K5a.out.below hB)
      have K6b := Lib.hid (K5b.out.below hB)
      clear HT5 HB5 K5a K5b hB
      go_wp2_with fail
      go_ret
      exact ⟨rfl, HB6.out⟩
end Go.Proofs.YtkodhbkmpnokjaaGreat.modelCompares
