/- Layer 11: LabelsCompare, walked over the interface. -/
import Derived.Test.YtpgdedehhaibmaaMrg2
import Derived.Test.YtpgdedehhaibmaaMrg4
set_option linter.unusedVariables false
namespace Go.Proofs.Ytpgdedehhaibmaa.labelsCompare
open Go Go.RowKit
variable {G : Nat} {T : World → Prop}

set_option maxRecDepth 20000 in
set_option maxHeartbeats 8000000 in
theorem walk (I : LaIf G T) (hal : ∀ w, T w → Calls Try.prog 10 #[] w fun e w' => e = .returned (.bool true) ∧ Below w.heap.size w w')
    (w : World) (hT : T w) (av : Value) (a : List Lab) (oka : LabSized a) (ha : Rd w 2 av a.length (labCells a)) (bv : Value) (b : List Lab) (okb : LabSized b) (hb : Rd w 2 bv b.length (labCells b)) :
    Calls Try.prog 5 #[av, bv] w fun e w' => e = .returned (.bool true) ∧ Below w.heap.size w w' := by
  have HT := Lib.hid hT; have HAL := Lib.hid hal
  have HLa := Lib.hid ha; have HSa := Lib.hid oka
  obtain ⟨pa, ca, hv⟩ := ha.shape
  subst hv
  have HLb := Lib.hid hb; have HSb := Lib.hid okb
  obtain ⟨pb, cb, hv⟩ := hb.shape
  subst hv
  clear hT hal ha oka hb okb
  go_enter Try.func5, Try.ntmps5
  go_wp2_with fail
  refine (large11 _ a w HLa.out HSa.out).mono ?_
  rintro e w1 ⟨he, hB⟩
  have HB1 := Lib.hid hB
  have HT1 := Lib.hid (I.below HT.out hB)
  have K1a := Lib.hid (HLa.out.below hB)
  have K1b := Lib.hid (HLb.out.below hB)
  clear HT HLa HLb hB
  rcases he with rfl | ⟨rfl, hna, _⟩
  · go_wp2_with fail
    refine (HAL.out _ HT1.out).mono ?_
    rintro e wz ⟨rfl, hB⟩
    have HBz := Lib.hid (HB1.out.trans (hB.mono HB1.out.size))
    go_wp2_with fail
    go_ret
    exact ⟨rfl, HBz.out⟩
  · have HNa : Hid (a.length ≤ 200) := hna
    clear hna
    go_wp2_with fail
    refine (large11 _ b w1 K1b.out HSb.out).mono ?_
    rintro e w2 ⟨he, hB⟩
    have HB2 := Lib.hid (HB1.out.trans (hB.mono HB1.out.size))
    have HT2 := Lib.hid (I.below HT1.out hB)
    have K2a := Lib.hid (K1a.out.below hB)
    have K2b := Lib.hid (K1b.out.below hB)
    clear HB1 HT1 K1a K1b hB
    rcases he with rfl | ⟨rfl, hnb, _⟩
    · go_wp2_with fail
      refine (HAL.out _ HT2.out).mono ?_
      rintro e wz ⟨rfl, hB⟩
      have HBz := Lib.hid (HB2.out.trans (hB.mono HB2.out.size))
      go_wp2_with fail
      go_ret
      exact ⟨rfl, HBz.out⟩
    · have HNb : Hid (b.length ≤ 200) := hnb
      clear hnb
      have hr := cmp_range a b
      have HF : Hid (cmpLabs b a = - cmpLabs a b) := cmpLabs_ok.flip a b
      have HZ : Hid (cmpLabs a a = 0) := cmpLabs_ok.refl a
      obtain ⟨c, hc⟩ : ∃ c, cmpLabs a b = c := ⟨_, rfl⟩
      rw [hc] at hr HF
      have HC := Lib.hid hc
      clear hc
      have hr1 := hr.1
      have hr2 := hr.2
      clear hr
      go_wp2_with fail
      refine (HC.out ▸ I.compare _ _ a b w2 HT2.out K2a.out K2b.out HSa.out HSb.out (by have := HNa.out; omega) (by have := HNb.out; omega)).mono ?_
      rintro e w3 ⟨rfl, hB⟩
      have HB3 := Lib.hid (HB2.out.trans (hB.mono HB2.out.size))
      have HT3 := Lib.hid (I.below HT2.out hB)
      have K3a := Lib.hid (K2a.out.below hB)
      have K3b := Lib.hid (K2b.out.below hB)
      clear HB2 HT2 K2a K2b hB
      go_wp2_with fail
      refine (HAL.out _ HT3.out).mono ?_
      rintro e w4 ⟨rfl, hB⟩
      have HB4 := Lib.hid (HB3.out.trans (hB.mono HB3.out.size))
      have HT4 := Lib.hid (I.below HT3.out hB)
      have K4a := Lib.hid (K3a.out.below hB)
      have K4b := Lib.hid (K3b.out.below hB)
      clear HB3 HT3 K3a K3b hB
      go_wp2_with fail
      refine (HC.out ▸ ref_compare11 _ _ a b w4 K4a.out K4b.out (by have := HNa.out; omega) (by have := HNb.out; omega)).mono ?_
      rintro e w5 ⟨rfl, hB⟩
      have HB5 := Lib.hid (HB4.out.trans (hB.mono HB4.out.size))
      have HT5 := Lib.hid (I.below HT4.out hB)
      have K5a := Lib.hid (K4a.out.below hB)
      have K5b := Lib.hid (K4b.out.below hB)
      clear HB4 HT4 K4a K4b hB
      go_wp2_with fail
      refine (HF.out ▸ I.compare _ _ b a w5 HT5.out K5b.out K5a.out HSb.out HSa.out (by have := HNb.out; omega) (by have := HNa.out; omega)).mono ?_
      rintro e w6 ⟨rfl, hB⟩
      have HB6 := Lib.hid (HB5.out.trans (hB.mono HB5.out.size))
      have HT6 := Lib.hid (I.below HT5.out hB)
      have K6a := Lib.hid (K5a.out.below hB)
      have K6b := Lib.hid (K5b.out.below hB)
      clear HB5 HT5 K5a K5b hB
      go_wp2_with fail
      refine (HZ.out ▸ I.compare _ _ a a w6 HT6.out K6a.out K6a.out HSa.out HSa.out (by have := HNa.out; omega) (by have := HNa.out; omega)).mono ?_
      rintro e w7 ⟨rfl, hB⟩
      have HB7 := Lib.hid (HB6.out.trans (hB.mono HB6.out.size))
      have HT7 := Lib.hid (I.below HT6.out hB)
      have K7a := Lib.hid (K6a.out.below hB)
      have K7b := Lib.hid (K6b.out.below hB)
      clear HB6 HT6 K6a K6b hB
      go_wp2_with fail
      go_ret
      exact ⟨rfl, HB7.out⟩
end Go.Proofs.Ytpgdedehhaibmaa.labelsCompare
