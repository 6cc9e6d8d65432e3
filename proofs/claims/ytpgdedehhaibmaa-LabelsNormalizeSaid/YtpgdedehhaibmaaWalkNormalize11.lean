/- Layer 11: LabelsNormalize, walked over the interface. -/
import Derived.Test.YtpgdedehhaibmaaMrg2
import Derived.Test.YtpgdedehhaibmaaMrg4
import Derived.Test.YtpgdedehhaibmaaMrg5
set_option linter.unusedVariables false
namespace Go.Proofs.Ytpgdedehhaibmaa.labelsNormalize
open Go Go.RowKit
variable {G : Nat} {T : World → Prop}

set_option maxRecDepth 20000 in
set_option maxHeartbeats 8000000 in
theorem walk (I : LaIf G T) (hal : ∀ w, T w → Calls Try.prog 10 #[] w fun e w' => e = .returned (.bool true) ∧ Below w.heap.size w w')
    (w : World) (hT : T w) (lv : Value) (l : List Lab) (okl : LabSized l) (hl : Rd w 2 lv l.length (labCells l)) :
    Calls Try.prog 4 #[lv] w fun e w' => e = .returned (.bool true) ∧ Below w.heap.size w w' := by
  have HT := Lib.hid hT; have HAL := Lib.hid hal
  have HLl := Lib.hid hl; have HSl := Lib.hid okl
  obtain ⟨pl, cl, hv⟩ := hl.shape
  subst hv
  clear hT hal hl okl
  go_enter Try.func4, Try.ntmps4
  go_wp2_with fail
  refine (large11 _ l w HLl.out HSl.out).mono ?_
  rintro e w1 ⟨he, hB⟩
  have HB1 := Lib.hid hB
  have HT1 := Lib.hid (I.below HT.out hB)
  have K1l := Lib.hid (HLl.out.below hB)
  clear HT HLl hB
  rcases he with rfl | ⟨rfl, hnl, _⟩
  · go_wp2_with fail
    refine (HAL.out _ HT1.out).mono ?_
    rintro e wz ⟨rfl, hB⟩
    have HBz := Lib.hid (HB1.out.trans (hB.mono HB1.out.size))
    go_wp2_with fail
    go_ret
    exact ⟨rfl, HBz.out⟩
  · have HNl : Hid (l.length ≤ 200) := hnl
    clear hnl
    go_wp2_with fail
    refine (clone_lab _ l w1 K1l.out (by have := HNl.out; omega)).mono ?_
    rintro e w2 ⟨r, rfl, hm⟩
    have hB := hm.2
    have HM2 := Lib.hid (Rd.of_owns hm.1)
    obtain ⟨pm, cm, hv⟩ := HM2.out.shape
    subst hv
    clear hm
    have HB2 := Lib.hid (HB1.out.trans (hB.mono HB1.out.size))
    have HT2 := Lib.hid (I.below HT1.out hB)
    have K2l := Lib.hid (K1l.out.below hB)
    clear HB1 HT1 K1l hB
    have HNr := Lib.hid (norm_le l)
    have HCh : Hid ((normL l).1 = 0 → checkL (normL l).2 = 0) := check_norm
    have HSr : Hid (LabSized (normL l).2) := norm_all HSl.out
    obtain ⟨o, ho⟩ : ∃ o, normL l = o := ⟨_, rfl⟩
    have HO := Lib.hid ho
    rw [ho] at HNr HCh HSr
    clear ho
    go_wp2_with fail
    refine (HO.out ▸ I.norm _ l w2 HT2.out K2l.out HSl.out (by have := HNl.out; omega)).mono ?_
    rintro e w3 ⟨⟨r, rfl, hr, _⟩, hB⟩
    have HR3 := Lib.hid hr
    obtain ⟨pr, cr, hv⟩ := HR3.out.shape
    subst hv
    clear hr
    have HB3 := Lib.hid (HB2.out.trans (hB.mono HB2.out.size))
    have HT3 := Lib.hid (I.below HT2.out hB)
    have K3l := Lib.hid (K2l.out.below hB)
    have K3m := Lib.hid (HM2.out.below hB)
    clear HB2 HT2 K2l HM2 hB
    go_wp2_with fail
    refine (HO.out ▸ ref_norm11 _ l w3 K3l.out HSl.out (by have := HNl.out; omega)).mono ?_
    rintro e w4 ⟨⟨r, rfl, hr, _⟩, hB⟩
    have HR4 := Lib.hid hr
    obtain ⟨ps, cs, hv⟩ := HR4.out.shape
    subst hv
    clear hr
    have HB4 := Lib.hid (HB3.out.trans (hB.mono HB3.out.size))
    have HT4 := Lib.hid (I.below HT3.out hB)
    have K4l := Lib.hid (K3l.out.below hB)
    have K4m := Lib.hid (K3m.out.below hB)
    have K4r := Lib.hid (HR3.out.below hB)
    clear HB3 HT3 K3l K3m HR3 hB
    have hoi : (o.1 : Int) ≤ 18 := by have := HNr.out.1; omega
    have HNo : Hid (o.2.length ≤ 200) := by show _ ≤ _; have := HNr.out.2; have := HNl.out; omega
    clear HNr
    go_wp2_with fail
    refine (HAL.out _ HT4.out).mono ?_
    rintro e w5 ⟨rfl, hB⟩
    have HB5 := Lib.hid (HB4.out.trans (hB.mono HB4.out.size))
    have HT5 := Lib.hid (I.below HT4.out hB)
    have K5l := Lib.hid (K4l.out.below hB)
    have K5m := Lib.hid (K4m.out.below hB)
    have K5r := Lib.hid (K4r.out.below hB)
    have K5s := Lib.hid (HR4.out.below hB)
    clear HB4 HT4 K4l K4m K4r HR4 hB
    go_wp2_with fail
    refine (equal_lab _ _ o.2 w5 (by have := HNo.out; omega) K5r.out K5s.out).mono ?_
    rintro e w6 ⟨rfl, hB⟩
    have HB6 := Lib.hid (HB5.out.trans (hB.mono HB5.out.size))
    have HT6 := Lib.hid (I.below HT5.out hB)
    have K6l := Lib.hid (K5l.out.below hB)
    have K6m := Lib.hid (K5m.out.below hB)
    have K6r := Lib.hid (K5r.out.below hB)
    have K6s := Lib.hid (K5s.out.below hB)
    clear HB5 HT5 K5l K5m K5r K5s hB
    go_wp2_with fail
    refine (equal_lab _ _ l w6 (by have := HNl.out; omega) K6l.out K6m.out).mono ?_
    rintro e w7 ⟨rfl, hB⟩
    have HB7 := Lib.hid (HB6.out.trans (hB.mono HB6.out.size))
    have HT7 := Lib.hid (I.below HT6.out hB)
    have K7l := Lib.hid (K6l.out.below hB)
    have K7m := Lib.hid (K6m.out.below hB)
    have K7r := Lib.hid (K6r.out.below hB)
    have K7s := Lib.hid (K6s.out.below hB)
    clear HB6 HT6 K6l K6m K6r K6s hB
    by_cases h0 : o.1 = 0
    · have hz : (o.1 : Int) = 0 := by omega
      have HE := Lib.hid (HCh.out h0)
      rw [hz]
      clear h0 hz hoi
      go_wp2_with fail
      refine (HE.out ▸ I.check _ o.2 w7 HT7.out K7r.out HSr.out (by have := HNo.out; omega)).mono ?_
      rintro e w8 ⟨rfl, hB⟩
      have HB8 := Lib.hid (HB7.out.trans (hB.mono HB7.out.size))
      have HT8 := Lib.hid (I.below HT7.out hB)
      have K8l := Lib.hid (K7l.out.below hB)
      have K8m := Lib.hid (K7m.out.below hB)
      have K8r := Lib.hid (K7r.out.below hB)
      have K8s := Lib.hid (K7s.out.below hB)
      clear HB7 HT7 K7l K7m K7r K7s hB
      go_wp2_with fail
      go_ret
      exact ⟨rfl, HB8.out⟩
    · have hz : ¬ (o.1 : Int) = 0 := by omega
      have hz1 : (0 : Int) < (o.1 : Int) := by omega
      go_wp2_with fail
      go_ret
      exact ⟨rfl, HB7.out⟩
end Go.Proofs.Ytpgdedehhaibmaa.labelsNormalize
