/- Layer 11: LabelsGet, walked over the interface. -/
import Derived.Test.YtpgdedehhaibmaaMrg2
import Derived.Test.YtpgdedehhaibmaaMrg4
import Derived.Test.YtpgdedehhaibmaaMrg6
set_option linter.unusedVariables false
namespace Go.Proofs.Ytpgdedehhaibmaa.labelsGet
open Go Go.RowKit
variable {G : Nat} {T : World → Prop}

set_option maxRecDepth 20000 in
set_option maxHeartbeats 8000000 in
theorem walk (I : LaIf G T) (hal : ∀ w, T w → Calls Try.prog 10 #[] w fun e w' => e = .returned (.bool true) ∧ Below w.heap.size w w')
    (w : World) (hT : T w) (lv : Value) (l : List Lab) (okl : LabSized l) (hl : Rd w 2 lv l.length (labCells l)) (n : ByteArray) :
    Calls Try.prog 7 #[lv, .string n] w fun e w' => e = .returned (.bool true) ∧ Below w.heap.size w w' := by
  have HT := Lib.hid hT; have HAL := Lib.hid hal
  have HLl := Lib.hid hl; have HSl := Lib.hid okl
  obtain ⟨pl, cl, hv⟩ := hl.shape
  subst hv
  clear hT hal hl okl
  go_enter Try.func7, Try.ntmps7
  go_wp2_with fail
  refine (large11 _ l w HLl.out HSl.out).mono ?_
  rintro e w1 ⟨he, hB⟩
  have HB1 := Lib.hid hB
  have HT1 := Lib.hid (I.below HT.out hB)
  have K1l := Lib.hid (HLl.out.below hB)
  clear HT HLl hB
  rcases he with rfl | ⟨rfl, hnl, _⟩
  · go_wp2_with fail
    refine (HAL.out _ HT1.out).mono ?_
    rintro e wz ⟨rfl, hB⟩
    have HBz := Lib.hid (HB1.out.trans (hB.mono HB1.out.size))
    go_wp2_with fail
    go_ret
    exact ⟨rfl, HBz.out⟩
  · have HNl : Hid (l.length ≤ 200) := hnl
    clear hnl
    obtain ⟨g, hg⟩ : ∃ g, getL l n = g := ⟨_, rfl⟩
    have HG := Lib.hid hg
    clear hg
    go_wp2_with fail
    refine (HG.out ▸ I.get _ l n w1 HT1.out K1l.out HSl.out (by have := HNl.out; omega)).mono ?_
    rintro e w2 ⟨rfl, hB⟩
    have HB2 := Lib.hid (HB1.out.trans (hB.mono HB1.out.size))
    have HT2 := Lib.hid (I.below HT1.out hB)
    have K2l := Lib.hid (K1l.out.below hB)
    clear HB1 HT1 K1l hB
    obtain ⟨gs, gb, hgv⟩ : ∃ (gs : ByteArray) (gb : Bool), getV g = .tuple #[.string gs, .bool gb] := ⟨_, _, rfl⟩
    rw [hgv]
    have HGv := Lib.hid hgv
    clear hgv
    go_wp2_with fail
    refine (HGv.out ▸ HG.out ▸ ref_get11 _ l n w2 K2l.out (by have := HNl.out; omega)).mono ?_
    rintro e w3 ⟨rfl, hB⟩
    have HB3 := Lib.hid (HB2.out.trans (hB.mono HB2.out.size))
    have HT3 := Lib.hid (I.below HT2.out hB)
    have K3l := Lib.hid (K2l.out.below hB)
    clear HB2 HT2 K2l hB
    go_wp2_with fail
    refine (HAL.out _ HT3.out).mono ?_
    rintro e w4 ⟨rfl, hB⟩
    have HB4 := Lib.hid (HB3.out.trans (hB.mono HB3.out.size))
    have HT4 := Lib.hid (I.below HT3.out hB)
    have K4l := Lib.hid (K3l.out.below hB)
    clear HB3 HT3 K3l hB
    have HSm : Hid (gs.toList = gs.toList) := rfl
    go_wp2_with fail
    refine (I.strings _ l w4 HT4.out K4l.out HSl.out (by have := HNl.out; omega)).mono ?_
    rintro e w5 ⟨r, rfl, hq⟩
    have hB := hq.bel
    have HQ5 := Lib.hid hq.rd
    obtain ⟨pq, cq, hv⟩ := hq.rd.shape
    subst hv
    clear hq
    have HB5 := Lib.hid (HB4.out.trans (hB.mono HB4.out.size))
    have HT5 := Lib.hid (I.below HT4.out hB)
    have K5l := Lib.hid (K4l.out.below hB)
    clear HB4 HT4 K4l hB
    go_wp2_with fail
    refine (ref_strings11 _ l w5 K5l.out (by have := HNl.out; omega)).mono ?_
    rintro e w6 ⟨r, rfl, ho⟩
    have hB := ho.bel
    have HO6 := Lib.hid ho.rd
    obtain ⟨po, co, hv⟩ := ho.rd.shape
    subst hv
    clear ho
    have HB6 := Lib.hid (HB5.out.trans (hB.mono HB5.out.size))
    have HT6 := Lib.hid (I.below HT5.out hB)
    have K6l := Lib.hid (K5l.out.below hB)
    have K6q := Lib.hid (HQ5.out.below hB)
    clear HB5 HT5 K5l HQ5 hB
    go_wp2_with fail
    refine ((show Hid _ from Lib.hid (equal_str _ _ (stringsL l) (stringsL l) w6 K6q.out HO6.out)).out).mono ?_
    rintro e w7 ⟨rfl, hB⟩
    have HB7 := Lib.hid (HB6.out.trans (hB.mono HB6.out.size))
    have HT7 := Lib.hid (I.below HT6.out hB)
    have K7l := Lib.hid (K6l.out.below hB)
    have K7q := Lib.hid (K6q.out.below hB)
    clear HB6 HT6 K6l K6q hB
    rw [decide_eq_true (rfl : stringsL l = stringsL l)]
    go_wp2_with fail
    go_ret
    exact ⟨rfl, HB7.out⟩
end Go.Proofs.Ytpgdedehhaibmaa.labelsGet
