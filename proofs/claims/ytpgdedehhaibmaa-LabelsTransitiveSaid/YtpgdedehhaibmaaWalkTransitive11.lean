/- Layer 11: LabelsTransitive, walked over the interface. -/
import Derived.Test.YtpgdedehhaibmaaMrg2
import Derived.Test.YtpgdedehhaibmaaMrg4
set_option linter.unusedVariables false
namespace Go.Proofs.Ytpgdedehhaibmaa.labelsTransitive
open Go Go.RowKit
variable {G : Nat} {T : World → Prop}

set_option maxRecDepth 20000 in
set_option maxHeartbeats 8000000 in
theorem walk (I : LaIf G T) (hal : ∀ w, T w → Calls Try.prog 10 #[] w fun e w' => e = .returned (.bool true) ∧ Below w.heap.size w w')
    (w : World) (hT : T w) (av : Value) (a : List Lab) (oka : LabSized a) (ha : Rd w 2 av a.length (labCells a)) (bv : Value) (b : List Lab) (okb : LabSized b) (hb : Rd w 2 bv b.length (labCells b)) (cv : Value) (c : List Lab) (okc : LabSized c) (hc : Rd w 2 cv c.length (labCells c)) :
    Calls Try.prog 6 #[av, bv, cv] w fun e w' => e = .returned (.bool true) ∧ Below w.heap.size w w' := by
  have HT := Lib.hid hT; have HAL := Lib.hid hal
  have HLa := Lib.hid ha; have HSa := Lib.hid oka
  obtain ⟨pa, ca, hv⟩ := ha.shape
  subst hv
  have HLb := Lib.hid hb; have HSb := Lib.hid okb
  obtain ⟨pb, cb, hv⟩ := hb.shape
  subst hv
  have HLc := Lib.hid hc; have HSc := Lib.hid okc
  obtain ⟨pc, cc, hv⟩ := hc.shape
  subst hv
  clear hT hal ha oka hb okb hc okc
  go_enter Try.func6, Try.ntmps6
  go_wp2_with fail
  refine (large11 _ a w HLa.out HSa.out).mono ?_
  rintro e w1 ⟨he, hB⟩
  have HB1 := Lib.hid hB
  have HT1 := Lib.hid (I.below HT.out hB)
  have K1a := Lib.hid (HLa.out.below hB)
  have K1b := Lib.hid (HLb.out.below hB)
  have K1c := Lib.hid (HLc.out.below hB)
  clear HT HLa HLb HLc hB
  rcases he with rfl | ⟨rfl, hna, _⟩
  · go_wp2_with fail
    refine (HAL.out _ HT1.out).mono ?_
    rintro e wz ⟨rfl, hB⟩
    have HBz := Lib.hid (HB1.out.trans (hB.mono HB1.out.size))
    go_wp2_with fail
    go_ret
    exact ⟨rfl, HBz.out⟩
  · have HNa : Hid (a.length ≤ 200) := hna
    clear hna
    go_wp2_with fail
    refine (large11 _ b w1 K1b.out HSb.out).mono ?_
    rintro e w2 ⟨he, hB⟩
    have HB2 := Lib.hid (HB1.out.trans (hB.mono HB1.out.size))
    have HT2 := Lib.hid (I.below HT1.out hB)
    have K2a := Lib.hid (K1a.out.below hB)
    have K2b := Lib.hid (K1b.out.below hB)
    have K2c := Lib.hid (K1c.out.below hB)
    clear HB1 HT1 K1a K1b K1c hB
    rcases he with rfl | ⟨rfl, hnb, _⟩
    · go_wp2_with fail
      refine (HAL.out _ HT2.out).mono ?_
      rintro e wz ⟨rfl, hB⟩
      have HBz := Lib.hid (HB2.out.trans (hB.mono HB2.out.size))
      go_wp2_with fail
      go_ret
      exact ⟨rfl, HBz.out⟩
    · have HNb : Hid (b.length ≤ 200) := hnb
      clear hnb
      go_wp2_with fail
      refine (large11 _ c w2 K2c.out HSc.out).mono ?_
      rintro e w3 ⟨he, hB⟩
      have HB3 := Lib.hid (HB2.out.trans (hB.mono HB2.out.size))
      have HT3 := Lib.hid (I.below HT2.out hB)
      have K3a := Lib.hid (K2a.out.below hB)
      have K3b := Lib.hid (K2b.out.below hB)
      have K3c := Lib.hid (K2c.out.below hB)
      clear HB2 HT2 K2a K2b K2c hB
      rcases he with rfl | ⟨rfl, hnc, _⟩
      · go_wp2_with fail
        refine (HAL.out _ HT3.out).mono ?_
        rintro e wz ⟨rfl, hB⟩
        have HBz := Lib.hid (HB3.out.trans (hB.mono HB3.out.size))
        go_wp2_with fail
        go_ret
        exact ⟨rfl, HBz.out⟩
      · have HNc : Hid (c.length ≤ 200) := hnc
        clear hnc
        have HTr := Lib.hid (cmp_trans a b c)
        have hx := cmp_range a b
        have hy := cmp_range b c
        have hz := cmp_range a c
        obtain ⟨x, hex⟩ : ∃ x, cmpLabs a b = x := ⟨_, rfl⟩
        rw [hex] at hx HTr
        have HEx := Lib.hid hex
        clear hex
        obtain ⟨y, hey⟩ : ∃ y, cmpLabs b c = y := ⟨_, rfl⟩
        rw [hey] at hy HTr
        have HEy := Lib.hid hey
        clear hey
        obtain ⟨z, hez⟩ : ∃ z, cmpLabs a c = z := ⟨_, rfl⟩
        rw [hez] at hz HTr
        have HEz := Lib.hid hez
        clear hez
        obtain ⟨hx1, hx2⟩ := hx
        obtain ⟨hy1, hy2⟩ := hy
        obtain ⟨hz1, hz2⟩ := hz
        go_wp2_with fail
        refine (HEx.out ▸ I.compare _ _ a b w3 HT3.out K3a.out K3b.out HSa.out HSb.out (by have := HNa.out; omega) (by have := HNb.out; omega)).mono ?_
        rintro e w4 ⟨rfl, hB⟩
        have HB4 := Lib.hid (HB3.out.trans (hB.mono HB3.out.size))
        have HT4 := Lib.hid (I.below HT3.out hB)
        have K4a := Lib.hid (K3a.out.below hB)
        have K4b := Lib.hid (K3b.out.below hB)
        have K4c := Lib.hid (K3c.out.below hB)
        clear HB3 HT3 K3a K3b K3c hB
        go_wp2_with fail
        refine (HEy.out ▸ I.compare _ _ b c w4 HT4.out K4b.out K4c.out HSb.out HSc.out (by have := HNb.out; omega) (by have := HNc.out; omega)).mono ?_
        rintro e w5 ⟨rfl, hB⟩
        have HB5 := Lib.hid (HB4.out.trans (hB.mono HB4.out.size))
        have HT5 := Lib.hid (I.below HT4.out hB)
        have K5a := Lib.hid (K4a.out.below hB)
        have K5b := Lib.hid (K4b.out.below hB)
        have K5c := Lib.hid (K4c.out.below hB)
        clear HB4 HT4 K4a K4b K4c hB
        go_wp2_with fail
        refine (HEz.out ▸ I.compare _ _ a c w5 HT5.out K5a.out K5c.out HSa.out HSc.out (by have := HNa.out; omega) (by have := HNc.out; omega)).mono ?_
        rintro e w6 ⟨rfl, hB⟩
        have HB6 := Lib.hid (HB5.out.trans (hB.mono HB5.out.size))
        have HT6 := Lib.hid (I.below HT5.out hB)
        have K6a := Lib.hid (K5a.out.below hB)
        have K6b := Lib.hid (K5b.out.below hB)
        have K6c := Lib.hid (K5c.out.below hB)
        clear HB5 HT5 K5a K5b K5c hB
        go_wp2_with fail
        refine (HAL.out _ HT6.out).mono ?_
        rintro e w7 ⟨rfl, hB⟩
        have HB7 := Lib.hid (HB6.out.trans (hB.mono HB6.out.size))
        have HT7 := Lib.hid (I.below HT6.out hB)
        have K7a := Lib.hid (K6a.out.below hB)
        have K7b := Lib.hid (K6b.out.below hB)
        have K7c := Lib.hid (K6c.out.below hB)
        clear HB6 HT6 K6a K6b K6c hB
        have dx : x = -1 ∨ x = 0 ∨ x = 1 := by omega
        have dy : y = -1 ∨ y = 0 ∨ y = 1 := by omega
        have dz : z = -1 ∨ z = 0 ∨ z = 1 := by omega
        clear hx1 hx2 hy1 hy2 hz1 hz2 HEx HEy HEz
        rcases dx with rfl | rfl | rfl <;> rcases dy with rfl | rfl | rfl <;> rcases dz with rfl | rfl | rfl <;> first
          | (exfalso; have := HTr.out; omega)
          | (go_wp2_with fail
             go_ret
             exact ⟨rfl, HB7.out⟩)
end Go.Proofs.Ytpgdedehhaibmaa.labelsTransitive
