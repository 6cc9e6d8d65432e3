/- Layer 12: ModelNormalizes, walked over the interface. -/
import Derived.Test.YtkodhbkmpnokjaaGreatMrg3
import Derived.Test.YtkodhbkmpnokjaaGreatMrg7
import Derived.Test.YtkodhbkmpnokjaaGreatMrg8
set_option linter.unusedVariables false
namespace Go.Proofs.YtkodhbkmpnokjaaGreat.modelNormalizes
open Go Go.RowKit
variable {G : Nat} {T : World → Prop}

set_option maxRecDepth 20000 in
set_option maxHeartbeats 8000000 in
theorem walk (I : MoIf G T) (hal : ∀ w, T w → Calls Tryz.prog 10 #[] w fun e w' => e = .returned (.bool true) ∧ Below w.heap.size w w')
    (w : World) (hT : T w) (bv : Value) (b : List Ser) (okb : Sized b) (hb : RdB w bv b) :
    Calls Tryz.prog 4 #[bv] w fun e w' => e = .returned (.bool true) ∧ Below w.heap.size w w' := by
  have HT := Lib.hid hT; have HAL := Lib.hid hal
  have HLb := Lib.hid hb; have HSb := Lib.hid okb
  obtain ⟨pb, cb, hv⟩ := hb.shape
  subst hv
  clear hT hal hb okb
  go_enter Tryz.func4, Tryz.ntmps4
  go_wp2_with fail
  refine (large12 _ b w HLb.out HSb.out).mono ?_
  rintro e w1 ⟨he, hB⟩
  have HB1 := Lib.hid (hB)
  have HT1 := Lib.hid (I.below HT.out hB)
  have K1b := Lib.hid (HLb.out.below hB)
  clear HT HLb hB
  rcases he with rfl | ⟨rfl, hsm, _⟩
  · have := trivial
    go_wp2_with fail
    refine (HAL.out _ HT1.out).mono ?_
    rintro e wz ⟨rfl, hB⟩
    have HBz := Lib.hid (HB1.out.trans (hB.mono HB1.out.size))
    go_wp2_with fail
    go_ret
    exact ⟨rfl, HBz.out⟩
  · have Mb := Lib.hid hsm
    clear hsm
    have HLe := Lib.hid (normB_le b); have HSn := Lib.hid (small_norm Mb.out); have HZn := Lib.hid (sized_norm HSb.out)
    have HCk : Hid ((normB b).1 = 0 → checkB (normB b).2 = 0) := checkB_norm
    have HN := Lib.hid (I.norm _ b w1 HT1.out K1b.out HSb.out Mb.out)
    have HR := Lib.hid (fun w h => ref_norm12 (.slice pb b.length cb) b w h Mb.out HSb.out)
    generalize normB b = o at *
    go_wp2_with fail
    refine (HN.out).mono ?_
    rintro e w2 ⟨r, rfl, hr, hB⟩
    have R2 := Lib.hid hr
    obtain ⟨pr, cr, hv⟩ := R2.out.shape
    subst hv
    have HB2 := Lib.hid (HB1.out.trans (hB.mono HB1.out.size))
    have HT2 := Lib.hid (I.below HT1.out hB)
    have K2b := Lib.hid (K1b.out.below hB)
    clear HT1 HB1 K1b hB
    clear hr
    go_wp2_with fail
    refine (HR.out w2 K2b.out).mono ?_
    rintro e w3 ⟨r, rfl, hr, hB⟩
    have R3 := Lib.hid hr
    obtain ⟨ps, cs, hv⟩ := R3.out.shape
    subst hv
    have HB3 := Lib.hid (HB2.out.trans (hB.mono HB2.out.size))
    have HT3 := Lib.hid (I.below HT2.out hB)
    have K3b := Lib.hid (K2b.out.below hB)
    have K3r := Lib.hid (R2.out.below hB)
    clear HT2 HB2 K2b R2 hB
    clear hr
    go_wp2_with fail
    refine (HAL.out _ HT3.out).mono ?_
    rintro e w4 ⟨rfl, hB⟩
    have HB4 := Lib.hid (HB3.out.trans (hB.mono HB3.out.size))
    have HT4 := Lib.hid (I.below HT3.out hB)
    have K4b := Lib.hid (K3b.out.below hB)
    have K4r := Lib.hid (K3r.out.below hB)
    have K4s := Lib.hid (R3.out.below hB)
    clear HT3 HB3 K3b K3r R3 hB
    go_wp2_with fail
    refine (ref_equal12 _ _ o.2 o.2 w4 K4r.out K4s.out HSn.out HSn.out).mono ?_
    rintro e w5 ⟨rfl, hB⟩
    have HB5 := Lib.hid (HB4.out.trans (hB.mono HB4.out.size))
    have HT5 := Lib.hid (I.below HT4.out hB)
    have K5b := Lib.hid (K4b.out.below hB)
    have K5r := Lib.hid (K4r.out.below hB)
    have K5s := Lib.hid (K4s.out.below hB)
    clear HT4 HB4 K4b K4r K4s hB
    have hoi : (o.1 : Int) ≤ 21 := by have := HLe.out; omega
    by_cases h0 : o.1 = 0
    · have hz : (o.1 : Int) = 0 := by omega
      have HE := Lib.hid (HCk.out h0)
      rw [hz]
      clear h0 hz hoi
      go_wp2_with fail
      refine (HE.out ▸ I.check _ o.2 w5 HT5.out K5r.out HZn.out HSn.out).mono ?_
      rintro e w6 ⟨rfl, hB⟩
      have HB6 := Lib.hid (HB5.out.trans (hB.mono HB5.out.size))
      have HT6 := Lib.hid (I.below HT5.out hB)
      have K6b := Lib.hid (K5b.out.below hB)
      have K6r := Lib.hid (K5r.out.below hB)
      have K6s := Lib.hid (K5s.out.below hB)
      clear HT5 HB5 K5b K5r K5s hB
      go_wp2_with fail
      go_ret
      exact ⟨rfl, HB6.out⟩
    · have hz : ¬ (o.1 : Int) = 0 := by omega
      have hz1 : (0 : Int) < (o.1 : Int) := by omega
      go_wp2_with fail
      go_ret
      exact ⟨rfl, HB5.out⟩
end Go.Proofs.YtkodhbkmpnokjaaGreat.modelNormalizes
