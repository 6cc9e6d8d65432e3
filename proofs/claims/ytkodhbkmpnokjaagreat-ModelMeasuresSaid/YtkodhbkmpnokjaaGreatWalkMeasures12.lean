/- Layer 12: ModelMeasures, walked over the interface. -/
import Derived.Test.YtkodhbkmpnokjaaGreatMrg3
import Derived.Test.YtkodhbkmpnokjaaGreatMrg7
import Derived.Test.YtkodhbkmpnokjaaGreatMrg8
import Derived.Test.YtkodhbkmpnokjaaGreatMrg13
set_option linter.unusedVariables false
namespace Go.Proofs.YtkodhbkmpnokjaaGreat.modelMeasures
open Go Go.RowKit
variable {G : Nat} {T : World → Prop}

set_option maxRecDepth 20000 in
set_option maxHeartbeats 8000000 in
theorem walk (I : MoIf G T) (hal : ∀ w, T w → Calls Tryz.prog 10 #[] w fun e w' => e = .returned (.bool true) ∧ Below w.heap.size w w')
    (w : World) (hT : T w) (bv : Value) (b : List Ser) (okb : Sized b) (hb : RdB w bv b) :
    Calls Tryz.prog 7 #[bv] w fun e w' => e = .returned (.bool true) ∧ Below w.heap.size w w' := by
  have HT := Lib.hid hT; have HAL := Lib.hid hal
  have HLb := Lib.hid hb; have HSb := Lib.hid okb
  obtain ⟨pb, cb, hv⟩ := hb.shape
  subst hv
  clear hT hal hb okb
  go_enter Tryz.func7, Tryz.ntmps7
  go_wp2_with fail
  refine (large12 _ b w HLb.out HSb.out).mono ?_
  rintro e w1 ⟨he, hB⟩
  have HB1 := Lib.hid (hB)
  have HT1 := Lib.hid (I.below HT.out hB)
  have K1b := Lib.hid (HLb.out.below hB)
  clear HT HLb hB
  rcases he with rfl | ⟨rfl, hsm, _⟩
  · have := trivial
    go_wp2_with fail
    refine (HAL.out _ HT1.out).mono ?_
    rintro e wz ⟨rfl, hB⟩
    have HBz := Lib.hid (HB1.out.trans (hB.mono HB1.out.size))
    go_wp2_with fail
    go_ret
    exact ⟨rfl, HBz.out⟩
  · have Mb := Lib.hid hsm
    clear hsm
    go_wp2_with fail
    refine (HAL.out _ HT1.out).mono ?_
    rintro e w2 ⟨rfl, hB⟩
    have HB2 := Lib.hid (HB1.out.trans (hB.mono HB1.out.size))
    have HT2 := Lib.hid (I.below HT1.out hB)
    have K2b := Lib.hid (K1b.out.below hB)
    clear HT1 HB1 K1b hB
    have hsi : (samplesB b : Int) ≤ 3000 := by have := Mb.out.sam; omega
    have HC := Lib.hid (I.samples _ b w2 HT2.out K2b.out HSb.out Mb.out)
    have HR := Lib.hid (fun w h => ref_samples12 (.slice pb b.length cb) b w h (by have := Mb.out.len; omega) (by have := Mb.out.sam; omega))
    generalize samplesB b = sc at *
    go_wp2_with fail
    refine (HC.out).mono ?_
    rintro e w3 ⟨rfl, hB⟩
    have HB3 := Lib.hid (HB2.out.trans (hB.mono HB2.out.size))
    have HT3 := Lib.hid (I.below HT2.out hB)
    have K3b := Lib.hid (K2b.out.below hB)
    clear HT2 HB2 K2b hB
    go_wp2_with fail
    refine (HR.out w3 K3b.out).mono ?_
    rintro e wq ⟨rfl, rfl⟩
    go_wp2_with fail
    refine (I.symbols _ b wq HT3.out K3b.out HSb.out Mb.out).mono ?_
    rintro e w4 ⟨r, rfl, hg⟩
    have R4 := Lib.hid hg.rd
    obtain ⟨pr, cr, hv⟩ := R4.out.shape
    subst hv
    have HB4 := Lib.hid (HB3.out.trans (hg.bel.mono HB3.out.size))
    have HT4 := Lib.hid (I.below HT3.out hg.bel)
    have K4b := Lib.hid (K3b.out.below hg.bel)
    clear HT3 HB3 K3b 
    clear hg
    go_wp2_with fail
    refine (ref_symbols12 _ b w4 K4b.out Mb.out).mono ?_
    rintro e w5 ⟨r, rfl, hg⟩
    have R5 := Lib.hid hg.rd
    obtain ⟨ps, cs, hv⟩ := R5.out.shape
    subst hv
    have HB5 := Lib.hid (HB4.out.trans (hg.bel.mono HB4.out.size))
    have HT5 := Lib.hid (I.below HT4.out hg.bel)
    have K5b := Lib.hid (K4b.out.below hg.bel)
    have K5r := Lib.hid (R4.out.below hg.bel)
    clear HT4 HB4 K4b R4 
    clear hg
    go_wp2_with fail
    refine (equal_str _ _ (tabS (symsB b)) (tabS (symsB b)) w5 K5r.out R5.out).mono ?_
    rintro e w6 ⟨rfl, hB⟩
    have HB6 := Lib.hid (HB5.out.trans (hB.mono HB5.out.size))
    have HT6 := Lib.hid (I.below HT5.out hB)
    have K6b := Lib.hid (K5b.out.below hB)
    have K6r := Lib.hid (K5r.out.below hB)
    have K6s := Lib.hid (R5.out.below hB)
    clear HT5 HB5 K5b K5r R5 hB
    go_wp2_with fail
    go_ret
    exact ⟨rfl, HB6.out⟩
end Go.Proofs.YtkodhbkmpnokjaaGreat.modelMeasures
