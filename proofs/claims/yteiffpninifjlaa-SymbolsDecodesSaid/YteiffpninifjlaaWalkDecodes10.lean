/- Layer 10: SymbolsDecodes, walked over the interface. -/
import Derived.Test.YteiffpninifjlaaMrg6
set_option linter.unusedVariables false
namespace Go.Proofs.Yteiffpninifjlaa.symbolsDecodes
open Go Go.RowKit
variable {G : Nat} {T : World → Prop}

set_option maxRecDepth 20000 in
set_option maxHeartbeats 8000000 in
theorem walk (I : SyIf G T) (hal : ∀ w, T w → Calls Try.prog 10 #[] w fun e w' => e = .returned (.bool true) ∧ Below w.heap.size w w')
    (w : World) (hT : T w) (bv : Value) (B : List Nat) (ok : ∀ c ∈ B, c < 256) (hl : Rd w 1 bv B.length (u8s B)) :
    Calls Try.prog 6 #[bv] w fun e w' => e = .returned (.bool true) ∧ Below w.heap.size w w' := by
  have HT := Lib.hid hT; have HL := Lib.hid hl; have HAL := Lib.hid hal; have HO := Lib.hid ok
  obtain ⟨pl, cl, hv⟩ := hl.shape
  subst hv
  clear hT hl ok hal
  by_cases hlt : (200000 : Int) < (B.length : Int)
  · go_enter Try.func6, Try.ntmps6
    go_wp2_with fail
    refine (HAL.out _ HT.out).mono ?_
    rintro e w2 ⟨rfl, hB⟩
    go_wp2_with fail
    go_ret
    exact ⟨rfl, hB⟩
  · have HDc := Lib.hid (I.decode _ B w HT.out HL.out HO.out (by omega))
    have HRf := Lib.hid (fun w h => ref_decode10 (.slice pl B.length cl) B w h HO.out (by omega))
    generalize decSy B = o at *
    go_enter Try.func6, Try.ntmps6
    go_wp2_with fail
    refine HDc.out.mono ?_
    rintro e w2 ⟨⟨r2, rfl, hr2, _⟩, hB⟩
    have HB2 := Lib.hid hB
    have HT2 := Lib.hid (I.below HT.out hB)
    have HR2 := Lib.hid hr2
    have HRf2 := Lib.hid (HRf.out w2 (HL.out.below hB))
    obtain ⟨p2, c2, hv⟩ := hr2.shape
    subst hv
    clear hr2 hB HDc HRf
    go_wp2_with fail
    refine HRf2.out.mono ?_
    rintro e w3 ⟨⟨r3, rfl, hr3, _⟩, hB⟩
    have HB3 := Lib.hid (HB2.out.trans (hB.mono HB2.out.size))
    have HT3 := Lib.hid (I.below HT2.out hB)
    have HR3 := Lib.hid (HR2.out.below hB)
    have HS3 := Lib.hid hr3
    obtain ⟨p3, c3, hv⟩ := hr3.shape
    subst hv
    clear hr3 hB HRf2 HB2 HT2 HR2
    go_wp2_with fail
    refine (HAL.out _ HT3.out).mono ?_
    rintro e w4 ⟨rfl, hB⟩
    have HB4 := Lib.hid (HB3.out.trans (hB.mono HB3.out.size))
    have HR4 := Lib.hid (HR3.out.below hB)
    have HS4 := Lib.hid (HS3.out.below hB)
    clear hB HB3 HT3 HR3 HS3
    go_wp2_with fail
    refine (equal_str _ _ o.2 o.2 w4 HR4.out HS4.out).mono ?_
    rintro e w5 ⟨rfl, hB⟩
    rw [decide_eq_true (rfl : o.2 = o.2)]
    have HB5 := Lib.hid (HB4.out.trans (hB.mono HB4.out.size))
    go_wp2_with fail
    go_ret
    exact ⟨rfl, HB5.out⟩
end Go.Proofs.Yteiffpninifjlaa.symbolsDecodes
