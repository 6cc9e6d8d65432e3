/- Layer 10: SymbolsEncodes, walked over the interface. -/
import Derived.Test.YteiffpninifjlaaMrg6
set_option linter.unusedVariables false
namespace Go.Proofs.Yteiffpninifjlaa.symbolsEncodes
open Go Go.RowKit
variable {G : Nat} {T : World → Prop}

set_option maxRecDepth 20000 in
set_option maxHeartbeats 8000000 in
theorem walk (I : SyIf G T) (hal : ∀ w, T w → Calls Try.prog 10 #[] w fun e w' => e = .returned (.bool true) ∧ Below w.heap.size w w')
    (w : World) (hT : T w) (lv : Value) (l : List ByteArray) (ok : ∀ s ∈ l, s.size ≤ maxLen) (hl : Rd w 1 lv l.length (strs l)) :
    Calls Try.prog 5 #[lv] w fun e w' => e = .returned (.bool true) ∧ Below w.heap.size w w' := by
  have HT := Lib.hid hT; have HL := Lib.hid hl; have HAL := Lib.hid hal
  have HLg := Lib.hid (large10 lv l w hl (fun s hs => by have := ok s hs; unfold maxLen at this; omega))
  obtain ⟨pl, cl, hv⟩ := hl.shape
  subst hv
  clear hT hl ok hal
  go_enter Try.func5, Try.ntmps5
  go_wp2_with fail
  refine HLg.out.mono ?_
  rintro e w1 ⟨he, hB⟩
  have HB1 := Lib.hid hB
  have HT1 := Lib.hid (I.below HT.out hB)
  have HL1 := Lib.hid (HL.out.below hB)
  clear hB HLg
  rcases he with rfl | ⟨rfl, h5, _⟩
  · go_wp2_with fail
    refine (HAL.out _ HT1.out).mono ?_
    rintro e w2 ⟨rfl, hB⟩
    have HB2 := Lib.hid (HB1.out.trans (hB.mono HB1.out.size))
    go_wp2_with fail
    go_ret
    exact ⟨rfl, HB2.out⟩
  · have HN : Hid (l.length ≤ 500) := h5
    have HEn := Lib.hid (I.encode _ l w1 HT1.out HL1.out (by omega))
    have HLt : Hid (∀ c ∈ (encSyR l).2, c < 256) := by
      intro c hc
      by_cases h0 : (encSyR l).1 = 0
      · rw [(encSyR_ok h0).1] at hc; exact encSy_lt l c hc
      · rw [encSyR_err h0] at hc; cases hc
    have HRf := Lib.hid (fun w h => ref_encode10 (.slice pl l.length cl) l w h (by omega))
    clear h5
    generalize encSyR l = o at *
    go_wp2_with fail
    refine HEn.out.mono ?_
    rintro e w2 ⟨⟨r2, rfl, hr2, _⟩, hB⟩
    have HB2 := Lib.hid (HB1.out.trans (hB.mono HB1.out.size))
    have HT2 := Lib.hid (I.below HT1.out hB)
    have HR2 := Lib.hid hr2
    have HRf2 := Lib.hid (HRf.out w2 (HL1.out.below hB))
    obtain ⟨p2, c2, hv⟩ := hr2.shape
    subst hv
    clear hr2 hB HEn HB1 HT1 HL1 HRf
    go_wp2_with fail
    refine HRf2.out.mono ?_
    rintro e w3 ⟨⟨r3, rfl, hr3, _⟩, hB⟩
    have HB3 := Lib.hid (HB2.out.trans (hB.mono HB2.out.size))
    have HT3 := Lib.hid (I.below HT2.out hB)
    have HR3 := Lib.hid (HR2.out.below hB)
    have HS3 := Lib.hid hr3
    obtain ⟨p3, c3, hv⟩ := hr3.shape
    subst hv
    clear hr3 hB HRf2 HB2 HT2 HR2
    go_wp2_with fail
    refine (HAL.out _ HT3.out).mono ?_
    rintro e w4 ⟨rfl, hB⟩
    have HB4 := Lib.hid (HB3.out.trans (hB.mono HB3.out.size))
    have HR4 := Lib.hid (HR3.out.below hB)
    have HS4 := Lib.hid (HS3.out.below hB)
    clear hB HB3 HT3 HR3 HS3
    go_wp2_with fail
    refine (equal_any _ _ _ _ o.2 o.2 w4 HR4.out HS4.out HLt.out HLt.out).mono ?_
    rintro e w5 ⟨rfl, rfl⟩
    rw [decide_eq_true (rfl : o.2 = o.2)]
    go_wp2_with fail
    go_ret
    exact ⟨rfl, HB4.out⟩
end Go.Proofs.Yteiffpninifjlaa.symbolsEncodes
