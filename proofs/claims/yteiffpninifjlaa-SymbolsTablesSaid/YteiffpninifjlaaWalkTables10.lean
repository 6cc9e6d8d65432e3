/- Layer 10: SymbolsTables, walked over the interface. -/
import Derived.Test.YteiffpninifjlaaMrg6
set_option linter.unusedVariables false
namespace Go.Proofs.Yteiffpninifjlaa.symbolsTables
open Go Go.RowKit
variable {G : Nat} {T : World → Prop}

set_option maxRecDepth 20000 in
set_option maxHeartbeats 8000000 in
theorem walk (I : SyIf G T) (hal : ∀ w, T w → Calls Try.prog 10 #[] w fun e w' => e = .returned (.bool true) ∧ Below w.heap.size w w')
    (w : World) (hT : T w) (lv : Value) (l : List ByteArray) (ok : ∀ s ∈ l, s.size ≤ maxLen) (hl : Rd w 1 lv l.length (strs l)) :
    Calls Try.prog 3 #[lv] w fun e w' => e = .returned (.bool true) ∧ Below w.heap.size w w' := by
  have HT := Lib.hid hT; have HL := Lib.hid hl; have HAL := Lib.hid hal
  have HLg := Lib.hid (large10 lv l w hl (fun s hs => by have := ok s hs; unfold maxLen at this; omega))
  obtain ⟨pl, cl, hv⟩ := hl.shape
  subst hv
  clear hT hl ok hal
  go_enter Try.func3, Try.ntmps3
  go_wp2_with fail
  refine HLg.out.mono ?_
  rintro e w1 ⟨he, hB⟩
  have HB1 := Lib.hid hB
  have HT1 := Lib.hid (I.below HT.out hB)
  have HL1 := Lib.hid (HL.out.below hB)
  clear hB HLg
  rcases he with rfl | ⟨rfl, h5, _⟩
  · go_wp2_with fail
    refine (HAL.out _ HT1.out).mono ?_
    rintro e w2 ⟨rfl, hB⟩
    have HB2 := Lib.hid (HB1.out.trans (hB.mono HB1.out.size))
    go_wp2_with fail
    go_ret
    exact ⟨rfl, HB2.out⟩
  · have HN : Hid (l.length ≤ 500) := h5
    clear h5
    go_wp2_with fail
    refine (clone_str _ l w1 HL1.out (by have := HN.out; omega)).mono ?_
    rintro e w2 ⟨r2, rfl, hM⟩
    have HB2 := Lib.hid (HB1.out.trans (hM.2.mono HB1.out.size))
    have HT2 := Lib.hid (I.below HT1.out hM.2)
    have HL2 := Lib.hid (HL1.out.below hM.2)
    have HM2 := Lib.hid (Rd.of_owns hM.1)
    obtain ⟨p2, c2, hv⟩ := HM2.out.shape
    subst hv
    clear hM HB1 HT1 HL1
    go_wp2_with fail
    refine (HAL.out _ HT2.out).mono ?_
    rintro e w3 ⟨rfl, hB⟩
    have HB3 := Lib.hid (HB2.out.trans (hB.mono HB2.out.size))
    have HT3 := Lib.hid (I.below HT2.out hB)
    have HL3 := Lib.hid (HL2.out.below hB)
    have HM3 := Lib.hid (HM2.out.below hB)
    have HTb := Lib.hid (I.table _ l w3 HT3.out HL3.out (by have := HN.out; omega))
    clear hB HB2 HT2 HL2 HM2
    go_wp2_with fail
    refine HTb.out.mono ?_
    rintro e w4 ⟨r4, rfl, hg⟩
    have HB4 := Lib.hid (HB3.out.trans (hg.bel.mono HB3.out.size))
    have HL4 := Lib.hid (HL3.out.below hg.bel)
    have HM4 := Lib.hid (HM3.out.below hg.bel)
    have HR4 := Lib.hid hg.rd
    obtain ⟨p4, c4, hv⟩ := HR4.out.shape
    subst hv
    have HRf := Lib.hid (ref_table10 _ l w4 HL4.out (by have := HN.out; omega))
    clear hg HTb HB3 HT3 HL3 HM3
    generalize tabS l = tb at *
    go_wp2_with fail
    refine HRf.out.mono ?_
    rintro e w5 ⟨r5, rfl, hO⟩
    have HB5 := Lib.hid (HB4.out.trans (hO.bel.mono HB4.out.size))
    have HL5 := Lib.hid (HL4.out.below hO.bel)
    have HM5 := Lib.hid (HM4.out.below hO.bel)
    have HR5 := Lib.hid (HR4.out.below hO.bel)
    have HO5 := Lib.hid hO.rd
    obtain ⟨p5, c5, hv⟩ := HO5.out.shape
    subst hv
    clear hO HRf HB4 HL4 HM4 HR4
    go_wp2_with fail
    refine (equal_str _ _ tb tb w5 HR5.out HO5.out).mono ?_
    rintro e w6 ⟨rfl, hB⟩
    rw [decide_eq_true (rfl : tb = tb)]
    have HB6 := Lib.hid (HB5.out.trans (hB.mono HB5.out.size))
    have HL6 := Lib.hid (HL5.out.below hB)
    have HM6 := Lib.hid (HM5.out.below hB)
    clear hB HB5 HL5 HM5 HR5 HO5
    go_wp2_with fail
    refine (equal_str _ _ l l w6 HL6.out HM6.out).mono ?_
    rintro e w7 ⟨rfl, hB⟩
    rw [decide_eq_true (rfl : l = l)]
    have HB7 := Lib.hid (HB6.out.trans (hB.mono HB6.out.size))
    go_wp2_with fail
    go_ret
    exact ⟨rfl, HB7.out⟩
end Go.Proofs.Yteiffpninifjlaa.symbolsTables
