/- Layer 10: SymbolsFinds, walked over the interface. -/
import Derived.Test.YteiffpninifjlaaMrg6
import Derived.Test.YteiffpninifjlaaMrg11
set_option linter.unusedVariables false
namespace Go.Proofs.Yteiffpninifjlaa.symbolsFinds
open Go Go.RowKit
variable {G : Nat} {T : World → Prop}

set_option maxRecDepth 20000 in
set_option maxHeartbeats 8000000 in
theorem walk (I : SyIf G T) (hal : ∀ w, T w → Calls Try.prog 10 #[] w fun e w' => e = .returned (.bool true) ∧ Below w.heap.size w w')
    (w : World) (hT : T w) (lv : Value) (l : List ByteArray) (ok : ∀ s ∈ l, s.size ≤ maxLen) (hl : Rd w 1 lv l.length (strs l)) (s : ByteArray) :
    Calls Try.prog 4 #[lv, .string s] w fun e w' => e = .returned (.bool true) ∧ Below w.heap.size w w' := by
  have HT := Lib.hid hT; have HL := Lib.hid hl; have HAL := Lib.hid hal
  have HLg := Lib.hid (large10 lv l w hl (fun s hs => by have := ok s hs; unfold maxLen at this; omega))
  obtain ⟨pl, cl, hv⟩ := hl.shape
  subst hv
  clear hT hl ok hal
  go_enter Try.func4, Try.ntmps4
  go_wp2_with fail
  refine HLg.out.mono ?_
  rintro e w1 ⟨he, hB⟩
  have HB1 := Lib.hid hB
  have HT1 := Lib.hid (I.below HT.out hB)
  have HL1 := Lib.hid (HL.out.below hB)
  clear hB HLg
  rcases he with rfl | ⟨rfl, h5, _⟩
  · go_wp2_with fail
    refine (HAL.out _ HT1.out).mono ?_
    rintro e w2 ⟨rfl, hB⟩
    have HB2 := Lib.hid (HB1.out.trans (hB.mono HB1.out.size))
    go_wp2_with fail
    go_ret
    exact ⟨rfl, HB2.out⟩
  · have HN : Hid (l.length ≤ 500) := h5
    clear h5
    go_wp2_with fail
    refine (long10 _ l w1 HL1.out).mono ?_
    rintro e w2 ⟨he, hB⟩
    have HB2 := Lib.hid (HB1.out.trans (hB.mono HB1.out.size))
    have HT2 := Lib.hid (I.below HT1.out hB)
    have HL2 := Lib.hid (HL1.out.below hB)
    clear hB HB1 HT1 HL1
    rcases he with rfl | ⟨rfl, h6⟩
    · go_wp2_with fail
      refine (HAL.out _ HT2.out).mono ?_
      rintro e w3 ⟨rfl, hB⟩
      have HB3 := Lib.hid (HB2.out.trans (hB.mono HB2.out.size))
      go_wp2_with fail
      go_ret
      exact ⟨rfl, HB3.out⟩
    · have HFt : Hid (Fits (tabS l)) := fun x hx => h6 x ((tabB_mem ltS_ok l x).1 hx)
      have HAs : Hid (AscB ltS (tabS l)) := tabB_asc ltS_ok l
      have HTl : Hid ((tabS l).length ≤ 500) := by show _ ≤ _; have := tabB_len (lt := ltS) l; have := HN.out; unfold tabS; omega
      have HRf := Lib.hid (ref_table10 _ l w2 HL2.out (by have := HN.out; omega))
      clear h6
      generalize tabS l = tb at *
      go_wp2_with fail
      refine HRf.out.mono ?_
      rintro e w3 ⟨r3, rfl, hO⟩
      have HB3 := Lib.hid (HB2.out.trans (hO.bel.mono HB2.out.size))
      have HT3 := Lib.hid (I.below HT2.out hO.bel)
      have HO3 := Lib.hid hO.rd
      obtain ⟨p3, c3, hv⟩ := HO3.out.shape
      subst hv
      have HIx := Lib.hid (I.index _ tb s w3 HT3.out HO3.out (by have := HTl.out; omega) HAs.out HFt.out)
      clear hO HRf HB2 HT2 HL2
      go_wp2_with fail
      refine HIx.out.mono ?_
      rintro e w4 ⟨rfl, hB⟩
      have HB4 := Lib.hid (HB3.out.trans (hB.mono HB3.out.size))
      have HT4 := Lib.hid (I.below HT3.out hB)
      have HO4 := Lib.hid (HO3.out.below hB)
      have HRi := Lib.hid (ref_index10 _ tb s w4 HO4.out (by have := HTl.out; omega))
      have HRg : Hid (-1 ≤ findS tb s ∧ findS tb s ≤ 500) := by
        rcases firstI_cases (fun y => decide (y = s)) tb with ⟨h, _⟩ | ⟨j, x, h, hj, _, _⟩
        · show -1 ≤ firstI _ _ ∧ firstI _ _ ≤ 500; rw [h]; omega
        · have := (List.getElem?_eq_some_iff.1 hj).1
          have := HTl.out
          show -1 ≤ firstI _ _ ∧ firstI _ _ ≤ 500; rw [h]; omega
      clear hB HIx HB3 HT3 HO3
      generalize findS tb s = i at *
      go_wp2_with fail
      refine HRi.out.mono ?_
      rintro e w5 ⟨rfl, h5⟩
      obtain rfl := h5
      go_wp2_with fail
      refine (HAL.out _ HT4.out).mono ?_
      rintro e w6 ⟨rfl, hB⟩
      have HB6 := Lib.hid (HB4.out.trans (hB.mono HB4.out.size))
      by_cases h0 : 0 ≤ i
      · have hm : max i 0 = i := by omega
        rw [hm]
        have hd : decide (0 ≤ i) = true := by simpa using h0
        go_wp2_with fail
        go_ret
        exact ⟨rfl, HB6.out⟩
      · have hm : max i 0 = 0 := by omega
        rw [hm]
        have hd : decide (0 ≤ i) = false := by simpa using h0
        have hi : i ≤ 0 := by omega
        go_wp2_with fail
        go_ret
        exact ⟨rfl, HB6.out⟩
end Go.Proofs.Yteiffpninifjlaa.symbolsFinds
