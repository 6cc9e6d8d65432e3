/- Layer 10: SymbolsRoundTrip, walked over the interface. -/
import Derived.Test.YteiffpninifjlaaMrg6
set_option linter.unusedVariables false
namespace Go.Proofs.Yteiffpninifjlaa.symbolsRoundTrip
open Go Go.RowKit
variable {G : Nat} {T : World → Prop}

set_option maxRecDepth 20000 in
set_option maxHeartbeats 8000000 in
theorem walk (I : SyIf G T) (hal : ∀ w, T w → Calls Try.prog 10 #[] w fun e w' => e = .returned (.bool true) ∧ Below w.heap.size w w')
    (w : World) (hT : T w) (lv : Value) (l : List ByteArray) (ok : ∀ s ∈ l, s.size ≤ maxLen) (hl : Rd w 1 lv l.length (strs l)) :
    Calls Try.prog 7 #[lv] w fun e w' => e = .returned (.bool true) ∧ Below w.heap.size w w' := by
  have HT := Lib.hid hT; have HL := Lib.hid hl; have HAL := Lib.hid hal
  have HLg := Lib.hid (large10 lv l w hl (fun s hs => by have := ok s hs; unfold maxLen at this; omega))
  obtain ⟨pl, cl, hv⟩ := hl.shape
  subst hv
  clear hT hl ok hal
  go_enter Try.func7, Try.ntmps7
  go_wp2_with fail
  refine HLg.out.mono ?_
  rintro e w1 ⟨he, hB⟩
  have HB1 := Lib.hid hB
  have HT1 := Lib.hid (I.below HT.out hB)
  have HL1 := Lib.hid (HL.out.below hB)
  clear hB HLg
  rcases he with rfl | ⟨rfl, h5, _⟩
  · go_wp2_with fail
    refine (HAL.out _ HT1.out).mono ?_
    rintro e w2 ⟨rfl, hB⟩
    have HB2 := Lib.hid (HB1.out.trans (hB.mono HB1.out.size))
    go_wp2_with fail
    go_ret
    exact ⟨rfl, HB2.out⟩
  · have HN : Hid (l.length ≤ 500) := h5
    have hlm : (l.length : Int) ≤ 500 := by omega
    have HTb := Lib.hid (I.table _ l w1 HT1.out HL1.out (by omega))
    have HAs : Hid (AscB ltS (tabS l)) := tabB_asc ltS_ok l
    have HTl : Hid ((tabS l).length ≤ 500) := by show _ ≤ _; have := tabB_len (lt := ltS) l; unfold tabS; omega
    have HMm : Hid (∀ s, s ∈ tabS l ↔ s ∈ l) := tabB_mem ltS_ok l
    clear h5
    generalize tabS l = tb at *
    go_wp2_with fail
    refine HTb.out.mono ?_
    rintro e w2 ⟨r2, rfl, hg⟩
    have HB2 := Lib.hid (HB1.out.trans (hg.bel.mono HB1.out.size))
    have HT2 := Lib.hid (I.below HT1.out hg.bel)
    have HL2 := Lib.hid (HL1.out.below hg.bel)
    have HR2 := Lib.hid hg.rd
    obtain ⟨p2, c2, hv⟩ := HR2.out.shape
    subst hv
    have HEn := Lib.hid (I.encode _ tb w2 HT2.out HR2.out (by have := HTl.out; omega))
    have HLt : Hid (∀ c ∈ (encSyR tb).2, c < 256) := by
      intro c hc
      by_cases h0 : (encSyR tb).1 = 0
      · rw [(encSyR_ok h0).1] at hc; exact encSy_lt tb c hc
      · rw [encSyR_err h0] at hc; cases hc
    have HLe : Hid ((encSyR tb).2.length ≤ 100000000) := by
      show _ ≤ _
      by_cases h0 : (encSyR tb).1 = 0
      · obtain ⟨h1, h2, _⟩ := encSyR_ok h0
        have h3 := encPre_len h2 (by have := HTl.out; omega) tb.length
        rw [encPre, List.take_length] at h3
        rw [h1]
        show (encSy tb).length ≤ _
        have := HTl.out
        rw [encSy]; omega
      · rw [encSyR_err h0]; simp
    have HFi : Hid ((encSyR tb).1 ≠ 0 ↔ ¬ Fits tb) := by
      show _ ↔ _
      constructor
      · intro h hf; exact h (by rw [encSyR_of hf HAs.out])
      · intro h; rw [encSyR, if_pos h]; decide
    have HDe : Hid (Fits tb → decSy (encSyR tb).2 = (0, tb)) := fun hf => by
      rw [encSyR_of hf HAs.out]
      exact decSy_back tb HAs.out hf (by have := HTl.out; omega)
    clear hg HTb HB1 HT1 HL1
    generalize encSyR tb = o at *
    go_wp2_with fail
    refine HEn.out.mono ?_
    rintro e w3 ⟨⟨r3, rfl, hr3, _⟩, hB⟩
    have HB3 := Lib.hid (HB2.out.trans (hB.mono HB2.out.size))
    have HT3 := Lib.hid (I.below HT2.out hB)
    have HL3 := Lib.hid (HL2.out.below hB)
    have HR3 := Lib.hid (HR2.out.below hB)
    obtain ⟨p3, c3, hv⟩ := hr3.shape
    subst hv
    have HDc := Lib.hid (I.decode _ o.2 w3 HT3.out hr3 HLt.out HLe.out)
    clear hr3 hB HEn HB2 HT2 HL2 HR2
    obtain ⟨d, hd⟩ : ∃ d, decSy o.2 = d := ⟨_, rfl⟩
    rw [hd] at HDc HDe
    clear hd
    go_wp2_with fail
    refine HDc.out.mono ?_
    rintro e w4 ⟨⟨r4, rfl, hr4, _⟩, hB⟩
    have HB4 := Lib.hid (HB3.out.trans (hB.mono HB3.out.size))
    have HT4 := Lib.hid (I.below HT3.out hB)
    have HL4 := Lib.hid (HL3.out.below hB)
    have HR4 := Lib.hid (HR3.out.below hB)
    have HS4 := Lib.hid hr4
    obtain ⟨p4, c4, hv⟩ := hr4.shape
    subst hv
    clear hr4 hB HDc HB3 HT3 HL3 HR3
    generalize o.2.length = ol at *
    go_wp2_with fail
    go_loop [28] (fun iv => ∃ (j : Nat), j ≤ l.length ∧ iv = .int .i64 (j : Int) ∧ Hid (∀ s ∈ l.take j, s.size ≤ 65535)) (fun iv => l.length - (intOf iv).toNat)
    case atStart => exact ⟨0, Nat.zero_le _, rfl, by intro s hs; simp at hs⟩
    case round =>
      obtain ⟨j, hj, rfl, HF⟩ := hrel
      by_cases hlt : j < l.length
      · have hlt' : (j : Int) < (l.length : Int) := by omega
        have hjm : (j : Int) ≤ 500 := by omega
        obtain ⟨b, off, c', e, _, _, _⟩ := HL4.out.at (fun e => by have := congrArg List.length e; rw [strs_length] at this; simp at this; subst this; simp at hlt)
        simp only [Value.slice.injEq] at e
        obtain ⟨rfl, _, rfl⟩ := e
        obtain ⟨x, hx⟩ : ∃ x, l[j]? = some x := ⟨_, List.getElem?_eq_getElem hlt⟩
        have hcx : w4.cell? ⟨b, off + j, none⟩ = some (.string x) := by rw [← (List.getElem?_eq_some_iff.1 hx).2]; exact rd1_cell HL4.out hlt
        have HX := Lib.hid hx
        clear hx
        by_cases hz : (65535 : Int) < (x.size : Int)
        · have hne : o.1 ≠ 0 := HFi.out.2 (fun h => by have := h x ((HMm.out x).2 (List.mem_of_getElem? HX.out)); omega)
          have he1 : ¬ (o.1 : Int) = 0 := by omega
          have HEb : Hid (((o.1 : Int) != 0) = true) := by show _ = _; rw [bne_iff_ne]; exact he1
          clear hne
          go_wp2_with fail
          refine (HAL.out _ HT4.out).mono ?_
          rintro e w5 ⟨rfl, hB⟩
          have HB5 := Lib.hid (HB4.out.trans (hB.mono HB4.out.size))
          go_wp2_with fail
          go_ret
          exact ⟨by rw [← HEb.out]; rfl, HB5.out⟩
        · have HF2 : Hid (∀ s ∈ l.take (j + 1), s.size ≤ 65535) := by
            intro s hs
            rw [List.take_add_one, HX.out] at hs
            rcases List.mem_append.1 hs with e | e
            · exact HF.out s e
            · simp at e; subst e; omega
          go_wp2_with fail
          go_round
          case rel => exact ⟨j + 1, by omega, by go_num, HF2.out⟩
          case measure => simp [intOf]; omega
      · have hlt' : ¬ (j : Int) < (l.length : Int) := by omega
        have hft : Fits tb := fun s hs => by
          have h := HF.out
          rw [List.take_of_length_le (by omega)] at h
          exact h s ((HMm.out s).1 hs)
        have hd := HDe.out hft
        have h0 : o.1 = 0 := Decidable.byContradiction (fun h => HFi.out.1 h hft)
        have HS5 : Hid (Rd w4 1 (.slice p4 tb.length c4) tb.length (strs tb)) := by have h := HS4.out; rw [hd] at h; exact h
        have hd1 : d.1 = 0 := by rw [hd]
        have hd2 : d.2.length = tb.length := by rw [hd]
        rw [h0, hd1, hd2]
        clear hft hd h0 hd1 hd2
        go_wp2_with fail
        refine (HAL.out _ HT4.out).mono ?_
        rintro e w5 ⟨rfl, hB⟩
        have HB5 := Lib.hid (HB4.out.trans (hB.mono HB4.out.size))
        have HR5 := Lib.hid (HR4.out.below hB)
        have HS6 := Lib.hid (HS5.out.below hB)
        clear hB
        go_wp2_with fail
        refine (equal_str _ _ tb tb w5 HR5.out HS6.out).mono ?_
        rintro e w6 ⟨rfl, hB⟩
        rw [decide_eq_true (rfl : tb = tb)]
        have HB6 := Lib.hid (HB5.out.trans (hB.mono HB5.out.size))
        go_wp2_with fail
        go_ret
        exact ⟨rfl, HB6.out⟩
end Go.Proofs.Yteiffpninifjlaa.symbolsRoundTrip
