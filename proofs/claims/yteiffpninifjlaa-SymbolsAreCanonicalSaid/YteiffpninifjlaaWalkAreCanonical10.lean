/- Layer 10: SymbolsAreCanonical, walked over the interface. -/
import Derived.Test.YteiffpninifjlaaMrg6
set_option linter.unusedVariables false
namespace Go.Proofs.Yteiffpninifjlaa.symbolsAreCanonical
open Go Go.RowKit
variable {G : Nat} {T : World → Prop}

set_option maxRecDepth 20000 in
set_option maxHeartbeats 8000000 in
theorem walk (I : SyIf G T) (hal : ∀ w, T w → Calls Try.prog 10 #[] w fun e w' => e = .returned (.bool true) ∧ Below w.heap.size w w')
    (w : World) (hT : T w) (bv : Value) (B : List Nat) (ok : ∀ c ∈ B, c < 256) (hl : Rd w 1 bv B.length (u8s B)) :
    Calls Try.prog 8 #[bv] w fun e w' => e = .returned (.bool true) ∧ Below w.heap.size w w' := by
  have HT := Lib.hid hT; have HL := Lib.hid hl; have HAL := Lib.hid hal; have HO := Lib.hid ok
  obtain ⟨pl, cl, hv⟩ := hl.shape
  subst hv
  clear hT hl ok hal
  by_cases hlt : (200000 : Int) < (B.length : Int)
  · go_enter Try.func8, Try.ntmps8
    go_wp2_with fail
    refine (HAL.out _ HT.out).mono ?_
    rintro e w2 ⟨rfl, hB⟩
    go_wp2_with fail
    go_ret
    exact ⟨rfl, hB⟩
  · have HDc := Lib.hid (I.decode _ B w HT.out HL.out HO.out (by omega))
    have HEr := Lib.hid (decSy_err B)
    have HIn : Hid (∀ u, decSy B = (0, u) → B = encSy u ∧ AscB ltS u ∧ Fits u) := fun u => decSy_inv HO.out
    have HNb : Hid (B.length ≤ 200000) := by show _ ≤ _; omega
    obtain ⟨o, ho⟩ : ∃ o, decSy B = o := ⟨_, rfl⟩
    rw [ho] at HDc HEr HIn
    clear ho
    by_cases he : o.1 = 0
    · obtain ⟨hb, ha, hf⟩ := HIn.out o.2 (by rw [← he])
      have HE : Hid (encSyR o.2 = (0, B)) := by show _ = _; rw [encSyR_of hf ha, ← hb]
      have HLo : Hid (o.2.length ≤ 200000) := by
        show _ ≤ _
        have h := congrArg List.length hb
        rw [encSy, List.length_append] at h
        have := flat_pos o.2
        have := HNb.out
        omega
      have HE0 : Hid (o.1 = 0) := he
      clear he hb ha hf HIn HEr
      go_enter Try.func8, Try.ntmps8
      go_wp2_with fail
      refine HDc.out.mono ?_
      rintro e w2 ⟨⟨r2, hr, hr2, _⟩, hB⟩
      rw [HE0.out] at hr
      subst hr
      have HB2 := Lib.hid hB
      have HT2 := Lib.hid (I.below HT.out hB)
      have HL2 := Lib.hid (HL.out.below hB)
      have hen := I.encode _ o.2 w2 HT2.out hr2 (by have := HLo.out; omega)
      rw [HE.out] at hen
      have HEn := Lib.hid hen
      obtain ⟨p2, c2, hv⟩ := hr2.shape
      subst hv
      clear hr2 hB HDc hen HE
      generalize o.2 = t at *
      go_wp2_with fail
      refine HEn.out.mono ?_
      rintro e w3 ⟨⟨r3, rfl, hr3, _⟩, hB⟩
      have HB3 := Lib.hid (HB2.out.trans (hB.mono HB2.out.size))
      have HT3 := Lib.hid (I.below HT2.out hB)
      have HL3 := Lib.hid (HL2.out.below hB)
      have HS3 : Hid (Rd w3 1 r3 B.length (u8s B)) := hr3
      obtain ⟨p3, c3, hv⟩ := HS3.out.shape
      subst hv
      clear hr3 hB HEn HB2 HT2 HL2
      go_wp2_with fail
      refine (HAL.out _ HT3.out).mono ?_
      rintro e w4 ⟨rfl, hB⟩
      have HB4 := Lib.hid (HB3.out.trans (hB.mono HB3.out.size))
      have HL4 := Lib.hid (HL3.out.below hB)
      have HS4 := Lib.hid (HS3.out.below hB)
      clear hB HB3 HT3 HL3 HS3
      go_wp2_with fail
      refine (equal_any _ _ _ _ B B w4 HL4.out HS4.out HO.out HO.out).mono ?_
      rintro e w5 ⟨rfl, rfl⟩
      rw [decide_eq_true (rfl : B = B)]
      go_wp2_with fail
      go_ret
      exact ⟨rfl, HB4.out⟩
    · have HX : Hid (o.2 = []) := HEr.out he
      have he1 : ¬ (o.1 : Int) = 0 := by omega
      have heb : ((o.1 : Int) == 0) = false := by rw [beq_eq_false_iff_ne]; exact he1
      clear he HIn HEr
      go_enter Try.func8, Try.ntmps8
      go_wp2_with fail
      refine HDc.out.mono ?_
      rintro e w2 ⟨⟨r2, rfl, hr2, _⟩, hB⟩
      rw [HX.out] at hr2
      have HB2 := Lib.hid hB
      have HT2 := Lib.hid (I.below HT.out hB)
      obtain ⟨p2, c2, hv⟩ : ∃ p c, r2 = .slice p 0 c := hr2.shape
      subst hv
      clear hr2 hB HDc HX
      go_wp2_with fail
      refine (HAL.out _ HT2.out).mono ?_
      rintro e w3 ⟨rfl, hB⟩
      have HB3 := Lib.hid (HB2.out.trans (hB.mono HB2.out.size))
      go_wp2_with fail
      go_ret
      exact ⟨rfl, HB3.out⟩
end Go.Proofs.Yteiffpninifjlaa.symbolsAreCanonical
