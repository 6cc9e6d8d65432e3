/- Layer 16: LayoutFindsBursts, walked over the interface. -/
import Derived.Test.YtlgphgipfjlbfaaDoorMrg4
import Derived.Test.YtlgphgipfjlbfaaDoorMrg5
import Derived.Test.YtlgphgipfjlbfaaDoorMrg7
import Derived.Test.YtlgphgipfjlbfaaDoorMrg6
import Derived.Test.YtlgphgipfjlbfaaDoorMrg8
import Derived.Test.YtlgphgipfjlbfaaDoorMrg13
set_option linter.unusedVariables false
set_option linter.unusedSimpArgs false
namespace Go.Proofs.YtlgphgipfjlbfaaDoor.layoutFindsBursts
open Go Go.RowKit
variable {G : Nat} {T : World → Prop}

set_option maxRecDepth 20000 in
set_option maxHeartbeats 8000000 in
theorem walk (I : LyIf G T) (hal : ∀ w, T w → Calls Tryd.prog 10 #[] w fun e w' => e = .returned (.bool true) ∧ Below w.heap.size w w')
    (w : World) (hT : T w) (vs : List Value) (S : List (List Nat)) (h4 : S.length = 4) (ok : okS4 S) (hM : ∀ d ∈ S, d.length ≤ 140737488351232) (hS : RdS w vs S) (f : Nat) (hf : f < 65536) (p : Nat) (hp : p < 4294967296) :
    Calls Tryd.prog 8 #[.agg vs.toArray, .int .u16 (f : Int), .int .u32 (p : Int)] w fun e w' => e = .returned (.bool true) ∧ Below w.heap.size w w' := by
  have HT := Lib.hid hT; have HAL := Lib.hid hal; have H4 := Lib.hid h4; have HO := Lib.hid ok; have HM := Lib.hid hM; have HS := Lib.hid hS; have HP := Lib.hid hp
  have HV : Hid (vs.length = 4) := hS.len.trans h4
  clear hT hal h4 ok hM hS hp
  go_enter Tryd.func8, Tryd.ntmps8
  go_wp2_with (refine wpList_boxA rfl _ _ rfl vs rfl ?_)
  intro w0 hK hB hs
  have HB0 := Lib.hid hB; have HT0 := Lib.hid (I.below HT.out hB); have HS0 := Lib.hid (HS.out.below hB); have HK0 := Lib.hid hK
  obtain ⟨g, hg⟩ : ∃ g, w.heap.size = g := ⟨_, rfl⟩
  rw [hg] at HK0 ⊢
  clear hK hB hs HT HS hg
  go_wp2_with (refine wpList_loadA arrB rfl _ rfl g rfl _ HK0.out HV.out ?_)
  refine (large16 vs S w0 HS0.out H4.out).mono ?_
  rintro e w1 ⟨he, hB⟩
  have HB1 := Lib.hid (HB0.out.trans (hB.mono HB0.out.size)); have HT1 := Lib.hid (I.below HT0.out hB); have HS1 := Lib.hid (HS0.out.below hB); have HK1 := Lib.hid (HK0.out.of_same (hB.block _ HK0.out.lt))
  clear hB HB0 HT0 HS0 HK0
  rcases he with rfl | ⟨rfl, h5⟩
  · go_wp2_with fail
    refine (HAL.out _ HT1.out).mono ?_
    rintro e wz ⟨rfl, hB⟩
    have HBz := Lib.hid (HB1.out.trans (hB.mono HB1.out.size))
    clear hB
    go_wp2_with fail
    go_ret
    exact ⟨rfl, HBz.out⟩
  · have HF := Lib.hid (asm_fits H4.out h5 HM.out)
    have HLt := Lib.hid (asmL_lt H4.out HO.out)
    have HBu : Hid (∀ o, (lay (flipTo (asmL S) o p 32)).2.2 = 0 ↔ asmL S = flipTo (asmL S) o p 32) := fun o => lay_burst H4.out HO.out (by have := HF.out; omega) o p
    have HRa : Hid (∀ w, RdS w vs S → Calls Tryd.prog 12 #[.agg vs.toArray] w fun e w' => ∃ r, e = .returned r ∧ OwnB w w' (asmL S) r) := fun w h => ref_assemble16 vs S w h H4.out HO.out HF.out
    have HPo : Hid (0 < (asmL S).length) := by show _ < _; rw [asmL, List.length_append]; have : tailL.length = 4 := rfl; omega
    obtain ⟨W, hW⟩ : ∃ W, asmL S = W := ⟨_, rfl⟩
    rw [hW] at HF HLt HBu HRa HPo
    clear h5 hW
    go_wp2_with (refine wpList_loadA arrB rfl _ rfl g rfl _ HK1.out HV.out ?_)
    refine (HRa.out w1 HS1.out).mono ?_
    rintro e w2 ⟨r2, rfl, hO⟩
    have hB := hO.bel
    have HB2 := Lib.hid (HB1.out.trans (hB.mono HB1.out.size)); have HT2 := Lib.hid (I.below HT1.out hB)
    have HP2 := Lib.hid hO.rd
    obtain ⟨p2, c2, hv⟩ := hO.rd.shape
    subst hv
    clear hO hB HB1 HT1 HS1 HK1 HRa
    have hW0 : 0 < W.length := HPo.out
    have hW1 : W.length ≤ 140737488352000 := HF.out
    obtain ⟨o, ho⟩ : ∃ o, f % (8 * W.length) = o := ⟨_, rfl⟩
    have hoW : o < 8 * W.length := ho ▸ Nat.mod_lt _ (by omega)
    have HoW := Lib.hid hoW
    have HI : Hid ((f : Int) % (8 * (W.length : Int)) = (o : Int)) := by show _ = _; rw [← ho]; simp
    have HD8 := Lib.hid (flipTo_lt HLt.out o p 32)
    have HDl := Lib.hid (flipTo_length W o p 32)
    have hw8 : IntKind.i64.wrap (8 * (W.length : Int)) = 8 * (W.length : Int) := IntWalk.i64_in _ (by omega)
    have hwf : IntKind.i64.wrap (f : Int) = (f : Int) := IntWalk.i64_in _ (by omega)
    have h80 : ¬ 8 * (W.length : Int) = 0 := by omega
    have hm0 : (0 : Int) ≤ (f : Int) % (8 * (W.length : Int)) := Int.emod_nonneg _ (by omega)
    have htm : (f : Int).tmod (8 * (W.length : Int)) = (f : Int) % (8 * (W.length : Int)) := Int.tmod_eq_emod_of_nonneg (by omega)
    have hwo : IntKind.i64.wrap ((f : Int) % (8 * (W.length : Int))) = (f : Int) % (8 * (W.length : Int)) := by rw [HI.out]; exact IntWalk.i64_in _ (by omega)
    clear ho hoW
    go_wp2_with fail
    rw [HI.out]
    refine (ref_flip _ W o p w2 HP2.out HLt.out (by have := HF.out; omega) HoW.out HP.out).mono ?_
    rintro e w3 ⟨r3, rfl, hM⟩
    have hB := hM.2
    have HB3 := Lib.hid (HB2.out.trans (hB.mono HB2.out.size)); have HT3 := Lib.hid (I.below HT2.out hB); have HP3 := Lib.hid (HP2.out.below hB)
    have hR := Rd.of_owns hM.1
    obtain ⟨p3, c3, hv⟩ := hR.shape
    subst hv
    have HBo := Lib.hid (HBu.out o)
    obtain ⟨D, hD⟩ : ∃ D, flipTo W o p 32 = D := ⟨_, rfl⟩
    rw [hD] at HD8 HDl HBo hR
    have HR3 : Hid (Rd w3 1 (.slice p3 W.length c3) D.length (u8s D)) := by show Rd _ _ _ _ _; rw [HDl.out]; exact hR
    clear hB hM hR hD HB2 HT2 HP2 HI hw8 hwf h80 hm0 htm hwo HBu HoW
    go_wp2_with fail
    refine (I.parse _ D w3 HT3.out HR3.out HD8.out (by rw [HDl.out]; exact HF.out)).mono ?_
    rintro en w4 ⟨v4, rfl, hS, hB⟩
    have HB4 := Lib.hid (HB3.out.trans (hB.mono HB3.out.size)); have HT4 := Lib.hid (I.below HT3.out hB); have HP4 := Lib.hid (HP3.out.below hB); have HR4 := Lib.hid (HR3.out.below hB)
    have HSh := Lib.hid (lay_shape HD8.out)
    have HS4 := Lib.hid hS
    have HV4 : Hid (v4.length = 4) := hS.len.trans HSh.out.1
    obtain ⟨⟨S4, a4, e4⟩, ho⟩ : ∃ o, lay D = o := ⟨_, rfl⟩
    rw [ho] at HBo HS4 HSh ⊢
    clear hB hS ho HB3 HT3 HP3 HR3
    have heq : ∀ (x : Bool), decide (e4 = 0) = x → decide (W = D) = x := fun x h => by
      rw [← h]; exact decide_eq_decide.2 HBo.out.symm
    by_cases h0 : e4 = 0
    · subst h0
      have HWD : Hid (decide (W = D) = true) := decide_eq_true (HBo.out.1 rfl)
      clear heq
      go_wp2_with (refine wpList_varA arrS rfl rfl rfl _ _ rfl v4 rfl rfl HV4.out HS4.out.one ?_; intro w5 hk5 hb5 hs5)
      have HB5 : Hid (Below w.heap.size w w5) := HB4.out.trans (hb5.mono HB4.out.size)
      have HT5 := Lib.hid (I.below HT4.out hb5); have HP5 := Lib.hid (HP4.out.below hb5); have HR5 := Lib.hid (HR4.out.below hb5)
      clear hk5 hb5 hs5 HB4 HT4 HP4 HR4 HS4
      try go_wp2_with fail
      refine (HAL.out _ HT5.out).mono ?_
      rintro en w6 ⟨rfl, hB⟩
      have HB6 := Lib.hid (HB5.out.trans (hB.mono HB5.out.size)); have HP6 := Lib.hid (HP5.out.below hB); have HR6 := Lib.hid (HR5.out.below hB)
      clear hB HB5 HT5 HP5 HR5
      go_wp2_with fail
      refine (equal_any _ _ _ _ W D w6 HP6.out HR6.out HLt.out HD8.out).mono ?_
      rintro en wz ⟨rfl, rfl⟩
      rw [HWD.out]
      go_wp2_with fail
      go_ret
      exact ⟨rfl, HB6.out⟩
    · have HWD : Hid (decide (W = D) = false) := decide_eq_false (fun e => h0 (HBo.out.2 e))
      have hei : ¬ (e4 : Int) = 0 := by omega
      have heb : ((e4 : Int) == 0) = false := by rw [beq_eq_false_iff_ne]; exact hei
      clear heq h0
      go_wp2_with (refine wpList_varA arrS rfl rfl rfl _ _ rfl v4 rfl rfl HV4.out HS4.out.one ?_; intro w5 hk5 hb5 hs5)
      have HB5 : Hid (Below w.heap.size w w5) := HB4.out.trans (hb5.mono HB4.out.size)
      have HT5 := Lib.hid (I.below HT4.out hb5); have HP5 := Lib.hid (HP4.out.below hb5); have HR5 := Lib.hid (HR4.out.below hb5)
      clear hk5 hb5 hs5 HB4 HT4 HP4 HR4 HS4
      try go_wp2_with fail
      refine (HAL.out _ HT5.out).mono ?_
      rintro en w6 ⟨rfl, hB⟩
      have HB6 := Lib.hid (HB5.out.trans (hB.mono HB5.out.size)); have HP6 := Lib.hid (HP5.out.below hB); have HR6 := Lib.hid (HR5.out.below hB)
      clear hB HB5 HT5 HP5 HR5
      go_wp2_with fail
      refine (equal_any _ _ _ _ W D w6 HP6.out HR6.out HLt.out HD8.out).mono ?_
      rintro en wz ⟨rfl, rfl⟩
      rw [HWD.out]
      go_wp2_with fail
      go_ret
      exact ⟨rfl, HB6.out⟩
end Go.Proofs.YtlgphgipfjlbfaaDoor.layoutFindsBursts
