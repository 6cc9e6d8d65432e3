/- Layer 16: LayoutIsCanonical, walked over the interface. -/
import Derived.Test.YtlgphgipfjlbfaaDoorMrg4
import Derived.Test.YtlgphgipfjlbfaaDoorMrg5
import Derived.Test.YtlgphgipfjlbfaaDoorMrg7
import Derived.Test.YtlgphgipfjlbfaaDoorMrg13
import Derived.Test.YtlgphgipfjlbfaaDoorMrg8
set_option linter.unusedVariables false
set_option linter.unusedSimpArgs false
namespace Go.Proofs.YtlgphgipfjlbfaaDoor.layoutIsCanonical
open Go Go.RowKit
variable {G : Nat} {T : World → Prop}

set_option maxRecDepth 20000 in
set_option maxHeartbeats 8000000 in
theorem walk (I : LyIf G T) (hal : ∀ w, T w → Calls Tryd.prog 10 #[] w fun e w' => e = .returned (.bool true) ∧ Below w.heap.size w w')
    (w : World) (hT : T w) (bv : Value) (b : List Nat) (okb : ∀ z ∈ b, z < 256) (hb : Rd w 1 bv b.length (u8s b)) :
    Calls Tryd.prog 6 #[bv] w fun e w' => e = .returned (.bool true) ∧ Below w.heap.size w w' := by
  have HT := Lib.hid hT; have HAL := Lib.hid hal; have HL := Lib.hid hb; have HO := Lib.hid okb
  obtain ⟨pb, cb, hv⟩ := hb.shape
  subst hv
  clear hT hal hb okb
  go_enter Tryd.func6, Tryd.ntmps6
  by_cases hbl : (10000 : Int) < (b.length : Int)
  · go_wp2_with fail
    refine (HAL.out _ HT.out).mono ?_
    rintro e wz ⟨rfl, hB⟩
    have HBz := Lib.hid hB
    clear hB
    go_wp2_with fail
    go_ret
    exact ⟨rfl, HBz.out⟩
  · have HN : Hid (b.length ≤ 10000) := by show _ ≤ _; omega
    have HPa := Lib.hid (fun w h1 h2 => I.parse (.slice pb b.length cb) b w h1 h2 HO.out (by have := HN.out; omega))
    have HSh := Lib.hid (lay_shape HO.out)
    have HIn : Hid ((lay b).2.2 = 0 → asmL (lay b).1 = b) := fun h => by
      obtain ⟨S, _, _, hl, hb⟩ := lay_inv HO.out h
      rw [hl]; exact hb.symm
    have HEr : Hid ((lay b).2.2 ≠ 0 → (lay b).1 = noSecs) := fun h => (lay_err h).1
    obtain ⟨⟨S, az, e⟩, ho⟩ : ∃ o, lay b = o := ⟨_, rfl⟩
    rw [ho] at HPa HSh HIn HEr
    clear ho
    go_wp2_with fail
    refine (HPa.out w HT.out HL.out).mono ?_
    rintro en w1 ⟨v1, rfl, hS, hB⟩
    have HB1 := Lib.hid hB; have HT1 := Lib.hid (I.below HT.out hB); have HL1 := Lib.hid (HL.out.below hB); have HS1 := Lib.hid hS
    have HV1 : Hid (v1.length = 4) := hS.len.trans HSh.out.1
    clear hB hS HT HL HPa
    by_cases he : e = 0
    · subst he
      have HX : Hid (asmL S = b) := HIn.out rfl
      go_wp2_with (refine wpList_varA arrS rfl rfl rfl _ _ rfl v1 rfl rfl HV1.out HS1.out.one ?_; intro w2 hk2 hb2 hs2)
      have HB2 : Hid (Below w.heap.size w w2) := HB1.out.trans (hb2.mono HB1.out.size)
      have HT2 := Lib.hid (I.below HT1.out hb2); have HL2 := Lib.hid (HL1.out.below hb2); have HS2 := Lib.hid (HS1.out.below hb2)
      have HK2 := Lib.hid hk2
      obtain ⟨g1, hg⟩ : ∃ g, w1.heap.size = g := ⟨_, rfl⟩
      rw [hg] at HK2 ⊢
      clear hk2 hb2 hs2 HB1 HT1 HL1 HS1 hg
      try go_wp2_with fail
      refine (HAL.out _ HT2.out).mono ?_
      rintro en w3 ⟨rfl, hB⟩
      have HB3 := Lib.hid (HB2.out.trans (hB.mono HB2.out.size)); have HT3 := Lib.hid (I.below HT2.out hB); have HL3 := Lib.hid (HL2.out.below hB); have HS3 := Lib.hid (HS2.out.below hB); have HK3 := Lib.hid (HK2.out.of_same (hB.block _ HK2.out.lt))
      clear hB HB2 HT2 HL2 HS2 HK2
      go_wp2_with (refine wpList_loadG arrS rfl _ rfl g1 rfl _ HK3.out HV1.out ?_)
      have has := I.assemble v1 S w3 HT3.out HS3.out HSh.out.1 HSh.out.2.2 (by rw [HX.out]; have := HN.out; omega)
      rw [HX.out] at has
      refine has.mono ?_
      rintro en w4 ⟨r, rfl, hr, _, hB⟩
      have HB4 := Lib.hid (HB3.out.trans (hB.mono HB3.out.size)); have HL4 := Lib.hid (HL3.out.below hB)
      have HP4 := Lib.hid hr
      obtain ⟨p, c, hv⟩ := hr.shape
      subst hv
      clear hr hB has HB3 HT3 HL3 HS3 HK3
      go_wp2_with fail
      refine (equal_any _ _ _ _ b b w4 HP4.out HL4.out HO.out HO.out).mono ?_
      rintro en wz ⟨rfl, rfl⟩
      rw [decide_eq_true (rfl : b = b)]
      go_wp2_with fail
      go_ret
      exact ⟨rfl, HB4.out⟩
    · have hei : ¬ (e : Int) = 0 := by omega
      have heb : ((e : Int) == 0) = false := by rw [beq_eq_false_iff_ne]; exact hei
      have hx : S = noSecs := HEr.out he
      subst hx
      clear he
      go_wp2_with (refine wpList_varA arrS rfl rfl rfl _ _ rfl v1 rfl rfl HV1.out HS1.out.one ?_; intro w2 hk2 hb2 hs2)
      have HB2 : Hid (Below w.heap.size w w2) := HB1.out.trans (hb2.mono HB1.out.size)
      have HT2 := Lib.hid (I.below HT1.out hb2); have HS2 := Lib.hid (HS1.out.below hb2)
      have HK2 := Lib.hid hk2
      obtain ⟨g1, hg⟩ : ∃ g, w1.heap.size = g := ⟨_, rfl⟩
      rw [hg] at HK2 ⊢
      clear hk2 hb2 hs2 HB1 HT1 HL1 HS1 hg
      try go_wp2_with fail
      refine (HAL.out _ HT2.out).mono ?_
      rintro en w3 ⟨rfl, hB⟩
      have HB3 := Lib.hid (HB2.out.trans (hB.mono HB2.out.size)); have HS3 := Lib.hid (HS2.out.below hB); have HK3 := Lib.hid (HK2.out.of_same (hB.block _ HK2.out.lt))
      clear hB HB2 HT2 HS2 HK2
      go_wp2_with (refine wpList_loadG arrS rfl _ rfl g1 rfl _ HK3.out HV1.out ?_)
      refine (ref_same16 v1 nil4 noSecs noSecs w3 HS3.out (rdS_none w3) rfl rfl (fun d hd => (HSh.out.2.2 d hd).1) (fun d hd => (HSh.out.2.2 d hd).1)).mono ?_
      rw [decide_eq_true (rfl : noSecs = noSecs)]
      rintro en w4 ⟨rfl, hB⟩
      have HB4 := Lib.hid (HB3.out.trans (hB.mono HB3.out.size))
      clear hB HB3 HS3 HK3
      go_wp2_with fail
      go_ret
      exact ⟨rfl, HB4.out⟩
end Go.Proofs.YtlgphgipfjlbfaaDoor.layoutIsCanonical
