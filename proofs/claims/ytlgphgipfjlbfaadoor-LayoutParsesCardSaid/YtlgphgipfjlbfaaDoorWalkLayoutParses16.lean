/- Layer 16: LayoutParses, walked over the interface. -/
import Derived.Test.YtlgphgipfjlbfaaDoorMrg4
import Derived.Test.YtlgphgipfjlbfaaDoorMrg5
import Derived.Test.YtlgphgipfjlbfaaDoorMrg7
import Derived.Test.YtlgphgipfjlbfaaDoorMrg13
set_option linter.unusedVariables false
set_option linter.unusedSimpArgs false
namespace Go.Proofs.YtlgphgipfjlbfaaDoor.layoutParses
open Go Go.RowKit
variable {G : Nat} {T : World → Prop}

set_option maxRecDepth 20000 in
set_option maxHeartbeats 8000000 in
theorem walk (I : LyIf G T) (hal : ∀ w, T w → Calls Tryd.prog 10 #[] w fun e w' => e = .returned (.bool true) ∧ Below w.heap.size w w')
    (w : World) (hT : T w) (bv : Value) (b : List Nat) (okb : ∀ z ∈ b, z < 256) (hb : Rd w 1 bv b.length (u8s b)) :
    Calls Tryd.prog 4 #[bv] w fun e w' => e = .returned (.bool true) ∧ Below w.heap.size w w' := by
  have HT := Lib.hid hT; have HAL := Lib.hid hal; have HL := Lib.hid hb; have HO := Lib.hid okb
  obtain ⟨pb, cb, hv⟩ := hb.shape
  subst hv
  clear hT hal hb okb
  go_enter Tryd.func4, Tryd.ntmps4
  by_cases hbl : (10000 : Int) < (b.length : Int)
  · go_wp2_with fail
    refine (HAL.out _ HT.out).mono ?_
    rintro e wz ⟨rfl, hB⟩
    have HBz := Lib.hid hB
    clear hB
    go_wp2_with fail
    go_ret
    exact ⟨rfl, HBz.out⟩
  · have HN : Hid (b.length ≤ 10000) := by show _ ≤ _; omega
    have HPa := Lib.hid (fun w h1 h2 => I.parse (.slice pb b.length cb) b w h1 h2 HO.out (by have := HN.out; omega))
    have HOf := Lib.hid (fun w h1 h2 => I.offsets (.slice pb b.length cb) b w h1 h2 HO.out (by have := HN.out; omega))
    have HCe := Lib.hid (fun w h1 h2 => I.certain (.slice pb b.length cb) b w h1 h2 HO.out (by have := HN.out; omega))
    have HRp : Hid (∀ w, Rd w 1 (.slice pb b.length cb) b.length (u8s b) → Calls Tryd.prog 13 #[.slice pb b.length cb] w fun e w' => ∃ vs, e = .returned (.tuple #[.agg vs.toArray, .agg (natI (lay b).2.1).toArray, .int .i64 ((lay b).2.2 : Int)]) ∧ RdS w' vs (lay b).1 ∧ Below w.heap.size w w') := fun w h => ref_parse16 _ b w h HO.out (by have := HN.out; omega)
    have HRc := Lib.hid (fun w h => ref_certain16 (.slice pb b.length cb) b w h HO.out (by have := HN.out; omega))
    have HSh := Lib.hid (lay_shape HO.out)
    obtain ⟨ec, hec⟩ : ∃ ec, certE b = ec := ⟨_, rfl⟩
    obtain ⟨⟨S, az, e⟩, ho⟩ : ∃ o, lay b = o := ⟨_, rfl⟩
    rw [ho] at HPa HOf HRp HSh
    rw [hec] at HCe HRc
    have HAz : Hid ((natI az).length = 5) := by show _ = _; rw [natI_length]; exact HSh.out.2.1
    clear ho hec
    go_wp2_with fail
    refine (HPa.out w HT.out HL.out).mono ?_
    rintro en w1 ⟨v1, rfl, hS, hB⟩
    have HB1 := Lib.hid hB; have HT1 := Lib.hid (I.below HT.out hB); have HL1 := Lib.hid (HL.out.below hB); have HS1 := Lib.hid hS
    have HV1 : Hid (v1.length = 4) := hS.len.trans HSh.out.1
    clear hB hS HT HL HPa
    go_wp2_with (refine wpList_varA arrS rfl rfl rfl _ _ rfl v1 rfl rfl HV1.out HS1.out.one ?_; intro w2 hk2 hb2 hs2)
    have HB2 : Hid (Below w.heap.size w w2) := HB1.out.trans (hb2.mono HB1.out.size)
    have HT2 := Lib.hid (I.below HT1.out hb2); have HL2 := Lib.hid (HL1.out.below hb2); have HS2 := Lib.hid (HS1.out.below hb2)
    have HK2 := Lib.hid hk2
    obtain ⟨g1, hg⟩ : ∃ g, w1.heap.size = g := ⟨_, rfl⟩
    rw [hg] at HK2 ⊢
    clear hk2 hb2 hs2 HB1 HT1 HL1 HS1 hg
    try go_wp2_with fail
    refine (HRp.out w2 HL2.out).mono ?_
    rintro en w3 ⟨v3, rfl, hS, hB⟩
    have HB3 := Lib.hid (HB2.out.trans (hB.mono HB2.out.size)); have HT3 := Lib.hid (I.below HT2.out hB); have HL3 := Lib.hid (HL2.out.below hB); have HS3 := Lib.hid (HS2.out.below hB)
    have HR3 := Lib.hid hS
    have HV3 : Hid (v3.length = 4) := hS.len.trans HSh.out.1
    have HK3 := Lib.hid (HK2.out.of_same (hB.block _ HK2.out.lt))
    clear hB hS HB2 HT2 HL2 HS2 HK2 HRp
    go_wp2_with (refine wpList_varA2 arrB arrI rfl rfl rfl rfl rfl _ _ rfl rfl _ _ rfl v3 (natI az) rfl rfl HV3.out HR3.out.one rfl rfl HAz.out (one_natI az) ?_; intro w4 hk4 hj4 hb4 hs4)
    have HB4 : Hid (Below w.heap.size w w4) := HB3.out.trans (hb4.mono HB3.out.size)
    have HT4 := Lib.hid (I.below HT3.out hb4); have HL4 := Lib.hid (HL3.out.below hb4); have HS4 := Lib.hid (HS3.out.below hb4); have HR4 := Lib.hid (HR3.out.below hb4)
    have HK4 := Lib.hid (HK3.out.of_same (hb4.block _ HK3.out.lt))
    have HM4 := Lib.hid hk4; have HJ4 := Lib.hid hj4
    obtain ⟨g3, hg⟩ : ∃ g, w3.heap.size = g := ⟨_, rfl⟩
    rw [hg] at HM4 HJ4 ⊢
    clear hk4 hj4 hb4 hs4 HB3 HT3 HL3 HS3 HR3 HK3 hg
    try go_wp2_with fail
    refine (HOf.out w4 HT4.out HL4.out).mono ?_
    rintro en w5 ⟨rfl, hB⟩
    have HB5 := Lib.hid (HB4.out.trans (hB.mono HB4.out.size)); have HT5 := Lib.hid (I.below HT4.out hB); have HL5 := Lib.hid (HL4.out.below hB); have HS5 := Lib.hid (HS4.out.below hB); have HR5 := Lib.hid (HR4.out.below hB)
    have HK5 := Lib.hid (HK4.out.of_same (hB.block _ HK4.out.lt)); have HM5 := Lib.hid (HM4.out.of_same (hB.block _ HM4.out.lt)); have HJ5 := Lib.hid (HJ4.out.of_same (hB.block _ HJ4.out.lt))
    clear hB HB4 HT4 HL4 HS4 HR4 HK4 HM4 HJ4 HOf
    go_wp2_with (refine wpList_varA arrI rfl rfl rfl _ _ rfl (natI az) rfl rfl HAz.out (one_natI az) ?_; intro w6 hk6 hb6 hs6)
    have HB6 : Hid (Below w.heap.size w w6) := HB5.out.trans (hb6.mono HB5.out.size)
    have HT6 := Lib.hid (I.below HT5.out hb6); have HL6 := Lib.hid (HL5.out.below hb6); have HS6 := Lib.hid (HS5.out.below hb6); have HR6 := Lib.hid (HR5.out.below hb6)
    have HK6 := Lib.hid (HK5.out.of_same (hb6.block _ HK5.out.lt)); have HM6 := Lib.hid (HM5.out.of_same (hb6.block _ HM5.out.lt)); have HJ6 := Lib.hid (HJ5.out.of_same (hb6.block _ HJ5.out.lt))
    have HN6 := Lib.hid hk6
    obtain ⟨g5, hg⟩ : ∃ g, w5.heap.size = g := ⟨_, rfl⟩
    rw [hg] at HN6 ⊢
    clear hk6 hb6 hs6 HB5 HT5 HL5 HS5 HR5 HK5 HM5 HJ5 hg
    try go_wp2_with fail
    refine (HAL.out _ HT6.out).mono ?_
    rintro en w7 ⟨rfl, hB⟩
    have HB7 := Lib.hid (HB6.out.trans (hB.mono HB6.out.size)); have HT7 := Lib.hid (I.below HT6.out hB); have HL7 := Lib.hid (HL6.out.below hB); have HS7 := Lib.hid (HS6.out.below hB); have HR7 := Lib.hid (HR6.out.below hB)
    have HK7 := Lib.hid (HK6.out.of_same (hB.block _ HK6.out.lt)); have HM7 := Lib.hid (HM6.out.of_same (hB.block _ HM6.out.lt)); have HJ7 := Lib.hid (HJ6.out.of_same (hB.block _ HJ6.out.lt)); have HN7 := Lib.hid (HN6.out.of_same (hB.block _ HN6.out.lt))
    clear hB HB6 HT6 HL6 HS6 HR6 HK6 HM6 HJ6 HN6
    go_wp2_with (first
      | (refine wpList_loadG arrS rfl _ rfl g1 rfl _ HK7.out HV1.out ?_)
      | (refine wpList_loadG arrB rfl _ rfl g3 rfl _ HM7.out HV3.out ?_))
    refine (ref_same16 v1 v3 S S w7 HS7.out HR7.out HSh.out.1 HSh.out.1 (fun d hd => (HSh.out.2.2 d hd).1) (fun d hd => (HSh.out.2.2 d hd).1)).mono ?_
    rw [decide_eq_true (rfl : S = S)]
    rintro en w8 ⟨rfl, hB⟩
    have HB8 := Lib.hid (HB7.out.trans (hB.mono HB7.out.size)); have HT8 := Lib.hid (I.below HT7.out hB); have HL8 := Lib.hid (HL7.out.below hB)
    have HJ8 := Lib.hid (HJ7.out.of_same (hB.block _ HJ7.out.lt)); have HN8 := Lib.hid (HN7.out.of_same (hB.block _ HN7.out.lt))
    have HEq : Hid (∀ Q : Prop, (decide (az = az) = true → Q) → Q) := fun Q h => h (decide_eq_true rfl)
    clear hB HB7 HT7 HL7 HS7 HR7 HK7 HM7 HJ7 HN7
    go_wp2_with (first
      | (refine wpList_loadG arrI rfl _ rfl g5 rfl _ HN8.out HAz.out ?_)
      | (refine wpList_loadG arrI rfl _ rfl (g3 + 1) rfl _ HJ8.out HAz.out ?_)
      | (refine wpList_eql5 arrI Tryd.underlying3 (by kernel_rfl) rfl _ _ rfl az az rfl rfl HSh.out.2.1 HSh.out.2.1 ?_; rw [decide_eq_true (rfl : az = az)]))
    refine (HCe.out w8 HT8.out HL8.out).mono ?_
    rintro en w9 ⟨rfl, hB⟩
    have HB9 := Lib.hid (HB8.out.trans (hB.mono HB8.out.size)); have HL9 := Lib.hid (HL8.out.below hB)
    clear hB HB8 HT8 HL8 HJ8 HN8
    go_wp2_with fail
    refine (HRc.out w9 HL9.out).mono ?_
    rintro en wz ⟨rfl, hB⟩
    have HBz := Lib.hid (HB9.out.trans (hB.mono HB9.out.size))
    clear hB HB9 HL9
    go_wp2_with fail
    go_ret
    exact ⟨rfl, HBz.out⟩
end Go.Proofs.YtlgphgipfjlbfaaDoor.layoutParses
