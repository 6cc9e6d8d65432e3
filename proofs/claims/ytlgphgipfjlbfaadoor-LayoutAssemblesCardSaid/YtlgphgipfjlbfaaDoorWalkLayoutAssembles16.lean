/- Layer 16: LayoutAssembles, walked over the interface. -/
import Derived.Test.YtlgphgipfjlbfaaDoorMrg4
import Derived.Test.YtlgphgipfjlbfaaDoorMrg5
import Derived.Test.YtlgphgipfjlbfaaDoorMrg7
import Derived.Test.YtlgphgipfjlbfaaDoorMrg6
import Derived.Test.YtlgphgipfjlbfaaDoorMrg8
set_option linter.unusedVariables false
set_option linter.unusedSimpArgs false
namespace Go.Proofs.YtlgphgipfjlbfaaDoor.layoutAssembles
open Go Go.RowKit
variable {G : Nat} {T : World → Prop}

set_option maxRecDepth 20000 in
set_option maxHeartbeats 8000000 in
theorem walk (I : LyIf G T) (hal : ∀ w, T w → Calls Tryd.prog 10 #[] w fun e w' => e = .returned (.bool true) ∧ Below w.heap.size w w')
    (w : World) (hT : T w) (vs : List Value) (S : List (List Nat)) (h4 : S.length = 4) (ok : okS4 S) (hM : ∀ d ∈ S, d.length ≤ 140737488351232) (hS : RdS w vs S) :
    Calls Tryd.prog 3 #[.agg vs.toArray] w fun e w' => e = .returned (.bool true) ∧ Below w.heap.size w w' := by
  have HT := Lib.hid hT; have HAL := Lib.hid hal; have H4 := Lib.hid h4; have HO := Lib.hid ok; have HM := Lib.hid hM; have HS := Lib.hid hS
  have HV : Hid (vs.length = 4) := hS.len.trans h4
  clear hT hal h4 ok hM hS
  go_enter Tryd.func3, Tryd.ntmps3
  go_wp2_with (refine wpList_boxA rfl _ _ rfl vs rfl ?_)
  intro w0 hK hB hs
  have HB0 := Lib.hid hB; have HT0 := Lib.hid (I.below HT.out hB); have HS0 := Lib.hid (HS.out.below hB); have HK0 := Lib.hid hK
  obtain ⟨g, hg⟩ : ∃ g, w.heap.size = g := ⟨_, rfl⟩
  have HG := Lib.hid hg
  rw [hg] at HK0 ⊢
  clear hK hB hs HT HS hg
  go_wp2_with (refine wpList_loadA arrB rfl _ rfl g rfl _ HK0.out HV.out ?_)
  refine (large16 vs S w0 HS0.out H4.out).mono ?_
  rintro e w1 ⟨he, hB⟩
  have HB1 := Lib.hid (HB0.out.trans (hB.mono HB0.out.size)); have HT1 := Lib.hid (I.below HT0.out hB); have HS1 := Lib.hid (HS0.out.below hB); have HK1 := Lib.hid (HK0.out.of_same (hB.block _ HK0.out.lt))
  clear hB HB0 HT0 HS0 HK0
  rcases he with rfl | ⟨rfl, h5⟩
  · go_wp2_with fail
    refine (HAL.out _ HT1.out).mono ?_
    rintro e wz ⟨rfl, hB⟩
    have HBz := Lib.hid (HB1.out.trans (hB.mono HB1.out.size))
    clear hB
    go_wp2_with fail
    go_ret
    exact ⟨rfl, HBz.out⟩
  · have HF := Lib.hid (asm_fits H4.out h5 HM.out)
    have HLt := Lib.hid (asmL_lt H4.out HO.out)
    have HLy := Lib.hid (lay_back H4.out HO.out (by have := HF.out; omega))
    have HAl : Hid ((atsOf S).length = 5) := by show _ = _; rw [atsOf, List.length_append, offs_length, H4.out]; rfl
    have HAs := Lib.hid (fun w h1 h2 => I.assemble vs S w h1 h2 H4.out HO.out HF.out)
    have HRa : Hid (∀ w, RdS w vs S → Calls Tryd.prog 12 #[.agg vs.toArray] w fun e w' => ∃ r, e = .returned r ∧ OwnB w w' (asmL S) r) := fun w h => ref_assemble16 vs S w h H4.out HO.out HF.out
    obtain ⟨B, hB⟩ : ∃ B, asmL S = B := ⟨_, rfl⟩
    rw [hB] at HF HLt HLy HAs HRa
    obtain ⟨az, haz⟩ : ∃ az, atsOf S = az := ⟨_, rfl⟩
    rw [haz] at HLy HAl
    have HAz : Hid ((natI az).length = 5) := by show _ = _; rw [natI_length]; exact HAl.out
    clear h5 hB haz
    go_wp2_with (refine wpList_loadA arrB rfl _ rfl g rfl _ HK1.out HV.out ?_)
    refine (HAs.out w1 HT1.out HS1.out).mono ?_
    rintro e w2 ⟨r2, rfl, hr, _, hB⟩
    have HB2 := Lib.hid (HB1.out.trans (hB.mono HB1.out.size)); have HT2 := Lib.hid (I.below HT1.out hB); have HS2 := Lib.hid (HS1.out.below hB); have HK2 := Lib.hid (HK1.out.of_same (hB.block _ HK1.out.lt))
    have HP2 := Lib.hid hr
    obtain ⟨p2, c2, hv⟩ := hr.shape
    subst hv
    clear hr hB HB1 HT1 HS1 HK1 HAs
    go_wp2_with (refine wpList_loadA arrB rfl _ rfl g rfl _ HK2.out HV.out ?_)
    refine (HRa.out w2 HS2.out).mono ?_
    rintro e w3 ⟨r3, rfl, hO⟩
    have hB := hO.bel
    have HB3 := Lib.hid (HB2.out.trans (hB.mono HB2.out.size)); have HT3 := Lib.hid (I.below HT2.out hB); have HP3 := Lib.hid (HP2.out.below hB)
    have HQ3 := Lib.hid hO.rd
    obtain ⟨p3, c3, hv⟩ := hO.rd.shape
    subst hv
    clear hO hB HB2 HT2 HS2 HK2 HP2 HRa
    go_wp2_with fail
    refine (ref_parse16 _ B w3 HQ3.out HLt.out HF.out).mono ?_
    rintro e w4 ⟨v4, rfl, hS, hB⟩
    rw [HLy.out] at hS ⊢
    have HB4 := Lib.hid (HB3.out.trans (hB.mono HB3.out.size)); have HT4 := Lib.hid (I.below HT3.out hB); have HP4 := Lib.hid (HP3.out.below hB); have HQ4 := Lib.hid (HQ3.out.below hB)
    have HR4 : Hid (RdS w4 v4 S) := hS
    have HV4 : Hid (v4.length = 4) := HR4.out.len.trans H4.out
    clear hS hB HB3 HT3 HP3 HQ3
    go_wp2_with (refine wpList_varA2 arrB arrI rfl rfl rfl rfl rfl _ _ rfl rfl _ _ rfl v4 (natI az) rfl rfl HV4.out HR4.out.one rfl rfl HAz.out (one_natI az) ?_; intro w5 hk hj hb hs)
    have HB5 : Hid (Below w.heap.size w w5) := HB4.out.trans (hb.mono HB4.out.size)
    have HT5 := Lib.hid (I.below HT4.out hb); have HP5 := Lib.hid (HP4.out.below hb); have HQ5 := Lib.hid (HQ4.out.below hb); have HJ5 := Lib.hid hj
    obtain ⟨g4, hg⟩ : ∃ g, w4.heap.size = g := ⟨_, rfl⟩
    rw [hg] at HJ5 ⊢
    clear hk hj hb hs HB4 HT4 HP4 HQ4 HR4 hg
    try go_wp2_with fail
    have hof := I.offsets _ B w5 HT5.out HQ5.out HLt.out HF.out
    rw [HLy.out] at hof
    refine hof.mono ?_
    rintro e w6 ⟨rfl, hB⟩
    have HB6 := Lib.hid (HB5.out.trans (hB.mono HB5.out.size)); have HT6 := Lib.hid (I.below HT5.out hB); have HP6 := Lib.hid (HP5.out.below hB); have HQ6 := Lib.hid (HQ5.out.below hB); have HJ6 := Lib.hid (HJ5.out.of_same (hB.block _ HJ5.out.lt))
    clear hB hof HB5 HT5 HP5 HQ5 HJ5
    go_wp2_with (refine wpList_varA arrI rfl rfl rfl _ _ rfl (natI az) rfl rfl HAz.out (one_natI az) ?_; intro w7 hk hb hs)
    have HB7 : Hid (Below w.heap.size w w7) := HB6.out.trans (hb.mono HB6.out.size)
    have HT7 := Lib.hid (I.below HT6.out hb); have HP7 := Lib.hid (HP6.out.below hb); have HQ7 := Lib.hid (HQ6.out.below hb); have HJ7 := Lib.hid (HJ6.out.of_same (hb.block _ HJ6.out.lt)); have HN7 := Lib.hid hk
    obtain ⟨g6, hg⟩ : ∃ g, w6.heap.size = g := ⟨_, rfl⟩
    rw [hg] at HN7 ⊢
    clear hk hb hs HB6 HT6 HP6 HQ6 HJ6 hg
    try go_wp2_with fail
    refine (HAL.out _ HT7.out).mono ?_
    rintro e w8 ⟨rfl, hB⟩
    have HB8 := Lib.hid (HB7.out.trans (hB.mono HB7.out.size)); have HP8 := Lib.hid (HP7.out.below hB); have HQ8 := Lib.hid (HQ7.out.below hB); have HJ8 := Lib.hid (HJ7.out.of_same (hB.block _ HJ7.out.lt)); have HN8 := Lib.hid (HN7.out.of_same (hB.block _ HN7.out.lt))
    clear hB HB7 HT7 HP7 HQ7 HJ7 HN7
    go_wp2_with fail
    refine (equal_any _ _ _ _ B B w8 HP8.out HQ8.out HLt.out HLt.out).mono ?_
    rintro e wz ⟨rfl, rfl⟩
    rw [decide_eq_true (rfl : B = B)]
    go_wp2_with (first
      | (refine wpList_loadG arrI rfl _ rfl g6 rfl _ HN8.out HAz.out ?_)
      | (refine wpList_loadG arrI rfl _ rfl (g4 + 1) rfl _ HJ8.out HAz.out ?_)
      | (refine wpList_eql5 arrI Tryd.underlying3 (by kernel_rfl) rfl _ _ rfl az az rfl rfl HAl.out HAl.out ?_; rw [decide_eq_true (rfl : az = az)]))
    go_ret
    exact ⟨rfl, HB8.out⟩
end Go.Proofs.YtlgphgipfjlbfaaDoor.layoutAssembles
