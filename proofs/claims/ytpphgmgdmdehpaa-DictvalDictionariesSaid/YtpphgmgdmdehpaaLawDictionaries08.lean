/- DictvalDictionaries holds for every list of values and every count. No condition. -/
import Derived.Test.YtpphgmgdmdehpaaDictI
import Derived.Test.YtpphgmgdmdehpaaAlive08
import Derived.Test.YtpphgmgdmdehpaaDvAll
import Derived.Test.YtpphgmgdmdehpaaRows
import Derived.Test.YtpphgmgdmdehpaaOpen

section
/- Layer 8: DictvalDictionaries, walked over the interface. -/
set_option linter.unusedVariables false
namespace Go.Proofs.Ytpphgmgdmdehpaa.dictvalDictionaries
open Go Go.RowKit
variable {G : Nat} {T : World → Prop}

set_option maxRecDepth 20000 in
set_option maxHeartbeats 4000000 in
theorem walk (I : DIf G T) (hal : ∀ w, T w → Calls Try.prog 9 #[] w fun e w' => e = .returned (.bool true) ∧ Below w.heap.size w w')
    (w : World) (hT : T w) (lv : Value) (l : List Nat) (ok : ∀ t ∈ l, in64u t) (hl : Rd w 1 lv l.length (u64s l)) (n : Int) (hn : -9223372036854775808 ≤ n ∧ n < 9223372036854775808) :
    Calls Try.prog 3 #[lv, .int .i64 n] w fun e w' => e = .returned (.bool true) ∧ Below w.heap.size w w' := by
  have HT := Lib.hid hT; have HL := Lib.hid hl; have HO := Lib.hid ok; have HAL := Lib.hid hal
  obtain ⟨pl, cl, hv⟩ := hl.shape
  subst hv
  clear hT hl ok hal
  by_cases hlt : 400 < l.length
  · have hlt' : (400 : Int) < (l.length : Int) := by omega
    go_enter Try.func3, Try.ntmps3
    go_wp2_with fail
    refine (HAL.out _ HT.out).mono ?_
    rintro e w1 ⟨rfl, hB⟩
    go_wp2_with fail
    go_ret
    exact ⟨rfl, hB⟩
  · have hlt' : ¬ (400 : Int) < (l.length : Int) := by omega
    have HN : Hid (l.length ≤ 400) := by show _ ≤ _; omega
    have HNn := Lib.hid hn
    clear hlt hn
    go_enter Try.func3, Try.ntmps3
    go_wp2_with fail
    refine (clone_u64 _ l w HL.out (by have := HN.out; omega)).mono ?_
    rintro e w1 ⟨r1, rfl, hM⟩
    have HB1 := Lib.hid hM.2
    have HC1 := Lib.hid (Rd.of_owns hM.1)
    have HT1 := Lib.hid (I.below HT.out hM.2)
    have HL1 := Lib.hid (HL.out.below hM.2)
    obtain ⟨p1, c1, hv1⟩ := (Rd.of_owns hM.1).shape
    subst hv1
    clear hM HT HL
    go_wp2_with fail
    refine (I.dict _ l w1 HT1.out HL1.out HO.out (by have := HN.out; omega)).mono ?_
    rintro e w2 ⟨r2, rfl, hM⟩
    have HB2 := Lib.hid (HB1.out.trans (hM.2.mono HB1.out.size))
    have HC2 := Lib.hid (HC1.out.below hM.2)
    have HT2 := Lib.hid (I.below HT1.out hM.2)
    have HL2 := Lib.hid (HL1.out.below hM.2)
    have HD2 := Lib.hid (Rd.of_owns hM.1)
    obtain ⟨p2, c2, hv2⟩ := (Rd.of_owns hM.1).shape
    subst hv2
    clear hM HB1 HC1 HT1 HL1
    go_wp2_with fail
    refine (ref_dict08 _ l w2 HL2.out (by have := HN.out; omega)).mono ?_
    rintro e w3 ⟨r3, rfl, hM⟩
    have HB3 := Lib.hid (HB2.out.trans (hM.bel.mono HB2.out.size))
    have HC3 := Lib.hid (HC2.out.below hM.bel)
    have HT3 := Lib.hid (I.below HT2.out hM.bel)
    have HL3 := Lib.hid (HL2.out.below hM.bel)
    have HD3 := Lib.hid (HD2.out.below hM.bel)
    have HE3 := Lib.hid (Rd.of_owns hM.row)
    obtain ⟨p3, c3, hv3⟩ := (Rd.of_owns hM.row).shape
    subst hv3
    clear hM HB2 HC2 HT2 HL2 HD2
    generalize dictD l = d at *
    go_wp2_with fail
    refine (equal_u64 _ _ d d w3 HD3.out HE3.out).mono ?_
    rintro e w4 ⟨rfl, hB⟩
    have hd : decide (d = d) = true := by simp
    rw [hd]
    have HB4 := Lib.hid (HB3.out.trans (hB.mono HB3.out.size))
    have HC4 := Lib.hid (HC3.out.below hB)
    have HT4 := Lib.hid (I.below HT3.out hB)
    have HL4 := Lib.hid (HL3.out.below hB)
    clear hB hd HB3 HC3 HT3 HL3 HD3 HE3
    go_wp2_with fail
    refine (equal_u64 _ _ l l w4 HL4.out HC4.out).mono ?_
    rintro e w5 ⟨rfl, hB⟩
    have hd : decide (l = l) = true := by simp
    rw [hd]
    have HB5 := Lib.hid (HB4.out.trans (hB.mono HB4.out.size))
    have HT5 := Lib.hid (I.below HT4.out hB)
    clear hB hd HB4 HC4 HT4 HL4
    go_wp2_with fail
    refine (HAL.out _ HT5.out).mono ?_
    rintro e w6 ⟨rfl, hB⟩
    have HB6 := Lib.hid (HB5.out.trans (hB.mono HB5.out.size))
    have HT6 := Lib.hid (I.below HT5.out hB)
    clear hB HB5 HT5
    by_cases hbig : 1152921504606846976 < n
    · go_wp2_with fail
      go_ret
      exact ⟨rfl, HB6.out⟩
    · have HWd := Lib.hid (I.width n w6 HT6.out HNn.out.1 (by omega))
      have HWr : Hid (∀ w, Calls Try.prog 15 #[.int .i64 n] w fun e w' => e = .returned (.int .i64 (widthI n)) ∧ w' = w) := fun w => ref_width08 n w ⟨HNn.out.1, by omega⟩
      generalize widthI n = W at *
      go_wp2_with fail
      refine HWd.out.mono ?_
      rintro e w7 ⟨rfl, hB⟩
      have HB7 := Lib.hid (HB6.out.trans (hB.mono HB6.out.size))
      clear hB
      go_wp2_with fail
      refine (HWr.out w7).mono ?_
      rintro e w8 ⟨rfl, rfl⟩
      go_wp2_with fail
      go_ret
      exact ⟨by simp, HB7.out⟩
end Go.Proofs.Ytpphgmgdmdehpaa.dictvalDictionaries

end

section
/- DictvalDictionaries holds for every list of values and every count. No condition. -/
namespace Go.Proofs.Ytpphgmgdmdehpaa.dictvalDictionaries
open Go Go.ChangeShapes Go.WideShapes Go.ChangeAt Go.RowKit
open Go.ChangeMaps (open_string shut_string)
set_option linter.unusedVariables false

theorem met (w : World) (v0 : Value) (l0 : List Nat) (ok0 : ∀ z ∈ l0, z < 18446744073709551616) (hl0 : Rd w 1 v0 l0.length (l0.flatMap fun z : Nat => [Value.int .u64 (z : Int)])) (_ : l0.length * 8 ≤ 140737488351232) (a1 : Int) (u1 : -9223372036854775808 ≤ a1 ∧ a1 < 9223372036854775808) :
    Calls Try.prog 3 #[v0, .int .i64 a1] w fun e w' => e = .returned (.bool true) ∧ Below w.heap.size w w' := by
  rw [flatMap_one] at hl0
  exact walk dictval (alive_ofD dictval) w trivial v0 l0 ok0 hl0 a1 u1

theorem own : ownKnob Try.prog.godebug = none := by kernel_rfl
theorem laidOut : laidOutB Try.prog = true := by kernel_rfl

set_option maxRecDepth 100000 in
theorem lifted (os : Os) (started : os.Started) (H : Type) (enc : TypeId × Value → H) :
    ReturnsInHanded {} Try.checked os 3 .any (Rows.dictvalDictionariesSpec.pre6 enc Try.prog Try.f3 Rows.dictvalDictionariesRow.domain false) (Rows.dictvalDictionariesSpec.post enc Try.prog Try.f3 false true false false) := by
  refine returnsInHanded_of_change_sized (C := Try.checked) own started (by kernel_rfl) Try.func3
    (ChangeSpec.witness6 (enc := enc) (C := Try.checked) false ⟨#[], #[.slice none 0 0, .int .i64 0], []⟩ 8 (by kernel_rfl) (by kernel_rfl) (by kernel_rfl) (by kernel_rfl)) ?_
  intro W base args ds gs before hval0 hW hcnd hsz0 _
  have hval : ∀ (j : Nat) t v, Try.f3.params[j]? = some t → args[j]? = some v → Value.okWide Try.prog W .any base t v := hval0
  have hsz : (DataW.weightsEach Try.prog (Try.f3.params.toList ++ Rows.dictvalDictionariesSpec.plain.varTypes Try.prog) (ds ++ gs)).all (· ≤ reachBytes) = true := hsz0
  have hW' := hW
  obtain ⟨p, q, hA0, hV, rfl, hfz, hnd⟩ := hW
  have hA : DataW.TrodAll enc Try.prog W 0 (fun _ => true) true Try.f3.params.toList args.toList ds p := hA0
  rw [Try.params3] at hA hval hsz
  obtain ⟨v0, vs0, d0, ds0, p0, q0, hargs, rfl, rfl, h0, r0⟩ := trodAll_cons hA
  obtain ⟨v1, vs1, d1, ds1, p1, q1, rfl, rfl, rfl, h1, r1⟩ := trodAll_cons r0
  obtain ⟨rfl, rfl, rfl⟩ := trodAll_nil r1
  obtain rfl : args = #[v0, v1] := by cases args; simp_all
  obtain ⟨rfl, rfl⟩ := trodVars_none hV
  have k0 := h0
  have lt0 : ∀ x ∈ p0, x.block < W.heap.size := by obtain ⟨m, hm⟩ := k0; exact DataW.trod_lt m _ _ _ hm
  obtain ⟨ad0, len0, cap0, sh0⟩ := okWide_slice Try.underlying22 (hval 0 22 v0 rfl rfl)
  obtain ⟨l0, ok0, _, rd0, dd0⟩ := open_flat (by decide) (flat_u64 Try.underlying25 (by kernel_rfl)) Try.underlying22 sh0 h0
  have z0 := sized_flat hsz (j := 0) (t := 22) (e := 25) (bytes := 8) rfl rfl Try.underlying22 (by kernel_rfl) dd0
  clear sh0 dd0
  have k1 := h1
  have lt1 : ∀ x ∈ p1, x.block < W.heap.size := by obtain ⟨m, hm⟩ := k1; exact DataW.trod_lt m _ _ _ hm
  obtain ⟨a1, rfl, e1, _, w1⟩ := open_int Try.underlying3 (hval 1 3 v1 rfl rfl) h1
  have u1 : -9223372036854775808 ≤ a1 ∧ a1 < 9223372036854775808 := by have := bounds_i64 w1; omega
  clear hA0 hval0
  refine (met W v0 l0 ok0 rd0 z0 a1 u1).mono fun e W' ⟨he, bel⟩ => ?_
  subst he
  exact ⟨_, rfl, _, _, _, [], _, [], hW', trodAll_mk1 (shut_bool Try.underlying4 _), (trodAll_cons_mk (Below.trod laidOut (by kernel_rfl) (of_decide_eq_true (by kernel_rfl)) k0 bel lt0) (trodAll_cons_mk (Below.trod laidOut (by kernel_rfl) (of_decide_eq_true (by kernel_rfl)) k1 bel lt1) trodAll_mk0)), rfl, bel.frame _, fun h => by cases h⟩

theorem over : Rows.dictvalDictionariesRow.holds Try.pinned (OpenSpec.ofChange Rows.dictvalDictionariesSpec) :=
  OpenClaim.holds_of_wide 3 Try.f3 rfl rfl rfl rfl rfl rfl rfl ⟨rfl, rfl, rfl, rfl, rfl⟩ rfl rfl rfl rfl rfl (by kernel_rfl) Try.func3 (by kernel_rfl)
    (of_decide_eq_true (by kernel_rfl)) (by unfold Func.isWrapper; first | (rw [if_pos (by decide +kernel)]; kernel_rfl) | (rw [if_neg (by decide +kernel)]; exact ⟨rfl, rfl⟩))
    (fun os started H enc _ => lifted os started H enc)

theorem proved : Rows.DictvalDictionariesSaid := over
end Go.Proofs.Ytpphgmgdmdehpaa.dictvalDictionaries


end
