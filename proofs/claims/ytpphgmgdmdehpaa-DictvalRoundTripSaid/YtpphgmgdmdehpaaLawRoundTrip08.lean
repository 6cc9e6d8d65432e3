/- DictvalRoundTrip holds for every list of values. No condition. -/
import Derived.Test.YtpphgmgdmdehpaaDictI
import Derived.Test.YtpphgmgdmdehpaaAlive08
import Derived.Test.YtpphgmgdmdehpaaDvAll
import Derived.Test.YtpphgmgdmdehpaaRows
import Derived.Test.YtpphgmgdmdehpaaOpen

section
/- Layer 8: DictvalRoundTrip, walked over the interface. -/
set_option linter.unusedVariables false
namespace Go.Proofs.Ytpphgmgdmdehpaa.dictvalRoundTrip
open Go Go.RowKit
variable {G : Nat} {T : World → Prop}

theorem back (l : List Nat) (hl : ∀ t ∈ l, in64u t) (hk : okD l = true) : ∃ z : List Bool, decD l.length (unpack (pack (encD l))) = ⟨0, l, z⟩ ∧ 8 * (pack (encD l)).length - z.length = (encD l).length ∧ z = (unpack (pack (encD l))).drop (encD l).length := by
  refine ⟨_, by rw [unpack_pack]; exact decD_back l _ hl (of_decide_eq_true hk), ?_, by rw [unpack_pack, List.drop_left]⟩
  rw [List.length_replicate, pack_length]; omega
theorem end_zero (bits : List Bool) : endOf (pack bits) bits.length = 0 := by
  rw [endOf, if_neg (by rw [pack_length]; omega), if_pos (endOf_pack_aux bits)]

set_option maxHeartbeats 4000000 in
theorem walk (I : DIf G T) (hal : ∀ w, T w → Calls Try.prog 9 #[] w fun e w' => e = .returned (.bool true) ∧ Below w.heap.size w w')
    (w : World) (hT : T w) (lv : Value) (l : List Nat) (ok : ∀ t ∈ l, in64u t) (hl : Rd w 1 lv l.length (u64s l)) :
    Calls Try.prog 6 #[lv] w fun e w' => e = .returned (.bool true) ∧ Below w.heap.size w w' := by
  have HT := Lib.hid hT; have HL := Lib.hid hl; have HO := Lib.hid ok; have HAL := Lib.hid hal
  have hlo : l ≠ [] → ∀ k, lv.ownBlock = some k → k < w.heap.size := fun hne => hl.lt (fun e => hne (by simpa [u64s] using e))
  obtain ⟨pl, cl, hv⟩ := hl.shape
  subst hv
  clear hT hl ok hal
  by_cases hlt : 400 < l.length
  · have hlt' : (400 : Int) < (l.length : Int) := by omega
    go_enter Try.func6, Try.ntmps6
    go_wp2_with fail
    refine (HAL.out _ HT.out).mono ?_
    rintro e w1 ⟨rfl, hB⟩
    go_wp2_with fail
    go_ret
    exact ⟨rfl, hB⟩
  · have hlt' : ¬ (400 : Int) < (l.length : Int) := by omega
    have HN : Hid (l.length ≤ 400) := by show _ ≤ _; omega
    clear hlt
    go_enter Try.func6, Try.ntmps6
    go_wp2_with fail
    refine (new_writer _).mono ?_
    rintro e w1 ⟨rfl, hW1, hB1⟩
    have HW1 := Lib.hid (WrD.new I HT.out hW1 hB1)
    have HPut := Lib.hid (I.putT HW1.out (HL.out.below hB1) HO.out hlo (by have := HN.out; omega) (by have := HN.out; simp; omega))
    have HB1 := Lib.hid hB1
    clear hW1 hB1 hlo
    go_wp2_with fail
    refine HPut.out.mono ?_
    rintro e w2 ⟨rfl, v2, hW2, hB2, _⟩
    rw [List.nil_append] at hW2
    have HW2 := Lib.hid hW2
    have HB2 := Lib.hid (HB1.out.trans hB2)
    have HGn := Lib.hid (I.getNil (l.length : Int) w2 HW2.out.tab (by omega) (by have := HN.out; omega))
    clear hW2 hB2 HPut HW1 HB1
    cases hk : okD l with
    | false =>
      have HK : Hid (128 < (dictD l).length) := by
        show _ < _
        have := of_decide_eq_false hk; omega
      rw [if_neg (by decide)]
      clear hk
      go_wp2_with fail
      refine HGn.out.mono ?_
      rintro e w3 ⟨⟨r3, rfl⟩, hB⟩
      have HB3 := Lib.hid (HB2.out.trans (hB.mono HB2.out.size))
      have HT3 := Lib.hid (I.below HW2.out.tab hB)
      clear hB HGn HW2 HB2
      go_wp2_with fail
      refine (I.putNil _ l w3 HT3.out (HL.out.below HB3.out)).mono ?_
      rintro e w4 ⟨rfl, hB⟩
      have HB4 := Lib.hid (HB3.out.trans (hB.mono HB3.out.size))
      have HT4 := Lib.hid (I.below HT3.out hB)
      clear hB HB3 HT3
      go_wp2_with fail
      refine (HAL.out _ HT4.out).mono ?_
      rintro e w5 ⟨rfl, hB⟩
      have HB5 := Lib.hid (HB4.out.trans (hB.mono HB4.out.size))
      clear hB HB4 HT4
      go_wp2_with fail
      refine (ref_dict08 (.slice pl l.length cl) l w5 (HL.out.below HB5.out) (by have := HN.out; omega)).mono ?_
      rintro e w6 ⟨v6, rfl, hO⟩
      have HB6 := Lib.hid (HB5.out.trans (hO.bel.mono HB5.out.size))
      obtain ⟨p6, c6, hv6⟩ := (Rd.of_owns hO.row).shape
      subst hv6
      have hd : (128 : Int) < ((dictD l).length : Int) := by have := HK.out; omega
      clear hO
      go_wp2_with fail
      go_ret
      exact ⟨rfl, HB6.out⟩
    | true =>
    have HKk := Lib.hid hk
    rw [putD_ok hk] at HW2
    rw [if_pos rfl]
    clear hk
    go_wp2_with fail
    refine HGn.out.mono ?_
    rintro e w3 ⟨⟨r3, rfl⟩, hB⟩
    have HB3 := Lib.hid (HB2.out.trans (hB.mono HB2.out.size))
    have HW3 := Lib.hid (HW2.out.below I hB)
    clear hB HGn HW2 HB2
    go_wp2_with fail
    refine (I.putNil _ l w3 HW3.out.tab (HL.out.below HB3.out)).mono ?_
    rintro e w2 ⟨rfl, hB⟩
    have HB2 := Lib.hid (HB3.out.trans (hB.mono HB3.out.size))
    have HW2 := Lib.hid (HW3.out.below I hB)
    clear hB HB3 HW3
    go_wp2_with fail
    refine (wbytes w.heap.size v2 (encD l) w2 HW2.out.wr (by have := encD_len l HKk.out; have := HN.out; omega)).mono ?_
    rintro e w3 ⟨r3, rfl, hM⟩
    have HR3 := Lib.hid (Rd.of_owns hM.1)
    have HB3 := Lib.hid (HB2.out.trans (hM.2.mono HB2.out.size))
    have HT3 := Lib.hid (I.below HW2.out.tab hM.2)
    have HGb : Hid (G ≤ w.heap.size) := HW2.out.low
    have HP : Hid ((pack (encD l)).length ≤ 140737488355328 ∧ (pack (encD l)).length ≤ 8796093022200) := by
      show _ ∧ _
      have := encD_len l HKk.out; have := HN.out
      rw [pack_length]; omega
    clear hM HW2 HB2
    go_wp2_with fail
    refine (new_reader _ (pack (encD l)) w3 HR3.out HP.out.1 (pack_lt _)).mono ?_
    rintro e w4 ⟨rp, rv, rfl, hR4, hB4, hrp, hrv⟩
    have HR4 := Lib.hid hR4
    have HB4 := Lib.hid (HB3.out.trans (hB4.mono HB3.out.size))
    have HT4 := Lib.hid (I.below HT3.out hB4)
    have HRp : Hid (w.heap.size ≤ rp) := by show _ ≤ _; have := HB3.out.size; omega
    clear hR4 hB4 hrp hrv HR3 HB3 HT3
    obtain ⟨z, hz1, hz2, hz3⟩ := back l HO.out HKk.out
    have HGet := Lib.hid (I.get rp rv 0 l.length (pack (encD l)) w4 HT4.out HR4.out (by have := HGb.out; have := HRp.out; omega) (by have := HN.out; omega) HP.out.2)
    rw [List.drop_zero, hz1] at HGet
    have HZ2 := Lib.hid hz2
    clear hz1 hz2 hz3
    go_wp2_with fail
    refine HGet.out.mono ?_
    rintro e w5 ⟨⟨r5, rfl, hr5, _⟩, hq5⟩
    have hrr := hq5.rd
    simp only [HZ2.out] at hrr
    have HR5 := Lib.hid hrr
    have HL5 : Hid (Rd w5 1 r5 l.length (u64s l)) := hr5
    have HT5 := Lib.hid (I.keeps HT4.out hq5.mods (fun k hk e => by have := HGb.out; have := HRp.out; omega))
    have HB5 : Hid (Below w.heap.size w w5) := HB4.out.trans (hq5.mods.below HB4.out.size (fun k hk e => by have := HRp.out; omega))
    obtain ⟨p5, c5, hv5⟩ := hr5.shape
    subst hv5
    clear hrr hr5 hq5 HGet HR4 HT4 HB4
    go_wp2_with fail
    refine (HAL.out _ HT5.out).mono ?_
    rintro e w6 ⟨rfl, hB6⟩
    have HB6 := Lib.hid (HB5.out.trans (hB6.mono HB5.out.size))
    have HL6 := Lib.hid (HL5.out.below hB6)
    have HLa := Lib.hid (HL.out.below HB6.out)
    have HR6 := Lib.hid (HR5.out.mods (Mods.of_below hB6 (fun _ => False)) (fun h => h) (fun _ _ h => h))
    clear hB6 HB5 HL5 HR5
    go_wp2_with fail
    refine (equal_u64 _ _ l l w6 HLa.out HL6.out).mono ?_
    rintro e w7 ⟨rfl, hB7⟩
    have hd : decide (l = l) = true := by simp
    rw [hd]
    have HB7 := Lib.hid (HB6.out.trans (hB7.mono HB6.out.size))
    have HR7 := Lib.hid (HR6.out.mods (Mods.of_below hB7 (fun _ => False)) (fun h => h) (fun _ _ h => h))
    have HE0 := Lib.hid (end_zero (encD l))
    clear hB7 hd HB6 HL6 HLa HR6
    go_wp2_with fail
    refine (rend rp rv (encD l).length (pack (encD l)) w7 HR7.out).mono ?_
    rintro e w8 ⟨rfl, dd, rfl⟩
    rw [HE0.out]
    have HB8 : Hid (Below w.heap.size w (w7.drewN dd)) := HB7.out.trans ⟨rfl, rfl, rfl, Nat.le_refl _, fun _ _ => rfl⟩
    go_wp2_with fail
    go_ret
    exact ⟨rfl, HB8.out⟩
end Go.Proofs.Ytpphgmgdmdehpaa.dictvalRoundTrip

end

section
/- DictvalRoundTrip holds for every list of values. No condition. -/
namespace Go.Proofs.Ytpphgmgdmdehpaa.dictvalRoundTrip
open Go Go.ChangeShapes Go.WideShapes Go.ChangeAt Go.RowKit
open Go.ChangeMaps (open_string shut_string)
set_option linter.unusedVariables false

theorem met (w : World) (v0 : Value) (l0 : List Nat) (ok0 : ∀ z ∈ l0, z < 18446744073709551616) (hl0 : Rd w 1 v0 l0.length (l0.flatMap fun z : Nat => [Value.int .u64 (z : Int)])) (_ : l0.length * 8 ≤ 140737488351232) :
    Calls Try.prog 6 #[v0] w fun e w' => e = .returned (.bool true) ∧ Below w.heap.size w w' := by
  rw [flatMap_one] at hl0
  exact walk dictval (alive_ofD dictval) w trivial v0 l0 ok0 hl0

theorem own : ownKnob Try.prog.godebug = none := by kernel_rfl
theorem laidOut : laidOutB Try.prog = true := by kernel_rfl

set_option maxRecDepth 100000 in
theorem lifted (os : Os) (started : os.Started) (H : Type) (enc : TypeId × Value → H) :
    ReturnsInHanded {} Try.checked os 6 .any (Rows.dictvalRoundTripSpec.pre6 enc Try.prog Try.f6 Rows.dictvalRoundTripRow.domain false) (Rows.dictvalRoundTripSpec.post enc Try.prog Try.f6 false true false false) := by
  refine returnsInHanded_of_change_sized (C := Try.checked) own started (by kernel_rfl) Try.func6
    (ChangeSpec.witness6 (enc := enc) (C := Try.checked) false ⟨#[], #[.slice none 0 0], []⟩ 8 (by kernel_rfl) (by kernel_rfl) (by kernel_rfl) (by kernel_rfl)) ?_
  intro W base args ds gs before hval0 hW hcnd hsz0 _
  have hval : ∀ (j : Nat) t v, Try.f6.params[j]? = some t → args[j]? = some v → Value.okWide Try.prog W .any base t v := hval0
  have hsz : (DataW.weightsEach Try.prog (Try.f6.params.toList ++ Rows.dictvalRoundTripSpec.plain.varTypes Try.prog) (ds ++ gs)).all (· ≤ reachBytes) = true := hsz0
  have hW' := hW
  obtain ⟨p, q, hA0, hV, rfl, hfz, hnd⟩ := hW
  have hA : DataW.TrodAll enc Try.prog W 0 (fun _ => true) true Try.f6.params.toList args.toList ds p := hA0
  rw [Try.params6] at hA hval hsz
  obtain ⟨v0, vs0, d0, ds0, p0, q0, hargs, rfl, rfl, h0, r0⟩ := trodAll_cons hA
  obtain ⟨rfl, rfl, rfl⟩ := trodAll_nil r0
  obtain rfl : args = #[v0] := by cases args; simp_all
  obtain ⟨rfl, rfl⟩ := trodVars_none hV
  have k0 := h0
  have lt0 : ∀ x ∈ p0, x.block < W.heap.size := by obtain ⟨m, hm⟩ := k0; exact DataW.trod_lt m _ _ _ hm
  obtain ⟨ad0, len0, cap0, sh0⟩ := okWide_slice Try.underlying22 (hval 0 22 v0 rfl rfl)
  obtain ⟨l0, ok0, _, rd0, dd0⟩ := open_flat (by decide) (flat_u64 Try.underlying25 (by kernel_rfl)) Try.underlying22 sh0 h0
  have z0 := sized_flat hsz (j := 0) (t := 22) (e := 25) (bytes := 8) rfl rfl Try.underlying22 (by kernel_rfl) dd0
  clear sh0 dd0
  clear hA0 hval0
  refine (met W v0 l0 ok0 rd0 z0).mono fun e W' ⟨he, bel⟩ => ?_
  subst he
  exact ⟨_, rfl, _, _, _, [], _, [], hW', trodAll_mk1 (shut_bool Try.underlying4 _), (trodAll_cons_mk (Below.trod laidOut (by kernel_rfl) (of_decide_eq_true (by kernel_rfl)) k0 bel lt0) trodAll_mk0), rfl, bel.frame _, fun h => by cases h⟩

theorem over : Rows.dictvalRoundTripRow.holds Try.pinned (OpenSpec.ofChange Rows.dictvalRoundTripSpec) :=
  OpenClaim.holds_of_wide 6 Try.f6 rfl rfl rfl rfl rfl rfl rfl ⟨rfl, rfl, rfl, rfl, rfl⟩ rfl rfl rfl rfl rfl (by kernel_rfl) Try.func6 (by kernel_rfl)
    (of_decide_eq_true (by kernel_rfl)) (by unfold Func.isWrapper; first | (rw [if_pos (by decide +kernel)]; kernel_rfl) | (rw [if_neg (by decide +kernel)]; exact ⟨rfl, rfl⟩))
    (fun os started H enc _ => lifted os started H enc)

theorem proved : Rows.DictvalRoundTripSaid := over
end Go.Proofs.Ytpphgmgdmdehpaa.dictvalRoundTrip


end
