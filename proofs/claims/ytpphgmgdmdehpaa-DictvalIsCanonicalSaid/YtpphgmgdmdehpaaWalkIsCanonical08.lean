/- Layer 8: DictvalIsCanonical, walked over the interface. -/
import Derived.Test.YtpphgmgdmdehpaaDictI
set_option linter.unusedVariables false
namespace Go.Proofs.Ytpphgmgdmdehpaa.dictvalIsCanonical
open Go Go.RowKit
variable {G : Nat} {T : World → Prop}

set_option maxHeartbeats 4000000 in
theorem walk (I : DIf G T) (hal : ∀ w, T w → Calls Try.prog 9 #[] w fun e w' => e = .returned (.bool true) ∧ Below w.heap.size w w')
    (w : World) (hT : T w) (bv : Value) (bs : List Nat) (ok : ∀ c ∈ bs, c < 256) (hb : Rd w 1 bv bs.length (u8s bs)) (n : Int) (hn : -9223372036854775808 ≤ n ∧ n < 9223372036854775808) :
    Calls Try.prog 7 #[bv, .int .i64 n] w fun e w' => e = .returned (.bool true) ∧ Below w.heap.size w w' := by
  have HT := Lib.hid hT; have HB := Lib.hid hb; have HO := Lib.hid ok; have HAL := Lib.hid hal
  obtain ⟨pb, cb, hv⟩ := hb.shape
  subst hv
  clear hT hb ok hal hn
  by_cases h1 : (1200 : Int) < (bs.length : Int)
  · go_enter Try.func7, Try.ntmps7
    go_wp2_with fail
    refine (HAL.out _ HT.out).mono ?_
    rintro e w1 ⟨rfl, hB⟩
    go_wp2_with fail
    go_ret
    exact ⟨rfl, hB⟩
  by_cases h2 : 3200 < n
  · go_enter Try.func7, Try.ntmps7
    go_wp2_with fail
    refine (HAL.out _ HT.out).mono ?_
    rintro e w1 ⟨rfl, hB⟩
    go_wp2_with fail
    go_ret
    exact ⟨rfl, hB⟩
  by_cases h3 : n < 0
  · clear h2
    go_enter Try.func7, Try.ntmps7
    go_wp2_with fail
    refine (HAL.out _ HT.out).mono ?_
    rintro e w1 ⟨rfl, hB⟩
    go_wp2_with fail
    go_ret
    exact ⟨rfl, hB⟩
  obtain ⟨m, rfl⟩ : ∃ m : Nat, n = (m : Int) := ⟨n.toNat, by omega⟩
  have HNb : Hid (bs.length ≤ 1200 ∧ m ≤ 3200) := by show _ ∧ _; omega
  go_enter Try.func7, Try.ntmps7
  go_wp2_with fail
  refine (new_reader _ bs w HB.out (by have := HNb.out; omega) HO.out).mono ?_
  rintro e w1 ⟨rp, rv, rfl, hR1, hB1, hrp, hrv⟩
  have HR1 := Lib.hid hR1
  have HB1 := Lib.hid hB1
  have HT1 := Lib.hid (I.below HT.out hB1)
  have HRp : Hid (w.heap.size ≤ rp) := hrp
  have HGr : Hid (G ≤ rp) := Nat.le_trans (I.low HT.out) hrp
  have HGw : Hid (G ≤ w.heap.size) := I.low HT.out
  clear hR1 hB1 hrp hrv
  have HGet := Lib.hid (I.get rp rv 0 m bs w1 HT1.out HR1.out HGr.out (by have := HNb.out; omega) (by have := HNb.out; omega))
  rw [List.drop_zero] at HGet
  have HNil := Lib.hid (decD_nil m (unpack bs))
  have HInv := Lib.hid (decD_inv m (unpack bs))
  have HSl : Hid ((unpack bs).length = 8 * bs.length) := unpack_length bs
  have HUnp : Hid (∀ (v : Value) (w : World), Rd w 1 v bs.length (u8s bs) → Calls Try.prog 28 #[v] w fun e w' => ∃ r, e = .returned r ∧ Made w w' 4 1 r (unpack bs).length (bls (unpack bs))) := fun v w h => ref_unpack v bs w h HO.out (by have := HNb.out; omega)
  generalize decD m (unpack bs) = o at *
  generalize unpack bs = U at *
  obtain ⟨oe, ox, orr⟩ := o
  simp only at *
  go_wp2_with fail
  refine HGet.out.mono ?_
  rintro e w2 ⟨⟨r2, rfl, hr2, hown2⟩, hq⟩
  simp only at hr2 hq
  have HL2 := Lib.hid hr2
  have HR2 := Lib.hid hq.rd
  have HB2 : Hid (Below w.heap.size w w2) := HB1.out.trans (hq.mods.below HB1.out.size (fun k hk e => by have := HRp.out; omega))
  have HT2 := Lib.hid (I.keeps HT1.out hq.mods (fun k hk e => by have := HGr.out; omega))
  obtain ⟨p2, c2, hv2⟩ := hr2.shape
  subst hv2
  clear hq hr2 HGet HT1 HR1 HB1 hown2
  by_cases hoe : oe = 0
  · subst hoe
    obtain ⟨i1, i2, i4, i3⟩ := HInv.out rfl
    have hok : okD ox = true := decide_eq_true i4
    have hpd : putD ox = encD ox := by rw [putD, if_pos hok]
    have HLen : Hid ((encD ox).length + orr.length = 8 * bs.length) := by show _ = _; rw [← HSl.out, i1, List.length_append]
    have HTk : Hid (U.take (encD ox).length = encD ox) := by show _ = _; rw [i1, List.take_left]
    have HX : Hid (∀ t ∈ ox, in64u t) := i3
    have hxl : (ox.length : Int) = (m : Int) := by rw [i2]
    have HXl : Hid (ox.length = m) := i2
    have HPut := Lib.hid (ref_put08 (.slice none 0 0) (.slice p2 ox.length c2) [] ox w2 (World.ownsRow_nil _ _ _ _) HL2.out i3 (fun _ k _ e => by cases e) (by have := HNb.out; have := HXl.out; omega) (by have := HNb.out; have := HXl.out; simp; omega))
    rw [hok, hpd] at HPut
    clear i1 i2 i3 i4 hok hpd HInv HNil
    go_wp2_with fail
    refine HPut.out.mono ?_
    rintro e w3 ⟨v3, rfl, hP⟩
    rw [List.nil_append] at hP
    have hb3 : Below w2.heap.size w2 w3 := hP.mods.below (Nat.le_refl _) (fun k _ e => by cases e)
    have HB3 := Lib.hid (HB2.out.trans (hb3.mono HB2.out.size))
    have HT3 := Lib.hid (I.below HT2.out hb3)
    have HL3 := Lib.hid (HL2.out.below hb3)
    have HR3 := Lib.hid (HR2.out.mods (Mods.of_below hb3 (fun _ => False)) (fun h => h) (fun _ _ h => h))
    have HE3 : Hid (Rd w3 1 v3 (encD ox).length (bls (encD ox))) := Rd.of_owns hP.own
    obtain ⟨p3, c3, hv3⟩ := (Rd.of_owns hP.own).shape
    subst hv3
    clear hP hb3 HPut HB2 HT2 HL2 HR2
    generalize hE : encD ox = E at *
    have hK : ∃ K, E.length = K := ⟨_, rfl⟩
    go_wp2_with fail
    refine (left_any rp rv _ bs w3 HR3.out).mono ?_
    rintro e w4 ⟨rfl, dd, rfl⟩
    have HB4 : Hid (Below w.heap.size w (w3.drewN dd)) := HB3.out.trans ⟨rfl, rfl, rfl, Nat.le_refl _, fun _ _ => rfl⟩
    have hd4 : Below w3.heap.size w3 (w3.drewN dd) := ⟨rfl, rfl, rfl, Nat.le_refl _, fun _ _ => rfl⟩
    have HT4 := Lib.hid (I.below HT3.out hd4)
    have HE4 := Lib.hid (HE3.out.below hd4)
    have hv : (8 * (bs.length : Int) - ((8 * bs.length - orr.length : Nat) : Int)) = (orr.length : Int) := by have := HLen.out; omega
    have hk : 8 * (bs.length : Int) - (orr.length : Int) = (E.length : Int) := by have := HLen.out; omega
    rw [hv]
    have HK := Lib.hid hk
    clear hv hd4 hK HB3 HT3 HL3 HR3 HE3
    generalize w3.drewN dd = w4 at *
    have h1200 : (bs.length : Int) ≤ 1200 := by have := HNb.out; omega
    have ho3200 : (orr.length : Int) ≤ 9600 := by have := HLen.out; have := HNb.out; omega
    go_wp2_with fail
    refine (HAL.out _ HT4.out).mono ?_
    rintro e w5 ⟨rfl, hB⟩
    have HB5 := Lib.hid (HB4.out.trans (hB.mono HB4.out.size))
    have HE5 := Lib.hid (HE4.out.below hB)
    clear hB HB4 HT4 HE4
    go_wp2_with fail
    refine (HUnp.out _ w5 (HB.out.below HB5.out)).mono ?_
    rintro e w6 ⟨r6, rfl, hM⟩
    have HB6 := Lib.hid (HB5.out.trans (hM.2.mono HB5.out.size))
    have HE6 := Lib.hid (HE5.out.below hM.2)
    have HU6 := Lib.hid (Rd.of_owns hM.1)
    obtain ⟨p6, c6, hv6⟩ := (Rd.of_owns hM.1).shape
    subst hv6
    have HUl : Hid (E.length ≤ U.length ∧ U.length ≤ c6) := ⟨by have := HLen.out; have := HSl.out; omega, by obtain ⟨_, _, e, _, h, _⟩ := Rd.of_owns hM.1; cases e; exact h⟩
    clear hM HB5 HE5 HUnp
    have k1 : ((E.length : Int) < 0) = False := by simp
    have k2 : (8 * (bs.length : Int) < (E.length : Int)) = False := by simp only [eq_iff_iff, iff_false]; have := HLen.out; omega
    have k3 : ((E.length : Int) ≤ 8 * (bs.length : Int)) = True := by simp only [eq_iff_iff, iff_true]; have := HLen.out; omega
    go_wp2_with (refine wpList_upto Try.elemBool _ p6 _ c6 E.length HUl.out.1 HUl.out.2 rfl _ _ rfl rfl rfl ?_)
    have HV6 : Hid (Rd w6 1 (.slice p6 E.length c6) E.length (bls E)) := by
      show Rd _ _ _ _ _
      have h := HU6.out.upto E.length HUl.out.1
      rw [Nat.mul_one] at h
      have e : (bls U).take E.length = bls E := by
        have h2 := HTk.out
        rw [bls, ← List.map_take, h2]; rfl
      rw [e] at h
      exact h
    refine (equal_bool _ _ E E w6 HE6.out HV6.out).mono ?_
    rintro e w7 ⟨rfl, hB⟩
    have hd : decide (E = E) = true := by simp
    rw [hd]
    have HB7 := Lib.hid (HB6.out.trans (hB.mono HB6.out.size))
    clear hB hd
    go_wp2_with fail
    go_ret
    exact ⟨rfl, HB7.out⟩
  · have hb0 : ((oe : Int) == 0) = false := by rw [beq_eq_false_iff_ne]; omega
    have hx0 := HNil.out hoe
    subst hx0
    clear HInv HNil
    go_wp2_with fail
    refine (HAL.out _ HT2.out).mono ?_
    rintro e w3 ⟨rfl, hB⟩
    have HB3 := Lib.hid (HB2.out.trans (hB.mono HB2.out.size))
    clear hB
    go_wp2_with fail
    go_ret
    exact ⟨rfl, HB3.out⟩
end Go.Proofs.Ytpphgmgdmdehpaa.dictvalIsCanonical
