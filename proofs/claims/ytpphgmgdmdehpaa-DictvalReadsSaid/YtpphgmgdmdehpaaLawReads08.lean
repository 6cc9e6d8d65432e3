/- DictvalReads holds for all bytes and every number. No condition. -/
import Derived.Test.YtpphgmgdmdehpaaDictI
import Derived.Test.YtpphgmgdmdehpaaAlive08
import Derived.Test.YtpphgmgdmdehpaaDvAll
import Derived.Test.YtpphgmgdmdehpaaRows
import Derived.Test.YtpphgmgdmdehpaaOpen

section
/- Layer 8: DictvalReads, walked over the interface. -/
set_option linter.unusedVariables false
namespace Go.Proofs.Ytpphgmgdmdehpaa.dictvalReads
open Go Go.RowKit
variable {G : Nat} {T : World → Prop}

def QCell (q : Nat) (v : Value) (w : World) : Prop := w.cell? ⟨q, 0, none⟩ = some v ∧ True ∧ True

set_option maxHeartbeats 4000000 in
theorem walk (I : DIf G T) (hal : ∀ w, T w → Calls Try.prog 9 #[] w fun e w' => e = .returned (.bool true) ∧ Below w.heap.size w w')
    (w : World) (hT : T w) (bv : Value) (bs : List Nat) (ok : ∀ c ∈ bs, c < 256) (hb : Rd w 1 bv bs.length (u8s bs)) (n : Int) (hn : -9223372036854775808 ≤ n ∧ n < 9223372036854775808) :
    Calls Try.prog 5 #[bv, .int .i64 n] w fun e w' => e = .returned (.bool true) ∧ Below w.heap.size w w' := by
  have HT := Lib.hid hT; have HB := Lib.hid hb; have HO := Lib.hid ok; have HAL := Lib.hid hal
  obtain ⟨pb, cb, hv⟩ := hb.shape
  subst hv
  clear hT hb ok hal
  by_cases hbig : 1200 < bs.length ∨ 3200 < n
  · have hcond : (decide ((1200 : Int) < (bs.length : Int)) || decide (3200 < n)) = true := by
      rw [Bool.or_eq_true, decide_eq_true_iff, decide_eq_true_iff]; omega
    by_cases h1 : (1200 : Int) < (bs.length : Int)
    · go_enter Try.func5, Try.ntmps5
      go_wp2_with fail
      refine (HAL.out _ HT.out).mono ?_
      rintro e w1 ⟨rfl, hB⟩
      go_wp2_with fail
      go_ret
      exact ⟨rfl, hB⟩
    · have h2 : 3200 < n := by omega
      clear hcond hbig
      go_enter Try.func5, Try.ntmps5
      go_wp2_with fail
      refine (HAL.out _ HT.out).mono ?_
      rintro e w1 ⟨rfl, hB⟩
      go_wp2_with fail
      go_ret
      exact ⟨rfl, hB⟩
  · have h1 : ¬ (1200 : Int) < (bs.length : Int) := by omega
    have h2 : ¬ 3200 < n := by omega
    have HNb : Hid (bs.length ≤ 1200 ∧ n ≤ 3200) := by show _ ∧ _; omega
    clear hbig
    go_enter Try.func5, Try.ntmps5
    go_wp2_with fail
    refine (new_reader _ bs w HB.out (by have := HNb.out; omega) HO.out).mono ?_
    rintro e w1 ⟨rp, rv, rfl, hR1, hB1, hrp, hrv⟩
    have HR1 := Lib.hid hR1
    have HB1 := Lib.hid hB1
    have HT1 := Lib.hid (I.below HT.out hB1)
    have HRp : Hid (w.heap.size ≤ rp) := hrp
    have HRv : Hid (∀ k, rv.ownBlock = some k → w.heap.size ≤ k ∧ k < w1.heap.size) := hrv
    have HGr : Hid (G ≤ rp) := Nat.le_trans (I.low HT.out) hrp
    have HGw : Hid (G ≤ w.heap.size) := I.low HT.out
    clear hR1 hB1 hrp hrv
    by_cases hneg : n < 0
    · have HGet := Lib.hid (I.getNeg rp rv 0 n bs w1 HT1.out HR1.out HGr.out hneg hn.1)
      clear h2 hn
      go_wp2_with fail
      refine HGet.out.mono ?_
      rintro e w2 ⟨⟨r2, rfl, hr2⟩, hq⟩
      have HR2 := Lib.hid hq.rd
      have HB2 : Hid (Below w.heap.size w w2) := HB1.out.trans (hq.mods.below HB1.out.size (fun k hk e => by have := HRp.out; omega))
      have HT2 := Lib.hid (I.keeps HT1.out hq.mods (fun k hk e => by have := HGr.out; omega))
      obtain ⟨p2, c2, hv2⟩ := hr2.shape
      subst hv2
      clear hq hr2 HGet HT1 HR1 HB1
      go_wp2_with fail
      refine (HAL.out _ HT2.out).mono ?_
      rintro e w3 ⟨rfl, hB⟩
      have HB3 := Lib.hid (HB2.out.trans (hB.mono HB2.out.size))
      have HR3 := Lib.hid (HR2.out.mods (Mods.of_below hB (fun _ => False)) (fun h => h) (fun _ _ h => h))
      clear hB HB2 HR2
      go_wp2_with fail
      refine (left_any rp rv 0 bs w3 HR3.out).mono ?_
      rintro e w4 ⟨rfl, dd, rfl⟩
      have HB4 : Hid (Below w.heap.size w (w3.drewN dd)) := HB3.out.trans ⟨rfl, rfl, rfl, Nat.le_refl _, fun _ _ => rfl⟩
      have h1200 : (bs.length : Int) ≤ 1200 := by omega
      go_wp2_with fail
      go_ret
      exact ⟨rfl, HB4.out⟩
    · obtain ⟨m, rfl⟩ : ∃ m : Nat, n = (m : Int) := ⟨n.toNat, by omega⟩
      have HGet := Lib.hid (I.get rp rv 0 m bs w1 HT1.out HR1.out HGr.out (by have := HNb.out; omega) (by have := HNb.out; omega))
      rw [List.drop_zero] at HGet
      have HSuf := Lib.hid (suf_decD m (unpack bs)).len
      have HSl : Hid ((unpack bs).length = 8 * bs.length) := unpack_length bs
      have HRef : Hid (∀ q v w', RefIn w' q v (unpack bs) → Calls Try.prog 29 #[.pointer (some ⟨q, 0, none⟩), .int .i64 (m : Int)] w' (GetPostV q w' v (decD m (unpack bs)))) := fun q v w' h => ref_get08 q v m (unpack bs) w' h (by have := HNb.out; rw [unpack_length]; omega) (by have := HNb.out; omega)
      have HUnp : Hid (∀ (v : Value) (w : World), Rd w 1 v bs.length (u8s bs) → Calls Try.prog 28 #[v] w fun e w' => ∃ r, e = .returned r ∧ Made w w' 4 1 r (unpack bs).length (bls (unpack bs))) := fun v w h => ref_unpack v bs w h HO.out (by have := HNb.out; omega)
      generalize decD m (unpack bs) = o at *
      generalize unpack bs = U at *
      clear h2 hn
      go_wp2_with fail
      refine HGet.out.mono ?_
      rintro e w2 ⟨⟨r2, rfl, hr2, hown2⟩, hq⟩
      have HL2 := Lib.hid hr2
      have HR2 := Lib.hid hq.rd
      have HB2 : Hid (Below w.heap.size w w2) := HB1.out.trans (hq.mods.below HB1.out.size (fun k hk e => by have := HRp.out; omega))
      have HT2 := Lib.hid (I.keeps HT1.out hq.mods (fun k hk e => by have := HGr.out; omega))
      obtain ⟨p2, c2, hv2⟩ := hr2.shape
      subst hv2
      clear hq hr2 HGet HT1 HR1 HB1 hown2
      go_wp2_with fail
      refine (HUnp.out _ w2 (HB.out.below HB2.out)).mono ?_
      rintro e w3 ⟨r3, rfl, hM⟩
      have HU3 := Lib.hid (Rd.of_owns hM.1)
      have HUo : Hid (∀ k, r3.ownBlock = some k → k < w3.heap.size) := fun k hk => (hM.1.lt k hk).2
      have HM3 := Lib.hid hM.2
      obtain ⟨p3, c3, hv3⟩ := (Rd.of_owns hM.1).shape
      subst hv3
      clear hM HUnp
      have HQ4 : Hid (RefIn (w3.alloc (.cells #[.slice p3 U.length c3] 51)) w3.heap.size (.slice p3 U.length c3) U) := ⟨Blk.new w3 _ _, HU3.out.below ((Below.refl _ _).alloc (Nat.le_refl _) _), fun _ e => by have := HUo.out _ e; omega⟩
      have HM4 : Hid (Below w2.heap.size w2 (w3.alloc (.cells #[.slice p3 U.length c3] 51))) := HM3.out.trans ((Below.refl _ _).alloc HM3.out.size _)
      go_wp2_with fail
      refine (HRef.out _ _ _ HQ4.out).mono ?_
      rintro e w5 ⟨⟨r5, rfl, hr5, _⟩, ⟨v5, hq5, _⟩, hm5⟩
      have HM5 : Hid (Below w2.heap.size w2 w5) := HM4.out.trans (hm5.below HM4.out.size (fun k hk e => by have := HM3.out.size; omega))
      have HB5 := Lib.hid (HB2.out.trans (HM5.out.mono HB2.out.size))
      have HT5 := Lib.hid (I.below HT2.out HM5.out)
      have HL5 := Lib.hid (HL2.out.below HM5.out)
      have HR5 := Lib.hid (HR2.out.mods (Mods.of_below HM5.out (fun _ => False)) (fun h => h) (fun _ _ h => h))
      have HK5 := Lib.hid hr5
      have HC5 : Hid (w5.cell? ⟨w3.heap.size, 0, none⟩ = some v5) := by show _ = _; rw [hq5.blk.cell]; rfl
      have HLt5 : Hid (w3.heap.size < w5.heap.size) := hq5.blk.lt
      obtain ⟨p5, c5, hv5⟩ := hr5.shape
      subst hv5
      obtain ⟨p6, c6, hv6⟩ := hq5.rd.shape
      subst hv6
      clear hr5 hq5 hm5 HQ4 HM4 HU3 HUo HRef HM5 HL2 HT2 HR2 HB2
      have HSufO : Hid (o.r.length ≤ 8 * bs.length) := by show _ ≤ _; have := HSuf.out; rw [HSl.out] at this; exact this
      generalize w3.heap.size = q at *
      obtain ⟨ox, oe, orr⟩ := o
      simp only at *
      go_wp2_with fail
      have HC : Hid (∀ w' : World, QCell q (.slice p6 orr.length c6) w' → w'.cell? ⟨q, 0, none⟩ = some (.slice p6 orr.length c6) ∧ True ∧ True) := fun _ h => h
      have HT5d := Lib.hid (I.below HT5.out (below_drewD w5))
      refine wp_region_takeH (QCell q (.slice p6 orr.length c6)) [0, 4, 13] [0, 1, 2, 3, 4, 5, 6, 7, 8, 9, 10, 11, 12, 14, 15, 16, 17, 18, 13, 19, 20, 21] (by kernel_rfl) (by kernel_rfl) (by kernel_rfl) ?_ ?_ ?_
      · intro c a a' w hd h; exact ⟨hd ▸ h.1, h.2⟩
      · exact ⟨HC5.out, trivial, trivial⟩
      simp only [taken, List.map_cons, List.map_nil, List.getElem?_cons_succ, List.getElem?_cons_zero, Option.getD_some]
      refine takeH_call rfl rfl (fun K' hK => ?_)
      go_wp2_with fail
      refine (HAL.out _ HT5d.out).mono ?_
      rintro e w6 ⟨rfl, hb⟩
      have hb6 : Below w5.heap.size w5 w6 := (below_drewD w5).trans hb
      have HB6 := Lib.hid (HB5.out.trans (hb6.mono HB5.out.size))
      have HL6 := Lib.hid (HL5.out.below hb6)
      have HK6 := Lib.hid (HK5.out.below hb6)
      have HR6 := Lib.hid (HR5.out.mods (Mods.of_below hb6 (fun _ => False)) (fun h => h) (fun _ _ h => h))
      have HC6 : Hid (QCell q (.slice p6 orr.length c6) w6) := ⟨(hb6.cell HLt5.out).trans HC5.out, trivial, trivial⟩
      have HLt6 : Hid (q < w6.heap.size) := Nat.lt_of_lt_of_le HLt5.out hb6.size
      refine hK _ _ HC6.out ?_
      clear hK K' hb hb6 HB5 HL5 HK5 HR5 HC5 HT5 HT5d HLt5
      repeat (first
        | (refine takeH_skip rfl ?_; simp only [Act.put, List.setIfInBounds_toArray, List.set_cons_succ, List.set_cons_zero])
        | (refine takeH_blind rfl rfl ?_; apply Exists.intro; refine ⟨fun w => ?_, ?_⟩; (go_simp; try with_reducible rfl); simp only [Act.put, List.setIfInBounds_toArray, List.set_cons_succ, List.set_cons_zero])
        | (refine takeH_reads rfl rfl ?_; apply Exists.intro; refine ⟨fun w' hS => ?_, ?_⟩; (obtain ⟨d0, d1, d2⟩ := HC.out w' hS; go_simp; try with_reducible rfl); simp only [Act.put, List.setIfInBounds_toArray, List.set_cons_succ, List.set_cons_zero]))
      refine takeH_call rfl rfl (fun K' hK => ?_)
      go_wp2_with fail
      refine (equal_u64 _ _ oe oe w6 HL6.out HK6.out).mono ?_
      rintro e w7 ⟨rfl, hb7⟩
      have hd : decide (oe = oe) = true := by simp
      rw [hd]
      have HB7 := Lib.hid (HB6.out.trans (hb7.mono HB6.out.size))
      have HR7 := Lib.hid (HR6.out.mods (Mods.of_below hb7 (fun _ => False)) (fun h => h) (fun _ _ h => h))
      have HC7 : Hid (QCell q (.slice p6 orr.length c6) w7) := ⟨(hb7.cell HLt6.out).trans HC6.out.1, trivial, trivial⟩
      refine hK _ _ HC7.out ?_
      clear hK K' hb7 hd HB6 HL6 HK6 HR6 HC6 HLt6
      repeat (first
        | (refine takeH_skip rfl ?_; simp only [Act.put, List.setIfInBounds_toArray, List.set_cons_succ, List.set_cons_zero])
        | (refine takeH_blind rfl rfl ?_; apply Exists.intro; refine ⟨fun w => ?_, ?_⟩; (go_simp; try with_reducible rfl); simp only [Act.put, List.setIfInBounds_toArray, List.set_cons_succ, List.set_cons_zero])
        | (refine takeH_reads rfl rfl ?_; apply Exists.intro; refine ⟨fun w' hS => ?_, ?_⟩; (obtain ⟨d0, d1, d2⟩ := HC.out w' hS; go_simp; try with_reducible rfl); simp only [Act.put, List.setIfInBounds_toArray, List.set_cons_succ, List.set_cons_zero]))
      refine takeH_call rfl rfl (fun K' hK => ?_)
      go_wp2_with fail
      refine (left_any rp rv _ bs w7 HR7.out).mono ?_
      rintro e w8 ⟨rfl, dd, rfl⟩
      have HB8 : Hid (Below w.heap.size w (w7.drewN dd)) := HB7.out.trans ⟨rfl, rfl, rfl, Nat.le_refl _, fun _ _ => rfl⟩
      have hv : (8 * (bs.length : Int) - ((8 * bs.length - orr.length : Nat) : Int)) = (orr.length : Int) := by have := HSufO.out; omega
      rw [hv]
      refine hK _ _ HC7.out ?_
      clear hK K' hv HB7 HR7
      repeat (first
        | (refine takeH_skip rfl ?_; simp only [Act.put, List.setIfInBounds_toArray, List.set_cons_succ, List.set_cons_zero])
        | (refine takeH_blind rfl rfl ?_; apply Exists.intro; refine ⟨fun w => ?_, ?_⟩; (go_simp; try with_reducible rfl); simp only [Act.put, List.setIfInBounds_toArray, List.set_cons_succ, List.set_cons_zero])
        | (refine takeH_reads rfl rfl ?_; apply Exists.intro; refine ⟨fun w' hS => ?_, ?_⟩; (obtain ⟨d0, d1, d2⟩ := HC.out w' hS; go_simp; try with_reducible rfl); simp only [Act.put, List.setIfInBounds_toArray, List.set_cons_succ, List.set_cons_zero]))
      refine takeH_nil ?_
      go_wp2_with fail
      go_ret
      exact ⟨rfl, HB8.out⟩
end Go.Proofs.Ytpphgmgdmdehpaa.dictvalReads

end

section
/- DictvalReads holds for all bytes and every number. No condition. -/
namespace Go.Proofs.Ytpphgmgdmdehpaa.dictvalReads
open Go Go.ChangeShapes Go.WideShapes Go.ChangeAt Go.RowKit
open Go.ChangeMaps (open_string shut_string)
set_option linter.unusedVariables false

theorem met (w : World) (v0 : Value) (l0 : List Nat) (ok0 : ∀ a ∈ l0, a < 256) (hl0 : Rd w 1 v0 l0.length (u8s l0)) (_ : l0.length * 1 ≤ 140737488351232) (a1 : Int) (u1 : -9223372036854775808 ≤ a1 ∧ a1 < 9223372036854775808) :
    Calls Try.prog 5 #[v0, .int .i64 a1] w fun e w' => e = .returned (.bool true) ∧ Below w.heap.size w w' := by
  exact walk dictval (alive_ofD dictval) w trivial v0 l0 ok0 hl0 a1 u1

theorem own : ownKnob Try.prog.godebug = none := by kernel_rfl
theorem laidOut : laidOutB Try.prog = true := by kernel_rfl

set_option maxRecDepth 100000 in
theorem lifted (os : Os) (started : os.Started) (H : Type) (enc : TypeId × Value → H) :
    ReturnsInHanded {} Try.checked os 5 .any (Rows.dictvalReadsSpec.pre6 enc Try.prog Try.f5 Rows.dictvalReadsRow.domain false) (Rows.dictvalReadsSpec.post enc Try.prog Try.f5 false true false false) := by
  refine returnsInHanded_of_change_sized (C := Try.checked) own started (by kernel_rfl) Try.func5
    (ChangeSpec.witness6 (enc := enc) (C := Try.checked) false ⟨#[], #[.slice none 0 0, .int .i64 0], []⟩ 8 (by kernel_rfl) (by kernel_rfl) (by kernel_rfl) (by kernel_rfl)) ?_
  intro W base args ds gs before hval0 hW hcnd hsz0 _
  have hval : ∀ (j : Nat) t v, Try.f5.params[j]? = some t → args[j]? = some v → Value.okWide Try.prog W .any base t v := hval0
  have hsz : (DataW.weightsEach Try.prog (Try.f5.params.toList ++ Rows.dictvalReadsSpec.plain.varTypes Try.prog) (ds ++ gs)).all (· ≤ reachBytes) = true := hsz0
  have hW' := hW
  obtain ⟨p, q, hA0, hV, rfl, hfz, hnd⟩ := hW
  have hA : DataW.TrodAll enc Try.prog W 0 (fun _ => true) true Try.f5.params.toList args.toList ds p := hA0
  rw [Try.params5] at hA hval hsz
  obtain ⟨v0, vs0, d0, ds0, p0, q0, hargs, rfl, rfl, h0, r0⟩ := trodAll_cons hA
  obtain ⟨v1, vs1, d1, ds1, p1, q1, rfl, rfl, rfl, h1, r1⟩ := trodAll_cons r0
  obtain ⟨rfl, rfl, rfl⟩ := trodAll_nil r1
  obtain rfl : args = #[v0, v1] := by cases args; simp_all
  obtain ⟨rfl, rfl⟩ := trodVars_none hV
  have k0 := h0
  have lt0 : ∀ x ∈ p0, x.block < W.heap.size := by obtain ⟨m, hm⟩ := k0; exact DataW.trod_lt m _ _ _ hm
  obtain ⟨ad0, len0, cap0, sh0⟩ := okWide_slice Try.underlying39 (hval 0 39 v0 rfl rfl)
  obtain ⟨l0, ok0, _, rd0, dd0⟩ := open_flat (by decide) (flat_u8 Try.underlying5 (by kernel_rfl)) Try.underlying39 sh0 h0
  have z0 := sized_flat hsz (j := 0) (t := 39) (e := 5) (bytes := 1) rfl rfl Try.underlying39 (by kernel_rfl) dd0
  rw [flatMap_u8s] at rd0
  clear sh0 dd0
  have k1 := h1
  have lt1 : ∀ x ∈ p1, x.block < W.heap.size := by obtain ⟨m, hm⟩ := k1; exact DataW.trod_lt m _ _ _ hm
  obtain ⟨a1, rfl, e1, _, w1⟩ := open_int Try.underlying3 (hval 1 3 v1 rfl rfl) h1
  have u1 : -9223372036854775808 ≤ a1 ∧ a1 < 9223372036854775808 := by have := bounds_i64 w1; omega
  clear hA0 hval0
  refine (met W v0 l0 ok0 rd0 z0 a1 u1).mono fun e W' ⟨he, bel⟩ => ?_
  subst he
  exact ⟨_, rfl, _, _, _, [], _, [], hW', trodAll_mk1 (shut_bool Try.underlying4 _), (trodAll_cons_mk (Below.trod laidOut (by kernel_rfl) (of_decide_eq_true (by kernel_rfl)) k0 bel lt0) (trodAll_cons_mk (Below.trod laidOut (by kernel_rfl) (of_decide_eq_true (by kernel_rfl)) k1 bel lt1) trodAll_mk0)), rfl, bel.frame _, fun h => by cases h⟩

theorem over : Rows.dictvalReadsRow.holds Try.pinned (OpenSpec.ofChange Rows.dictvalReadsSpec) :=
  OpenClaim.holds_of_wide 5 Try.f5 rfl rfl rfl rfl rfl rfl rfl ⟨rfl, rfl, rfl, rfl, rfl⟩ rfl rfl rfl rfl rfl (by kernel_rfl) Try.func5 (by kernel_rfl)
    (of_decide_eq_true (by kernel_rfl)) (by unfold Func.isWrapper; first | (rw [if_pos (by decide +kernel)]; kernel_rfl) | (rw [if_neg (by decide +kernel)]; exact ⟨rfl, rfl⟩))
    (fun os started H enc _ => lifted os started H enc)

theorem proved : Rows.DictvalReadsSaid := over
end Go.Proofs.Ytpphgmgdmdehpaa.dictvalReads


end
