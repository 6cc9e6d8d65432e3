/- DictvalWrites holds for every list of values. No condition. -/
import Derived.Test.YtpphgmgdmdehpaaBitioLen
import Derived.Test.YtpphgmgdmdehpaaDictI
import Derived.OwnWalk
import Derived.Test.YtpphgmgdmdehpaaAlive08
import Derived.Test.YtpphgmgdmdehpaaDvAll
import Derived.Test.YtpphgmgdmdehpaaRows
import Derived.Test.YtpphgmgdmdehpaaOpen

section
/- Layer 8: DictvalWrites, walked over the interface. -/
set_option linter.unusedVariables false
namespace Go.Proofs.Ytpphgmgdmdehpaa.dictvalWrites
open Go Go.RowKit
variable {G : Nat} {T : World → Prop}

theorem fieldBits_zero (n : Nat) : fieldBits 0 n = List.replicate n false := by
  induction n with
  | zero => rfl
  | succ n ih => rw [fieldBits, ih, Nat.zero_testBit]; rfl

set_option maxRecDepth 20000 in
set_option maxHeartbeats 4000000 in
theorem walk (I : DIf G T) (hal : ∀ w, T w → Calls Try.prog 9 #[] w fun e w' => e = .returned (.bool true) ∧ Below w.heap.size w w')
    (w : World) (hT : T w) (c : Nat) (hc : c < 256) (lv : Value) (l : List Nat) (ok : ∀ t ∈ l, in64u t) (hl : Rd w 1 lv l.length (u64s l)) :
    Calls Try.prog 4 #[.int .u8 (c : Int), lv] w fun e w' => e = .returned (.bool true) ∧ Below w.heap.size w w' := by
  have HT := Lib.hid hT; have HL := Lib.hid hl; have HO := Lib.hid ok; have HAL := Lib.hid hal
  have HLo := Lib.hid (u64s_ltD hl)
  obtain ⟨pl, cl, hv⟩ := hl.shape
  subst hv
  clear hT hl ok hal
  by_cases hlt : 400 < l.length
  · have hlt' : (400 : Int) < (l.length : Int) := by omega
    go_enter Try.func4, Try.ntmps4
    go_wp2_with fail
    refine (HAL.out _ HT.out).mono ?_
    rintro e w1 ⟨rfl, hB⟩
    go_wp2_with fail
    go_ret
    exact ⟨rfl, hB⟩
  · have hlt' : ¬ (400 : Int) < (l.length : Int) := by omega
    have HN : Hid (l.length ≤ 400) := by show _ ≤ _; omega
    have HC9 : Hid ((c : Int) % 9 = ((c % 9 : Nat) : Int)) := by show _ = _; omega
    have HC8 : Hid (c % 9 ≤ 8) := by show _ ≤ _; omega
    clear hlt
    go_enter Try.func4, Try.ntmps4
    go_wp2_with fail
    refine (new_writer _).mono ?_
    rintro e w1 ⟨rfl, hW1, hB1⟩
    have HW1 := Lib.hid (WrD.new I HT.out hW1 hB1)
    have HB1 := Lib.hid hB1
    clear hW1 hB1
    go_wp2_with fail
    rw [HC9.out]
    generalize c % 9 = n at *
    refine (wbits w.heap.size (.slice none 0 0) [] 0 n w1 HW1.out.wr (by have := HC8.out; omega) (by simp)).mono ?_
    rintro e w2 ⟨rfl, v2, hW2, hU2⟩
    obtain ⟨h1, h2⟩ := HW1.out.step I hW2 hU2
    rw [List.nil_append, fieldBits_zero] at h1
    have HW2 := Lib.hid h1
    have HB2 := Lib.hid (HB1.out.trans h2)
    have HPut := Lib.hid (I.putT HW2.out (HL.out.below HB2.out) HO.out HLo.out (by have := HN.out; omega) (by have := HN.out; have := HC8.out; simp; omega))
    obtain ⟨ec, hec⟩ : ∃ ec : Int, (if okD l then 0 else 7) = ec := ⟨_, rfl⟩
    rw [hec] at HPut
    have HEc := Lib.hid hec
    clear h1 h2 hW2 hU2 HW1 HB1 hec
    go_wp2_with fail
    refine HPut.out.mono ?_
    rintro e w3 ⟨rfl, v3, hW3, hB3, _⟩
    have HW3 := Lib.hid hW3
    have HB3 := Lib.hid (HB2.out.trans hB3)
    clear hW3 hB3 HPut HW2 HB2
    obtain ⟨i0, hi, hz0, hz1, hz2⟩ := info_parts Try.infoBool
    have HI := Lib.hid hi; have HZ := Lib.hid hz0; have HZ1 := Lib.hid hz1
    have HZ2 : Hid (i0.bytes * n ≤ 281474976710656 ∧ n ≤ maxLen) := by show _ ∧ _; have := HC8.out; unfold maxLen; rw [hz2]; omega
    clear hi hz0 hz1 hz2
    go_wp2_with (refine wpList_make_full _ rfl _ _ _ rfl 0 4 i0 (.bool false) 1 Try.underlying34 HI.out HZ.out HZ1.out _ _ _ _ n rfl rfl rfl rfl HZ2.out.1 HZ2.out.2 (Nat.zero_le _) ?_)
    intro w4 hown hgr
    have HM4 : Hid (BitsIn w4 (.slice (some ⟨w3.heap.size, 0, none⟩) n n) (List.replicate n false)) := by
      show World.ownsRow _ _ _ _ _ _ _
      rw [toList_madeCells_one] at hown
      rw [List.length_replicate, bls, List.map_replicate]
      exact hown
    have hb4 : Below w3.heap.size w3 w4 := (Mods.of_grown hgr).below (Nat.le_refl _) (fun k _ e => by cases e)
    have HW4 := Lib.hid (HW3.out.below I hb4)
    have HB4 := Lib.hid (HB3.out.trans (hb4.mono HB3.out.size))
    have HF := Lib.hid (ref_put08 (.slice (some ⟨w3.heap.size, 0, none⟩) n n) (.slice pl l.length cl) (List.replicate n false) l w4 HM4.out (HL.out.below HB4.out) HO.out (fun hne k hk e => by
      have h1 := HLo.out hne k hk
      have h2 : w3.heap.size = k := Option.some.inj e
      have := HB3.out.size; omega) (by have := HN.out; omega) (by have := HN.out; have := HC8.out; simp; omega))
    have H34 : Hid (w3.heap.size ≤ w4.heap.size ∧ w.heap.size ≤ w3.heap.size) := ⟨hb4.size, HB3.out.size⟩
    have HPl : Hid (w.heap.size < w3.heap.size ∧ ∀ k, v3.ownBlock = some k → k < w3.heap.size) := ⟨HW3.out.wr.blk.lt, owns_lt HW3.out.wr.own⟩
    clear hown hgr hb4 HW3 HB3
    go_wp2_with fail
    refine HF.out.mono ?_
    rintro e w5 ⟨v5, rfl, hR⟩
    have HBl : Hid (((List.replicate n false ++ putD l).length : Int) - (n : Int) = ((putD l).length : Int)) := by show _ = _; simp; omega
    have HBm : Hid ((List.replicate n false ++ putD l).length ≤ 70368744170000) := by show _ ≤ _; have := putD_len l; have := HN.out; have := HC8.out; rw [List.length_append, List.length_replicate]; omega
    generalize List.replicate n false ++ putD l = B at *
    have HR5 := Lib.hid (Rd.of_owns hR.own)
    have hm5 : Below w3.heap.size w4 w5 := hR.mods.below H34.out.1 (fun k hk e => by have h2 : w3.heap.size = k := Option.some.inj e; omega)
    have HB5 := Lib.hid (HB4.out.trans (hm5.mono H34.out.2))
    have HW5 := Lib.hid (HW4.out.mods I hR.mods (fun e => by have h2 : w3.heap.size = w.heap.size := Option.some.inj e; have := HPl.out.1; omega) (fun k hk e => by have h2 : w3.heap.size = k := Option.some.inj e; have := HPl.out.2 k hk; omega) (fun k hk e => by have h2 : w3.heap.size = k := Option.some.inj e; have := HW4.out.low; have := H34.out.2; omega))
    obtain ⟨p5, c5, hv5⟩ := (Rd.of_owns hR.own).shape
    subst hv5
    clear hR hm5 HF HM4 HW4 HB4 HPl H34
    go_wp2_with fail
    refine (wlen _ _ _ _ HW5.out.wr).mono ?_
    rintro e w7 ⟨rfl, rfl⟩
    go_wp2_with fail
    refine (wbytes _ _ _ _ HW5.out.wr (by have := HBm.out; omega)).mono ?_
    rintro e w7 ⟨r7, rfl, hM⟩
    have HB7 := Lib.hid (HB5.out.trans (hM.2.mono HB5.out.size))
    have HW7 := Lib.hid (HW5.out.below I hM.2)
    have HR7 := Lib.hid (HR5.out.below hM.2)
    have HP7 := Lib.hid (Rd.of_owns hM.1)
    obtain ⟨p7, c7, hv7⟩ := (Rd.of_owns hM.1).shape
    subst hv7
    clear hM HB5 HW5 HR5
    go_wp2_with fail
    refine (ref_pack _ B w7 HR7.out (by have := HBm.out; omega)).mono ?_
    rintro e w8 ⟨r8, rfl, hM⟩
    have HB8 := Lib.hid (HB7.out.trans (hM.2.mono HB7.out.size))
    have HT8 := Lib.hid (I.below HW7.out.tab hM.2)
    have HP8 := Lib.hid (HP7.out.below hM.2)
    have HQ8 := Lib.hid (Rd.of_owns hM.1)
    obtain ⟨p8, c8, hv8⟩ := (Rd.of_owns hM.1).shape
    subst hv8
    clear hM HB7 HW7 HR7 HP7
    go_wp2_with fail
    refine (equal_any _ _ _ _ _ _ _ HP8.out HQ8.out (pack_lt _) (pack_lt _)).mono ?_
    rintro e w9 ⟨rfl, rfl⟩
    have hd : decide (pack B = pack B) = true := by simp
    rw [hd]
    clear hd HP8 HQ8
    have hL : ((putD l).length : Int) ≤ 70368744170000 := by have := putD_len l; have := HN.out; omega
    have HSd : Hid (sizeD l = if okD l then ((putD l).length : Int) else -1) := by
      show _ = _
      rw [sizeD]
      by_cases h : okD l = true
      · rw [if_pos h, if_pos h, putD_ok h]
      · rw [if_neg h, if_neg h]
    have hbl := HBl.out
    have HS9 : Hid (∀ w9, T w9 → Below w.heap.size w w9 → Calls Try.prog 24 #[.slice pl l.length cl] w9 fun e w' => e = .returned (.int .i64 (sizeD l)) ∧ Below w9.heap.size w9 w') := fun w9 hT hB => I.size _ l _ hT (HL.out.below hB) HO.out (by have := HN.out; omega)
    rw [HSd.out] at HS9
    clear HSd
    generalize (putD l).length = L at *
    generalize okD l = k at *
    cases k with
    | false =>
      obtain rfl : 7 = ec := HEc.out
      clear HEc
      go_wp2_with fail
      refine (HAL.out _ HT8.out).mono ?_
      rintro e w9 ⟨rfl, hb⟩
      have HB9 := Lib.hid (HB8.out.trans (hb.mono HB8.out.size))
      have HT9 := Lib.hid (I.below HT8.out hb)
      clear hb HB8 HT8
      go_wp2_with fail
      refine (HS9.out _ HT9.out HB9.out).mono ?_
      rintro e w10 ⟨rfl, hb⟩
      have HB10 := Lib.hid (HB9.out.trans (hb.mono HB9.out.size))
      go_wp2_with fail
      go_ret
      exact ⟨rfl, HB10.out⟩
    | true =>
      obtain rfl : 0 = ec := HEc.out
      clear HEc
      go_wp2_with fail
      refine (HAL.out _ HT8.out).mono ?_
      rintro e w9 ⟨rfl, hb⟩
      have HB9 := Lib.hid (HB8.out.trans (hb.mono HB8.out.size))
      have HT9 := Lib.hid (I.below HT8.out hb)
      clear hb HB8 HT8
      go_wp2_with fail
      refine (HS9.out _ HT9.out HB9.out).mono ?_
      rintro e w10 ⟨rfl, hb⟩
      have HB10 := Lib.hid (HB9.out.trans (hb.mono HB9.out.size))
      go_wp2_with fail
      go_ret
      exact ⟨rfl, HB10.out⟩
end Go.Proofs.Ytpphgmgdmdehpaa.dictvalWrites

end

section
/- DictvalWrites holds for every list of values. No condition. -/
namespace Go.Proofs.Ytpphgmgdmdehpaa.dictvalWrites
open Go Go.ChangeShapes Go.WideShapes Go.ChangeAt Go.RowKit
open Go.ChangeMaps (open_string shut_string)
set_option linter.unusedVariables false

theorem met (w : World) (b0 : Nat) (u0 : b0 < 256) (v1 : Value) (l1 : List Nat) (ok1 : ∀ z ∈ l1, z < 18446744073709551616) (hl1 : Rd w 1 v1 l1.length (l1.flatMap fun z : Nat => [Value.int .u64 (z : Int)])) (_ : l1.length * 8 ≤ 140737488351232) :
    Calls Try.prog 4 #[.int .u8 (b0 : Int), v1] w fun e w' => e = .returned (.bool true) ∧ Below w.heap.size w w' := by
  rw [flatMap_one] at hl1
  exact walk dictval (alive_ofD dictval) w trivial b0 u0 v1 l1 ok1 hl1

theorem own : ownKnob Try.prog.godebug = none := by kernel_rfl
theorem laidOut : laidOutB Try.prog = true := by kernel_rfl

set_option maxRecDepth 100000 in
theorem lifted (os : Os) (started : os.Started) (H : Type) (enc : TypeId × Value → H) :
    ReturnsInHanded {} Try.checked os 4 .any (Rows.dictvalWritesSpec.pre6 enc Try.prog Try.f4 Rows.dictvalWritesRow.domain false) (Rows.dictvalWritesSpec.post enc Try.prog Try.f4 false true false false) := by
  refine returnsInHanded_of_change_sized (C := Try.checked) own started (by kernel_rfl) Try.func4
    (ChangeSpec.witness6 (enc := enc) (C := Try.checked) false ⟨#[], #[.int .u8 0, .slice none 0 0], []⟩ 8 (by kernel_rfl) (by kernel_rfl) (by kernel_rfl) (by kernel_rfl)) ?_
  intro W base args ds gs before hval0 hW hcnd hsz0 _
  have hval : ∀ (j : Nat) t v, Try.f4.params[j]? = some t → args[j]? = some v → Value.okWide Try.prog W .any base t v := hval0
  have hsz : (DataW.weightsEach Try.prog (Try.f4.params.toList ++ Rows.dictvalWritesSpec.plain.varTypes Try.prog) (ds ++ gs)).all (· ≤ reachBytes) = true := hsz0
  have hW' := hW
  obtain ⟨p, q, hA0, hV, rfl, hfz, hnd⟩ := hW
  have hA : DataW.TrodAll enc Try.prog W 0 (fun _ => true) true Try.f4.params.toList args.toList ds p := hA0
  rw [Try.params4] at hA hval hsz
  obtain ⟨v0, vs0, d0, ds0, p0, q0, hargs, rfl, rfl, h0, r0⟩ := trodAll_cons hA
  obtain ⟨v1, vs1, d1, ds1, p1, q1, rfl, rfl, rfl, h1, r1⟩ := trodAll_cons r0
  obtain ⟨rfl, rfl, rfl⟩ := trodAll_nil r1
  obtain rfl : args = #[v0, v1] := by cases args; simp_all
  obtain ⟨rfl, rfl⟩ := trodVars_none hV
  have k0 := h0
  have lt0 : ∀ x ∈ p0, x.block < W.heap.size := by obtain ⟨m, hm⟩ := k0; exact DataW.trod_lt m _ _ _ hm
  obtain ⟨a0, rfl, e0, _, w0⟩ := open_int Try.underlying5 (hval 0 5 v0 rfl rfl) h0
  obtain ⟨b0, u0, rfl⟩ := nat_u8 w0
  have k1 := h1
  have lt1 : ∀ x ∈ p1, x.block < W.heap.size := by obtain ⟨m, hm⟩ := k1; exact DataW.trod_lt m _ _ _ hm
  obtain ⟨ad1, len1, cap1, sh1⟩ := okWide_slice Try.underlying22 (hval 1 22 v1 rfl rfl)
  obtain ⟨l1, ok1, _, rd1, dd1⟩ := open_flat (by decide) (flat_u64 Try.underlying25 (by kernel_rfl)) Try.underlying22 sh1 h1
  have z1 := sized_flat hsz (j := 1) (t := 22) (e := 25) (bytes := 8) rfl rfl Try.underlying22 (by kernel_rfl) dd1
  clear sh1 dd1
  clear hA0 hval0
  refine (met W b0 u0 v1 l1 ok1 rd1 z1).mono fun e W' ⟨he, bel⟩ => ?_
  subst he
  exact ⟨_, rfl, _, _, _, [], _, [], hW', trodAll_mk1 (shut_bool Try.underlying4 _), (trodAll_cons_mk (Below.trod laidOut (by kernel_rfl) (of_decide_eq_true (by kernel_rfl)) k0 bel lt0) (trodAll_cons_mk (Below.trod laidOut (by kernel_rfl) (of_decide_eq_true (by kernel_rfl)) k1 bel lt1) trodAll_mk0)), rfl, bel.frame _, fun h => by cases h⟩

theorem over : Rows.dictvalWritesRow.holds Try.pinned (OpenSpec.ofChange Rows.dictvalWritesSpec) :=
  OpenClaim.holds_of_wide 4 Try.f4 rfl rfl rfl rfl rfl rfl rfl ⟨rfl, rfl, rfl, rfl, rfl⟩ rfl rfl rfl rfl rfl (by kernel_rfl) Try.func4 (by kernel_rfl)
    (of_decide_eq_true (by kernel_rfl)) (by unfold Func.isWrapper; first | (rw [if_pos (by decide +kernel)]; kernel_rfl) | (rw [if_neg (by decide +kernel)]; exact ⟨rfl, rfl⟩))
    (fun os started H enc _ => lifted os started H enc)

theorem proved : Rows.DictvalWritesSaid := over
end Go.Proofs.Ytpphgmgdmdehpaa.dictvalWrites


end
