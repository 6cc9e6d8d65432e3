/- DictvalForgetsOrder holds for every list of values and every turn. No condition. -/
import Derived.Test.YtpphgmgdmdehpaaDictI
import Derived.Test.YtpphgmgdmdehpaaConcatU
import Derived.Test.YtpphgmgdmdehpaaAlive08
import Derived.Test.YtpphgmgdmdehpaaDvAll
import Derived.Test.YtpphgmgdmdehpaaRows
import Derived.Test.YtpphgmgdmdehpaaOpen

section
/- Layer 8: DictvalForgetsOrder, walked over the interface. -/
set_option linter.unusedVariables false
namespace Go.Proofs.Ytpphgmgdmdehpaa.dictvalForgetsOrder
open Go Go.RowKit
variable {G : Nat} {T : World → Prop}

theorem encD_length {l : List Nat} (h : l ≠ []) : (encD l).length = 7 + (64 * (dictD l).length + widthD (dictD l).length * l.length) := by
  rw [encD, if_neg h, List.length_append, List.length_append, fieldBits_length, wordsBits_len, indsBits_len, List.length_map]
theorem turned_mem (l : List Nat) (i : Nat) (x : Nat) : x ∈ l ↔ x ∈ (l.drop i ++ l.take i).reverse := by
  rw [List.mem_reverse, List.mem_append]
  conv => lhs; rw [← List.take_append_drop i l]
  rw [List.mem_append]
  exact Or.comm
theorem turned_length (l : List Nat) (i : Nat) : (l.drop i ++ l.take i).reverse.length = l.length := by
  rw [List.length_reverse, List.length_append, List.length_drop, List.length_take]; omega
theorem turned_dict (l : List Nat) (i : Nat) : dictD (l.drop i ++ l.take i).reverse = dictD l := (dictD_same _ _ (turned_mem l i)).symm
theorem turned_size (l : List Nat) (i : Nat) : sizeD (l.drop i ++ l.take i).reverse = sizeD l := by
  have hd := turned_dict l i
  have hl := turned_length l i
  have hm := turned_mem l i
  have ho : okD (l.drop i ++ l.take i).reverse = okD l := by rw [okD, okD, hd]
  rw [sizeD, sizeD, ho]
  by_cases h : l = []
  · subst h; simp
  · have h2 : (l.drop i ++ l.take i).reverse ≠ [] := fun e => by rw [e] at hl; exact h (List.eq_nil_of_length_eq_zero hl.symm)
    rw [encD_length h, encD_length h2, hd, hl]

set_option maxRecDepth 20000 in
set_option maxHeartbeats 4000000 in
theorem walk (I : DIf G T) (hal : ∀ w, T w → Calls Try.prog 9 #[] w fun e w' => e = .returned (.bool true) ∧ Below w.heap.size w w')
    (w : World) (hT : T w) (lv : Value) (l : List Nat) (ok : ∀ t ∈ l, in64u t) (hl : Rd w 1 lv l.length (u64s l)) (k : Nat) (hk : k < 65536) :
    Calls Try.prog 8 #[lv, .int .u16 (k : Int)] w fun e w' => e = .returned (.bool true) ∧ Below w.heap.size w w' := by
  have HT := Lib.hid hT; have HL := Lib.hid hl; have HO := Lib.hid ok; have HAL := Lib.hid hal
  obtain ⟨pl, cl, hv⟩ := hl.shape
  subst hv
  clear hT hl ok hal
  by_cases hbig : 400 < l.length
  · have h1 : (400 : Int) < (l.length : Int) := by omega
    clear hbig
    go_enter Try.func8, Try.ntmps8
    go_wp2_with fail
    refine (HAL.out _ HT.out).mono ?_
    rintro e w1 ⟨rfl, hB⟩
    go_wp2_with fail
    go_ret
    exact ⟨rfl, hB⟩
  · have h1 : ¬ (400 : Int) < (l.length : Int) := by omega
    by_cases h0 : l.length = 0
    · have h2 : (l.length : Int) = 0 := by omega
      clear hbig h0
      go_enter Try.func8, Try.ntmps8
      go_wp2_with fail
      refine (HAL.out _ HT.out).mono ?_
      rintro e w1 ⟨rfl, hB⟩
      go_wp2_with fail
      go_ret
      exact ⟨rfl, hB⟩
    · have h2 : ¬ (l.length : Int) = 0 := by omega
      have h2b : ((l.length : Int) == 0) = false := by rw [beq_eq_false_iff_ne]; exact h2
      have HN : Hid (l.length ≤ 400 ∧ 0 < l.length) := by show _ ∧ _; omega
      obtain ⟨i, hi⟩ : ∃ i, k % l.length = i := ⟨_, rfl⟩
      have hil : i < l.length := by rw [← hi]; exact Nat.mod_lt _ (by omega)
      have hI : (k : Int) % (l.length : Int) = (i : Int) := by rw [← hi]; simp
      have hIt : (k : Int).tmod (l.length : Int) = (i : Int) := by rw [← hi, Int.ofNat_tmod]
      have HIl : Hid (i < l.length) := hil
      clear hbig h0 hi hil
      go_enter Try.func8, Try.ntmps8
      obtain ⟨pf, cf, hsl, hRf⟩ : ∃ p c, sliced pl i l.length cl 1 = .slice p (l.drop i).length c ∧ Rd w 1 (.slice p (l.drop i).length c) (l.drop i).length (u64s (l.drop i)) := by
        have h := HL.out.from i (Nat.le_of_lt HIl.out)
        obtain ⟨p, c, e⟩ := h.shape
        rw [List.length_drop]
        refine ⟨p, c, e, ?_⟩
        rw [e] at h
        have e2 : (u64s l).drop (i * 1) = u64s (l.drop i) := by simp [u64s, List.map_drop]
        rw [e2] at h
        exact h
      have HF := Lib.hid hRf
      have HSl := Lib.hid hsl
      have HBl : Hid ((l.take i).length = i) := by show _ = _; rw [List.length_take, Nat.min_eq_left (Nat.le_of_lt HIl.out)]
      have HU : Hid (Rd w 1 (.slice pl (l.take i).length cl) (l.take i).length (u64s (l.take i))) := by
        have h := HL.out.upto i (Nat.le_of_lt HIl.out)
        have e2 : (u64s l).take (i * 1) = u64s (l.take i) := by simp [u64s, List.map_take]
        rw [e2] at h
        show Rd _ _ _ _ _
        rw [HBl.out]
        exact h
      have HCl : Hid (l.length ≤ cl) := by
        obtain ⟨_, _, e, _, h, _⟩ := HL.out
        simp only [Value.slice.injEq] at e
        obtain ⟨_, _, rfl⟩ := e
        exact h
      clear hsl hRf
      go_wp2_with fail
      refine wp_region_takeH (fun _ => True) [6, 7] [0, 1, 2, 3, 4, 5, 6, 7, 8] (by kernel_rfl) (by kernel_rfl) (by kernel_rfl) ?_ trivial ?_
      · intro c a a' w hd h; exact ⟨hd ▸ h.1, h.2⟩
      simp only [taken, List.map_cons, List.map_nil, List.getElem?_cons_succ, List.getElem?_cons_zero, Option.getD_some]
      repeat (first
        | (refine takeH_skip rfl ?_; simp only [Act.put, List.setIfInBounds_toArray, List.set_cons_succ, List.set_cons_zero])
        | (refine takeH_blind rfl rfl ?_; apply Exists.intro; refine ⟨fun w => ?_, ?_⟩; (go_simp; try with_reducible rfl); simp only [Act.put, List.setIfInBounds_toArray, List.set_cons_succ, List.set_cons_zero]))
      refine takeH_read rfl rfl (.slice pf (l.drop i).length cf) (fun w' _ => (exec_from Try.elemU64 w' pl l.length cl i (Nat.le_of_lt HIl.out) (.tmp 24) (.tmp 25) rfl rfl rfl).trans (by rw [HSl.out])) ?_
      simp only [Act.put, List.setIfInBounds_toArray, List.set_cons_succ, List.set_cons_zero]
      repeat (first
        | (refine takeH_skip rfl ?_; simp only [Act.put, List.setIfInBounds_toArray, List.set_cons_succ, List.set_cons_zero])
        | (refine takeH_blind rfl rfl ?_; apply Exists.intro; refine ⟨fun w => ?_, ?_⟩; (go_simp; try with_reducible rfl); simp only [Act.put, List.setIfInBounds_toArray, List.set_cons_succ, List.set_cons_zero]))
      refine takeH_read rfl rfl (.slice pl (l.take i).length cl) (fun w' _ => by rw [HBl.out]; exact exec_upto Try.elemU64 w' pl l.length cl i (Nat.le_of_lt HIl.out) HCl.out (.tmp 27) (.tmp 28) rfl rfl rfl) ?_
      simp only [Act.put, List.setIfInBounds_toArray, List.set_cons_succ, List.set_cons_zero]
      have HSm : Hid ((l.drop i).length + (l.take i).length = l.length) := by show _ = _; rw [List.length_drop, List.length_take]; have := HIl.out; omega
      have HMl := Lib.hid (turned_length l i); have HMd := Lib.hid (turned_dict l i); have HMs := Lib.hid (turned_size l i)
      have HMo : Hid (∀ t ∈ (l.drop i ++ l.take i).reverse, in64u t) := fun t ht => HO.out t ((turned_mem l i t).2 ht)
      clear HSl HBl
      generalize l.drop i = A at *
      generalize l.take i = B at *
      obtain ⟨C, hC⟩ : ∃ C, A ++ B = C := ⟨_, rfl⟩
      have HCe := Lib.hid hC
      have HCl2 : Hid (C.length = l.length) := by show _ = _; rw [← hC, List.length_append]; exact HSm.out
      rw [hC] at HMl HMd HMs HMo
      clear hC
      refine takeH_call rfl rfl (fun K' hK => ?_)
      go_wp2_with fail
      obtain ⟨w1, hw1⟩ : ∃ w1, (w.alloc (.cells #[.slice pf A.length cf, .slice pl B.length cl] 22)).drew = w1 := ⟨_, rfl⟩
      have hB1 : Below w.heap.size w w1 := by rw [← hw1]; exact Below.drew ((Below.refl _ w).alloc (Nat.le_refl _) _)
      have hb1 : Blk w1 w.heap.size [.slice pf A.length cf, .slice pl B.length cl] := by rw [← hw1]; exact (Blk.new w _ _).of_same rfl
      have hc1 : w1.cell? ⟨w.heap.size, 0, none⟩ = some (.slice pf A.length cf) := by rw [hb1.cell]; rfl
      have hc2 : w1.cell? ⟨w.heap.size, 1, none⟩ = some (.slice pl B.length cl) := by rw [hb1.cell]; rfl
      have HCc := Lib.hid (concat_u64 w.heap.size _ _ A B w1 (HF.out.below hB1) (HU.out.below hB1) hc1 hc2 (by have := HSm.out; have := HN.out; omega))
      rw [HCe.out] at HCc
      have HB1 := Lib.hid hB1
      rw [hw1]
      refine hK _ _ trivial ?_
      clear hK K' hB1 hb1 hc1 hc2 hw1
      refine takeH_call rfl rfl (fun K' hK => ?_)
      go_wp2_with fail
      refine HCc.out.mono ?_
      rintro e w2 ⟨r2, rfl, hM⟩
      have HO2 := Lib.hid hM.1
      have HB2 := Lib.hid (HB1.out.trans (hM.2.mono HB1.out.size))
      have HF1 : Hid (∀ j, r2.ownBlock = some j → w.heap.size ≤ j) := fun j hj => Nat.le_trans HB1.out.size (hM.1.lt j hj).1
      obtain ⟨p2, c2, hv2⟩ := (Rd.of_owns hM.1).shape
      subst hv2
      refine hK _ _ trivial ?_
      clear hK K' hM HCc HB1
      repeat (first
        | (refine takeH_skip rfl ?_; simp only [Act.put, List.setIfInBounds_toArray, List.set_cons_succ, List.set_cons_zero])
        | (refine takeH_blind rfl rfl ?_; apply Exists.intro; refine ⟨fun w => ?_, ?_⟩; (go_simp; try with_reducible rfl); simp only [Act.put, List.setIfInBounds_toArray, List.set_cons_succ, List.set_cons_zero]))
      refine takeH_nil ?_
      go_wp2_with fail
      refine (reverse_u64 _ _ C w2 HO2.out (by have := HCl2.out; have := HN.out; omega)).mono ?_
      rintro e w3 ⟨rfl, hR, hMd⟩
      have hb3 : Below w.heap.size w2 w3 := hMd.below HB2.out.size (fun j hj e => by have := HF1.out j e; omega)
      have HB3 := Lib.hid (HB2.out.trans hb3)
      have HT3 := Lib.hid (I.below HT.out HB3.out)
      have HL3 := Lib.hid (HL.out.below HB3.out)
      have HM3 : Hid (Rd w3 1 (.slice p2 C.length c2) C.reverse.length (u64s C.reverse)) := by
        show Rd _ _ _ _ _
        rw [List.length_reverse]
        exact Rd.of_owns hR
      clear hR hMd hb3 HO2 HB2 HF1
      have hlr : C.length = C.reverse.length := List.length_reverse.symm
      rw [hlr] at HM3 ⊢
      clear hlr
      generalize C.reverse = m at *
      go_wp2_with fail
      refine (I.dict _ l w3 HT3.out HL3.out HO.out (by have := HN.out; omega)).mono ?_
      rintro e w4 ⟨r4, rfl, hM⟩
      have HB4 := Lib.hid (HB3.out.trans (hM.2.mono HB3.out.size))
      have HT4 := Lib.hid (I.below HT3.out hM.2)
      have HL4 := Lib.hid (HL3.out.below hM.2)
      have HM4 := Lib.hid (HM3.out.below hM.2)
      have HD4 := Lib.hid (Rd.of_owns hM.1)
      obtain ⟨p4, c4, hv4⟩ := (Rd.of_owns hM.1).shape
      subst hv4
      clear hM HB3 HT3 HL3 HM3
      go_wp2_with fail
      have HMem : Hid (∀ x ∈ l, x ∈ dictD l) := fun x hx => (dictD_mem l x).2 hx
      have HAs := Lib.hid (dictD_asc l)
      have HDl : Hid ((dictD l).length ≤ 400) := by show _ ≤ _; have := dictD_len l; have := HN.out; omega
      generalize dictD l = d at *
      go_loop [38] (fun iv => ∃ j : Nat, j ≤ l.length ∧ iv = .int .i64 (j : Int)) (fun iv => l.length - (intOf iv).toNat)
      case atStart => exact ⟨0, Nat.zero_le _, rfl⟩
      case round =>
        obtain ⟨j, hj, rfl⟩ := hrel
        have hjb : (j : Int) ≤ 400 := by have := HN.out; omega
        by_cases hlt : j < l.length
        · have hlt' : (j : Int) < (l.length : Int) := by omega
          obtain ⟨b, off, c', e, hnc, hncm, hcell⟩ := HL4.out.at (fun e => by have := congrArg List.length e; rw [u64s_length] at this; simp at this; subst this; simp at hlt)
          simp only [Value.slice.injEq] at e
          obtain ⟨rfl, _, rfl⟩ := e
          obtain ⟨x, hx⟩ : ∃ x, l[j] = x := ⟨_, rfl⟩
          have hct : w4.cell? ⟨b, off + j, none⟩ = some (.int .u64 (x : Int)) := by rw [← hx]; exact hcell j _ (u64s_get l j hlt)
          have hm : decide (x ∈ d) = true := decide_eq_true (HMem.out x (hx ▸ List.getElem_mem hlt))
          have HCn := Lib.hid (contains_u64 _ d x w4 HD4.out (by have := HDl.out; omega))
          rw [hm] at HCn
          clear hcell hx hnc hncm hm
          go_wp2_with fail
          refine HCn.out.mono ?_
          rintro e w9 ⟨rfl, h9⟩
          obtain rfl := h9.symm
          clear HCn
          go_wp2_with fail
          go_round
          case rel => exact ⟨j + 1, by omega, by go_num⟩
          case measure => simp [intOf]; omega
        · have hlt' : ¬ (j : Int) < (l.length : Int) := by omega
          clear hlt hj
          go_wp2_with fail
          refine (HAL.out _ HT4.out).mono ?_
          rintro e w5 ⟨rfl, hB⟩
          have HB5 := Lib.hid (HB4.out.trans (hB.mono HB4.out.size))
          have HT5 := Lib.hid (I.below HT4.out hB)
          have HL5 := Lib.hid (HL4.out.below hB)
          have HM5 := Lib.hid (HM4.out.below hB)
          have HD5 := Lib.hid (HD4.out.below hB)
          clear hB
          go_wp2_with fail
          have HDm := Lib.hid (I.dict _ m w5 HT5.out HM5.out HMo.out (by have := HMl.out; have := HN.out; omega))
          rw [HMd.out] at HDm
          refine HDm.out.mono ?_
          rintro e w6 ⟨r6, rfl, hM⟩
          have HB6 := Lib.hid (HB5.out.trans (hM.2.mono HB5.out.size))
          have HT6 := Lib.hid (I.below HT5.out hM.2)
          have HL6 := Lib.hid (HL5.out.below hM.2)
          have HM6 := Lib.hid (HM5.out.below hM.2)
          have HD6 := Lib.hid (HD5.out.below hM.2)
          have HE6 := Lib.hid (Rd.of_owns hM.1)
          obtain ⟨p6, c6, hv6⟩ := (Rd.of_owns hM.1).shape
          subst hv6
          clear hM HDm HB5 HT5 HL5 HM5 HD5
          go_wp2_with fail
          refine (equal_u64 _ _ d d w6 HD6.out HE6.out).mono ?_
          rintro e w7 ⟨rfl, hB⟩
          have hd : decide (d = d) = true := by simp
          rw [hd]
          have HB7 := Lib.hid (HB6.out.trans (hB.mono HB6.out.size))
          have HT7 := Lib.hid (I.below HT6.out hB)
          have HL7 := Lib.hid (HL6.out.below hB)
          have HM7 := Lib.hid (HM6.out.below hB)
          have HD7 := Lib.hid (HD6.out.below hB)
          clear hB hd HB6 HT6 HL6 HM6 HD6 HE6
          go_wp2_with fail
          refine (I.size _ l w7 HT7.out HL7.out HO.out (by have := HN.out; omega)).mono ?_
          rintro e w8 ⟨rfl, hB⟩
          have HB8 := Lib.hid (HB7.out.trans (hB.mono HB7.out.size))
          have HT8 := Lib.hid (I.below HT7.out hB)
          have HM8 := Lib.hid (HM7.out.below hB)
          have HD8 := Lib.hid (HD7.out.below hB)
          have HS8 := Lib.hid (I.size _ m w8 HT8.out HM8.out HMo.out (by have := HMl.out; have := HN.out; omega))
          rw [HMs.out] at HS8
          clear hB HB7 HT7 HL7 HM7 HD7
          generalize sizeD l = Z at *
          go_wp2_with fail
          refine HS8.out.mono ?_
          rintro e w9 ⟨rfl, hB⟩
          have HB9 := Lib.hid (HB8.out.trans (hB.mono HB8.out.size))
          have HD9 := Lib.hid (HD8.out.below hB)
          clear hB HS8 HB8 HT8 HM8 HD8
          go_wp2_with fail
          refine (sorted_u64 _ d w9 HD9.out (by have := HDl.out; omega) HAs.out).mono ?_
          rintro e w10 ⟨rfl, dd, rfl⟩
          have HB10 : Hid (Below w.heap.size w (w9.drewN dd)) := HB9.out.trans ⟨rfl, rfl, rfl, Nat.le_refl _, fun _ _ => rfl⟩
          go_wp2_with fail
          go_ret
          exact ⟨rfl, HB10.out⟩
end Go.Proofs.Ytpphgmgdmdehpaa.dictvalForgetsOrder

end

section
/- DictvalForgetsOrder holds for every list of values and every turn. No condition. -/
namespace Go.Proofs.Ytpphgmgdmdehpaa.dictvalForgetsOrder
open Go Go.ChangeShapes Go.WideShapes Go.ChangeAt Go.RowKit
open Go.ChangeMaps (open_string shut_string)
set_option linter.unusedVariables false

theorem met (w : World) (v0 : Value) (l0 : List Nat) (ok0 : ∀ z ∈ l0, z < 18446744073709551616) (hl0 : Rd w 1 v0 l0.length (l0.flatMap fun z : Nat => [Value.int .u64 (z : Int)])) (_ : l0.length * 8 ≤ 140737488351232) (b1 : Nat) (u1 : b1 < 65536) :
    Calls Try.prog 8 #[v0, .int .u16 (b1 : Int)] w fun e w' => e = .returned (.bool true) ∧ Below w.heap.size w w' := by
  rw [flatMap_one] at hl0
  exact walk dictval (alive_ofD dictval) w trivial v0 l0 ok0 hl0 b1 u1

theorem own : ownKnob Try.prog.godebug = none := by kernel_rfl
theorem laidOut : laidOutB Try.prog = true := by kernel_rfl

set_option maxRecDepth 100000 in
theorem lifted (os : Os) (started : os.Started) (H : Type) (enc : TypeId × Value → H) :
    ReturnsInHanded {} Try.checked os 8 .any (Rows.dictvalForgetsOrderSpec.pre6 enc Try.prog Try.f8 Rows.dictvalForgetsOrderRow.domain false) (Rows.dictvalForgetsOrderSpec.post enc Try.prog Try.f8 false true false false) := by
  refine returnsInHanded_of_change_sized (C := Try.checked) own started (by kernel_rfl) Try.func8
    (ChangeSpec.witness6 (enc := enc) (C := Try.checked) false ⟨#[], #[.slice none 0 0, .int .u16 0], []⟩ 8 (by kernel_rfl) (by kernel_rfl) (by kernel_rfl) (by kernel_rfl)) ?_
  intro W base args ds gs before hval0 hW hcnd hsz0 _
  have hval : ∀ (j : Nat) t v, Try.f8.params[j]? = some t → args[j]? = some v → Value.okWide Try.prog W .any base t v := hval0
  have hsz : (DataW.weightsEach Try.prog (Try.f8.params.toList ++ Rows.dictvalForgetsOrderSpec.plain.varTypes Try.prog) (ds ++ gs)).all (· ≤ reachBytes) = true := hsz0
  have hW' := hW
  obtain ⟨p, q, hA0, hV, rfl, hfz, hnd⟩ := hW
  have hA : DataW.TrodAll enc Try.prog W 0 (fun _ => true) true Try.f8.params.toList args.toList ds p := hA0
  rw [Try.params8] at hA hval hsz
  obtain ⟨v0, vs0, d0, ds0, p0, q0, hargs, rfl, rfl, h0, r0⟩ := trodAll_cons hA
  obtain ⟨v1, vs1, d1, ds1, p1, q1, rfl, rfl, rfl, h1, r1⟩ := trodAll_cons r0
  obtain ⟨rfl, rfl, rfl⟩ := trodAll_nil r1
  obtain rfl : args = #[v0, v1] := by cases args; simp_all
  obtain ⟨rfl, rfl⟩ := trodVars_none hV
  have k0 := h0
  have lt0 : ∀ x ∈ p0, x.block < W.heap.size := by obtain ⟨m, hm⟩ := k0; exact DataW.trod_lt m _ _ _ hm
  obtain ⟨ad0, len0, cap0, sh0⟩ := okWide_slice Try.underlying22 (hval 0 22 v0 rfl rfl)
  obtain ⟨l0, ok0, _, rd0, dd0⟩ := open_flat (by decide) (flat_u64 Try.underlying25 (by kernel_rfl)) Try.underlying22 sh0 h0
  have z0 := sized_flat hsz (j := 0) (t := 22) (e := 25) (bytes := 8) rfl rfl Try.underlying22 (by kernel_rfl) dd0
  clear sh0 dd0
  have k1 := h1
  have lt1 : ∀ x ∈ p1, x.block < W.heap.size := by obtain ⟨m, hm⟩ := k1; exact DataW.trod_lt m _ _ _ hm
  obtain ⟨a1, rfl, e1, _, w1⟩ := open_int Try.underlying58 (hval 1 58 v1 rfl rfl) h1
  obtain ⟨b1, u1, rfl⟩ := nat_u16 w1
  clear hA0 hval0
  refine (met W v0 l0 ok0 rd0 z0 b1 u1).mono fun e W' ⟨he, bel⟩ => ?_
  subst he
  exact ⟨_, rfl, _, _, _, [], _, [], hW', trodAll_mk1 (shut_bool Try.underlying4 _), (trodAll_cons_mk (Below.trod laidOut (by kernel_rfl) (of_decide_eq_true (by kernel_rfl)) k0 bel lt0) (trodAll_cons_mk (Below.trod laidOut (by kernel_rfl) (of_decide_eq_true (by kernel_rfl)) k1 bel lt1) trodAll_mk0)), rfl, bel.frame _, fun h => by cases h⟩

theorem over : Rows.dictvalForgetsOrderRow.holds Try.pinned (OpenSpec.ofChange Rows.dictvalForgetsOrderSpec) :=
  OpenClaim.holds_of_wide 8 Try.f8 rfl rfl rfl rfl rfl rfl rfl ⟨rfl, rfl, rfl, rfl, rfl⟩ rfl rfl rfl rfl rfl (by kernel_rfl) Try.func8 (by kernel_rfl)
    (of_decide_eq_true (by kernel_rfl)) (by unfold Func.isWrapper; first | (rw [if_pos (by decide +kernel)]; kernel_rfl) | (rw [if_neg (by decide +kernel)]; exact ⟨rfl, rfl⟩))
    (fun os started H enc _ => lifted os started H enc)

theorem proved : Rows.DictvalForgetsOrderSaid := over
end Go.Proofs.Ytpphgmgdmdehpaa.dictvalForgetsOrder


end
