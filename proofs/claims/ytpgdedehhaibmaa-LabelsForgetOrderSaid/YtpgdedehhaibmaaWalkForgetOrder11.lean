/- Layer 11: LabelsForgetOrder, walked over the interface. -/
import Derived.Test.YtpgdedehhaibmaaMrg2
import Derived.Test.YtpgdedehhaibmaaMrg4
import Derived.Test.YtpgdedehhaibmaaMrg6
set_option linter.unusedVariables false
namespace Go.Proofs.Ytpgdedehhaibmaa.labelsForgetOrder
open Go Go.RowKit
variable {G : Nat} {T : World → Prop}

theorem labCells_parts (l : List Lab) (i : Nat) (h : i ≤ l.length) : (labCells l).drop (i * 2) = labCells (l.drop i) ∧ (labCells l).take (i * 2) = labCells (l.take i) := by
  have e : labCells l = labCells (l.take i) ++ labCells (l.drop i) := by rw [← labCells_append, List.take_append_drop]
  have hl : (labCells (l.take i)).length = i * 2 := by rw [labCells_length, List.length_take, Nat.min_eq_left h]
  exact ⟨by rw [e, List.drop_append_of_le_length (by omega), ← hl, List.drop_length, List.nil_append], by rw [e, ← hl, List.take_left]⟩
theorem turned_perm (l : List Lab) (i : Nat) : l.Perm (l.drop i ++ l.take i).reverse := by
  refine List.Perm.trans ?_ (List.reverse_perm _).symm
  refine List.Perm.trans ?_ List.perm_append_comm
  rw [List.take_append_drop]
theorem turned_length (l : List Lab) (i : Nat) : (l.drop i ++ l.take i).reverse.length = l.length := by
  rw [List.length_reverse, List.length_append, List.length_drop, List.length_take]; omega

set_option maxRecDepth 20000 in
set_option maxHeartbeats 8000000 in
theorem walk (I : LaIf G T) (hal : ∀ w, T w → Calls Try.prog 10 #[] w fun e w' => e = .returned (.bool true) ∧ Below w.heap.size w w')
    (w : World) (hT : T w) (lv : Value) (l : List Lab) (ok : LabSized l) (hl : Rd w 2 lv l.length (labCells l)) (k : Nat) (hk : k < 256) :
    Calls Try.prog 8 #[lv, .int .u8 (k : Int)] w fun e w' => e = .returned (.bool true) ∧ Below w.heap.size w w' := by
  have HT := Lib.hid hT; have HAL := Lib.hid hal; have HL := Lib.hid hl; have HS := Lib.hid ok
  have HLg := Lib.hid (large11 lv l w hl ok)
  obtain ⟨pl, cl, hv⟩ := hl.shape
  subst hv
  clear hT hal hl ok
  go_enter Try.func8, Try.ntmps8
  go_wp2_with fail
  refine HLg.out.mono ?_
  rintro e w1 ⟨he, hB⟩
  have HB1 := Lib.hid hB
  have HT1 := Lib.hid (I.below HT.out hB)
  have HL1 := Lib.hid (HL.out.below hB)
  clear hB HLg HT HL
  rcases he with rfl | ⟨rfl, hn, _⟩
  · go_wp2_with fail
    refine (HAL.out _ HT1.out).mono ?_
    rintro e w2 ⟨rfl, hB⟩
    have HB2 := Lib.hid (HB1.out.trans (hB.mono HB1.out.size))
    go_wp2_with fail
    go_ret
    exact ⟨rfl, HB2.out⟩
  · by_cases h0 : l.length = 0
    · have h2 : (l.length : Int) = 0 := by omega
      clear hn h0
      go_wp2_with fail
      refine (HAL.out _ HT1.out).mono ?_
      rintro e w2 ⟨rfl, hB⟩
      have HB2 := Lib.hid (HB1.out.trans (hB.mono HB1.out.size))
      go_wp2_with fail
      go_ret
      exact ⟨rfl, HB2.out⟩
    · have h2 : ¬ (l.length : Int) = 0 := by omega
      have h2b : ((l.length : Int) == 0) = false := by rw [beq_eq_false_iff_ne]; exact h2
      have HN : Hid (l.length ≤ 200 ∧ 0 < l.length) := by show _ ∧ _; omega
      obtain ⟨i, hi⟩ : ∃ i, k % l.length = i := ⟨_, rfl⟩
      have hil : i < l.length := by rw [← hi]; exact Nat.mod_lt _ (by omega)
      have hI : (k : Int) % (l.length : Int) = (i : Int) := by rw [← hi]; simp
      have hIt : (k : Int).tmod (l.length : Int) = (i : Int) := by rw [← hi, Int.ofNat_tmod]
      have HIl : Hid (i < l.length) := hil
      clear hn h0 hi hil
      obtain ⟨pf, cf, hsl, hRf⟩ : ∃ p c, sliced pl i l.length cl 2 = .slice p (l.drop i).length c ∧ Rd w1 2 (.slice p (l.drop i).length c) (l.drop i).length (labCells (l.drop i)) := by
        have h := HL1.out.from i (Nat.le_of_lt HIl.out)
        obtain ⟨p, c, e⟩ := h.shape
        rw [List.length_drop]
        refine ⟨p, c, e, ?_⟩
        rw [e] at h
        have e2 : (labCells l).drop (i * 2) = labCells (l.drop i) := (labCells_parts l i (Nat.le_of_lt HIl.out)).1
        rw [e2] at h
        exact h
      have HF := Lib.hid hRf
      have HSl := Lib.hid hsl
      have HBl : Hid ((l.take i).length = i) := by show _ = _; rw [List.length_take, Nat.min_eq_left (Nat.le_of_lt HIl.out)]
      have HU : Hid (Rd w1 2 (.slice pl (l.take i).length cl) (l.take i).length (labCells (l.take i))) := by
        have h := HL1.out.upto i (Nat.le_of_lt HIl.out)
        have e2 : (labCells l).take (i * 2) = labCells (l.take i) := (labCells_parts l i (Nat.le_of_lt HIl.out)).2
        rw [e2] at h
        show Rd _ _ _ _ _
        rw [HBl.out]
        exact h
      have HCl : Hid (l.length ≤ cl) := by
        obtain ⟨_, _, e, _, h, _⟩ := HL1.out
        simp only [Value.slice.injEq] at e
        obtain ⟨_, _, rfl⟩ := e
        exact h
      clear hsl hRf
      go_wp2_with fail
      refine wp_region_takeH (fun _ => True) [6, 7] [0, 1, 2, 3, 4, 5, 6, 7, 8] (by kernel_rfl) (by kernel_rfl) (by kernel_rfl) ?_ trivial ?_
      · intro c a a' w hd h; exact ⟨hd ▸ h.1, h.2⟩
      simp only [taken, List.map_cons, List.map_nil, List.getElem?_cons_succ, List.getElem?_cons_zero, Option.getD_some]
      repeat (first
        | (refine takeH_skip rfl ?_; simp only [Act.put, List.setIfInBounds_toArray, List.set_cons_succ, List.set_cons_zero])
        | (refine takeH_blind rfl rfl ?_; apply Exists.intro; refine ⟨fun w => ?_, ?_⟩; (go_simp; try with_reducible rfl); simp only [Act.put, List.setIfInBounds_toArray, List.set_cons_succ, List.set_cons_zero]))
      refine takeH_read rfl rfl (.slice pf (l.drop i).length cf) (fun w' _ => (exec_from elemLab w' pl l.length cl i (Nat.le_of_lt HIl.out) (.tmp 27) (.tmp 28) rfl rfl rfl).trans (by rw [HSl.out])) ?_
      simp only [Act.put, List.setIfInBounds_toArray, List.set_cons_succ, List.set_cons_zero]
      repeat (first
        | (refine takeH_skip rfl ?_; simp only [Act.put, List.setIfInBounds_toArray, List.set_cons_succ, List.set_cons_zero])
        | (refine takeH_blind rfl rfl ?_; apply Exists.intro; refine ⟨fun w => ?_, ?_⟩; (go_simp; try with_reducible rfl); simp only [Act.put, List.setIfInBounds_toArray, List.set_cons_succ, List.set_cons_zero]))
      refine takeH_read rfl rfl (.slice pl (l.take i).length cl) (fun w' _ => by rw [HBl.out]; exact exec_upto elemLab w' pl l.length cl i (Nat.le_of_lt HIl.out) HCl.out (.tmp 30) (.tmp 31) rfl rfl rfl) ?_
      simp only [Act.put, List.setIfInBounds_toArray, List.set_cons_succ, List.set_cons_zero]
      have HSm : Hid ((l.drop i).length + (l.take i).length = l.length) := by show _ = _; rw [List.length_drop, List.length_take]; have := HIl.out; omega
      have HMl := Lib.hid (turned_length l i); have HMp := Lib.hid (turned_perm l i)
      clear HSl HBl
      generalize l.drop i = A at *
      generalize l.take i = B at *
      obtain ⟨C, hC⟩ : ∃ C, A ++ B = C := ⟨_, rfl⟩
      have HCe : Hid (flatAllL [A, B] = C) := by show _ = _; rw [← hC]; simp [flatAllL]
      have HCl2 : Hid (C.length = l.length) := by show _ = _; rw [← hC, List.length_append]; exact HSm.out
      rw [hC] at HMl HMp
      clear hC
      refine takeH_call rfl rfl (fun K' hK => ?_)
      go_wp2_with fail
      obtain ⟨w2, hw2⟩ : ∃ w2, (w1.alloc (.cells #[.slice pf A.length cf, .slice pl B.length cl] 22)).drew = w2 := ⟨_, rfl⟩
      have hB2 : Below w1.heap.size w1 w2 := by rw [← hw2]; exact Below.drew ((Below.refl _ w1).alloc (Nat.le_refl _) _)
      have HPv : Hid (Rd w2 1 (.slice (some ⟨w1.heap.size, 0, none⟩) 2 2) ([.slice pf A.length cf, .slice pl B.length cl] : List Value).length [.slice pf A.length cf, .slice pl B.length cl]) := by
        rw [← hw2]
        exact (Rd.of_owns (World.ownsRow_lit (base := 0) w1 #[.slice pf A.length cf, .slice pl B.length cl] 2 (Nat.zero_le _) (by simp [maxLen]) (by simp))).below (Below.drew (Below.refl _ _))
      have HPs : Hid (PartsAtL w2 [.slice pf A.length cf, .slice pl B.length cl] [A, B]) := by
        refine ⟨rfl, fun j v p h1 h2 => ?_⟩
        match j, h1, h2 with
        | 0, h1, h2 =>
          simp at h1 h2
          subst h1; subst h2
          exact HF.out.below hB2
        | 1, h1, h2 =>
          simp at h1 h2
          subst h1; subst h2
          exact HU.out.below hB2
        | j + 2, h1, h2 => simp at h1
      have HCc := Lib.hid (concat_lab _ _ [A, B] w2 HPv.out HPs.out (by rw [HCe.out]; have := HCl2.out; have := HN.out; omega) (by simp))
      rw [HCe.out] at HCc
      have HB2 := Lib.hid (HB1.out.trans (hB2.mono HB1.out.size))
      have HT2 := Lib.hid (I.below HT1.out hB2)
      have HL2 := Lib.hid (HL1.out.below hB2)
      rw [hw2]
      refine hK _ _ trivial ?_
      clear hK K' hB2 HPv HPs hw2 HB1 HT1 HL1 HF HU
      refine takeH_call rfl rfl (fun K' hK => ?_)
      go_wp2_with fail
      refine HCc.out.mono ?_
      rintro e w3 ⟨r3, rfl, hM⟩
      have HO3 := Lib.hid hM.1
      have HB23 := Lib.hid hM.2
      have HF3 : Hid (∀ j, r3.ownBlock = some j → w2.heap.size ≤ j) := fun j hj => (hM.1.lt j hj).1
      obtain ⟨p3, c3, hv3⟩ := (Rd.of_owns hM.1).shape
      subst hv3
      refine hK _ _ trivial ?_
      clear hK K' hM HCc
      repeat (first
        | (refine takeH_skip rfl ?_; simp only [Act.put, List.setIfInBounds_toArray, List.set_cons_succ, List.set_cons_zero])
        | (refine takeH_blind rfl rfl ?_; apply Exists.intro; refine ⟨fun w => ?_, ?_⟩; (go_simp; try with_reducible rfl); simp only [Act.put, List.setIfInBounds_toArray, List.set_cons_succ, List.set_cons_zero]))
      refine takeH_nil ?_
      go_wp2_with fail
      refine (reverse_lab _ _ C w3 HO3.out (by have := HCl2.out; have := HN.out; omega)).mono ?_
      rintro e w4 ⟨rfl, hR, hMd⟩
      have hb4 : Below w2.heap.size w2 w4 := HB23.out.trans (hMd.below HB23.out.size (fun j hj e => by have := HF3.out j e; omega))
      have HB4 := Lib.hid (HB2.out.trans (hb4.mono HB2.out.size))
      have HT4 := Lib.hid (I.below HT2.out hb4)
      have HL4 := Lib.hid (HL2.out.below hb4)
      have HM4 : Hid (Rd w4 2 (.slice p3 C.length c3) C.reverse.length (labCells C.reverse)) := by
        show Rd _ _ _ _ _
        rw [List.length_reverse]
        exact Rd.of_owns hR
      clear hR hMd hb4 HO3 HB2 HT2 HL2 HB23 HF3
      have hlr : C.length = C.reverse.length := List.length_reverse.symm
      rw [hlr] at HM4 ⊢
      clear hlr
      generalize C.reverse = m at *
      have HSm2 : Hid (LabSized m) := fun x hx => HS.out x (HMp.out.mem_iff.2 hx)
      have HN2 : Hid (m.length ≤ 200) := by show _ ≤ _; rw [HMl.out]; exact HN.out.1
      have HPm := Lib.hid (norm_perm HMp.out)
      have HNl := Lib.hid (norm_le l); have HNm := Lib.hid (norm_le m)
      have HSn : Hid (LabSized (normL l).2) := norm_all HS.out
      have HNn := Lib.hid (norm_norm l)
      have HI1 := Lib.hid (I.norm _ l w4 HT4.out HL4.out HS.out (by have := HN.out; omega))
      obtain ⟨o, ho⟩ : ∃ o, normL l = o := ⟨_, rfl⟩
      obtain ⟨q, hq⟩ : ∃ q, normL m = q := ⟨_, rfl⟩
      have HQ := Lib.hid hq
      rw [ho] at HPm HNl HSn HNn HI1
      rw [hq] at HPm HNm
      clear ho hq
      go_wp2_with fail
      refine HI1.out.mono ?_
      rintro e w5 ⟨⟨r5, rfl, hr, _⟩, hB⟩
      have HB5 := Lib.hid (HB4.out.trans (hB.mono HB4.out.size))
      have HT5 := Lib.hid (I.below HT4.out hB)
      have HM5 := Lib.hid (HM4.out.below hB)
      have HA5 := Lib.hid hr
      obtain ⟨p5, c5, hv⟩ := HA5.out.shape
      subst hv
      have HI2 := Lib.hid (I.norm _ m w5 HT5.out HM5.out HSm2.out (by have := HN2.out; omega))
      rw [HQ.out] at HI2
      clear hr hB HI1 HB4 HT4 HL4 HM4
      go_wp2_with fail
      refine HI2.out.mono ?_
      rintro e w6 ⟨⟨r6, rfl, hr, _⟩, hB⟩
      have HB6 := Lib.hid (HB5.out.trans (hB.mono HB5.out.size))
      have HT6 := Lib.hid (I.below HT5.out hB)
      have HA6 := Lib.hid (HA5.out.below hB)
      have hr' : Rd w6 2 r6 o.2.length (labCells o.2) := by rw [HPm.out.2]; exact hr
      have HC6 := Lib.hid hr'
      obtain ⟨p6, c6, hv⟩ := HC6.out.shape
      subst hv
      clear hr hr' hB HI2 HQ HB5 HT5 HM5 HA5
      have h18 := HNl.out.1; have h18' := HNm.out.1
      have hle : (o.1 : Int) ≤ 18 := by omega
      have hle' : (q.1 : Int) ≤ 18 := by omega
      clear h18 h18'
      by_cases h0 : o.1 = 0
      · have e1 : (o.1 : Int) = 0 := by omega
        have e2 : (q.1 : Int) = 0 := by have := HPm.out.1.1 h0; omega
        rw [e1, e2]
        clear e1 e2 h0 hle hle'
        go_wp2_with fail
        refine (equal_lab _ _ o.2 w6 (by have := HNl.out.2; have := HN.out; omega) HA6.out HC6.out).mono ?_
        rintro e w7 ⟨rfl, hB⟩
        have HB7 := Lib.hid (HB6.out.trans (hB.mono HB6.out.size))
        have HT7 := Lib.hid (I.below HT6.out hB)
        have HA7 := Lib.hid (HA6.out.below hB)
        have hI := I.norm _ o.2 w7 HT7.out HA7.out HSn.out (by have := HNl.out.2; have := HN.out; omega)
        rw [HNn.out] at hI
        have HI3 := Lib.hid hI
        clear hI hB HB6 HT6 HA6 HC6
        go_wp2_with fail
        refine HI3.out.mono ?_
        rintro e w8 ⟨⟨r8, rfl, hr, _⟩, hB⟩
        have HB8 := Lib.hid (HB7.out.trans (hB.mono HB7.out.size))
        have HT8 := Lib.hid (I.below HT7.out hB)
        have HA8 := Lib.hid (HA7.out.below hB)
        have HC8 : Hid (Rd w8 2 r8 o.2.length (labCells o.2)) := hr
        obtain ⟨p8, c8, hv⟩ : ∃ p c, r8 = .slice p o.2.length c := hr.shape
        subst hv
        clear hr hB HI3 HB7 HT7 HA7
        go_wp2_with fail
        refine (HAL.out _ HT8.out).mono ?_
        rintro e w9 ⟨rfl, hB⟩
        have HB9 := Lib.hid (HB8.out.trans (hB.mono HB8.out.size))
        have HA9 := Lib.hid (HA8.out.below hB)
        have HC9 := Lib.hid (HC8.out.below hB)
        clear hB HB8 HT8 HA8 HC8
        go_wp2_with fail
        refine (equal_lab _ _ o.2 w9 (by have := HNl.out.2; have := HN.out; omega) HA9.out HC9.out).mono ?_
        rintro e w10 ⟨rfl, hB⟩
        have HB10 := Lib.hid (HB9.out.trans (hB.mono HB9.out.size))
        go_wp2_with fail
        go_ret
        exact ⟨rfl, HB10.out⟩
      · have h0' : q.1 ≠ 0 := fun e => h0 (HPm.out.1.2 e)
        have hz : ((o.1 : Int) == 0) = ((q.1 : Int) == 0) := by rw [beq_eq_false_iff_ne.2 (show (o.1 : Int) ≠ 0 by omega), beq_eq_false_iff_ne.2 (show (q.1 : Int) ≠ 0 by omega)]
        clear h0 h0'
        go_wp2_with fail
        refine (equal_lab _ _ o.2 w6 (by have := HNl.out.2; have := HN.out; omega) HA6.out HC6.out).mono ?_
        rintro e w7 ⟨rfl, hB⟩
        have HB7 := Lib.hid (HB6.out.trans (hB.mono HB6.out.size))
        have HT7 := Lib.hid (I.below HT6.out hB)
        have HA7 := Lib.hid (HA6.out.below hB)
        have hI := I.norm _ o.2 w7 HT7.out HA7.out HSn.out (by have := HNl.out.2; have := HN.out; omega)
        rw [HNn.out] at hI
        have HI3 := Lib.hid hI
        clear hI hB HB6 HT6 HA6 HC6
        go_wp2_with fail
        refine HI3.out.mono ?_
        rintro e w8 ⟨⟨r8, rfl, hr, _⟩, hB⟩
        have HB8 := Lib.hid (HB7.out.trans (hB.mono HB7.out.size))
        have HT8 := Lib.hid (I.below HT7.out hB)
        have HA8 := Lib.hid (HA7.out.below hB)
        have HC8 : Hid (Rd w8 2 r8 o.2.length (labCells o.2)) := hr
        obtain ⟨p8, c8, hv⟩ : ∃ p c, r8 = .slice p o.2.length c := hr.shape
        subst hv
        clear hr hB HI3 HB7 HT7 HA7
        go_wp2_with fail
        refine (HAL.out _ HT8.out).mono ?_
        rintro e w9 ⟨rfl, hB⟩
        have HB9 := Lib.hid (HB8.out.trans (hB.mono HB8.out.size))
        have HA9 := Lib.hid (HA8.out.below hB)
        have HC9 := Lib.hid (HC8.out.below hB)
        clear hB HB8 HT8 HA8 HC8
        go_wp2_with fail
        refine (equal_lab _ _ o.2 w9 (by have := HNl.out.2; have := HN.out; omega) HA9.out HC9.out).mono ?_
        rintro e w10 ⟨rfl, hB⟩
        have HB10 := Lib.hid (HB9.out.trans (hB.mono HB9.out.size))
        go_wp2_with fail
        go_ret
        exact ⟨rfl, HB10.out⟩
end Go.Proofs.Ytpgdedehhaibmaa.labelsForgetOrder
