/- Layer 12: ModelForgetsOrder, walked over the interface. -/
import Derived.Test.YtkodhbkmpnokjaaGreatMrg13
import Derived.Test.YtkodhbkmpnokjaaGreatMrg7
import Derived.Test.YtkodhbkmpnokjaaGreatMrg8
import Derived.Test.YtkodhbkmpnokjaaGreatMrg14
import Derived.Test.YtkodhbkmpnokjaaGreatMrg3
set_option linter.unusedVariables false
namespace Go.Proofs.YtkodhbkmpnokjaaGreat.modelForgetsOrder
open Go Go.RowKit
variable {G : Nat} {T : World → Prop}

set_option maxRecDepth 20000 in
set_option maxHeartbeats 8000000 in
theorem walk (I : MoIf G T) (hal : ∀ w, T w → Calls Tryz.prog 10 #[] w fun e w' => e = .returned (.bool true) ∧ Below w.heap.size w w')
    (w : World) (hT : T w) (lv : Value) (l : List Ser) (ok : Sized l) (hl : RdB w lv l) (k : Nat) (hk : k < 256) :
    Calls Tryz.prog 8 #[lv, .int .u8 (k : Int)] w fun e w' => e = .returned (.bool true) ∧ Below w.heap.size w w' := by
  have HT := Lib.hid hT; have HAL := Lib.hid hal; have HL := Lib.hid hl; have HS := Lib.hid ok
  have HLg := Lib.hid (large12 lv l w hl ok)
  obtain ⟨pl, cl, hv⟩ := hl.shape
  subst hv
  clear hT hal hl ok
  go_enter Tryz.func8, Tryz.ntmps8
  go_wp2_with fail
  refine HLg.out.mono ?_
  rintro e w1 ⟨he, hB⟩
  have HB1 := Lib.hid hB
  have HT1 := Lib.hid (I.below HT.out hB)
  have HL1 := Lib.hid (HL.out.below hB)
  clear hB HLg HT HL
  rcases he with rfl | ⟨rfl, hsm, _⟩
  · go_wp2_with fail
    refine (HAL.out _ HT1.out).mono ?_
    rintro e w2 ⟨rfl, hB⟩
    have HB2 := Lib.hid (HB1.out.trans (hB.mono HB1.out.size))
    go_wp2_with fail
    go_ret
    exact ⟨rfl, HB2.out⟩
  · have Ml := Lib.hid hsm
    clear hsm
    by_cases h0 : l.length = 0
    · have h2 : (l.length : Int) = 0 := by omega
      clear h0
      go_wp2_with fail
      refine (HAL.out _ HT1.out).mono ?_
      rintro e w2 ⟨rfl, hB⟩
      have HB2 := Lib.hid (HB1.out.trans (hB.mono HB1.out.size))
      go_wp2_with fail
      go_ret
      exact ⟨rfl, HB2.out⟩
    · have h2 : ¬ (l.length : Int) = 0 := by omega
      have h2b : ((l.length : Int) == 0) = false := by rw [beq_eq_false_iff_ne]; exact h2
      have HN : Hid (l.length ≤ 300 ∧ 0 < l.length) := ⟨Ml.out.len, by omega⟩
      obtain ⟨i, hi⟩ : ∃ i, k % l.length = i := ⟨_, rfl⟩
      have hil : i < l.length := by rw [← hi]; exact Nat.mod_lt _ (by omega)
      have hI : (k : Int) % (l.length : Int) = (i : Int) := by rw [← hi]; simp
      have hIt : (k : Int).tmod (l.length : Int) = (i : Int) := by rw [← hi, Int.ofNat_tmod]
      have HIl : Hid (i < l.length) := hil
      clear h0 hi hil
      obtain ⟨d, hD, hdl, hDs⟩ := HL1.out.heads
      have HDl : Hid (d.length = l.length) := hdl
      have HDs := Lib.hid hDs
      rw [hdl] at hD
      have HD := Lib.hid hD
      clear hD hdl hDs
      obtain ⟨pf, cf, hsl, hRf⟩ : ∃ p c, sliced pl i l.length cl 2 = .slice p (d.drop i).length c ∧ Rd w1 2 (.slice p (d.drop i).length c) (d.drop i).length (hdCells (d.drop i)) := by
        have h := HD.out.from i (Nat.le_of_lt HIl.out)
        obtain ⟨p, c, e⟩ := h.shape
        rw [List.length_drop, HDl.out]
        refine ⟨p, c, e, ?_⟩
        rw [e] at h
        have e2 : (hdCells d).drop (i * 2) = hdCells (d.drop i) := (hdCells_parts d i (by rw [HDl.out]; exact Nat.le_of_lt HIl.out)).1
        rw [e2] at h
        exact h
      have HF := Lib.hid hRf
      have HSl := Lib.hid hsl
      have HBl : Hid ((d.take i).length = i) := by show _ = _; rw [List.length_take, Nat.min_eq_left (by rw [HDl.out]; exact Nat.le_of_lt HIl.out)]
      have HU : Hid (Rd w1 2 (.slice pl (d.take i).length cl) (d.take i).length (hdCells (d.take i))) := by
        have h := HD.out.upto i (Nat.le_of_lt HIl.out)
        have e2 : (hdCells d).take (i * 2) = hdCells (d.take i) := (hdCells_parts d i (by rw [HDl.out]; exact Nat.le_of_lt HIl.out)).2
        rw [e2] at h
        show Rd _ _ _ _ _
        rw [HBl.out]
        exact h
      have HCl : Hid (l.length ≤ cl) := by
        obtain ⟨_, _, e, _, h, _⟩ := HD.out
        simp only [Value.slice.injEq] at e
        obtain ⟨_, _, rfl⟩ := e
        exact h
      clear hsl hRf
      go_wp2_with fail
      refine wp_region_takeH (fun _ => True) [6, 7] [0, 1, 2, 3, 4, 5, 6, 7, 8] (by kernel_rfl) (by kernel_rfl) (by kernel_rfl) ?_ trivial ?_
      · intro c a a' w hd h; exact ⟨hd ▸ h.1, h.2⟩
      simp only [taken, List.map_cons, List.map_nil, List.getElem?_cons_succ, List.getElem?_cons_zero, Option.getD_some]
      repeat (first
        | (refine takeH_skip rfl ?_; simp only [Act.put, List.setIfInBounds_toArray, List.set_cons_succ, List.set_cons_zero])
        | (refine takeH_blind rfl rfl ?_; apply Exists.intro; refine ⟨fun w => ?_, ?_⟩; (go_simp; try with_reducible rfl); simp only [Act.put, List.setIfInBounds_toArray, List.set_cons_succ, List.set_cons_zero]))
      refine takeH_read rfl rfl (.slice pf (d.drop i).length cf) (fun w' _ => (exec_from elemSer w' pl l.length cl i (Nat.le_of_lt HIl.out) (.tmp 29) (.tmp 30) rfl rfl rfl).trans (by rw [HSl.out])) ?_
      simp only [Act.put, List.setIfInBounds_toArray, List.set_cons_succ, List.set_cons_zero]
      repeat (first
        | (refine takeH_skip rfl ?_; simp only [Act.put, List.setIfInBounds_toArray, List.set_cons_succ, List.set_cons_zero])
        | (refine takeH_blind rfl rfl ?_; apply Exists.intro; refine ⟨fun w => ?_, ?_⟩; (go_simp; try with_reducible rfl); simp only [Act.put, List.setIfInBounds_toArray, List.set_cons_succ, List.set_cons_zero]))
      refine takeH_read rfl rfl (.slice pl (d.take i).length cl) (fun w' _ => by rw [HBl.out]; exact exec_upto elemSer w' pl l.length cl i (Nat.le_of_lt HIl.out) HCl.out (.tmp 32) (.tmp 33) rfl rfl rfl) ?_
      simp only [Act.put, List.setIfInBounds_toArray, List.set_cons_succ, List.set_cons_zero]
      have HSm : Hid ((d.drop i).length + (d.take i).length = l.length) := by show _ = _; rw [List.length_drop, List.length_take]; have := HIl.out; have := HDl.out; omega
      have HTs : Hid (∀ (j : Nat) (h : HdS) (s : Ser), (d.drop i ++ d.take i)[j]? = some h → (turnB l i)[j]? = some s → SerAt w1 (toHd h) s) := by
        intro j h s hj hs
        have hdl := HDl.out; have hil := HIl.out
        unfold turnB at hs
        by_cases hlt : j < l.length - i
        · rw [List.getElem?_append_left (by rw [List.length_drop]; omega), List.getElem?_drop] at hj hs
          exact HDs.out (i + j) h s hj hs
        · rw [List.getElem?_append_right (by rw [List.length_drop]; omega), List.length_drop] at hj hs
          rw [hdl] at hj
          have hji : j - (l.length - i) < i := by
            have := (List.getElem?_eq_some_iff.1 hs).1
            rw [List.length_take] at this; omega
          rw [List.getElem?_take_of_lt hji] at hj hs
          exact HDs.out _ h s hj hs
      have HFg := Lib.hid (forget_turned l i); have HSm2 := Lib.hid (small_turned Ml.out i); have HSz2 := Lib.hid (sized_turned HS.out i)
      have HBn : Hid ((turnB l i).length = l.length) := (turnB_perm l i).length_eq
      have HBs : Hid (∀ s ∈ turnB l i, s.2.length ≤ 3000) := fun s hs => Ml.out.mem ((turnB_perm l i).mem_iff.1 hs)
      clear HSl HBl HDs HD HDl
      generalize d.drop i = A at *
      generalize d.take i = B at *
      obtain ⟨C, hC⟩ : ∃ C, A ++ B = C := ⟨_, rfl⟩
      have HCe : Hid (flatAllH [A, B] = C) := by show _ = _; rw [← hC]; simp [flatAllH]
      have HCl2 : Hid (C.length = l.length) := by show _ = _; rw [← hC, List.length_append]; exact HSm.out
      rw [hC] at HTs
      clear hC
      generalize turnB l i = tb at *
      refine takeH_call rfl rfl (fun K' hK => ?_)
      go_wp2_with fail
      obtain ⟨w2, hw2⟩ : ∃ w2, (w1.alloc (.cells #[.slice pf A.length cf, .slice pl B.length cl] 22)).drew = w2 := ⟨_, rfl⟩
      have hB2 : Below w1.heap.size w1 w2 := by rw [← hw2]; exact Below.drew ((Below.refl _ w1).alloc (Nat.le_refl _) _)
      have HPv : Hid (Rd w2 1 (.slice (some ⟨w1.heap.size, 0, none⟩) 2 2) ([.slice pf A.length cf, .slice pl B.length cl] : List Value).length [.slice pf A.length cf, .slice pl B.length cl]) := by
        rw [← hw2]
        exact (Rd.of_owns (World.ownsRow_lit (base := 0) w1 #[.slice pf A.length cf, .slice pl B.length cl] 2 (Nat.zero_le _) (by simp [maxLen]) (by simp))).below (Below.drew (Below.refl _ _))
      have HPs : Hid (PartsAtH w2 [.slice pf A.length cf, .slice pl B.length cl] [A, B]) := by
        refine ⟨rfl, fun j v p h1 h2 => ?_⟩
        match j, h1, h2 with
        | 0, h1, h2 =>
          simp at h1 h2
          subst h1; subst h2
          exact HF.out.below hB2
        | 1, h1, h2 =>
          simp at h1 h2
          subst h1; subst h2
          exact HU.out.below hB2
        | j + 2, h1, h2 => simp at h1
      have HCc := Lib.hid (concat_hd _ _ [A, B] w2 HPv.out HPs.out (by rw [HCe.out]; have := HCl2.out; have := HN.out; omega) (by simp))
      rw [HCe.out] at HCc
      have HB2 := Lib.hid (HB1.out.trans (hB2.mono HB1.out.size))
      have HT2 := Lib.hid (I.below HT1.out hB2)
      have HL2 := Lib.hid (HL1.out.below hB2)
      have HTs2 : Hid (∀ (j : Nat) (h : HdS) (s : Ser), C[j]? = some h → tb[j]? = some s → SerAt w2 (toHd h) s) := fun j h s hj hs => (HTs.out j h s hj hs).below hB2
      rw [hw2]
      refine hK _ _ trivial ?_
      clear hK K' hB2 HPv HPs hw2 HB1 HT1 HL1 HF HU HTs
      refine takeH_call rfl rfl (fun K' hK => ?_)
      go_wp2_with fail
      refine HCc.out.mono ?_
      rintro e w3 ⟨r3, rfl, hM⟩
      have HNm3 := Lib.hid (NmAt.of_made hM (by rw [HCl2.out, HBn.out]) HTs2.out)
      have HT3 := Lib.hid (I.below HT2.out hM.2)
      obtain ⟨p3, c3, hv3⟩ := (Rd.of_owns hM.1).shape
      subst hv3
      have hgp : ∃ g, p3 = some ⟨g, 0, none⟩ := by
        rcases owns_cases hM.1 with ⟨_, h0, _⟩ | ⟨g, cap, hv, _⟩
        · have := HCl2.out; have := HN.out; omega
        · simp only [Value.slice.injEq] at hv; exact ⟨g, hv.1⟩
      obtain ⟨g, rfl⟩ := hgp
      refine hK _ _ trivial ?_
      clear hK K' hM HCc HTs2
      rw [HCl2.out] at HNm3 ⊢
      repeat (first
        | (refine takeH_skip rfl ?_; simp only [Act.put, List.setIfInBounds_toArray, List.set_cons_succ, List.set_cons_zero])
        | (refine takeH_blind rfl rfl ?_; apply Exists.intro; refine ⟨fun w => ?_, ?_⟩; (go_simp; try with_reducible rfl); simp only [Act.put, List.setIfInBounds_toArray, List.set_cons_succ, List.set_cons_zero]))
      refine takeH_nil ?_
      have hni : (l.length : Int) ≤ 300 := by have := HN.out; omega
      go_wp2_with fail
      go_loopw [39] (fun iv wr => ∃ (j : Nat) (hs : List HdS), j ≤ l.length ∧ iv = .int .i64 (j : Int) ∧ Hid (NmAt w2 wr (hs.map toHd) (mixS tb j) (.slice (some ⟨g, 0, none⟩) l.length c3))) (fun iv _ => l.length - (intOf iv).toNat)
      case atStart => exact ⟨0, C, Nat.zero_le _, rfl, HNm3.out⟩
      case round =>
        obtain ⟨j, hs, hj, rfl, HNm⟩ := hrel
        have hjm : (j : Int) ≤ 300 := by omega
        by_cases hlt : j < l.length
        · have hlt' : (j : Int) < (l.length : Int) := by omega
          obtain ⟨⟨s1, s2⟩, hsb⟩ : ∃ s, tb[j]? = some s := ⟨_, List.getElem?_eq_getElem (by rw [HBn.out]; exact hlt)⟩
          have hmx := (mixS_get tb j).trans hsb
          have hhl : hs.length = l.length := by have := HNm.out.len; rw [List.length_map, mixS_length, HBn.out] at this; exact this
          obtain ⟨⟨a1, ⟨q2, n2, k2⟩⟩, hh⟩ : ∃ h, hs[j]? = some h := ⟨_, List.getElem?_eq_getElem (by omega)⟩
          have hhm : (hs.map toHd)[j]? = some (toHd (a1, (q2, n2, k2))) := by rw [List.getElem?_map, hh]; rfl
          obtain ⟨⟨hser, hoff⟩⟩ : Nonempty (SerAt wr (toHd (a1, (q2, n2, k2))) (s1, s2) ∧ SerOff (fun j => (Value.slice (some ⟨g, 0, none⟩) l.length c3).ownBlock = some j) (toHd (a1, (q2, n2, k2))) (s1, s2)) := ⟨HNm.out.ser j _ _ hhm hmx⟩
          have hn2 : n2 = s2.length := by
            obtain ⟨p, c, e⟩ := hser.2.shape
            simp only [toHd, slV, Value.slice.injEq] at e
            exact e.2.1
          subst hn2
          have hrow := HNm.out.row.row
          have hln : (hs.map toHd).length = l.length := by rw [List.length_map]; exact hhl
          have hc := (two_get (f1 := (Prod.fst : Hd → Value)) (f2 := (Prod.snd : Hd → Value)) (hs.map toHd) j _ hhm).2
          rw [hln] at hrow
          have d1 : wr.cell? ⟨g, j * 2 + 1, none⟩ = some (.slice q2 s2.length k2) := by rw [hrow.cellAt (j * 2 + 1) (by omega)]; exact hc
          have HSl2 : Hid (s2.length ≤ 3000) := HBs.out _ (List.mem_of_getElem? hsb)
          have HCs := Lib.hid (clone_sam _ s2 wr hser.2 (by have := HSl2.out; omega))
          have HSer := Lib.hid hser; have HOff := Lib.hid hoff; have HHm := Lib.hid hhm; have HMx := Lib.hid hmx; have HSb := Lib.hid hsb; have HHh := Lib.hid hh
          clear hser hoff hhm hmx hsb hh hrow hln hc hhl
          go_wp2_with fail
          refine HCs.out.mono ?_
          rintro e w4 ⟨r4, rfl, hM⟩
          have HO4 := Lib.hid hM.1
          have HB4 := Lib.hid hM.2
          obtain ⟨p4, c4, hv4⟩ := (Rd.of_owns hM.1).shape
          subst hv4
          clear hM HCs d1
          go_wp2_with fail
          refine (reverse_sam _ _ s2 w4 HO4.out (by have := HSl2.out; omega)).mono ?_
          rintro e w5 ⟨rfl, hR, hMd⟩
          have HB5 : Hid (Below wr.heap.size wr w5) := HB4.out.trans (hMd.below HB4.out.size (fun k hk e => by have := (HO4.out.lt k e).1; omega))
          have HNm5 := Lib.hid (HNm.out.below HB5.out)
          have HR5 := Lib.hid hR
          have HZ : Hid (g < wr.heap.size) := (HNm.out.row.row.lt g rfl).2
          clear hR hMd HO4 HB4
          have hn5 : SerAt w5 (slV a1, .slice p4 s2.length c4) (s1, s2.reverse) := ⟨HSer.out.1.below HB5.out, by rw [List.length_reverse]; exact Rd.of_owns HR5.out⟩
          have ho5 : SerOff (fun k => k = g) (slV a1, .slice p4 s2.length c4) (s1, s2.reverse) := ⟨fun e k hk hg => HOff.out.1 e k hk (by rw [hg]; rfl), fun e k hk hg => by have := (HR5.out.lt k hk).1; have := HZ.out; omega⟩
          have HNm6 := Lib.hid (HNm5.out.storedSnd HHm.out hn5 ho5)
          have hrow := HNm5.out.row.row
          have hln : (hs.map toHd).length = l.length := HNm5.out.row.len.symm
          have hc := (two_get (f1 := (Prod.fst : Hd → Value)) (f2 := (Prod.snd : Hd → Value)) (hs.map toHd) j _ HHm.out).2
          rw [hln] at hrow
          have d1 : w5.cell? ⟨g, j * 2 + 1, none⟩ = some (.slice q2 s2.length k2) := by rw [hrow.cellAt (j * 2 + 1) (by omega)]; exact hc
          have f1 : w5.frozen? ⟨g, j * 2 + 1, none⟩ = false := hrow.frozenAt _
          have HNx : Hid (∃ hs' : List HdS, hs'.map toHd = (hs.map toHd).set j (slV a1, .slice p4 s2.length c4)) := ⟨hs.set j (a1, (p4, s2.length, c4)), by rw [List.map_set]; rfl⟩
          have HMs : Hid ((mixS tb j).set j (s1, s2.reverse) = mixS tb (j + 1)) := mixS_set HSb.out
          clear hn5 ho5 hrow hln hc HNm5 HNm HSer HOff HHm HHh
          go_wp2_with fail
          go_round
          case rel =>
            obtain ⟨hs', he⟩ := HNx.out
            refine ⟨j + 1, hs', by omega, by go_num, ?_⟩
            show NmAt _ _ _ _ _
            rw [he, ← HMs.out]
            exact HNm6.out
          case measure => simp [intOf]; omega
        · have hlt' : ¬ (j : Int) < (l.length : Int) := by omega
          have hma := mixS_all tb j (by rw [HBn.out]; omega)
          rw [hma] at HNm
          have hlh : hs.length = l.length := by have := HNm.out.row.len; rw [List.length_map] at this; exact this.symm
          have hown := HNm.out.row.row
          rw [hdCells_toHd, List.length_map] at hown
          have HRv := Lib.hid (reverse_hd _ _ hs wr hown (by have := HN.out; omega))
          have HLh : Hid (hs.length = l.length) := hlh
          clear hown hma hlh hlt hj HNm3
          go_wp2_with fail
          clear hlt' hjm
          generalize (j : Int) = j0 at *
          refine HRv.out.mono ?_
          rintro e w4 ⟨rfl, hR, hMd⟩
          have hrv := HNm.out.reversed (w1 := w4) (by rw [List.length_map, ← List.map_reverse, hdCells_toHd]; exact hR) hMd
          have HM4 := Lib.hid hrv.rd
          have hb4 := hrv.row.bel
          have HB4 := Lib.hid (HB2.out.trans (hb4.mono HB2.out.size))
          have HT4 := Lib.hid (I.below HT2.out hb4)
          have HL4 := Lib.hid (HL2.out.below hb4)
          have HSh : Hid (((tb.map revS).reverse).length = l.length) := by show _ = _; rw [List.length_reverse, List.length_map]; exact HBn.out
          clear hR hMd hb4 hrv HB2 HT2 HL2 HNm HRv HT3
          generalize (tb.map revS).reverse = m at *
          have HPm := HFg
          have HNl := Lib.hid (normB_le l); have HNm := Lib.hid (normB_le m)
          have HSn := Lib.hid (sized_norm HS.out); have HMn := Lib.hid (small_norm Ml.out)
          have HNn := Lib.hid (norm_again l)
          have HI1 := Lib.hid (I.norm _ l w4 HT4.out HL4.out HS.out Ml.out)
          have HI2' := Lib.hid (fun (w' : World) ht hr => I.norm (.slice (some ⟨g, 0, none⟩) l.length c3) m w' ht hr HSz2.out HSm2.out)
          obtain ⟨o, ho⟩ : ∃ o, normB l = o := ⟨_, rfl⟩
          obtain ⟨q, hq⟩ : ∃ q, normB m = q := ⟨_, rfl⟩
          rw [ho] at HPm HNl HSn HMn HNn HI1
          rw [hq] at HPm HNm HI2'
          clear ho hq
          go_wp2_with fail
          refine HI1.out.mono ?_
          rintro e w5 ⟨r5, rfl, hr, hB⟩
          have HB5 := Lib.hid (HB4.out.trans (hB.mono HB4.out.size))
          have HT5 := Lib.hid (I.below HT4.out hB)
          have HM5 := Lib.hid (HM4.out.below hB)
          have HA5 := Lib.hid hr
          obtain ⟨p5, c5, hv⟩ := HA5.out.shape
          subst hv
          have HI2 := Lib.hid (HI2'.out w5 HT5.out HM5.out)
          clear hr hB HI1 HI2' HB4 HT4 HL4 HM4
          go_wp2_with fail
          refine HI2.out.mono ?_
          rintro e w6 ⟨r6, rfl, hr, hB⟩
          have HB6 := Lib.hid (HB5.out.trans (hB.mono HB5.out.size))
          have HT6 := Lib.hid (I.below HT5.out hB)
          have HA6 := Lib.hid (HA5.out.below hB)
          have hr' : RdB w6 r6 o.2 := by rw [HPm.out.2]; exact hr
          have HC6 := Lib.hid hr'
          obtain ⟨p6, c6, hv⟩ := HC6.out.shape
          subst hv
          clear hr hr' hB HI2 HB5 HT5 HM5 HA5
          have h18 := HNl.out; have h18' := HNm.out
          have hle : (o.1 : Int) ≤ 21 := by omega
          have hle' : (q.1 : Int) ≤ 21 := by omega
          clear h18 h18'
          by_cases h0 : o.1 = 0
          · have e1 : (o.1 : Int) = 0 := by omega
            have e2 : (q.1 : Int) = 0 := by have := HPm.out.1.1 h0; omega
            rw [e1, e2]
            clear e1 e2 h0 hle hle'
            go_wp2_with fail
            refine (ref_equal12 _ _ o.2 o.2 w6 HA6.out HC6.out HMn.out HMn.out).mono ?_
            rintro e w7 ⟨rfl, hB⟩
            have HB7 := Lib.hid (HB6.out.trans (hB.mono HB6.out.size))
            have HT7 := Lib.hid (I.below HT6.out hB)
            have HA7 := Lib.hid (HA6.out.below hB)
            have hI := I.norm _ o.2 w7 HT7.out HA7.out HSn.out HMn.out
            rw [HNn.out] at hI
            have HI3 := Lib.hid hI
            clear hI hB HB6 HT6 HA6 HC6
            go_wp2_with fail
            refine HI3.out.mono ?_
            rintro e w8 ⟨r8, rfl, hr, hB⟩
            have HB8 := Lib.hid (HB7.out.trans (hB.mono HB7.out.size))
            have HT8 := Lib.hid (I.below HT7.out hB)
            have HA8 := Lib.hid (HA7.out.below hB)
            have HC8 : Hid (RdB w8 r8 o.2) := hr
            obtain ⟨p8, c8, hv⟩ : ∃ p c, r8 = .slice p o.2.length c := HC8.out.shape
            subst hv
            clear hr hB HI3 HB7 HT7 HA7
            go_wp2_with fail
            refine (HAL.out _ HT8.out).mono ?_
            rintro e w9 ⟨rfl, hB⟩
            have HB9 := Lib.hid (HB8.out.trans (hB.mono HB8.out.size))
            have HA9 := Lib.hid (HA8.out.below hB)
            have HC9 := Lib.hid (HC8.out.below hB)
            clear hB HB8 HT8 HA8 HC8
            go_wp2_with fail
            refine (ref_equal12 _ _ o.2 o.2 w9 HA9.out HC9.out HMn.out HMn.out).mono ?_
            rintro e w10 ⟨rfl, hB⟩
            have HB10 := Lib.hid (HB9.out.trans (hB.mono HB9.out.size))
            go_wp2_with fail
            go_ret
            exact ⟨rfl, HB10.out⟩
          · have h0' : q.1 ≠ 0 := fun e => h0 (HPm.out.1.2 e)
            have hz : ((o.1 : Int) == 0) = ((q.1 : Int) == 0) := by rw [beq_eq_false_iff_ne.2 (show (o.1 : Int) ≠ 0 by omega), beq_eq_false_iff_ne.2 (show (q.1 : Int) ≠ 0 by omega)]
            clear h0 h0'
            go_wp2_with fail
            refine (ref_equal12 _ _ o.2 o.2 w6 HA6.out HC6.out HMn.out HMn.out).mono ?_
            rintro e w7 ⟨rfl, hB⟩
            have HB7 := Lib.hid (HB6.out.trans (hB.mono HB6.out.size))
            have HT7 := Lib.hid (I.below HT6.out hB)
            have HA7 := Lib.hid (HA6.out.below hB)
            have hI := I.norm _ o.2 w7 HT7.out HA7.out HSn.out HMn.out
            rw [HNn.out] at hI
            have HI3 := Lib.hid hI
            clear hI hB HB6 HT6 HA6 HC6
            go_wp2_with fail
            refine HI3.out.mono ?_
            rintro e w8 ⟨r8, rfl, hr, hB⟩
            have HB8 := Lib.hid (HB7.out.trans (hB.mono HB7.out.size))
            have HT8 := Lib.hid (I.below HT7.out hB)
            have HA8 := Lib.hid (HA7.out.below hB)
            have HC8 : Hid (RdB w8 r8 o.2) := hr
            obtain ⟨p8, c8, hv⟩ : ∃ p c, r8 = .slice p o.2.length c := HC8.out.shape
            subst hv
            clear hr hB HI3 HB7 HT7 HA7
            go_wp2_with fail
            refine (HAL.out _ HT8.out).mono ?_
            rintro e w9 ⟨rfl, hB⟩
            have HB9 := Lib.hid (HB8.out.trans (hB.mono HB8.out.size))
            have HA9 := Lib.hid (HA8.out.below hB)
            have HC9 := Lib.hid (HC8.out.below hB)
            clear hB HB8 HT8 HA8 HC8
            go_wp2_with fail
            refine (ref_equal12 _ _ o.2 o.2 w9 HA9.out HC9.out HMn.out HMn.out).mono ?_
            rintro e w10 ⟨rfl, hB⟩
            have HB10 := Lib.hid (HB9.out.trans (hB.mono HB9.out.size))
            go_wp2_with fail
            go_ret
            exact ⟨rfl, HB10.out⟩
end Go.Proofs.YtkodhbkmpnokjaaGreat.modelForgetsOrder
