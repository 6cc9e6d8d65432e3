/- Layer 14: ListsDiffer, walked over the interface. -/
import Derived.Test.YtdhcfgbnjnidfaaLiI
import Derived.Test.YtdhcfgbnjnidfaaEqualI
import Derived.Test.YtdhcfgbnjnidfaaLarge14
import Derived.Test.YtdhcfgbnjnidfaaTakeR
import Derived.Test.YtdhcfgbnjnidfaaWalkListsComplement14
set_option linter.unusedVariables false
namespace Go.Proofs.Ytdhcfgbnjnidfaa.listsDiffer
open Go Go.RowKit
variable {G : Nat} {T : World → Prop}

set_option maxRecDepth 20000 in
set_option maxHeartbeats 8000000 in
theorem walk (I : LiIf G T) (hal : ∀ w, T w → Calls Try.prog 9 #[] w fun e w' => e = .returned (.bool true) ∧ Below w.heap.size w w')
    (w : World) (hT : T w) (lv : Value) (l : List Int) (okl : ∀ x ∈ l, -9223372036854775808 ≤ x ∧ x < 9223372036854775808) (hl : Rd w 1 lv l.length (i64s l)) (gv : Value) (k : List Int) (okn : ∀ x ∈ k, -9223372036854775808 ≤ x ∧ x < 9223372036854775808) (hg : Rd w 1 gv k.length (i64s k)) :
    Calls Try.prog 5 #[lv, gv] w fun e w' => e = .returned (.bool true) ∧ Below w.heap.size w w' := by
  have HT := Lib.hid hT; have HAL := Lib.hid hal
  have HL := Lib.hid hl; have HS := Lib.hid okl; have HN := Lib.hid okn; have HG := Lib.hid hg
  obtain ⟨pl, cl, hv⟩ := hl.shape
  subst hv
  obtain ⟨pg, cg, hv⟩ := hg.shape
  subst hv
  clear hT hal hl hg okl okn
  go_enter Try.func5, Try.ntmps5
  go_wp2_with fail
  obtain ⟨n0, hn0⟩ : ∃ n0, w.heap.size = n0 := ⟨_, rfl⟩
  rw [hn0]
  obtain ⟨w1, hw1⟩ : ∃ x, x = w.alloc (.cells #[.slice pl l.length cl, .slice pg k.length cg] 22) := ⟨_, rfl⟩
  rw [← hw1]
  obtain ⟨k1, s1, b1⟩ := alloc_next hw1 hn0
  have HR := Lib.hid (RdLL.pair (Rd.of_blk (n := 2) k1 rfl (by simp [maxLen])) (HL.out.below b1) (HG.out.below b1))
  have HB1 := Lib.hid b1
  have HT1 := Lib.hid (I.below HT.out b1)
  have HSo := Lib.hid (sorted14 _ [l, k] w1 HR.out)
  clear hw1 k1 s1 b1 hn0 HT HL HG HR
  refine HSo.out.mono ?_
  rintro e w2 ⟨he, hB⟩
  have HB2 := Lib.hid (HB1.out.trans (hB.mono HB1.out.size))
  have HT2 := Lib.hid (I.below HT1.out hB)
  clear HB1 HT1 hB HSo
  rcases he with rfl | ⟨hsm, v, rfl, hm⟩
  · go_wp2_with fail
    refine (HAL.out _ HT2.out).mono ?_
    rintro e wz ⟨rfl, hB⟩
    have HBz := Lib.hid (HB2.out.trans (hB.mono HB2.out.size))
    go_wp2_with fail
    go_ret
    exact ⟨rfl, HBz.out⟩
  · have HM : Hid (RdLL w2 v [sortZ l, sortZ k]) := hm
    have HLn : Hid (l.length ≤ 300 ∧ k.length ≤ 300) := by show _ ∧ _; simp at hsm; omega
    obtain ⟨pm, cm, hv⟩ : ∃ p c, v = .slice p 2 c := HM.out.shape
    subst hv
    obtain ⟨blk, off, p1, c1, e, hal⟩ := HM.out.always (i := 0) (l := sortZ l) rfl
    subst e
    obtain ⟨blk2, off2, p2, c2, e, hal2⟩ := HM.out.always (i := 1) (l := sortZ k) rfl
    simp only [Option.some.injEq, Addr.mk.injEq] at e
    obtain ⟨rfl, rfl, _⟩ := e
    have HA : Hid (∀ w', Below w2.heap.size w2 w' → w'.cell? ⟨blk, off, none⟩ = some (.slice p1 (sortZ l).length c1) ∧ Rd w' 1 (.slice p1 (sortZ l).length c1) (sortZ l).length (i64s (sortZ l))) := hal
    have HA2 : Hid (∀ w', Below w2.heap.size w2 w' → w'.cell? ⟨blk, off + 1, none⟩ = some (.slice p2 (sortZ k).length c2) ∧ Rd w' 1 (.slice p2 (sortZ k).length c2) (sortZ k).length (i64s (sortZ k))) := hal2
    have HSm := Lib.hid (listsComplement.smallZ_sort HLn.out.1 HS.out)
    have HSk := Lib.hid (listsComplement.smallZ_sort HLn.out.2 HN.out)
    have HAs := Lib.hid (sort_asc l)
    have HAk := Lib.hid (sort_asc k)
    clear hsm hm hal hal2 HM
    generalize sortZ l = q at *
    generalize sortZ k = r at *
    have HC : Hid (∀ w', Below w2.heap.size w2 w' → w'.cell? ⟨blk, off, none⟩ = some (.slice p1 q.length c1) ∧ w'.cell? ⟨blk, off + 1, none⟩ = some (.slice p2 r.length c2) ∧ True) := fun w' h => ⟨(HA.out w' h).1, (HA2.out w' h).1, trivial⟩
    go_wp2_with fail
    refine wp_region_takeH (fun w' => Below w2.heap.size w2 w') [0, 8, 15, 16, 25] [0, 1, 2, 3, 4, 5, 6, 7, 9, 10, 11, 12, 13, 14, 8, 15, 16, 17, 18, 19, 20, 21, 22, 23, 24, 25, 26, 27, 28, 29] (by kernel_rfl) (by kernel_rfl) (by kernel_rfl) ?_ ?_ ?_
    · intro c a a' w hd h; exact ⟨hd ▸ h.1, h.2⟩
    · exact ⟨rfl, rfl, rfl, Nat.le_refl _, fun _ _ => rfl⟩
    simp only [taken, List.map_cons, List.map_nil, List.getElem?_cons_succ, List.getElem?_cons_zero, Option.getD_some]
    have hbd : Below w2.heap.size w2 w2.drew := ⟨rfl, rfl, rfl, Nat.le_refl _, fun _ _ => rfl⟩
    have HBd := Lib.hid hbd
    have HTd := Lib.hid (I.below HT2.out hbd)
    clear hbd
    refine takeH_call rfl rfl (fun K hK => ?_)
    go_wp2_with fail
    refine (HAL.out _ HTd.out).mono ?_
    rintro e w3 ⟨rfl, hB⟩
    have HB23 := Lib.hid (HBd.out.trans (hB.mono HBd.out.size))
    have HT3 := Lib.hid (I.below HTd.out hB)
    refine hK _ _ HB23.out ?_
    clear hK K hB HBd HTd
    repeat (first
        | (refine takeH_skip rfl ?_; simp only [Act.put, List.setIfInBounds_toArray, List.set_cons_succ, List.set_cons_zero])
        | (refine takeH_blind rfl rfl ?_; apply Exists.intro; refine ⟨fun w => ?_, ?_⟩; (go_simp; try with_reducible rfl); simp only [Act.put, List.setIfInBounds_toArray, List.set_cons_succ, List.set_cons_zero])
        | (refine takeH_reads rfl rfl ?_; apply Exists.intro; refine ⟨fun w' hS => ?_, ?_⟩; (obtain ⟨d0, d1, d2⟩ := HC.out w' hS; go_simp; try with_reducible rfl); simp only [Act.put, List.setIfInBounds_toArray, List.set_cons_succ, List.set_cons_zero]))
    refine takeH_call rfl rfl (fun K hK => ?_)
    go_wp2_with fail
    refine (I.diff _ _ q r w3 HT3.out (HA.out _ HB23.out).2 (HA2.out _ HB23.out).2 HAs.out HAk.out HSm.out HSk.out).mono ?_
    rintro e w4 ⟨r1, rfl, hO⟩
    have HO4 := Lib.hid hO
    have HB24 := Lib.hid (HB23.out.trans (hO.bel.mono HB23.out.size))
    have HT4 := Lib.hid (I.below HT3.out hO.bel)
    obtain ⟨p4, c4, hv⟩ := hO.shape
    subst hv
    refine hK _ _ HB24.out ?_
    clear hK K hO
    refine takeH_call rfl rfl (fun K hK => ?_)
    go_wp2_with fail
    refine (ref_diff14 _ _ q r w4 (HA.out _ HB24.out).2 (HA2.out _ HB24.out).2 (by have := HSm.out.1; omega)).mono ?_
    rintro e w5 ⟨r2, rfl, hO⟩
    have HB25 := Lib.hid (HB24.out.trans (hO.bel.mono HB24.out.size))
    have HT5 := Lib.hid (I.below HT4.out hO.bel)
    have HEq := Lib.hid (equal_int _ _ (diffZ q r) (diffZ q r) w5 (HO4.out.below hO.bel).rd hO.rd)
    rw [decide_eq_true rfl] at HEq
    obtain ⟨p5, c5, hv⟩ := hO.shape
    subst hv
    refine hK _ _ HB25.out ?_
    clear hK K hO HO4
    generalize diffZ q r = z at *
    refine takeH_call rfl rfl (fun K hK => ?_)
    go_wp2_with fail
    refine HEq.out.mono ?_
    rintro e w6 ⟨rfl, hB⟩
    have HB26 := Lib.hid (HB25.out.trans (hB.mono HB25.out.size))
    have HT6 := Lib.hid (I.below HT5.out hB)
    refine hK _ _ HB26.out ?_
    clear hK K hB HEq
    repeat (first
        | (refine takeH_skip rfl ?_; simp only [Act.put, List.setIfInBounds_toArray, List.set_cons_succ, List.set_cons_zero])
        | (refine takeH_blind rfl rfl ?_; apply Exists.intro; refine ⟨fun w => ?_, ?_⟩; (go_simp; try with_reducible rfl); simp only [Act.put, List.setIfInBounds_toArray, List.set_cons_succ, List.set_cons_zero])
        | (refine takeH_reads rfl rfl ?_; apply Exists.intro; refine ⟨fun w' hS => ?_, ?_⟩; (obtain ⟨d0, d1, d2⟩ := HC.out w' hS; go_simp; try with_reducible rfl); simp only [Act.put, List.setIfInBounds_toArray, List.set_cons_succ, List.set_cons_zero]))
    refine takeH_call rfl rfl (fun K hK => ?_)
    go_wp2_with fail
    refine (I.diff _ _ q q w6 HT6.out (HA.out _ HB26.out).2 (HA.out _ HB26.out).2 HAs.out HAs.out HSm.out HSm.out).mono ?_
    rintro e w7 ⟨r3, rfl, hO⟩
    rw [diff_self] at hO
    have HB27 := Lib.hid (HB26.out.trans (hO.bel.mono HB26.out.size))
    obtain ⟨p7, c7, hv⟩ : ∃ p c, r3 = .slice p 0 c := hO.shape
    subst hv
    refine hK _ _ HB27.out ?_
    clear hK K hO
    repeat (first
        | (refine takeH_skip rfl ?_; simp only [Act.put, List.setIfInBounds_toArray, List.set_cons_succ, List.set_cons_zero])
        | (refine takeH_blind rfl rfl ?_; apply Exists.intro; refine ⟨fun w => ?_, ?_⟩; (go_simp; try with_reducible rfl); simp only [Act.put, List.setIfInBounds_toArray, List.set_cons_succ, List.set_cons_zero]))
    refine takeH_nil ?_
    go_wp2_with fail
    go_ret
    exact ⟨rfl, HB2.out.trans (HB27.out.mono HB2.out.size)⟩
end Go.Proofs.Ytdhcfgbnjnidfaa.listsDiffer
