/- Layer 14: ListsComplement, walked over the interface. -/
import Derived.Test.YtdhcfgbnjnidfaaLiI
import Derived.Test.YtdhcfgbnjnidfaaRef14B
import Derived.Test.YtdhcfgbnjnidfaaEqualI
import Derived.Test.YtdhcfgbnjnidfaaLarge14
import Derived.Test.YtdhcfgbnjnidfaaTakeR
set_option linter.unusedVariables false
namespace Go.Proofs.Ytdhcfgbnjnidfaa.listsComplement
open Go Go.RowKit
variable {G : Nat} {T : World → Prop}

theorem smallZ_sort {l : List Int} (h : l.length ≤ 300) (hx : ∀ x ∈ l, -9223372036854775808 ≤ x ∧ x < 9223372036854775808) : SmallZ (sortZ l) :=
  ⟨by have := sort_len l; omega, fun x h => hx x ((sort_mem l x).1 h)⟩

set_option maxRecDepth 20000 in
set_option maxHeartbeats 8000000 in
theorem walk (I : LiIf G T) (hal : ∀ w, T w → Calls Try.prog 9 #[] w fun e w' => e = .returned (.bool true) ∧ Below w.heap.size w w')
    (w : World) (hT : T w) (lv : Value) (l : List Int) (okl : ∀ x ∈ l, -9223372036854775808 ≤ x ∧ x < 9223372036854775808) (hl : Rd w 1 lv l.length (i64s l)) (n : Int) (okn : -9223372036854775808 ≤ n ∧ n < 9223372036854775808) :
    Calls Try.prog 6 #[lv, .int .i64 n] w fun e w' => e = .returned (.bool true) ∧ Below w.heap.size w w' := by
  have HT := Lib.hid hT; have HAL := Lib.hid hal
  have HL := Lib.hid hl; have HS := Lib.hid okl; have HN := Lib.hid okn
  obtain ⟨pl, cl, hv⟩ := hl.shape
  subst hv
  clear hT hal hl okl okn
  go_enter Try.func6, Try.ntmps6
  go_wp2_with fail
  obtain ⟨n0, hn0⟩ : ∃ n0, w.heap.size = n0 := ⟨_, rfl⟩
  rw [hn0]
  obtain ⟨w1, hw1⟩ : ∃ x, x = w.alloc (.cells #[.slice pl l.length cl] 22) := ⟨_, rfl⟩
  rw [← hw1]
  obtain ⟨k1, s1, b1⟩ := alloc_next hw1 hn0
  have HR := Lib.hid (RdLL.single (Rd.of_blk (n := 1) k1 rfl (by simp [maxLen])) (HL.out.below b1))
  have HB1 := Lib.hid b1
  have HT1 := Lib.hid (I.below HT.out b1)
  have HSo := Lib.hid (sorted14 _ [l] w1 HR.out)
  clear hw1 k1 s1 b1 hn0 HT HL HR
  refine HSo.out.mono ?_
  rintro e w2 ⟨he, hB⟩
  have HB2 := Lib.hid (HB1.out.trans (hB.mono HB1.out.size))
  have HT2 := Lib.hid (I.below HT1.out hB)
  clear HB1 HT1 hB HSo
  rcases he with rfl | ⟨hsm, v, rfl, hm⟩
  · go_wp2_with fail
    refine (HAL.out _ HT2.out).mono ?_
    rintro e wz ⟨rfl, hB⟩
    have HBz := Lib.hid (HB2.out.trans (hB.mono HB2.out.size))
    go_wp2_with fail
    go_ret
    exact ⟨rfl, HBz.out⟩
  · have HM : Hid (RdLL w2 v [sortZ l]) := hm
    have HLn : Hid (l.length ≤ 300) := by show _ ≤ _; simp at hsm; omega
    obtain ⟨pm, cm, hv⟩ : ∃ p c, v = .slice p 1 c := HM.out.shape
    subst hv
    obtain ⟨blk, off, p1, c1, e, hal⟩ := HM.out.always (i := 0) (l := sortZ l) rfl
    subst e
    have HA : Hid (∀ w', Below w2.heap.size w2 w' → w'.cell? ⟨blk, off, none⟩ = some (.slice p1 (sortZ l).length c1) ∧ Rd w' 1 (.slice p1 (sortZ l).length c1) (sortZ l).length (i64s (sortZ l))) := hal
    have HSm := Lib.hid (smallZ_sort HLn.out HS.out)
    have HAs := Lib.hid (sort_asc l)
    clear hsm hm hal HM
    by_cases hn : 500 < n
    · go_wp2_with fail
      refine (HAL.out _ HT2.out).mono ?_
      rintro e wz ⟨rfl, hB⟩
      have HBz := Lib.hid (HB2.out.trans (hB.mono HB2.out.size))
      go_wp2_with fail
      go_ret
      exact ⟨rfl, HBz.out⟩
    · have HNn : Hid (n ≤ 500) := by show _ ≤ _; omega
      generalize sortZ l = q at *
      have HC : Hid (∀ w', Below w2.heap.size w2 w' → w'.cell? ⟨blk, off, none⟩ = some (.slice p1 q.length c1) ∧ True ∧ True) := fun w' h => ⟨(HA.out w' h).1, trivial, trivial⟩
      go_wp2_with fail
      refine wp_region_takeH (fun w' => Below w2.heap.size w2 w') [0, 6, 11, 12] [0, 1, 2, 3, 4, 5, 7, 8, 9, 10, 6, 11, 12, 13, 14] (by kernel_rfl) (by kernel_rfl) (by kernel_rfl) ?_ ?_ ?_
      · intro c a a' w hd h; exact ⟨hd ▸ h.1, h.2⟩
      · exact ⟨rfl, rfl, rfl, Nat.le_refl _, fun _ _ => rfl⟩
      simp only [taken, List.map_cons, List.map_nil, List.getElem?_cons_succ, List.getElem?_cons_zero, Option.getD_some]
      have hbd : Below w2.heap.size w2 w2.drew := ⟨rfl, rfl, rfl, Nat.le_refl _, fun _ _ => rfl⟩
      have HBd := Lib.hid hbd
      have HTd := Lib.hid (I.below HT2.out hbd)
      clear hbd
      refine takeH_call rfl rfl (fun K hK => ?_)
      go_wp2_with fail
      refine (HAL.out _ HTd.out).mono ?_
      rintro e w3 ⟨rfl, hB⟩
      have HB23 := Lib.hid (HBd.out.trans (hB.mono HBd.out.size))
      have HT3 := Lib.hid (I.below HTd.out hB)
      refine hK _ _ HB23.out ?_
      clear hK K hB HBd HTd
      repeat (first
        | (refine takeH_skip rfl ?_; simp only [Act.put, List.setIfInBounds_toArray, List.set_cons_succ, List.set_cons_zero])
        | (refine takeH_blind rfl rfl ?_; apply Exists.intro; refine ⟨fun w => ?_, ?_⟩; (go_simp; try with_reducible rfl); simp only [Act.put, List.setIfInBounds_toArray, List.set_cons_succ, List.set_cons_zero])
        | (refine takeH_reads rfl rfl ?_; apply Exists.intro; refine ⟨fun w' hS => ?_, ?_⟩; (obtain ⟨d0, d1, d2⟩ := HC.out w' hS; go_simp; try with_reducible rfl); simp only [Act.put, List.setIfInBounds_toArray, List.set_cons_succ, List.set_cons_zero]))
      refine takeH_call rfl rfl (fun K hK => ?_)
      go_wp2_with fail
      refine (I.compl _ q n w3 HT3.out (HA.out _ HB23.out).2 HAs.out HSm.out HN.out.1 (by have := HNn.out; omega)).mono ?_
      rintro e w4 ⟨r1, rfl, hO⟩
      have HO4 := Lib.hid hO
      have HB24 := Lib.hid (HB23.out.trans (hO.bel.mono HB23.out.size))
      obtain ⟨p4, c4, hv⟩ := hO.shape
      subst hv
      refine hK _ _ HB24.out ?_
      clear hK K hO
      refine takeH_call rfl rfl (fun K hK => ?_)
      go_wp2_with fail
      refine (ref_compl14 _ q n w4 (HA.out _ HB24.out).2 (by have := HNn.out; omega) HN.out.1).mono ?_
      rintro e w5 ⟨r2, rfl, hO⟩
      have HB25 := Lib.hid (HB24.out.trans (hO.bel.mono HB24.out.size))
      have HEq := Lib.hid (equal_int _ _ (complZ q n) (complZ q n) w5 (HO4.out.below hO.bel).rd hO.rd)
      rw [decide_eq_true rfl] at HEq
      obtain ⟨p5, c5, hv⟩ := hO.shape
      subst hv
      refine hK _ _ HB25.out ?_
      clear hK K hO HO4
      generalize complZ q n = z at *
      refine takeH_call rfl rfl (fun K hK => ?_)
      go_wp2_with fail
      refine HEq.out.mono ?_
      rintro e w6 ⟨rfl, hB⟩
      have HB26 := Lib.hid (HB25.out.trans (hB.mono HB25.out.size))
      refine hK _ _ HB26.out ?_
      clear hK K hB HEq
      repeat (first
        | (refine takeH_skip rfl ?_; simp only [Act.put, List.setIfInBounds_toArray, List.set_cons_succ, List.set_cons_zero])
        | (refine takeH_blind rfl rfl ?_; apply Exists.intro; refine ⟨fun w => ?_, ?_⟩; (go_simp; try with_reducible rfl); simp only [Act.put, List.setIfInBounds_toArray, List.set_cons_succ, List.set_cons_zero]))
      refine takeH_nil ?_
      go_wp2_with fail
      go_ret
      exact ⟨rfl, HB2.out.trans (HB26.out.mono HB2.out.size)⟩
end Go.Proofs.Ytdhcfgbnjnidfaa.listsComplement
