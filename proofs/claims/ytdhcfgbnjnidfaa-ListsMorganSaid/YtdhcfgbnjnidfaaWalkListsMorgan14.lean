/- Layer 14: ListsMorgan, walked over the interface. -/
import Derived.Test.YtdhcfgbnjnidfaaLiI
import Derived.Test.YtdhcfgbnjnidfaaEqualI
import Derived.Test.YtdhcfgbnjnidfaaLarge14
import Derived.Test.YtdhcfgbnjnidfaaPlanH
import Derived.Test.YtdhcfgbnjnidfaaNormal
import Derived.Deep.CutRange
import Derived.Test.YtdhcfgbnjnidfaaAllocN
import Derived.Test.YtdhcfgbnjnidfaaRdBlk
import Derived.Test.YtdhcfgbnjnidfaaWalkListsComplement14
set_option linter.unusedVariables false
namespace Go.Proofs.Ytdhcfgbnjnidfaa.listsMorgan
open Go Go.RowKit
variable {G : Nat} {T : World → Prop}

theorem run_ldI {o : Oper} {a : Act} {w : World} {x : Operand} {b n : Nat} {v : Value} (ho : o.op = .load 22 x) (hx : a.eval x = .pointer (some ⟨b, n, none⟩)) (hc : w.cell? ⟨b, n, none⟩ = some v) : (execOp a.eval o).run Try.prog w = .ok (.value v) w := by
  unfold execOp
  simp only [ho, hx]
  go_simp
theorem smallZ_compl (l : List Int) {k : Nat} (hk : k < 256) : SmallZ (complZ l (k : Int)) := by
  refine ⟨?_, fun x hx => ?_⟩
  · have h1 : (complZ l (k : Int)).length ≤ (uptoZ (k : Int)).length := List.length_filter_le _ _
    have h2 : (uptoZ (k : Int)).length = k := by simp [uptoZ]
    omega
  · have := (compl_mem l (k : Int) x).1 hx; omega
theorem smallZ_union2 {a b : List Int} (ha : SmallZ a) (hb : SmallZ b) (h : a.length + b.length ≤ 1000) : SmallZ (unionZ [a, b]) := by
  refine ⟨?_, fun x hx => ?_⟩
  · have h1 : (unionZ [a, b]).length ≤ [a, b].flatten.length := tabB_len _
    simp at h1
    omega
  · obtain ⟨l, hl, hy⟩ := (union_mem _ x).1 hx
    simp only [List.mem_cons, List.not_mem_nil, or_false] at hl
    rcases hl with rfl | rfl
    · exact ha.2 x hy
    · exact hb.2 x hy
theorem sortedLL2 {a b : List Int} (ha : AscB ltI a) (hb : AscB ltI b) (sa : SmallZ a) (sb : SmallZ b) (h : a.length + b.length ≤ 1000) : SortedLL [a, b] :=
  ⟨fun l hl => by
    simp only [List.mem_cons, List.not_mem_nil, or_false] at hl
    rcases hl with rfl | rfl <;> assumption, fun l hl => by
    simp only [List.mem_cons, List.not_mem_nil, or_false] at hl
    rcases hl with rfl | rfl <;> assumption, by simp, by simpa using h⟩
/-- A literal of two lists. -/
theorem two_lists {w w' : World} {p1 p2 : Option Addr} {c1 c2 : Nat} {a b : List Int} (hw : w' = w.alloc (.cells #[.slice p1 a.length c1, .slice p2 b.length c2] 22)) (ha : Rd w 1 (.slice p1 a.length c1) a.length (i64s a)) (hb : Rd w 1 (.slice p2 b.length c2) b.length (i64s b)) : Below w.heap.size w w' ∧ RdLL w' (.slice (some ⟨w.heap.size, 0, none⟩) 2 2) [a, b] := by
  obtain ⟨h1, h2, h3⟩ := alloc_next hw rfl
  exact ⟨h3, RdLL.pair (Rd.of_blk (n := 2) h1 rfl (by simp [maxLen])) (ha.below h3) (hb.below h3)⟩

set_option maxRecDepth 20000 in
set_option maxHeartbeats 16000000 in
theorem walk (I : LiIf G T) (hal : ∀ w, T w → Calls Try.prog 9 #[] w fun e w' => e = .returned (.bool true) ∧ Below w.heap.size w w')
    (w : World) (hT : T w) (lv : Value) (l : List Int) (okl : ∀ x ∈ l, -9223372036854775808 ≤ x ∧ x < 9223372036854775808) (hl : Rd w 1 lv l.length (i64s l)) (gv : Value) (k : List Int) (okn : ∀ x ∈ k, -9223372036854775808 ≤ x ∧ x < 9223372036854775808) (hg : Rd w 1 gv k.length (i64s k)) (n : Nat) (hn : n < 256) :
    Calls Try.prog 8 #[lv, gv, .int .u8 (n : Int)] w fun e w' => e = .returned (.bool true) ∧ Below w.heap.size w w' := by
  have HT := Lib.hid hT; have HAL := Lib.hid hal
  have HL := Lib.hid hl; have HS := Lib.hid okl; have HN := Lib.hid okn; have HG := Lib.hid hg; have HNn : Hid (n < 256) := hn
  have hni : (n : Int) < 256 := by omega
  obtain ⟨pl, cl, hv⟩ := hl.shape
  subst hv
  obtain ⟨pg, cg, hv⟩ := hg.shape
  subst hv
  clear hT hal hl hg okl okn hn
  go_enter Try.func8, Try.ntmps8
  go_wp2_with fail
  obtain ⟨n0, hn0⟩ : ∃ n0, w.heap.size = n0 := ⟨_, rfl⟩
  rw [hn0]
  obtain ⟨w1, hw1⟩ : ∃ x, x = w.alloc (.cells #[.slice pl l.length cl, .slice pg k.length cg] 22) := ⟨_, rfl⟩
  rw [← hw1]
  obtain ⟨k1, s1, b1⟩ := alloc_next hw1 hn0
  have HR := Lib.hid (RdLL.pair (Rd.of_blk (n := 2) k1 rfl (by simp [maxLen])) (HL.out.below b1) (HG.out.below b1))
  have HB1 := Lib.hid b1
  have HT1 := Lib.hid (I.below HT.out b1)
  have HSo := Lib.hid (sorted14 _ [l, k] w1 HR.out)
  clear hw1 k1 s1 b1 hn0 HT HL HG HR
  refine HSo.out.mono ?_
  rintro e w2 ⟨he, hB⟩
  have HB2 := Lib.hid (HB1.out.trans (hB.mono HB1.out.size))
  have HT2 := Lib.hid (I.below HT1.out hB)
  clear HB1 HT1 hB HSo
  rcases he with rfl | ⟨hsm, v, rfl, hm⟩
  · go_wp2_with fail
    refine (HAL.out _ HT2.out).mono ?_
    rintro e wz ⟨rfl, hB⟩
    have HBz := Lib.hid (HB2.out.trans (hB.mono HB2.out.size))
    go_wp2_with fail
    go_ret
    exact ⟨rfl, HBz.out⟩
  · have HM : Hid (RdLL w2 v [sortZ l, sortZ k]) := hm
    have HLn : Hid (l.length ≤ 300 ∧ k.length ≤ 300) := by show _ ∧ _; simp at hsm; omega
    obtain ⟨pm, cm, hv⟩ : ∃ p c, v = .slice p 2 c := HM.out.shape
    subst hv
    obtain ⟨blk, off, p1, c1, e, hal⟩ := HM.out.always (i := 0) (l := sortZ l) rfl
    subst e
    obtain ⟨blk2, off2, p2, c2, e, hal2⟩ := HM.out.always (i := 1) (l := sortZ k) rfl
    simp only [Option.some.injEq, Addr.mk.injEq] at e
    obtain ⟨rfl, rfl, _⟩ := e
    have HA : Hid (∀ w', Below w2.heap.size w2 w' → w'.cell? ⟨blk, off, none⟩ = some (.slice p1 (sortZ l).length c1) ∧ Rd w' 1 (.slice p1 (sortZ l).length c1) (sortZ l).length (i64s (sortZ l))) := hal
    have HA2 : Hid (∀ w', Below w2.heap.size w2 w' → w'.cell? ⟨blk, off + 1, none⟩ = some (.slice p2 (sortZ k).length c2) ∧ Rd w' 1 (.slice p2 (sortZ k).length c2) (sortZ k).length (i64s (sortZ k))) := hal2
    have HSm := Lib.hid (listsComplement.smallZ_sort HLn.out.1 HS.out)
    have HSk := Lib.hid (listsComplement.smallZ_sort HLn.out.2 HN.out)
    have HAs := Lib.hid (sort_asc l)
    have HAk := Lib.hid (sort_asc k)
    have HLq : Hid ((sortZ l).length + (sortZ k).length ≤ 1000) := by show _ ≤ _; have := sort_len l; have := sort_len k; have := HLn.out; omega
    clear hsm hm hal hal2 HM
    generalize sortZ l = q at *
    generalize sortZ k = r at *
    have HC : Hid (∀ w', Below w2.heap.size w2 w' → w'.cell? ⟨blk, off, none⟩ = some (.slice p1 q.length c1) ∧ w'.cell? ⟨blk, off + 1, none⟩ = some (.slice p2 r.length c2) ∧ True) := fun w' h => ⟨(HA.out w' h).1, (HA2.out w' h).1, trivial⟩
    have HXa := Lib.hid (compl_asc q (n : Int))
    have HYa := Lib.hid (compl_asc r (n : Int))
    have HXs := Lib.hid (smallZ_compl q HNn.out)
    have HYs := Lib.hid (smallZ_compl r HNn.out)
    have HXl : Hid ((complZ q (n : Int)).length ≤ 255 ∧ (complZ r (n : Int)).length ≤ 255) := by
      have h1 : (complZ q (n : Int)).length ≤ (uptoZ (n : Int)).length := List.length_filter_le _ _
      have h2 : (complZ r (n : Int)).length ≤ (uptoZ (n : Int)).length := List.length_filter_le _ _
      have h3 : (uptoZ (n : Int)).length = n := by simp [uptoZ]
      have := HNn.out
      exact ⟨by omega, by omega⟩
    have HUs := Lib.hid (smallZ_union2 HSm.out HSk.out HLq.out)
    have HUa := Lib.hid (union_asc [q, r])
    have HMo : Hid (complZ (unionZ [q, r]) (n : Int) = interZ [complZ q (n : Int), complZ r (n : Int)]) := morgan q r n
    have HDa : Hid (diffZ (complZ [] (n : Int)) q = complZ q (n : Int)) := diff_all q n
    have HDc : Hid (diffZ (complZ q (n : Int)) r = interZ [complZ q (n : Int), complZ r (n : Int)]) := diff_compl q r n
    have HAn : Hid ((complZ [] (n : Int)).length = n) := compl_nil_len n
    have HAa := Lib.hid (compl_asc [] (n : Int))
    have HAz := Lib.hid (smallZ_compl [] HNn.out)
    have HLL1 := Lib.hid (sortedLL2 HAs.out HAk.out HSm.out HSk.out HLq.out)
    have HLL2 := Lib.hid (sortedLL2 HXa.out HYa.out HXs.out HYs.out (by have := HXl.out; omega))
    go_wp2_with fail
    refine wp_region_takeH (fun w' => Below w2.heap.size w2 w') [4, 9] [0, 1, 2, 3, 5, 6, 7, 8, 4, 9, 10, 11] (by kernel_rfl) (by kernel_rfl) (by kernel_rfl) ?_ ?_ ?_
    · intro c a a' w hd h; exact ⟨hd ▸ h.1, h.2⟩
    · exact ⟨rfl, rfl, rfl, Nat.le_refl _, fun _ _ => rfl⟩
    simp only [taken, List.map_cons, List.map_nil, List.getElem?_cons_succ, List.getElem?_cons_zero, Option.getD_some]
    have hbd : Below w2.heap.size w2 w2.drew := ⟨rfl, rfl, rfl, Nat.le_refl _, fun _ _ => rfl⟩
    have HBd := Lib.hid hbd
    have HTd := Lib.hid (I.below HT2.out hbd)
    clear hbd
    repeat (first
        | (refine takeH_skip rfl ?_; simp only [Act.put, List.setIfInBounds_toArray, List.set_cons_succ, List.set_cons_zero])
        | (refine takeH_blind rfl rfl ?_; apply Exists.intro; refine ⟨fun w => ?_, ?_⟩; (go_simp; try with_reducible rfl); simp only [Act.put, List.setIfInBounds_toArray, List.set_cons_succ, List.set_cons_zero])
        | (refine takeH_reads rfl rfl ?_; apply Exists.intro; refine ⟨fun w' hS => ?_, ?_⟩; (obtain ⟨d0, d1, d2⟩ := HC.out w' hS; go_simp; try with_reducible rfl); simp only [Act.put, List.setIfInBounds_toArray, List.set_cons_succ, List.set_cons_zero]))
    refine takeH_call rfl rfl (fun K hK => ?_)
    go_wp2_with fail
    refine (I.compl _ q (n : Int) _ HTd.out (HA.out _ HBd.out).2 HAs.out HSm.out (by omega) (by omega)).mono ?_
    rintro e w3 ⟨r1, rfl, hO⟩
    have HX3 := Lib.hid hO.rd
    have HB23 := Lib.hid (HBd.out.trans (hO.bel.mono HBd.out.size))
    have HT3 := Lib.hid (I.below HTd.out hO.bel)
    obtain ⟨px, cx, hv⟩ := hO.shape
    subst hv
    refine hK _ _ HB23.out ?_
    clear hK K hO HBd HTd
    refine takeH_call rfl rfl (fun K hK => ?_)
    go_wp2_with fail
    refine (I.compl _ r (n : Int) _ HT3.out (HA2.out _ HB23.out).2 HAk.out HSk.out (by omega) (by omega)).mono ?_
    rintro e w4 ⟨r2, rfl, hO⟩
    have HX4 := Lib.hid (HX3.out.below hO.bel)
    have HY4 := Lib.hid hO.rd
    have HB24 := Lib.hid (HB23.out.trans (hO.bel.mono HB23.out.size))
    have HT4 := Lib.hid (I.below HT3.out hO.bel)
    obtain ⟨py, cy, hv⟩ := hO.shape
    subst hv
    refine hK _ _ HB24.out ?_
    clear hK K hO HX3 HB23 HT3
    repeat (first
        | (refine takeH_skip rfl ?_; simp only [Act.put, List.setIfInBounds_toArray, List.set_cons_succ, List.set_cons_zero])
        | (refine takeH_blind rfl rfl ?_; apply Exists.intro; refine ⟨fun w => ?_, ?_⟩; (go_simp; try with_reducible rfl); simp only [Act.put, List.setIfInBounds_toArray, List.set_cons_succ, List.set_cons_zero])
        | (refine takeH_reads rfl rfl ?_; apply Exists.intro; refine ⟨fun w' hS => ?_, ?_⟩; (obtain ⟨d0, d1, d2⟩ := HC.out w' hS; go_simp; try with_reducible rfl); simp only [Act.put, List.setIfInBounds_toArray, List.set_cons_succ, List.set_cons_zero]))
    refine takeH_nil ?_
    have HIx : Hid (decide (AscB ltI (complZ q (n : Int))) = true) := decide_eq_true HXa.out
    have HIy : Hid (decide (AscB ltI (complZ r (n : Int))) = true) := decide_eq_true HYa.out
    obtain ⟨X, hX⟩ : ∃ X, complZ q (n : Int) = X := ⟨_, rfl⟩
    obtain ⟨Y, hY⟩ : ∃ Y, complZ r (n : Int) = Y := ⟨_, rfl⟩
    obtain ⟨U, hU⟩ : ∃ U, unionZ [q, r] = U := ⟨_, rfl⟩
    rw [hX] at HXa HXs HXl HMo HDa HDc HLL2 HX4 HIx
    rw [hY] at HYa HYs HXl HMo HDc HLL2 HY4 HIy
    rw [hU] at HUs HUa HMo
    have HUe := Lib.hid hU
    rw [hX, hY]
    clear hX hY hU
    obtain ⟨Z, hZ⟩ : ∃ Z, interZ [X, Y] = Z := ⟨_, rfl⟩
    have HZe := Lib.hid hZ
    rw [hZ] at HMo HDc
    clear hZ
    go_upto_region 6 with fail
    go_cut [60] from 35 to 59 (fun bv wx => bv = .bool false ∧ Hid (Below w2.heap.size w2 wx ∧ Rd wx 1 (.slice px X.length cx) X.length (i64s X) ∧ Rd wx 1 (.slice py Y.length cy) Y.length (i64s Y)))
    case first =>
      refine wp_normal ?_
      refine wp_region_planO (fun w' => Below w2.heap.size w2 w') (.take 0 (.one 1 (.take 2 (.take 3 (.take 4 (.one 5 (.take 6 (.take 7 (.take 8 (.take 9 (.take 10 (.take 11 (.take 12 (.take 13 (.take 14 (.take 17 (.take 19 (.take 20 (.two 15 21 (.two 16 21 (.two 18 21 (.one 21 (.one 22 (.one 23 (.take 24 (.take 25 .done))))) (.one 18 (.one 22 (.one 23 (.take 24 (.take 25 .done)))))) (.one 16 (.one 18 (.one 22 (.one 23 (.take 24 (.take 25 .done))))))) (.one 15 (.one 16 (.one 18 (.one 22 (.one 23 (.take 24 (.take 25 .done)))))))))))))))))))))))))) (by kernel_rfl) (by kernel_rfl) (by kernel_rfl) ?_ ?_ ?_
      · intro c a a' w hd h; cases h.1
      · exact HB24.out.trans (Below.mono ⟨rfl, rfl, rfl, Nat.le_refl _, fun _ _ => rfl⟩ HB24.out.size)
      simp only [planned, List.getElem?_cons_succ, List.getElem?_cons_zero, Option.getD_some]
      have hbd : Below w4.heap.size w4 w4.drew := ⟨rfl, rfl, rfl, Nat.le_refl _, fun _ _ => rfl⟩
      have HB5 := Lib.hid (HB24.out.trans (hbd.mono HB24.out.size))
      have HT5 := Lib.hid (I.below HT4.out hbd)
      have HX5 := Lib.hid (HX4.out.below hbd)
      have HY5 := Lib.hid (HY4.out.below hbd)
      clear hbd HB24 HT4 HX4 HY4
      generalize w4.drew = w5 at *
      (refine takeP_blind rfl ?_; apply Exists.intro; refine ⟨fun w => ?_, ?_⟩; (go_simp; try with_reducible rfl); simp only [Act.put, List.setIfInBounds_toArray, List.set_cons_succ, List.set_cons_zero])
      refine takeP_one rfl (fun K hK => ?_)
      go_wp2_with fail
      refine (I.isSorted _ X _ HT5.out HX5.out HXs.out.2).mono ?_
      rintro e w6 ⟨rfl, hB⟩
      rw [HIx.out]
      have HB6 := Lib.hid (HB5.out.trans (hB.mono HB5.out.size))
      have HT6 := Lib.hid (I.below HT5.out hB)
      have HX6 := Lib.hid (HX5.out.below hB)
      have HY6 := Lib.hid (HY5.out.below hB)
      refine hK _ _ HB6.out ?_
      clear hK K hB HB5 HT5 HX5 HY5 HIx
      (refine takeP_blind rfl ?_; apply Exists.intro; refine ⟨fun w => ?_, ?_⟩; (go_simp; try with_reducible rfl); simp only [Act.put, List.setIfInBounds_toArray, List.set_cons_succ, List.set_cons_zero])
      (refine takeP_blind rfl ?_; apply Exists.intro; refine ⟨fun w => ?_, ?_⟩; (go_simp; try with_reducible rfl); simp only [Act.put, List.setIfInBounds_toArray, List.set_cons_succ, List.set_cons_zero])
      (refine takeP_blind rfl ?_; apply Exists.intro; refine ⟨fun w => ?_, ?_⟩; (go_simp; try with_reducible rfl); simp only [Act.put, List.setIfInBounds_toArray, List.set_cons_succ, List.set_cons_zero])
      refine takeP_one rfl (fun K hK => ?_)
      go_wp2_with fail
      refine (I.isSorted _ Y _ HT6.out HY6.out HYs.out.2).mono ?_
      rintro e w7 ⟨rfl, hB⟩
      rw [HIy.out]
      have HB7 := Lib.hid (HB6.out.trans (hB.mono HB6.out.size))
      have HT7 := Lib.hid (I.below HT6.out hB)
      have HX7 := Lib.hid (HX6.out.below hB)
      have HY7 := Lib.hid (HY6.out.below hB)
      refine hK _ _ HB7.out ?_
      clear hK K hB HB6 HT6 HX6 HY6 HIy
      (refine takeP_blind rfl ?_; apply Exists.intro; refine ⟨fun w => ?_, ?_⟩; (go_simp; try with_reducible rfl); simp only [Act.put, List.setIfInBounds_toArray, List.set_cons_succ, List.set_cons_zero])
      (refine takeP_blind rfl ?_; apply Exists.intro; refine ⟨fun w => ?_, ?_⟩; (go_simp; try with_reducible rfl); simp only [Act.put, List.setIfInBounds_toArray, List.set_cons_succ, List.set_cons_zero])
      (refine takeP_blind rfl ?_; apply Exists.intro; refine ⟨fun w => ?_, ?_⟩; (go_simp; try with_reducible rfl); simp only [Act.put, List.setIfInBounds_toArray, List.set_cons_succ, List.set_cons_zero])
      (refine takeP_blind rfl ?_; apply Exists.intro; refine ⟨fun w => ?_, ?_⟩; (go_simp; try with_reducible rfl); simp only [Act.put, List.setIfInBounds_toArray, List.set_cons_succ, List.set_cons_zero])
      (refine takeP_blind rfl ?_; apply Exists.intro; refine ⟨fun w => ?_, ?_⟩; (go_simp; try with_reducible rfl); simp only [Act.put, List.setIfInBounds_toArray, List.set_cons_succ, List.set_cons_zero])
      refine takeP_reads rfl ⟨.slice p1 q.length c1, fun w' hS => run_ldI rfl rfl (HC.out w' hS).1, ?_⟩
      simp only [Act.put, List.setIfInBounds_toArray, List.set_cons_succ, List.set_cons_zero]
      (refine takeP_blind rfl ?_; apply Exists.intro; refine ⟨fun w => ?_, ?_⟩; (go_simp; try with_reducible rfl); simp only [Act.put, List.setIfInBounds_toArray, List.set_cons_succ, List.set_cons_zero])
      (refine takeP_blind rfl ?_; apply Exists.intro; refine ⟨fun w => ?_, ?_⟩; (go_simp; try with_reducible rfl); simp only [Act.put, List.setIfInBounds_toArray, List.set_cons_succ, List.set_cons_zero])
      refine takeP_reads rfl ⟨.slice p2 r.length c2, fun w' hS => run_ldI rfl rfl (HC.out w' hS).2.1, ?_⟩
      simp only [Act.put, List.setIfInBounds_toArray, List.set_cons_succ, List.set_cons_zero]
      (refine takeP_blind rfl ?_; apply Exists.intro; refine ⟨fun w => ?_, ?_⟩; (go_simp; try with_reducible rfl); simp only [Act.put, List.setIfInBounds_toArray, List.set_cons_succ, List.set_cons_zero])
      (refine takeP_blind rfl ?_; apply Exists.intro; refine ⟨fun w => ?_, ?_⟩; (go_simp; try with_reducible rfl); simp only [Act.put, List.setIfInBounds_toArray, List.set_cons_succ, List.set_cons_zero])
      (refine takeP_blind rfl ?_; apply Exists.intro; refine ⟨fun w => ?_, ?_⟩; (go_simp; try with_reducible rfl); simp only [Act.put, List.setIfInBounds_toArray, List.set_cons_succ, List.set_cons_zero])
      refine takeP_two ?_ ?_
      · skip
        refine takeP_one rfl (fun K hK => ?_)
        go_wp2_with fail
        obtain ⟨w8, hw⟩ : ∃ x, x = w7.alloc (.cells #[.slice p1 q.length c1, .slice p2 r.length c2] 22) := ⟨_, rfl⟩
        rw [← hw]
        obtain ⟨hB, hP⟩ := two_lists hw (HA.out _ HB7.out).2 (HA2.out _ HB7.out).2
        have HP18 := Lib.hid hP
        have HB8 := Lib.hid (HB7.out.trans (hB.mono HB7.out.size))
        have HT8 := Lib.hid (I.below HT7.out hB)
        have HX8 := Lib.hid (HX7.out.below hB)
        have HY8 := Lib.hid (HY7.out.below hB)
        refine hK _ _ HB8.out ?_
        clear hK K hw hB hP HB7 HT7 HX7 HY7
        obtain ⟨na, hna⟩ : ∃ na, w7.heap.size = na := ⟨_, rfl⟩
        rw [hna] at HP18 ⊢
        clear hna
        refine takeP_two ?_ ?_
        · skip
          refine takeP_one rfl (fun K hK => ?_)
          go_wp2_with fail
          refine (I.union _ [q, r] _ HT8.out HP18.out HLL1.out).mono ?_
          rintro e w9 ⟨r3, rfl, hO⟩
          rw [HUe.out] at hO
          have HU9 := Lib.hid hO.rd
          obtain ⟨pu, cu, hv⟩ := hO.shape
          subst hv
          have HB9 := Lib.hid (HB8.out.trans (hO.bel.mono HB8.out.size))
          have HT9 := Lib.hid (I.below HT8.out hO.bel)
          have HX9 := Lib.hid (HX8.out.below hO.bel)
          have HY9 := Lib.hid (HY8.out.below hO.bel)
          have HP19 := Lib.hid (HP18.out.below hO.bel)
          refine hK _ _ HB9.out ?_
          clear hK K hO HB8 HT8 HX8 HY8 HP18
          refine takeP_two ?_ ?_
          · skip
            refine takeP_one rfl (fun K hK => ?_)
            go_wp2_with fail
            refine (I.compl _ U (n : Int) _ HT9.out HU9.out HUa.out HUs.out (by omega) (by omega)).mono ?_
            rintro e w10 ⟨r4, rfl, hO⟩
            rw [HMo.out] at hO
            have HC10 := Lib.hid hO.rd
            obtain ⟨pc, cc, hv⟩ := hO.shape
            subst hv
            have HB10 := Lib.hid (HB9.out.trans (hO.bel.mono HB9.out.size))
            have HT10 := Lib.hid (I.below HT9.out hO.bel)
            have HX10 := Lib.hid (HX9.out.below hO.bel)
            have HY10 := Lib.hid (HY9.out.below hO.bel)
            have HP110 := Lib.hid (HP19.out.below hO.bel)
            have HU10 := Lib.hid (HU9.out.below hO.bel)
            refine hK _ _ HB10.out ?_
            clear hK K hO HB9 HT9 HX9 HY9 HP19 HU9
            refine takeP_one rfl (fun K hK => ?_)
            go_wp2_with fail
            obtain ⟨w11, hw⟩ : ∃ x, x = w10.alloc (.cells #[.slice px X.length cx, .slice py Y.length cy] 22) := ⟨_, rfl⟩
            rw [← hw]
            obtain ⟨hB, hP⟩ := two_lists hw HX10.out HY10.out
            have HP211 := Lib.hid hP
            have HB11 := Lib.hid (HB10.out.trans (hB.mono HB10.out.size))
            have HT11 := Lib.hid (I.below HT10.out hB)
            have HX11 := Lib.hid (HX10.out.below hB)
            have HY11 := Lib.hid (HY10.out.below hB)
            have HP111 := Lib.hid (HP110.out.below hB)
            have HU11 := Lib.hid (HU10.out.below hB)
            have HC11 := Lib.hid (HC10.out.below hB)
            refine hK _ _ HB11.out ?_
            clear hK K hw hB hP HB10 HT10 HX10 HY10 HP110 HU10 HC10
            obtain ⟨nb, hnb⟩ : ∃ nb, w10.heap.size = nb := ⟨_, rfl⟩
            rw [hnb] at HP211 ⊢
            clear hnb
            refine takeP_one rfl (fun K hK => ?_)
            go_wp2_with fail
            refine (I.inter _ [X, Y] _ HT11.out HP211.out HLL2.out).mono ?_
            rintro e w12 ⟨r5, rfl, hO⟩
            rw [HZe.out] at hO
            have HI12 := Lib.hid hO.rd
            obtain ⟨pi, ci, hv⟩ := hO.shape
            subst hv
            have HB12 := Lib.hid (HB11.out.trans (hO.bel.mono HB11.out.size))
            have HT12 := Lib.hid (I.below HT11.out hO.bel)
            have HX12 := Lib.hid (HX11.out.below hO.bel)
            have HY12 := Lib.hid (HY11.out.below hO.bel)
            have HP112 := Lib.hid (HP111.out.below hO.bel)
            have HU12 := Lib.hid (HU11.out.below hO.bel)
            have HC12 := Lib.hid (HC11.out.below hO.bel)
            have HP212 := Lib.hid (HP211.out.below hO.bel)
            refine hK _ _ HB12.out ?_
            clear hK K hO HB11 HT11 HX11 HY11 HP111 HU11 HC11 HP211
            refine takeP_one rfl (fun K hK => ?_)
            go_wp2_with fail
            have HEq := Lib.hid (equal_int _ _ Z Z w12 HC12.out HI12.out)
            rw [decide_eq_true rfl] at HEq
            refine HEq.out.mono ?_
            rintro e w13 ⟨rfl, hB⟩
            have HB13 := Lib.hid (HB12.out.trans (hB.mono HB12.out.size))
            have HT13 := Lib.hid (I.below HT12.out hB)
            have HX13 := Lib.hid (HX12.out.below hB)
            have HY13 := Lib.hid (HY12.out.below hB)
            have HP113 := Lib.hid (HP112.out.below hB)
            have HU13 := Lib.hid (HU12.out.below hB)
            have HC13 := Lib.hid (HC12.out.below hB)
            have HP213 := Lib.hid (HP212.out.below hB)
            have HI13 := Lib.hid (HI12.out.below hB)
            refine hK _ _ HB13.out ?_
            clear hK K hB HEq HB12 HT12 HX12 HY12 HP112 HU12 HC12 HP212 HI12
            (refine takeP_blind rfl ?_; apply Exists.intro; refine ⟨fun w => ?_, ?_⟩; (go_simp; try with_reducible rfl); simp only [Act.put, List.setIfInBounds_toArray, List.set_cons_succ, List.set_cons_zero])
            (refine takeP_blind rfl ?_; apply Exists.intro; refine ⟨fun w => ?_, ?_⟩; (go_simp; try with_reducible rfl); simp only [Act.put, List.setIfInBounds_toArray, List.set_cons_succ, List.set_cons_zero])
            refine takeP_done ⟨rfl, ?_⟩
            go_wp2_with fail
            go_meet
            exact ⟨rfl, HB13.out, HX13.out, HY13.out⟩
          · skip
            refine takeP_one rfl (fun K hK => ?_)
            go_wp2_with fail
            obtain ⟨w14, hw⟩ : ∃ x, x = w9.alloc (.cells #[.slice px X.length cx, .slice py Y.length cy] 22) := ⟨_, rfl⟩
            rw [← hw]
            obtain ⟨hB, hP⟩ := two_lists hw HX9.out HY9.out
            have HP214 := Lib.hid hP
            have HB14 := Lib.hid (HB9.out.trans (hB.mono HB9.out.size))
            have HT14 := Lib.hid (I.below HT9.out hB)
            have HX14 := Lib.hid (HX9.out.below hB)
            have HY14 := Lib.hid (HY9.out.below hB)
            have HP114 := Lib.hid (HP19.out.below hB)
            have HU14 := Lib.hid (HU9.out.below hB)
            refine hK _ _ HB14.out ?_
            clear hK K hw hB hP HB9 HT9 HX9 HY9 HP19 HU9
            obtain ⟨nb, hnb⟩ : ∃ nb, w9.heap.size = nb := ⟨_, rfl⟩
            rw [hnb] at HP214 ⊢
            clear hnb
            refine takeP_one rfl (fun K hK => ?_)
            go_wp2_with fail
            refine (I.compl _ U (n : Int) _ HT14.out HU14.out HUa.out HUs.out (by omega) (by omega)).mono ?_
            rintro e w15 ⟨r4, rfl, hO⟩
            rw [HMo.out] at hO
            have HC15 := Lib.hid hO.rd
            obtain ⟨pc, cc, hv⟩ := hO.shape
            subst hv
            have HB15 := Lib.hid (HB14.out.trans (hO.bel.mono HB14.out.size))
            have HT15 := Lib.hid (I.below HT14.out hO.bel)
            have HX15 := Lib.hid (HX14.out.below hO.bel)
            have HY15 := Lib.hid (HY14.out.below hO.bel)
            have HP115 := Lib.hid (HP114.out.below hO.bel)
            have HU15 := Lib.hid (HU14.out.below hO.bel)
            have HP215 := Lib.hid (HP214.out.below hO.bel)
            refine hK _ _ HB15.out ?_
            clear hK K hO HB14 HT14 HX14 HY14 HP114 HU14 HP214
            refine takeP_one rfl (fun K hK => ?_)
            go_wp2_with fail
            refine (I.inter _ [X, Y] _ HT15.out HP215.out HLL2.out).mono ?_
            rintro e w16 ⟨r5, rfl, hO⟩
            rw [HZe.out] at hO
            have HI16 := Lib.hid hO.rd
            obtain ⟨pi, ci, hv⟩ := hO.shape
            subst hv
            have HB16 := Lib.hid (HB15.out.trans (hO.bel.mono HB15.out.size))
            have HT16 := Lib.hid (I.below HT15.out hO.bel)
            have HX16 := Lib.hid (HX15.out.below hO.bel)
            have HY16 := Lib.hid (HY15.out.below hO.bel)
            have HP116 := Lib.hid (HP115.out.below hO.bel)
            have HU16 := Lib.hid (HU15.out.below hO.bel)
            have HP216 := Lib.hid (HP215.out.below hO.bel)
            have HC16 := Lib.hid (HC15.out.below hO.bel)
            refine hK _ _ HB16.out ?_
            clear hK K hO HB15 HT15 HX15 HY15 HP115 HU15 HP215 HC15
            refine takeP_one rfl (fun K hK => ?_)
            go_wp2_with fail
            have HEq := Lib.hid (equal_int _ _ Z Z w16 HC16.out HI16.out)
            rw [decide_eq_true rfl] at HEq
            refine HEq.out.mono ?_
            rintro e w17 ⟨rfl, hB⟩
            have HB17 := Lib.hid (HB16.out.trans (hB.mono HB16.out.size))
            have HT17 := Lib.hid (I.below HT16.out hB)
            have HX17 := Lib.hid (HX16.out.below hB)
            have HY17 := Lib.hid (HY16.out.below hB)
            have HP117 := Lib.hid (HP116.out.below hB)
            have HU17 := Lib.hid (HU16.out.below hB)
            have HP217 := Lib.hid (HP216.out.below hB)
            have HC17 := Lib.hid (HC16.out.below hB)
            have HI17 := Lib.hid (HI16.out.below hB)
            refine hK _ _ HB17.out ?_
            clear hK K hB HEq HB16 HT16 HX16 HY16 HP116 HU16 HP216 HC16 HI16
            (refine takeP_blind rfl ?_; apply Exists.intro; refine ⟨fun w => ?_, ?_⟩; (go_simp; try with_reducible rfl); simp only [Act.put, List.setIfInBounds_toArray, List.set_cons_succ, List.set_cons_zero])
            (refine takeP_blind rfl ?_; apply Exists.intro; refine ⟨fun w => ?_, ?_⟩; (go_simp; try with_reducible rfl); simp only [Act.put, List.setIfInBounds_toArray, List.set_cons_succ, List.set_cons_zero])
            refine takeP_done ⟨rfl, ?_⟩
            go_wp2_with fail
            go_meet
            exact ⟨rfl, HB17.out, HX17.out, HY17.out⟩
        · skip
          refine takeP_one rfl (fun K hK => ?_)
          go_wp2_with fail
          obtain ⟨w18, hw⟩ : ∃ x, x = w8.alloc (.cells #[.slice px X.length cx, .slice py Y.length cy] 22) := ⟨_, rfl⟩
          rw [← hw]
          obtain ⟨hB, hP⟩ := two_lists hw HX8.out HY8.out
          have HP218 := Lib.hid hP
          have HB18 := Lib.hid (HB8.out.trans (hB.mono HB8.out.size))
          have HT18 := Lib.hid (I.below HT8.out hB)
          have HX18 := Lib.hid (HX8.out.below hB)
          have HY18 := Lib.hid (HY8.out.below hB)
          have HP118 := Lib.hid (HP18.out.below hB)
          refine hK _ _ HB18.out ?_
          clear hK K hw hB hP HB8 HT8 HX8 HY8 HP18
          obtain ⟨nb, hnb⟩ : ∃ nb, w8.heap.size = nb := ⟨_, rfl⟩
          rw [hnb] at HP218 ⊢
          clear hnb
          refine takeP_one rfl (fun K hK => ?_)
          go_wp2_with fail
          refine (I.union _ [q, r] _ HT18.out HP118.out HLL1.out).mono ?_
          rintro e w19 ⟨r3, rfl, hO⟩
          rw [HUe.out] at hO
          have HU19 := Lib.hid hO.rd
          obtain ⟨pu, cu, hv⟩ := hO.shape
          subst hv
          have HB19 := Lib.hid (HB18.out.trans (hO.bel.mono HB18.out.size))
          have HT19 := Lib.hid (I.below HT18.out hO.bel)
          have HX19 := Lib.hid (HX18.out.below hO.bel)
          have HY19 := Lib.hid (HY18.out.below hO.bel)
          have HP119 := Lib.hid (HP118.out.below hO.bel)
          have HP219 := Lib.hid (HP218.out.below hO.bel)
          refine hK _ _ HB19.out ?_
          clear hK K hO HB18 HT18 HX18 HY18 HP118 HP218
          refine takeP_one rfl (fun K hK => ?_)
          go_wp2_with fail
          refine (I.compl _ U (n : Int) _ HT19.out HU19.out HUa.out HUs.out (by omega) (by omega)).mono ?_
          rintro e w20 ⟨r4, rfl, hO⟩
          rw [HMo.out] at hO
          have HC20 := Lib.hid hO.rd
          obtain ⟨pc, cc, hv⟩ := hO.shape
          subst hv
          have HB20 := Lib.hid (HB19.out.trans (hO.bel.mono HB19.out.size))
          have HT20 := Lib.hid (I.below HT19.out hO.bel)
          have HX20 := Lib.hid (HX19.out.below hO.bel)
          have HY20 := Lib.hid (HY19.out.below hO.bel)
          have HP120 := Lib.hid (HP119.out.below hO.bel)
          have HP220 := Lib.hid (HP219.out.below hO.bel)
          have HU20 := Lib.hid (HU19.out.below hO.bel)
          refine hK _ _ HB20.out ?_
          clear hK K hO HB19 HT19 HX19 HY19 HP119 HP219 HU19
          refine takeP_one rfl (fun K hK => ?_)
          go_wp2_with fail
          refine (I.inter _ [X, Y] _ HT20.out HP220.out HLL2.out).mono ?_
          rintro e w21 ⟨r5, rfl, hO⟩
          rw [HZe.out] at hO
          have HI21 := Lib.hid hO.rd
          obtain ⟨pi, ci, hv⟩ := hO.shape
          subst hv
          have HB21 := Lib.hid (HB20.out.trans (hO.bel.mono HB20.out.size))
          have HT21 := Lib.hid (I.below HT20.out hO.bel)
          have HX21 := Lib.hid (HX20.out.below hO.bel)
          have HY21 := Lib.hid (HY20.out.below hO.bel)
          have HP121 := Lib.hid (HP120.out.below hO.bel)
          have HP221 := Lib.hid (HP220.out.below hO.bel)
          have HU21 := Lib.hid (HU20.out.below hO.bel)
          have HC21 := Lib.hid (HC20.out.below hO.bel)
          refine hK _ _ HB21.out ?_
          clear hK K hO HB20 HT20 HX20 HY20 HP120 HP220 HU20 HC20
          refine takeP_one rfl (fun K hK => ?_)
          go_wp2_with fail
          have HEq := Lib.hid (equal_int _ _ Z Z w21 HC21.out HI21.out)
          rw [decide_eq_true rfl] at HEq
          refine HEq.out.mono ?_
          rintro e w22 ⟨rfl, hB⟩
          have HB22 := Lib.hid (HB21.out.trans (hB.mono HB21.out.size))
          have HT22 := Lib.hid (I.below HT21.out hB)
          have HX22 := Lib.hid (HX21.out.below hB)
          have HY22 := Lib.hid (HY21.out.below hB)
          have HP122 := Lib.hid (HP121.out.below hB)
          have HP222 := Lib.hid (HP221.out.below hB)
          have HU22 := Lib.hid (HU21.out.below hB)
          have HC22 := Lib.hid (HC21.out.below hB)
          have HI22 := Lib.hid (HI21.out.below hB)
          refine hK _ _ HB22.out ?_
          clear hK K hB HEq HB21 HT21 HX21 HY21 HP121 HP221 HU21 HC21 HI21
          (refine takeP_blind rfl ?_; apply Exists.intro; refine ⟨fun w => ?_, ?_⟩; (go_simp; try with_reducible rfl); simp only [Act.put, List.setIfInBounds_toArray, List.set_cons_succ, List.set_cons_zero])
          (refine takeP_blind rfl ?_; apply Exists.intro; refine ⟨fun w => ?_, ?_⟩; (go_simp; try with_reducible rfl); simp only [Act.put, List.setIfInBounds_toArray, List.set_cons_succ, List.set_cons_zero])
          refine takeP_done ⟨rfl, ?_⟩
          go_wp2_with fail
          go_meet
          exact ⟨rfl, HB22.out, HX22.out, HY22.out⟩
      · skip
        refine takeP_one rfl (fun K hK => ?_)
        go_wp2_with fail
        obtain ⟨w23, hw⟩ : ∃ x, x = w7.alloc (.cells #[.slice px X.length cx, .slice py Y.length cy] 22) := ⟨_, rfl⟩
        rw [← hw]
        obtain ⟨hB, hP⟩ := two_lists hw HX7.out HY7.out
        have HP223 := Lib.hid hP
        have HB23 := Lib.hid (HB7.out.trans (hB.mono HB7.out.size))
        have HT23 := Lib.hid (I.below HT7.out hB)
        have HX23 := Lib.hid (HX7.out.below hB)
        have HY23 := Lib.hid (HY7.out.below hB)
        refine hK _ _ HB23.out ?_
        clear hK K hw hB hP HB7 HT7 HX7 HY7
        obtain ⟨nb, hnb⟩ : ∃ nb, w7.heap.size = nb := ⟨_, rfl⟩
        rw [hnb] at HP223 ⊢
        clear hnb
        refine takeP_one rfl (fun K hK => ?_)
        go_wp2_with fail
        obtain ⟨w24, hw⟩ : ∃ x, x = w23.alloc (.cells #[.slice p1 q.length c1, .slice p2 r.length c2] 22) := ⟨_, rfl⟩
        rw [← hw]
        obtain ⟨hB, hP⟩ := two_lists hw (HA.out _ HB23.out).2 (HA2.out _ HB23.out).2
        have HP124 := Lib.hid hP
        have HB24 := Lib.hid (HB23.out.trans (hB.mono HB23.out.size))
        have HT24 := Lib.hid (I.below HT23.out hB)
        have HX24 := Lib.hid (HX23.out.below hB)
        have HY24 := Lib.hid (HY23.out.below hB)
        have HP224 := Lib.hid (HP223.out.below hB)
        refine hK _ _ HB24.out ?_
        clear hK K hw hB hP HB23 HT23 HX23 HY23 HP223
        obtain ⟨na, hna⟩ : ∃ na, w23.heap.size = na := ⟨_, rfl⟩
        rw [hna] at HP124 ⊢
        clear hna
        refine takeP_one rfl (fun K hK => ?_)
        go_wp2_with fail
        refine (I.union _ [q, r] _ HT24.out HP124.out HLL1.out).mono ?_
        rintro e w25 ⟨r3, rfl, hO⟩
        rw [HUe.out] at hO
        have HU25 := Lib.hid hO.rd
        obtain ⟨pu, cu, hv⟩ := hO.shape
        subst hv
        have HB25 := Lib.hid (HB24.out.trans (hO.bel.mono HB24.out.size))
        have HT25 := Lib.hid (I.below HT24.out hO.bel)
        have HX25 := Lib.hid (HX24.out.below hO.bel)
        have HY25 := Lib.hid (HY24.out.below hO.bel)
        have HP225 := Lib.hid (HP224.out.below hO.bel)
        have HP125 := Lib.hid (HP124.out.below hO.bel)
        refine hK _ _ HB25.out ?_
        clear hK K hO HB24 HT24 HX24 HY24 HP224 HP124
        refine takeP_one rfl (fun K hK => ?_)
        go_wp2_with fail
        refine (I.compl _ U (n : Int) _ HT25.out HU25.out HUa.out HUs.out (by omega) (by omega)).mono ?_
        rintro e w26 ⟨r4, rfl, hO⟩
        rw [HMo.out] at hO
        have HC26 := Lib.hid hO.rd
        obtain ⟨pc, cc, hv⟩ := hO.shape
        subst hv
        have HB26 := Lib.hid (HB25.out.trans (hO.bel.mono HB25.out.size))
        have HT26 := Lib.hid (I.below HT25.out hO.bel)
        have HX26 := Lib.hid (HX25.out.below hO.bel)
        have HY26 := Lib.hid (HY25.out.below hO.bel)
        have HP226 := Lib.hid (HP225.out.below hO.bel)
        have HP126 := Lib.hid (HP125.out.below hO.bel)
        have HU26 := Lib.hid (HU25.out.below hO.bel)
        refine hK _ _ HB26.out ?_
        clear hK K hO HB25 HT25 HX25 HY25 HP225 HP125 HU25
        refine takeP_one rfl (fun K hK => ?_)
        go_wp2_with fail
        refine (I.inter _ [X, Y] _ HT26.out HP226.out HLL2.out).mono ?_
        rintro e w27 ⟨r5, rfl, hO⟩
        rw [HZe.out] at hO
        have HI27 := Lib.hid hO.rd
        obtain ⟨pi, ci, hv⟩ := hO.shape
        subst hv
        have HB27 := Lib.hid (HB26.out.trans (hO.bel.mono HB26.out.size))
        have HT27 := Lib.hid (I.below HT26.out hO.bel)
        have HX27 := Lib.hid (HX26.out.below hO.bel)
        have HY27 := Lib.hid (HY26.out.below hO.bel)
        have HP227 := Lib.hid (HP226.out.below hO.bel)
        have HP127 := Lib.hid (HP126.out.below hO.bel)
        have HU27 := Lib.hid (HU26.out.below hO.bel)
        have HC27 := Lib.hid (HC26.out.below hO.bel)
        refine hK _ _ HB27.out ?_
        clear hK K hO HB26 HT26 HX26 HY26 HP226 HP126 HU26 HC26
        refine takeP_one rfl (fun K hK => ?_)
        go_wp2_with fail
        have HEq := Lib.hid (equal_int _ _ Z Z w27 HC27.out HI27.out)
        rw [decide_eq_true rfl] at HEq
        refine HEq.out.mono ?_
        rintro e w28 ⟨rfl, hB⟩
        have HB28 := Lib.hid (HB27.out.trans (hB.mono HB27.out.size))
        have HT28 := Lib.hid (I.below HT27.out hB)
        have HX28 := Lib.hid (HX27.out.below hB)
        have HY28 := Lib.hid (HY27.out.below hB)
        have HP228 := Lib.hid (HP227.out.below hB)
        have HP128 := Lib.hid (HP127.out.below hB)
        have HU28 := Lib.hid (HU27.out.below hB)
        have HC28 := Lib.hid (HC27.out.below hB)
        have HI28 := Lib.hid (HI27.out.below hB)
        refine hK _ _ HB28.out ?_
        clear hK K hB HEq HB27 HT27 HX27 HY27 HP227 HP127 HU27 HC27 HI27
        (refine takeP_blind rfl ?_; apply Exists.intro; refine ⟨fun w => ?_, ?_⟩; (go_simp; try with_reducible rfl); simp only [Act.put, List.setIfInBounds_toArray, List.set_cons_succ, List.set_cons_zero])
        (refine takeP_blind rfl ?_; apply Exists.intro; refine ⟨fun w => ?_, ?_⟩; (go_simp; try with_reducible rfl); simp only [Act.put, List.setIfInBounds_toArray, List.set_cons_succ, List.set_cons_zero])
        refine takeP_done ⟨rfl, ?_⟩
        go_wp2_with fail
        go_meet
        exact ⟨rfl, HB28.out, HX28.out, HY28.out⟩
    case rest =>
    obtain ⟨rfl, HBX⟩ := hcut
    have HB99 : Hid (Below w2.heap.size w2 wc) := HBX.out.1
    have HX99 := Lib.hid HBX.out.2.1
    have HY99 := Lib.hid HBX.out.2.2
    have HT99 := Lib.hid (I.below HT2.out HB99.out)
    clear HBX HB24 HT4 HX4 HY4
    go_wp2_with fail
    refine (I.compl _ [] (n : Int) _ HT99.out (Rd.nil _ _) List.Pairwise.nil ⟨by simp, fun x hx => by cases hx⟩ (by omega) (by omega)).mono ?_
    rintro e wa ⟨r6, rfl, hO⟩
    have HVa := Lib.hid hO.rd
    obtain ⟨pa, ca, hv⟩ := hO.shape
    subst hv
    have HBa := Lib.hid (HB99.out.trans (hO.bel.mono HB99.out.size))
    have HTa := Lib.hid (I.below HT99.out hO.bel)
    have HXa2 := Lib.hid (HX99.out.below hO.bel)
    have HYa2 := Lib.hid (HY99.out.below hO.bel)
    clear hO HB99 HT99 HX99 HY99
    generalize complZ [] (n : Int) = V at *
    obtain ⟨nv, hnv⟩ : ∃ nv, V.length = nv := ⟨_, rfl⟩
    have HNv := Lib.hid hnv
    have hAe : (nv : Int) = (n : Int) := by have := HAn.out; rw [hnv] at this; omega
    rw [hnv] at HVa ⊢
    clear hnv
    go_wp2_with fail
    refine (HAL.out _ HTa.out).mono ?_
    rintro e wb ⟨rfl, hB⟩
    have HBb := Lib.hid (HBa.out.trans (hB.mono HBa.out.size))
    have HTb := Lib.hid (I.below HTa.out hB)
    have HXb := Lib.hid (HXa2.out.below hB)
    have HYb := Lib.hid (HYa2.out.below hB)
    have HVb := Lib.hid (HVa.out.below hB)
    obtain ⟨d0, d1, _⟩ := HC.out wb HBb.out
    clear hB HBa HTa HXa2 HYa2 HVa
    go_wp2_with fail
    refine (I.diff _ _ V q wb HTb.out (by rw [HNv.out]; exact HVb.out) (HA.out _ HBb.out).2 HAa.out HAs.out HAz.out HSm.out).mono ?_
    rintro e wc ⟨r7, rfl, hO⟩
    rw [HDa.out] at hO
    have HBc := Lib.hid (HBb.out.trans (hO.bel.mono HBb.out.size))
    have HTc := Lib.hid (I.below HTb.out hO.bel)
    have HXc := Lib.hid (HXb.out.below hO.bel)
    have HYc := Lib.hid (HYb.out.below hO.bel)
    have HEq := Lib.hid (equal_int _ _ X X wc hO.rd HXc.out)
    rw [decide_eq_true rfl] at HEq
    obtain ⟨pd, cd, hv⟩ := hO.shape
    subst hv
    clear hO HBb HTb HXb HYb HVb d0 d1
    go_wp2_with fail
    refine HEq.out.mono ?_
    rintro e wd ⟨rfl, hB⟩
    have HBe := Lib.hid (HBc.out.trans (hB.mono HBc.out.size))
    have HTe := Lib.hid (I.below HTc.out hB)
    have HXe := Lib.hid (HXc.out.below hB)
    have HYe := Lib.hid (HYc.out.below hB)
    obtain ⟨d0, d1, _⟩ := HC.out wd HBe.out
    clear hB HEq HBc HTc HXc HYc
    go_wp2_with fail
    refine (I.diff _ _ X r wd HTe.out HXe.out (HA2.out _ HBe.out).2 HXa.out HAk.out HXs.out HSk.out).mono ?_
    rintro e wf ⟨r8, rfl, hO⟩
    rw [HDc.out] at hO
    have HD := Lib.hid hO.rd
    have HBf := Lib.hid (HBe.out.trans (hO.bel.mono HBe.out.size))
    have HTf := Lib.hid (I.below HTe.out hO.bel)
    have HXf := Lib.hid (HXe.out.below hO.bel)
    have HYf := Lib.hid (HYe.out.below hO.bel)
    obtain ⟨pe, ce, hv⟩ := hO.shape
    subst hv
    clear hO HBe HTe HXe HYe d0 d1
    go_wp2_with fail
    obtain ⟨wg, hw⟩ : ∃ x, x = wf.alloc (.cells #[.slice px X.length cx, .slice py Y.length cy] 22) := ⟨_, rfl⟩
    rw [← hw]
    obtain ⟨hB, hP⟩ := two_lists hw HXf.out HYf.out
    have HP := Lib.hid hP
    have HBg := Lib.hid (HBf.out.trans (hB.mono HBf.out.size))
    have HTg := Lib.hid (I.below HTf.out hB)
    have HDg := Lib.hid (HD.out.below hB)
    clear hw hB hP HBf HTf HXf HYf HD
    try go_wp2_with fail
    refine (I.inter _ [X, Y] _ HTg.out HP.out HLL2.out).mono ?_
    rintro e wh ⟨r9, rfl, hO⟩
    rw [HZe.out] at hO
    have HBh := Lib.hid (HBg.out.trans (hO.bel.mono HBg.out.size))
    have HEq := Lib.hid (equal_int _ _ Z Z wh (HDg.out.below hO.bel) hO.rd)
    rw [decide_eq_true rfl] at HEq
    obtain ⟨pf, cf, hv⟩ := hO.shape
    subst hv
    clear hO HBg HTg HDg HP
    go_wp2_with fail
    refine HEq.out.mono ?_
    rintro e wi ⟨rfl, hB⟩
    have HBi := Lib.hid (HB2.out.trans ((HBh.out.trans (hB.mono HBh.out.size)).mono HB2.out.size))
    go_wp2_with fail
    go_ret
    exact ⟨rfl, HBi.out⟩
end Go.Proofs.Ytdhcfgbnjnidfaa.listsMorgan
