/- Layer 14: ListsForgetOrder, walked over the interface. -/
import Derived.Test.YtdhcfgbnjnidfaaWalkListsCombine14
import Derived.Test.YtdhcfgbnjnidfaaConcatLL
import Derived.Test.YtdhcfgbnjnidfaaTurnLL
import Derived.Test.YtdhcfgbnjnidfaaEqualI
import Derived.Test.YtdhcfgbnjnidfaaTakeR
set_option linter.unusedVariables false
namespace Go.Proofs.Ytdhcfgbnjnidfaa.listsForgetOrder
open Go Go.RowKit
variable {G : Nat} {T : World → Prop}

theorem i64s_set (zs : List Int) (i : Nat) (z : Int) : (i64s zs).set i (.int .i64 z) = i64s (zs.set i z) := by simp [i64s, List.map_set]
/-- A row of the call's own is stored into. -/
theorem own_set {w : World} {base : Nat} {zs : List Int} {g n c i : Nat} {z : Int} (h : w.ownsRow base 3 1 (.slice (some ⟨g, 0, none⟩) n c) n (i64s zs)) : (w.setCell ⟨g, i, none⟩ (.int .i64 z)).ownsRow base 3 1 (.slice (some ⟨g, 0, none⟩) n c) n (i64s (zs.set i z)) := by
  rw [← i64s_set]
  exact (h.stored i _).1
theorem inter_len {q : List (List Int)} (h : ∀ l ∈ q, l.length ≤ 1000) : (interZ q).length ≤ 1000 := by
  cases q with
  | nil => simp [interZ]
  | cons a q => exact Nat.le_trans (List.length_filter_le _ _) (h a (by simp))

set_option maxRecDepth 20000 in
set_option maxHeartbeats 16000000 in
theorem walk (I : LiIf G T) (hal : ∀ w, T w → Calls Try.prog 9 #[] w fun e w' => e = .returned (.bool true) ∧ Below w.heap.size w w')
    (w : World) (hT : T w) (lv : Value) (m : List (List Int)) (okl : ∀ l ∈ m, ∀ x ∈ l, -9223372036854775808 ≤ x ∧ x < 9223372036854775808) (hl : RdLL w lv m) (k : Nat) (hk : k < 256) :
    Calls Try.prog 7 #[lv, .int .u8 (k : Int)] w fun e w' => e = .returned (.bool true) ∧ Below w.heap.size w w' := by
  have HT := Lib.hid hT; have HAL := Lib.hid hal
  have HS := Lib.hid okl; have HL := Lib.hid hl
  have HSo := Lib.hid (sorted14s _ m w hl)
  obtain ⟨pl, cl, hv⟩ := hl.shape
  subst hv
  clear hT hal hl okl
  go_enter Try.func7, Try.ntmps7
  go_wp2_with fail
  refine HSo.out.mono ?_
  rintro e w2 ⟨he, hB⟩
  have HB2 := Lib.hid hB
  have HT2 := Lib.hid (I.below HT.out hB)
  clear HT hB HSo
  rcases he with ⟨_, rfl⟩ | ⟨hsm, v, rfl, hm⟩
  · go_wp2_with fail
    refine (HAL.out _ HT2.out).mono ?_
    rintro e wz ⟨rfl, hB⟩
    have HBz := Lib.hid (HB2.out.trans (hB.mono HB2.out.size))
    go_wp2_with fail
    go_ret
    exact ⟨rfl, HBz.out⟩
  · have HSl := Lib.hid (listsCombine.sortedLL_map hsm HS.out)
    have HQm : Hid (m.flatten.length + m.length ≤ 300) := hsm
    have HQ := Lib.hid hm
    have HQl : Hid ((m.map sortZ).length ≤ 300) := by show _ ≤ _; rw [List.length_map]; omega
    clear hsm HS
    obtain ⟨M, hM1, hM2, hM3⟩ := hm.heads
    have HMe := Lib.hid hM1; have HMr := Lib.hid hM2; have HMp := Lib.hid hM3
    clear hm hM1 hM2 hM3
    have HML : Hid (M.length = (m.map sortZ).length) := by show _ = _; rw [← HMe.out, List.length_map]
    obtain ⟨q, hq⟩ : ∃ q, m.map sortZ = q := ⟨_, rfl⟩
    have HQe := Lib.hid hq
    rw [hq] at HSl HQ HQl HMe HML
    clear hq
    obtain ⟨pm, cm, hv⟩ := HQ.out.shape
    subst hv
    by_cases h0 : q.length = 0
    · have h2 : (q.length : Int) = 0 := by omega
      clear h0
      go_wp2_with fail
      refine (HAL.out _ HT2.out).mono ?_
      rintro e wz ⟨rfl, hB⟩
      have HBz := Lib.hid (HB2.out.trans (hB.mono HB2.out.size))
      go_wp2_with fail
      go_ret
      exact ⟨rfl, HBz.out⟩
    · have h2 : ¬ (q.length : Int) = 0 := by omega
      have h2b : ((q.length : Int) == 0) = false := by rw [beq_eq_false_iff_ne]; exact h2
      have HN : Hid (q.length ≤ 300 ∧ 0 < q.length) := ⟨HQl.out, by omega⟩
      obtain ⟨i, hi⟩ : ∃ i, k % q.length = i := ⟨_, rfl⟩
      have hil : i < q.length := by rw [← hi]; exact Nat.mod_lt _ (by omega)
      have hI : (k : Int) % (q.length : Int) = (i : Int) := by rw [← hi]; simp
      have hIt : (k : Int).tmod (q.length : Int) = (i : Int) := by rw [← hi, Int.ofNat_tmod]
      have HIl : Hid (i < q.length) := hil
      clear h0 hi hil
      have HLz : Hid ((M.map Prod.fst).length = q.length) := by show _ = _; rw [List.length_map]; exact HML.out
      have HR0 : Hid (Rd w2 1 (.slice pm q.length cm) q.length (slZs (M.map Prod.fst))) := by have := HMr.out; rw [HML.out] at this; exact this
      obtain ⟨pf, cf, hsl, hRf⟩ : ∃ p c, sliced pm i q.length cm 1 = .slice p ((M.map Prod.fst).drop i).length c ∧ Rd w2 1 (.slice p ((M.map Prod.fst).drop i).length c) ((M.map Prod.fst).drop i).length (slZs ((M.map Prod.fst).drop i)) := by
        have h := HR0.out.from i (Nat.le_of_lt HIl.out)
        obtain ⟨p, c, e⟩ := h.shape
        rw [List.length_drop, HLz.out]
        refine ⟨p, c, e, ?_⟩
        rw [e, Nat.mul_one, slZs_drop] at h
        exact h
      have HF := Lib.hid hRf
      have HSd := Lib.hid hsl
      have HBl : Hid (((M.map Prod.fst).take i).length = i) := by show _ = _; rw [List.length_take, HLz.out, Nat.min_eq_left (Nat.le_of_lt HIl.out)]
      have HU : Hid (Rd w2 1 (.slice pm ((M.map Prod.fst).take i).length cm) ((M.map Prod.fst).take i).length (slZs ((M.map Prod.fst).take i))) := by
        have h := HR0.out.upto i (Nat.le_of_lt HIl.out)
        rw [Nat.mul_one, slZs_take] at h
        show Rd _ _ _ _ _
        rw [HBl.out]
        exact h
      have HCl : Hid (q.length ≤ cm) := by
        obtain ⟨_, _, e, _, h, _⟩ := HR0.out
        simp only [Value.slice.injEq] at e
        obtain ⟨_, _, rfl⟩ := e
        exact h
      clear hsl hRf HR0
      go_wp2_with fail
      refine wp_region_takeH (fun _ => True) [6, 7] [0, 1, 2, 3, 4, 5, 6, 7, 8] (by kernel_rfl) (by kernel_rfl) (by kernel_rfl) ?_ trivial ?_
      · intro c a a' w hd h; exact ⟨hd ▸ h.1, h.2⟩
      simp only [taken, List.map_cons, List.map_nil, List.getElem?_cons_succ, List.getElem?_cons_zero, Option.getD_some]
      repeat (first
        | (refine takeH_skip rfl ?_; simp only [Act.put, List.setIfInBounds_toArray, List.set_cons_succ, List.set_cons_zero])
        | (refine takeH_blind rfl rfl ?_; apply Exists.intro; refine ⟨fun w => ?_, ?_⟩; (go_simp; try with_reducible rfl); simp only [Act.put, List.setIfInBounds_toArray, List.set_cons_succ, List.set_cons_zero]))
      refine takeH_read rfl rfl (.slice pf ((M.map Prod.fst).drop i).length cf) (fun w' _ => (exec_from elemLL14 w' pm q.length cm i (Nat.le_of_lt HIl.out) (.tmp 34) (.tmp 35) rfl rfl rfl).trans (by rw [HSd.out])) ?_
      simp only [Act.put, List.setIfInBounds_toArray, List.set_cons_succ, List.set_cons_zero]
      repeat (first
        | (refine takeH_skip rfl ?_; simp only [Act.put, List.setIfInBounds_toArray, List.set_cons_succ, List.set_cons_zero])
        | (refine takeH_blind rfl rfl ?_; apply Exists.intro; refine ⟨fun w => ?_, ?_⟩; (go_simp; try with_reducible rfl); simp only [Act.put, List.setIfInBounds_toArray, List.set_cons_succ, List.set_cons_zero]))
      refine takeH_read rfl rfl (.slice pm ((M.map Prod.fst).take i).length cm) (fun w' _ => by rw [HBl.out]; exact exec_upto elemLL14 w' pm q.length cm i (Nat.le_of_lt HIl.out) HCl.out (.tmp 37) (.tmp 38) rfl rfl rfl) ?_
      simp only [Act.put, List.setIfInBounds_toArray, List.set_cons_succ, List.set_cons_zero]
      have HSm : Hid (((M.map Prod.fst).drop i).length + ((M.map Prod.fst).take i).length = q.length) := by show _ = _; rw [List.length_drop, List.length_take, HLz.out]; have := HIl.out; omega
      have HTm : Hid ((turnM M i).map Prod.fst = ((M.map Prod.fst).drop i ++ (M.map Prod.fst).take i).reverse) := turn_map Prod.fst M i
      have HTs : Hid ((turnM M i).map Prod.snd = turnM q i) := by show _ = _; rw [turn_map, HMe.out]
      have HTp : Hid (∀ p ∈ turnM M i, Rd w2 1 (slV p.1) p.2.length (i64s p.2)) := fun p hp => HMp.out p ((turn_perm M i).mem_iff.1 hp)
      have HTl : Hid ((turnM M i).length = q.length) := by show _ = _; rw [(turn_perm M i).length_eq]; exact HML.out
      have HQp : Hid ((turnM q i).Perm q) := turn_perm q i
      clear HSd HBl HMp HMr HMe HLz
      generalize (M.map Prod.fst).drop i = A at *
      generalize (M.map Prod.fst).take i = B at *
      generalize turnM M i = Mt at *
      generalize turnM q i = qt at *
      obtain ⟨C, hC⟩ : ∃ C, A ++ B = C := ⟨_, rfl⟩
      have HCe := Lib.hid hC
      have HCl2 : Hid (C.length = q.length) := by show _ = _; rw [← hC, List.length_append]; exact HSm.out
      rw [hC] at HTm
      clear hC
      refine takeH_call rfl rfl (fun K' hK => ?_)
      go_wp2_with fail
      obtain ⟨w3, hw3⟩ : ∃ w3, (w2.alloc (.cells #[.slice pf A.length cf, .slice pm B.length cm] 25)).drew = w3 := ⟨_, rfl⟩
      have hB3 : Below w2.heap.size w2 w3 := by rw [← hw3]; exact Below.drew ((Below.refl _ w2).alloc (Nat.le_refl _) _)
      have hb1 : Blk w3 w2.heap.size [.slice pf A.length cf, .slice pm B.length cm] := by rw [← hw3]; exact (Blk.new w2 _ _).of_same rfl
      have hc1 : w3.cell? ⟨w2.heap.size, 0, none⟩ = some (.slice pf A.length cf) := by rw [hb1.cell]; rfl
      have hc2 : w3.cell? ⟨w2.heap.size, 1, none⟩ = some (.slice pm B.length cm) := by rw [hb1.cell]; rfl
      have HCc := Lib.hid (concat_ll w2.heap.size _ _ A B w3 (HF.out.below hB3) (HU.out.below hB3) hc1 hc2 (by have := HSm.out; have := HN.out; omega))
      rw [HCe.out] at HCc
      have HB23 := Lib.hid hB3
      rw [hw3]
      refine hK _ _ trivial ?_
      clear hK K' hB3 hb1 hc1 hc2 hw3
      refine takeH_call rfl rfl (fun K' hK => ?_)
      go_wp2_with fail
      refine HCc.out.mono ?_
      rintro e w4 ⟨r2, rfl, hM⟩
      have HO4 := Lib.hid hM.1
      have HB24 := Lib.hid (HB23.out.trans (hM.2.mono HB23.out.size))
      have HF4 : Hid (∀ j, r2.ownBlock = some j → w2.heap.size ≤ j) := fun j hj => Nat.le_trans HB23.out.size (hM.1.lt j hj).1
      obtain ⟨p2, c2, hv2⟩ := (Rd.of_owns hM.1).shape
      subst hv2
      refine hK _ _ trivial ?_
      clear hK K' hM HCc HB23
      repeat (first
        | (refine takeH_skip rfl ?_; simp only [Act.put, List.setIfInBounds_toArray, List.set_cons_succ, List.set_cons_zero])
        | (refine takeH_blind rfl rfl ?_; apply Exists.intro; refine ⟨fun w => ?_, ?_⟩; (go_simp; try with_reducible rfl); simp only [Act.put, List.setIfInBounds_toArray, List.set_cons_succ, List.set_cons_zero]))
      refine takeH_nil ?_
      go_wp2_with fail
      refine (reverse_ll _ _ C w4 HO4.out (by have := HCl2.out; have := HN.out; omega)).mono ?_
      rintro e w5 ⟨rfl, hR, hMd⟩
      have hb5 : Below w2.heap.size w4 w5 := hMd.below HB24.out.size (fun j hj e => by have := HF4.out j e; omega)
      have HB25 := Lib.hid (HB24.out.trans hb5)
      have HB5 := Lib.hid (HB2.out.trans (HB25.out.mono HB2.out.size))
      have HT5 := Lib.hid (I.below HT2.out HB25.out)
      have HQ5 := Lib.hid (HQ.out.below HB25.out)
      have HX5 : Hid (RdLL w5 (.slice p2 C.length c2) qt) := by
        show RdLL _ _ _
        rw [← HTs.out]
        refine RdLL.of_heads ?_ (fun p hp => (HTp.out p hp).below HB25.out)
        rw [HTm.out, HTl.out, ← HCl2.out]
        exact Rd.of_owns hR
      have HCq : Hid (C.length = qt.length) := by show _ = _; rw [HCl2.out, HQp.out.length_eq]
      rw [HCq.out] at HX5 ⊢
      clear hR hMd hb5 HO4 HF4 HF HU HTp HTm HTs HCe HSm HTl HB24 HT2
      have HSlt : Hid (SortedLL qt) := ⟨fun l hl => HSl.out.asc l (HQp.out.mem_iff.1 hl), fun l hl => HSl.out.small l (HQp.out.mem_iff.1 hl), by rw [HQp.out.length_eq]; exact HSl.out.len, by rw [HQp.out.flatten.length_eq]; exact HSl.out.flat⟩
      have HEi : Hid (interZ q = interZ qt) := (inter_perm HQp.out HSlt.out.asc).symm
      have HEu : Hid (unionZ q = unionZ qt) := (union_perm HQp.out).symm
      clear HQp HCq HCl2 HIl hI hIt HML
      go_wp2_with fail
      refine (I.inter _ q w5 HT5.out HQ5.out HSl.out).mono ?_
      rintro e w6 ⟨r1, rfl, hO⟩
      have HA6 := Lib.hid hO.row
      have HB56 := Lib.hid hO.bel
      have HT6 := Lib.hid (I.below HT5.out hO.bel)
      obtain ⟨p6, c6, hv⟩ := hO.shape
      subst hv
      clear hO
      go_wp2_with fail
      refine (I.union _ q w6 HT6.out (HQ5.out.below HB56.out) HSl.out).mono ?_
      rintro e w7 ⟨r2, rfl, hO⟩
      have HU7 := Lib.hid hO.row
      have HA7 := Lib.hid ((Mods.of_below hO.bel (fun _ => False)).owns HA6.out (fun _ _ e => e))
      have HB57 := Lib.hid (HB56.out.trans (hO.bel.mono HB56.out.size))
      have HT7 := Lib.hid (I.below HT6.out hO.bel)
      have HLt : Hid (∀ k, (Value.slice p6 (interZ q).length c6).ownBlock = some k → k < w6.heap.size) := fun k hk => (HA6.out.lt k hk).2
      have HL56 : Hid (w5.heap.size ≤ w6.heap.size) := HB56.out.size
      obtain ⟨p7, c7, hv⟩ := hO.shape
      subst hv
      clear hO HA6 HT6 HB56
      go_wp2_with fail
      refine (I.inter _ qt w7 HT7.out (HX5.out.below HB57.out) HSlt.out).mono ?_
      rintro e w8 ⟨r3, rfl, hO⟩
      have HA8 := Lib.hid ((Mods.of_below hO.bel (fun _ => False)).owns HA7.out (fun _ _ e => e))
      have HU8 := Lib.hid ((Mods.of_below hO.bel (fun _ => False)).owns HU7.out (fun _ _ e => e))
      have HB58 := Lib.hid (HB57.out.trans (hO.bel.mono HB57.out.size))
      have HT8 := Lib.hid (I.below HT7.out hO.bel)
      have HEq := Lib.hid (equal_int _ _ (interZ q) (interZ qt) w8 (Rd.of_owns HA8.out) hO.rd)
      rw [decide_eq_true HEi.out] at HEq
      obtain ⟨p8, c8, hv⟩ := hO.shape
      subst hv
      clear hO HA7 HU7 HB57 HT7
      go_wp2_with fail
      refine HEq.out.mono ?_
      rintro e w9 ⟨rfl, hB⟩
      have HA9 := Lib.hid ((Mods.of_below hB (fun _ => False)).owns HA8.out (fun _ _ e => e))
      have HU9 := Lib.hid ((Mods.of_below hB (fun _ => False)).owns HU8.out (fun _ _ e => e))
      have HB59 := Lib.hid (HB58.out.trans (hB.mono HB58.out.size))
      have HT9 := Lib.hid (I.below HT8.out hB)
      clear hB HEq HA8 HU8 HB58 HT8
      go_wp2_with fail
      refine (I.union _ qt w9 HT9.out (HX5.out.below HB59.out) HSlt.out).mono ?_
      rintro e wa ⟨r4, rfl, hO⟩
      have HAa := Lib.hid ((Mods.of_below hO.bel (fun _ => False)).owns HA9.out (fun _ _ e => e))
      have HUa := Lib.hid ((Mods.of_below hO.bel (fun _ => False)).owns HU9.out (fun _ _ e => e))
      have HB5a := Lib.hid (HB59.out.trans (hO.bel.mono HB59.out.size))
      have HTa := Lib.hid (I.below HT9.out hO.bel)
      have HEq := Lib.hid (equal_int _ _ (unionZ q) (unionZ qt) wa (Rd.of_owns HUa.out) hO.rd)
      rw [decide_eq_true HEu.out] at HEq
      obtain ⟨pa, ca, hv⟩ := hO.shape
      subst hv
      clear hO HA9 HU9 HB59 HT9
      go_wp2_with fail
      refine HEq.out.mono ?_
      rintro e wb ⟨rfl, hB⟩
      have HAb := Lib.hid ((Mods.of_below hB (fun _ => False)).owns HAa.out (fun _ _ e => e))
      have HUb := Lib.hid ((Mods.of_below hB (fun _ => False)).owns HUa.out (fun _ _ e => e))
      have HB5b := Lib.hid (HB5a.out.trans (hB.mono HB5a.out.size))
      clear hB HEq HAa HUa HB5a HTa HX5 HSlt HEi HEu
      have HZi : Hid ((interZ q).length ≤ 1000000000 ∧ (unionZ q).length ≤ 1000000000) := by
        have h1 := inter_len (fun l hl => (HSl.out.small l hl).1)
        have h2 : (unionZ q).length ≤ q.flatten.length := tabB_len _
        have h3 := HSl.out.flat
        exact ⟨by omega, by omega⟩
      generalize interZ q = zi at *
      generalize unionZ q = zu at *
      have hzi : (zi.length : Int) ≤ 1000000000 := by have := HZi.out.1; omega
      have hzu : (zu.length : Int) ≤ 1000000000 := by have := HZi.out.2; omega
      obtain ⟨ni, hni⟩ : ∃ ni, zi.length = ni := ⟨_, rfl⟩
      obtain ⟨nu, hnu⟩ : ∃ nu, zu.length = nu := ⟨_, rfl⟩
      have HNi : Hid (zi.length = ni) := hni
      have HNu : Hid (zu.length = nu) := hnu
      rw [hni] at hzi HLt HAb ⊢
      rw [hnu] at hzu HUb ⊢
      clear hni hnu HZi
      go_wp2_with fail
      go_loopw [62] (fun iv wr => ∃ (j : Nat) (zs : List Int), j ≤ ni ∧ iv = .int .i64 (j : Int) ∧ zs.length = ni ∧ Hid (wr.ownsRow w5.heap.size 3 1 (.slice p6 ni c6) ni (i64s zs)) ∧ Hid (∃ us : List Int, us.length = nu ∧ wr.ownsRow w6.heap.size 3 1 (.slice p7 nu c7) nu (i64s us)) ∧ Hid (Below w5.heap.size w5 wr)) (fun iv _ => ni - (intOf iv).toNat)
      case atStart => exact ⟨0, zi, Nat.zero_le _, rfl, HNi.out, HAb.out, ⟨zu, HNu.out, HUb.out⟩, HB5b.out⟩
      case round =>
        obtain ⟨j, zs, hj, rfl, hzs, HR, HX, HB⟩ := hrel
        have hjm : (j : Int) ≤ 1000000000 := by omega
        by_cases hlt : j < ni
        · have hlt' : (j : Int) < (ni : Int) := by omega
          obtain ⟨g, cap, hvv⟩ : ∃ g cap, (Value.slice p6 ni c6) = .slice (some ⟨g, 0, none⟩) ni cap := by
            rcases owns_cases HR.out with ⟨_, h0, _⟩ | ⟨g, cap, hv, _⟩
            · omega
            · exact ⟨g, cap, hv⟩
          simp only [Value.slice.injEq] at hvv
          obtain ⟨rfl, _, rfl⟩ := hvv
          obtain ⟨z, hz⟩ : ∃ z, zs[j]? = some z := ⟨_, List.getElem?_eq_getElem (by omega)⟩
          have hcj : wr.cell? ⟨g, j, none⟩ = some (.int .i64 z) := by
            rw [HR.out.cellAt j (by omega), i64s, List.getElem?_map, hz]; rfl
          have hfj := HR.out.frozenAt j
          have hg1 := (HR.out.lt g rfl).1
          have hg2 := HLt.out g rfl
          have HF : Hid (∀ u : Int, (wr.setCell ⟨g, j, none⟩ (.int .i64 u)).ownsRow w5.heap.size 3 1 (.slice (some ⟨g, 0, none⟩) ni c6) ni (i64s (zs.set j u)) ∧ (∃ us : List Int, us.length = nu ∧ (wr.setCell ⟨g, j, none⟩ (.int .i64 u)).ownsRow w6.heap.size 3 1 (.slice p7 nu c7) nu (i64s us)) ∧ Below w5.heap.size w5 (wr.setCell ⟨g, j, none⟩ (.int .i64 u))) := fun u => by
            have hm : Mods (fun k => k = g) wr (wr.setCell ⟨g, j, none⟩ (.int .i64 u)) := Mods.set _ _ _ _ (fun _ => rfl)
            obtain ⟨us, h1, h2⟩ := HX.out
            exact ⟨own_set HR.out, ⟨us, h1, hm.owns h2 (fun k hk e => by have := (h2.lt k hk).1; have : k = g := e; omega)⟩, HB.out.trans (hm.below HB.out.size (fun k hk e => by have : k = g := e; omega))⟩
          have HZs : Hid (zs.length = ni) := hzs
          clear hz hzs HR HX HB hg1 hg2 HAb HUb HB5b
          go_wp2_with fail
          go_round
          case rel => exact ⟨j + 1, zs.set j _, by omega, by go_num, by rw [List.length_set]; exact HZs.out, (HF.out _).1, (HF.out _).2.1, (HF.out _).2.2⟩
          case measure => simp [intOf]; omega
        · have hlt' : ¬ (j : Int) < (ni : Int) := by omega
          clear HR HAb HUb HB5b hzs HLt
          go_wp2_with fail
          go_loopw [74] (fun iv wr => ∃ (j : Nat), j ≤ nu ∧ iv = .int .i64 (j : Int) ∧ Hid (∃ us : List Int, us.length = nu ∧ wr.ownsRow w6.heap.size 3 1 (.slice p7 nu c7) nu (i64s us)) ∧ Hid (Below w5.heap.size w5 wr)) (fun iv _ => nu - (intOf iv).toNat)
          case atStart => exact ⟨0, Nat.zero_le _, rfl, HX.out, HB.out⟩
          case round =>
            obtain ⟨j2, hj2, rfl, HX2, HBw⟩ := hrel
            clear HX HB hlt hlt' hj hjm
            have hjm : (j2 : Int) ≤ 1000000000 := by omega
            obtain ⟨us, hus, hX⟩ := HX2.out
            have HR := Lib.hid hX
            clear hX HX2
            by_cases hlt : j2 < nu
            · have hlt' : (j2 : Int) < (nu : Int) := by omega
              obtain ⟨g, cap, hvv⟩ : ∃ g cap, (Value.slice p7 nu c7) = .slice (some ⟨g, 0, none⟩) nu cap := by
                rcases owns_cases HR.out with ⟨_, h0, _⟩ | ⟨g, cap, hv, _⟩
                · omega
                · exact ⟨g, cap, hv⟩
              simp only [Value.slice.injEq] at hvv
              obtain ⟨rfl, _, rfl⟩ := hvv
              obtain ⟨z, hz⟩ : ∃ z, us[j2]? = some z := ⟨_, List.getElem?_eq_getElem (by omega)⟩
              have hcj : wr.cell? ⟨g, j2, none⟩ = some (.int .i64 z) := by
                rw [HR.out.cellAt j2 (by omega), i64s, List.getElem?_map, hz]; rfl
              have hfj := HR.out.frozenAt j2
              have hg1 := (HR.out.lt g rfl).1
              have HF : Hid (∀ u : Int, (∃ us : List Int, us.length = nu ∧ (wr.setCell ⟨g, j2, none⟩ (.int .i64 u)).ownsRow w6.heap.size 3 1 (.slice (some ⟨g, 0, none⟩) nu c7) nu (i64s us)) ∧ Below w5.heap.size w5 (wr.setCell ⟨g, j2, none⟩ (.int .i64 u))) := fun u => by
                have hm : Mods (fun k => k = g) wr (wr.setCell ⟨g, j2, none⟩ (.int .i64 u)) := Mods.set _ _ _ _ (fun _ => rfl)
                exact ⟨⟨us.set j2 u, by rw [List.length_set]; exact hus, own_set HR.out⟩, HBw.out.trans (hm.below HBw.out.size (fun k hk e => by have : k = g := e; have := HL56.out; omega))⟩
              clear hz hus HR HBw hg1
              go_wp2_with fail
              go_round
              case rel => exact ⟨j2 + 1, by omega, by go_num, (HF.out _).1, (HF.out _).2⟩
              case measure => simp [intOf]; omega
            · have hlt' : ¬ (j2 : Int) < (nu : Int) := by omega
              have HBn := Lib.hid (HB5.out.trans (HBw.out.mono HB5.out.size))
              have HTn := Lib.hid (I.below HT5.out HBw.out)
              have HQn := Lib.hid (HQ5.out.below HBw.out)
              have HS2 := Lib.hid (sorted14s _ m wr (HL.out.below HBn.out))
              clear HR hus HBw HT5 HQ5 HB5 HQ HB2 HB25 HL
              go_wp2_with fail
              refine HS2.out.mono ?_
              rintro e wd ⟨he, hB⟩
              have HBd := Lib.hid (HBn.out.trans (hB.mono HBn.out.size))
              have HTd := Lib.hid (I.below HTn.out hB)
              have HQd := Lib.hid (HQn.out.below hB)
              rcases he with ⟨hbig, _⟩ | ⟨_, v, rfl, hm⟩
              · exact absurd HQm.out (by omega)
              · rw [HQe.out] at hm
                have HYd := Lib.hid hm
                clear hm hB HS2 HBn HTn HQn HQm HQe
                obtain ⟨py, cy, hv⟩ := HYd.out.shape
                subst hv
                have hqm : (q.length : Int) ≤ 300 := by have := HN.out; omega
                clear hlt hlt' hj2 hjm hzi hzu h2 h2b
                go_wp2_with fail
                go_loopw [91] (fun iv wr => ∃ (j : Nat), j ≤ q.length ∧ iv = .int .i64 (j : Int) ∧ Hid (Below wd.heap.size wd wr)) (fun iv _ => q.length - (intOf iv).toNat)
                case atStart => exact ⟨0, Nat.zero_le _, rfl, Below.refl _ _⟩
                case round =>
                  obtain ⟨j3, hj3, rfl, HBr⟩ := hrel
                  have hjm : (j3 : Int) ≤ 300 := by omega
                  by_cases hlt : j3 < q.length
                  · have hlt' : (j3 : Int) < (q.length : Int) := by omega
                    obtain ⟨l, hx⟩ : ∃ l, q[j3]? = some l := ⟨_, List.getElem?_eq_getElem hlt⟩
                    obtain ⟨b1, o1, r1, d1, e, hal1⟩ := HQd.out.always hx
                    subst e
                    obtain ⟨b2, o2, r2, d2, e, hal2⟩ := HYd.out.always hx
                    subst e
                    have HC : Hid (∀ w', Below wr.heap.size wr w' → w'.cell? ⟨b1, o1 + j3, none⟩ = some (.slice r1 l.length d1) ∧ w'.cell? ⟨b2, o2 + j3, none⟩ = some (.slice r2 l.length d2) ∧ True) := fun w' h => ⟨(hal1 w' (HBr.out.trans (h.mono HBr.out.size))).1, (hal2 w' (HBr.out.trans (h.mono HBr.out.size))).1, trivial⟩
                    have HEq : Hid (∀ w', Below wr.heap.size wr w' → Calls Try.prog 13 #[.slice r1 l.length d1, .slice r2 l.length d2] w' fun e w'' => e = .returned (.bool true) ∧ Below w'.heap.size w' w'') := fun w' h => by
                      have := equal_int (.slice r1 l.length d1) (.slice r2 l.length d2) l l w' (hal1 w' (HBr.out.trans (h.mono HBr.out.size))).2 (hal2 w' (HBr.out.trans (h.mono HBr.out.size))).2
                      rwa [decide_eq_true rfl] at this
                    clear hx hal1 hal2
                    go_wp2_with fail
                    refine wp_region_takeH (fun w' => Below wr.heap.size wr w') [8] [0, 1, 2, 3, 4, 5, 6, 7, 8, 9] (by kernel_rfl) (by kernel_rfl) (by kernel_rfl) ?_ ?_ ?_
                    · intro c a a' w hd h; exact ⟨hd ▸ h.1, h.2⟩
                    · exact ⟨rfl, rfl, rfl, Nat.le_refl _, fun _ _ => rfl⟩
                    simp only [taken, List.map_cons, List.map_nil, List.getElem?_cons_succ, List.getElem?_cons_zero, Option.getD_some]
                    have HBq : Hid (Below wr.heap.size wr wr.drew) := ⟨rfl, rfl, rfl, Nat.le_refl _, fun _ _ => rfl⟩
                    repeat (first
        | (refine takeH_skip rfl ?_; simp only [Act.put, List.setIfInBounds_toArray, List.set_cons_succ, List.set_cons_zero])
        | (refine takeH_blind rfl rfl ?_; apply Exists.intro; refine ⟨fun w => ?_, ?_⟩; (go_simp; try with_reducible rfl); simp only [Act.put, List.setIfInBounds_toArray, List.set_cons_succ, List.set_cons_zero])
        | (refine takeH_reads rfl rfl ?_; apply Exists.intro; refine ⟨fun w' hS => ?_, ?_⟩; (obtain ⟨d0, d1, d2⟩ := HC.out w' hS; go_simp; try with_reducible rfl); simp only [Act.put, List.setIfInBounds_toArray, List.set_cons_succ, List.set_cons_zero]))
                    refine takeH_call rfl rfl (fun K' hK => ?_)
                    go_wp2_with fail
                    refine (HEq.out _ HBq.out).mono ?_
                    rintro e we ⟨rfl, hB⟩
                    have HBe := Lib.hid (HBq.out.trans (hB.mono HBq.out.size))
                    refine hK _ _ HBe.out ?_
                    clear hK K' hB HBq HEq
                    repeat (first
        | (refine takeH_skip rfl ?_; simp only [Act.put, List.setIfInBounds_toArray, List.set_cons_succ, List.set_cons_zero])
        | (refine takeH_blind rfl rfl ?_; apply Exists.intro; refine ⟨fun w => ?_, ?_⟩; (go_simp; try with_reducible rfl); simp only [Act.put, List.setIfInBounds_toArray, List.set_cons_succ, List.set_cons_zero])
        | (refine takeH_reads rfl rfl ?_; apply Exists.intro; refine ⟨fun w' hS => ?_, ?_⟩; (obtain ⟨d0, d1, d2⟩ := HC.out w' hS; go_simp; try with_reducible rfl); simp only [Act.put, List.setIfInBounds_toArray, List.set_cons_succ, List.set_cons_zero]))
                    refine takeH_nil ?_
                    have HBf := Lib.hid (HBr.out.trans (HBe.out.mono HBr.out.size))
                    clear HBe HC HBr
                    go_wp2_with fail
                    go_round
                    case rel => exact ⟨j3 + 1, by omega, by go_num, HBf.out⟩
                    case measure => simp [intOf]; omega
                  · have hlt' : ¬ (j3 : Int) < (q.length : Int) := by omega
                    go_wp2_with fail
                    refine (HAL.out _ (I.below HTd.out HBr.out)).mono ?_
                    rintro e wz ⟨rfl, hB⟩
                    have HBz := Lib.hid (HBd.out.trans ((HBr.out.trans (hB.mono HBr.out.size)).mono HBd.out.size))
                    go_wp2_with fail
                    go_ret
                    exact ⟨rfl, HBz.out⟩
end Go.Proofs.Ytdhcfgbnjnidfaa.listsForgetOrder
