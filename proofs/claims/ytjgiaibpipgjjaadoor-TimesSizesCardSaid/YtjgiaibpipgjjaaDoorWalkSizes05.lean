/- Layer 5: TimesSizes, walked over the interface. -/
import Derived.Test.YtjgiaibpipgjjaaDoorTimesI
set_option linter.unusedVariables false
namespace Go.Proofs.YtjgiaibpipgjjaaDoor.timesSizes
open Go Go.RowKit
variable {G : Nat} {T : World → Prop}

theorem below_drewNQ (w : World) (n : Nat) : Below w.heap.size w (w.drewN n) := ⟨rfl, rfl, rfl, Nat.le_refl _, fun _ _ => rfl⟩

set_option maxRecDepth 4000 in
set_option maxHeartbeats 4000000 in
theorem walk (I : TIf G T) (hal : ∀ w, T w → Calls Tryd.prog 9 #[] w fun e w' => e = .returned (.bool true) ∧ Below w.heap.size w w')
    (w : World) (hT : T w) (s p : Int) (hs : in64 s) (hp : in64 p) (n : Nat) (hn : n < 256) (lv : Value) (l : List Int) (ok : ∀ t ∈ l, in64 t) (hl : Rd w 1 lv l.length (i64s l)) :
    Calls Tryd.prog 7 #[.agg #[.int .i64 s, .int .i64 p], .int .u8 (n : Int), lv] w fun e w' => e = .returned (.bool true) ∧ Below w.heap.size w w' := by
  have HB0 : Hid (Below w.heap.size w (w.alloc (.cells #[.int .i64 s, .int .i64 p] 54))) := (Below.refl _ _).alloc (Nat.le_refl _) _
  have hblk := Blk.new w #[.int .i64 s, .int .i64 p] 54
  have c0 : (w.alloc (.cells #[.int .i64 s, .int .i64 p] 54)).cell? ⟨w.heap.size, 0, none⟩ = some (.int .i64 s) := by rw [hblk.cell]; rfl
  have c1 : (w.alloc (.cells #[.int .i64 s, .int .i64 p] 54)).cell? ⟨w.heap.size, 1, none⟩ = some (.int .i64 p) := by rw [hblk.cell]; rfl
  have HT0 := Lib.hid (I.below hT HB0.out)
  have HL := Lib.hid hl; have HO := Lib.hid ok; have HAL := Lib.hid hal
  have HS := Lib.hid hs; have HP := Lib.hid hp; have HNn := Lib.hid hn
  obtain ⟨pl, cl, hv⟩ := hl.shape
  subst hv
  clear hT hl ok hal hblk hs hp hn
  by_cases hlt : 300 < l.length
  · have hlt' : (300 : Int) < (l.length : Int) := by omega
    go_enter Tryd.func7, Tryd.ntmps7
    go_wp2_with fail
    go_quiet (fail)
    have HT1 := Lib.hid (I.keeps HT0.out (Mods.drewN (fun _ => False) _ nq) (fun _ _ h => h))
    have HB1 : Hid (Below w.heap.size w ((w.alloc (.cells #[.int .i64 s, .int .i64 p] 54)).drewN nq)) := HB0.out.trans ⟨rfl, rfl, rfl, Nat.le_refl _, fun _ _ => rfl⟩
    clear c0 c1
    generalize (w.alloc (.cells #[.int .i64 s, .int .i64 p] 54)).drewN nq = w1 at *
    go_wp2_with fail
    refine (HAL.out _ HT1.out).mono ?_
    rintro e w2 ⟨rfl, hB⟩
    have HB2 := Lib.hid (HB1.out.trans (hB.mono HB1.out.size))
    go_wp2_with fail
    go_ret
    exact ⟨rfl, HB2.out⟩
  · have hlt' : ¬ (300 : Int) < (l.length : Int) := by omega
    have HN : Hid (l.length ≤ 300) := by show _ ≤ _; omega
    clear hlt
    go_enter Tryd.func7, Tryd.ntmps7
    go_wp2_with fail
    go_quiet (fail)
    have HT1 := Lib.hid (I.keeps HT0.out (Mods.drewN (fun _ => False) _ nq) (fun _ _ h => h))
    have HB1 : Hid (Below w.heap.size w ((w.alloc (.cells #[.int .i64 s, .int .i64 p] 54)).drewN nq)) := HB0.out.trans ⟨rfl, rfl, rfl, Nat.le_refl _, fun _ _ => rfl⟩
    clear c0 c1
    generalize (w.alloc (.cells #[.int .i64 s, .int .i64 p] 54)).drewN nq = w1 at *
    clear HB0 HT0
    go_wp2_with fail
    go_loopw [9, 10, 22] (fun mv tv cv wr => ∃ j : Nat, j ≤ n ∧ cv = .int .u8 (j : Int) ∧ tv = .int .i64 (atT s p j) ∧ Hid (wr.ownsRow w1.heap.size 2 1 mv j (i64s (seqT s p j))) ∧ Hid (Below w1.heap.size w1 wr)) (fun _ _ c _ => n - (intOf c).toNat)
    case atStart => exact ⟨0, by omega, rfl, rfl, World.ownsRow_nil _ _ _ _, Below.refl _ _⟩
    case round =>
      obtain ⟨j, hj, rfl, rfl, HM, HBr⟩ := hrel
      by_cases hjn : j < n
      · have hj' : (j : Int) < (n : Int) := by omega
        have hj255 : (j : Int) < 255 := by have := HNn.out; omega
        have HLb : Hid ((j + 1) * 8 ≤ 140737488355328 ∧ j + 1 ≤ maxLen) := by show _ ∧ _; have := HNn.out; unfold maxLen; omega
        have HPu : Hid (i64s (seqT s p (j + 1)) = i64s (seqT s p j) ++ [.int .i64 (atT s p j)]) := by show _ = _; rw [seqT_push, i64s_append]; rfl
        have HAt : Hid (wrap64 (atT s p j + p) = atT s p (j + 1)) := rfl
        obtain ⟨pm, cm, hv⟩ := (Rd.of_owns HM.out).shape
        subst hv
        generalize atT s p j = t at *
        go_wp2_with (at_builtin; refine wpList_push Tryd.elemI64 wr #[.int .i64 t] _ _ _ (owns_rebase HM.out (fun _ _ => Nat.zero_le _)) rfl (one_cell _ rfl) HLb.out rfl _ _ rfl rfl rfl ?_)
        intro v2 w2 hown hmods hfr
        have HM2 : Hid (w2.ownsRow w1.heap.size 2 1 v2 (j + 1) (i64s (seqT s p (j + 1)))) := by
          show World.ownsRow _ _ _ _ _ _ _
          rw [HPu.out]
          exact owns_rebase hown (fun k hk => by
            rcases hfr k hk with e | e
            · exact (HM.out.lt k e).1
            · have := HBr.out.size; omega)
        have HB2 : Hid (Below w1.heap.size w1 w2) := HBr.out.trans (hmods.below HBr.out.size (fun k hk e => by have := (HM.out.lt k e).1; omega))
        obtain ⟨p2, c2, hv⟩ := (Rd.of_owns HM2.out).shape
        subst hv
        clear hown hmods hfr
        go_wp2_with fail
        rw [HAt.out]
        go_round
        case rel => exact ⟨j + 1, by omega, by go_num, rfl, HM2.out, HB2.out⟩
        case measure => simp [intOf]; omega
      · have e : n = j := by omega
        subst e
        have hj' : ¬ (n : Int) < (n : Int) := by omega
        have HMr := Lib.hid (Rd.of_owns HM.out)
        obtain ⟨pm, cm, hv⟩ := HMr.out.shape
        subst hv
        have HMc : Hid (n ≤ cm) := by obtain ⟨_, _, e, _, h, _⟩ := HMr.out; cases e; exact h
        have HBw := Lib.hid (HB1.out.trans (HBr.out.mono HB1.out.size))
        have HTw := Lib.hid (I.below HT1.out HBr.out)
        have hn255 : (n : Int) ≤ 255 := by have := HNn.out; omega
        clear HM HBr hj hjn
        by_cases h2 : 2 ≤ n
        · have h2' : (2 : Int) ≤ (n : Int) := by omega
          have HTk : Hid (∀ w', Below wr.heap.size wr w' → Rd w' 1 (.slice pm 2 cm) (seqT s p 2).length (i64s (seqT s p 2))) := fun w' hb => by
            have h := (HMr.out.below hb).upto 2 h2
            have e : (i64s (seqT s p n)).take (2 * 1) = i64s (seqT s p 2) := by rw [Nat.mul_one, i64s, ← List.map_take, seqT_take _ _ _ _ h2]; rfl
            rw [e] at h
            rw [seqT_length]
            exact h
          have HMl : Hid (∀ w', Below wr.heap.size wr w' → Rd w' 1 (.slice pm n cm) (seqT s p n).length (i64s (seqT s p n))) := fun w' hb => by rw [seqT_length]; exact HMr.out.below hb
          have HEq : Hid (((encT (seqT s p 2)).length : Int) + (n : Int) - 2 = ((encT (seqT s p n)).length : Int)) := by
            show _ = _
            have h := encT_seq s p (n - 2)
            rw [show n - 2 + 2 = n by omega] at h
            omega
          have HUp : Hid (2 ≤ n ∧ n ≤ cm) := ⟨h2, HMc.out⟩
          have HSm : Hid (68 * (seqT s p n).length ≤ 70368744177000 ∧ 68 * (seqT s p 2).length ≤ 70368744177000) := by show _ ∧ _; rw [seqT_length, seqT_length]; have := HNn.out; omega
          have HIn : Hid (∀ k, ∀ t ∈ seqT s p k, in64 t) := fun k => seqT_in s p k HS.out
          have HL2 : Hid ((encT (seqT s p 2)).length ≤ 136) := by show _ ≤ _; have := encT_len (seqT s p 2); rw [seqT_length] at this; omega
          clear h2
          go_wp2_with fail
          refine wp_region_takeH (fun w' => Below wr.heap.size wr w') [4, 7] [0, 1, 2, 3, 5, 6, 8, 4, 7, 9, 10, 11, 12] (by kernel_rfl) (by kernel_rfl) (by kernel_rfl) ?_ ?_ ?_
          · intro c a a' w hd h; exact ⟨hd ▸ h.1, h.2⟩
          · exact below_drew wr
          simp only [taken, List.map_cons, List.map_nil, List.getElem?_cons_succ, List.getElem?_cons_zero, Option.getD_some]
          repeat (first
        | (refine takeH_skip rfl ?_; simp only [Act.put, List.setIfInBounds_toArray, List.set_cons_succ, List.set_cons_zero])
        | (refine takeH_blind rfl rfl ?_; apply Exists.intro; refine ⟨fun w => ?_, ?_⟩; (go_simp; try with_reducible rfl); simp only [Act.put, List.setIfInBounds_toArray, List.set_cons_succ, List.set_cons_zero]))
          refine takeH_read rfl rfl (.slice pm 2 cm) (fun w' _ => exec_upto Tryd.elemI64 w' pm n cm 2 HUp.out.1 HUp.out.2 _ _ rfl rfl rfl) ?_
          simp only [Act.put, List.setIfInBounds_toArray, List.set_cons_succ, List.set_cons_zero]
          repeat (first
        | (refine takeH_skip rfl ?_; simp only [Act.put, List.setIfInBounds_toArray, List.set_cons_succ, List.set_cons_zero])
        | (refine takeH_blind rfl rfl ?_; apply Exists.intro; refine ⟨fun w => ?_, ?_⟩; (go_simp; try with_reducible rfl); simp only [Act.put, List.setIfInBounds_toArray, List.set_cons_succ, List.set_cons_zero]))
          refine takeH_call rfl rfl (fun K' hK => ?_)
          go_wp2_with fail
          refine (I.size _ (seqT s p n) _ (I.below HTw.out (below_drew wr)) (HMl.out _ (below_drew wr)) (HIn.out n) HSm.out.1).mono ?_
          rintro e w4 ⟨rfl, hb⟩
          have hb4 : Below wr.heap.size wr w4 := (below_drew wr).trans hb
          refine hK _ _ hb4 ?_
          clear hK K' hb
          have HB4 := Lib.hid hb4
          clear hb4
          refine takeH_call rfl rfl (fun K' hK => ?_)
          go_wp2_with fail
          refine (I.size _ (seqT s p 2) _ (I.below HTw.out HB4.out) (HTk.out _ HB4.out) (HIn.out 2) HSm.out.2).mono ?_
          rintro e w5 ⟨rfl, hb⟩
          have hb5 : Below wr.heap.size wr w5 := HB4.out.trans (hb.mono HB4.out.size)
          refine hK _ _ hb5 ?_
          clear hK K' hb
          have HB5 := Lib.hid (HBw.out.trans (hb5.mono HBw.out.size))
          have HT5 := Lib.hid (I.below HTw.out hb5)
          have hEq := HEq.out
          have hL2 : ((encT (seqT s p 2)).length : Int) ≤ 136 := by have := HL2.out; omega
          clear hb5 HB4 HBw HTw HSm HIn HTk HMl HEq HL2
          generalize (encT (seqT s p 2)).length = L2 at *
          generalize (encT (seqT s p n)).length = Ln at *
          have HNb : Hid (((Ln : Int) != IntKind.i64.wrap (IntKind.i64.wrap ((L2 : Int) + (n : Int)) - 2)) = false) := by
            show _ = _
            rw [IntKind.wrap_i64, IntKind.wrap_i64, bne_eq_false_iff_eq]; omega
          clear hEq hL2
          repeat (first
        | (refine takeH_skip rfl ?_; simp only [Act.put, List.setIfInBounds_toArray, List.set_cons_succ, List.set_cons_zero])
        | (refine takeH_blind rfl rfl ?_; apply Exists.intro; refine ⟨fun w => ?_, ?_⟩; (go_simp; try with_reducible rfl); simp only [Act.put, List.setIfInBounds_toArray, List.set_cons_succ, List.set_cons_zero]))
          refine takeH_nil ?_
          rw [HNb.out]
          go_wp2_with fail
          refine (HAL.out _ HT5.out).mono ?_
          rintro e wa ⟨rfl, hB⟩
          have HBa := Lib.hid (HB5.out.trans (hB.mono HB5.out.size))
          have HTa := Lib.hid (I.below HT5.out hB)
          clear hB
          go_wp2_with fail
          refine (I.size _ l wa HTa.out (HL.out.below HBa.out) HO.out (by have := HN.out; omega)).mono ?_
          rintro e wb ⟨rfl, hB⟩
          have HBb := Lib.hid (HBa.out.trans (hB.mono HBa.out.size))
          have HTb := Lib.hid (I.below HTa.out hB)
          have hle : ((encT l).length : Int) ≤ 68 * (l.length : Int) := by have := encT_len l; omega
          clear hB
          go_wp2_with fail
          refine (I.size (.slice none 0 0) [] wb HTb.out (Rd.nil _ _) (by simp) (by simp)).mono ?_
          rintro e wc ⟨rfl, hB⟩
          have HBc := Lib.hid (HBb.out.trans (hB.mono HBb.out.size))
          have h0 : (encT []).length = 0 := rfl
          rw [h0]
          clear hB h0
          go_wp2_with fail
          go_ret
          exact ⟨rfl, HBc.out⟩
        · rcases (show n = 0 ∨ n = 1 by omega) with rfl | rfl
          · clear h2
            go_wp2_with fail
            go_quiet (fail)
            have HB5 := Lib.hid (HBw.out.trans ((below_drewNQ wr nq).mono HBw.out.size))
            have HT5 := Lib.hid (I.below HTw.out (below_drewNQ wr nq))
            clear HBw HTw
            generalize wr.drewN nq = wz at *
            go_wp2_with fail
            refine (HAL.out _ HT5.out).mono ?_
            rintro e wa ⟨rfl, hB⟩
            have HBa := Lib.hid (HB5.out.trans (hB.mono HB5.out.size))
            have HTa := Lib.hid (I.below HT5.out hB)
            clear hB
            go_wp2_with fail
            refine (I.size _ l wa HTa.out (HL.out.below HBa.out) HO.out (by have := HN.out; omega)).mono ?_
            rintro e wb ⟨rfl, hB⟩
            have HBb := Lib.hid (HBa.out.trans (hB.mono HBa.out.size))
            have HTb := Lib.hid (I.below HTa.out hB)
            have hle : ((encT l).length : Int) ≤ 68 * (l.length : Int) := by have := encT_len l; omega
            clear hB
            go_wp2_with fail
            refine (I.size (.slice none 0 0) [] wb HTb.out (Rd.nil _ _) (by simp) (by simp)).mono ?_
            rintro e wc ⟨rfl, hB⟩
            have HBc := Lib.hid (HBb.out.trans (hB.mono HBb.out.size))
            have h0 : (encT []).length = 0 := rfl
            rw [h0]
            clear hB h0
            go_wp2_with fail
            go_ret
            exact ⟨rfl, HBc.out⟩
          · clear h2
            go_wp2_with fail
            go_quiet (fail)
            have HB5 := Lib.hid (HBw.out.trans ((below_drewNQ wr nq).mono HBw.out.size))
            have HT5 := Lib.hid (I.below HTw.out (below_drewNQ wr nq))
            clear HBw HTw
            generalize wr.drewN nq = wz at *
            go_wp2_with fail
            refine (HAL.out _ HT5.out).mono ?_
            rintro e wa ⟨rfl, hB⟩
            have HBa := Lib.hid (HB5.out.trans (hB.mono HB5.out.size))
            have HTa := Lib.hid (I.below HT5.out hB)
            clear hB
            go_wp2_with fail
            refine (I.size _ l wa HTa.out (HL.out.below HBa.out) HO.out (by have := HN.out; omega)).mono ?_
            rintro e wb ⟨rfl, hB⟩
            have HBb := Lib.hid (HBa.out.trans (hB.mono HBa.out.size))
            have HTb := Lib.hid (I.below HTa.out hB)
            have hle : ((encT l).length : Int) ≤ 68 * (l.length : Int) := by have := encT_len l; omega
            clear hB
            go_wp2_with fail
            refine (I.size (.slice none 0 0) [] wb HTb.out (Rd.nil _ _) (by simp) (by simp)).mono ?_
            rintro e wc ⟨rfl, hB⟩
            have HBc := Lib.hid (HBb.out.trans (hB.mono HBb.out.size))
            have h0 : (encT []).length = 0 := rfl
            rw [h0]
            clear hB h0
            go_wp2_with fail
            go_ret
            exact ⟨rfl, HBc.out⟩
end Go.Proofs.YtjgiaibpipgjjaaDoor.timesSizes
