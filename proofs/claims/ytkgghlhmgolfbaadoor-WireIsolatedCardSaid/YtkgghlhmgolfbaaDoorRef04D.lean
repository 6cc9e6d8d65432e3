/- Layer 4: the reference's reader: String. -/
import Derived.Test.YtkgghlhmgolfbaaDoorRef04C
set_option linter.unusedVariables false
namespace Go.Proofs.YtkgghlhmgolfbaaDoor
open Go Go.RowKit

theorem wrap_u64_small (n : Int) (h0 : 0 ≤ n) (h : n < 18446744073709551616) : IntKind.u64.wrap n = n := by rw [IntKind.wrap_u64]; omega

set_option maxHeartbeats 4000000 in
theorem rr_string (q : Nat) (v : Value) (B : List Nat) (a : Nat) (most : Int) (w : World) (h : RRd w q v B a 0) (hB : ∀ c ∈ B, c < 256) (ha : a ≤ B.length) (hz : B.length ≤ 140737488355000) (hn : -9223372036854775808 ≤ most ∧ most < 9223372036854775808) :
    Calls Tryd.prog 37 #[.pointer (some ⟨q, 0, none⟩), .int .i64 most] w fun en w' => Mods (fun k => k = q) w w' ∧ Got (outString B a most) (fun l => .string (strOf l)) (.string ⟨#[]⟩) (fun b e => RRd w' q v B b e) a en := by
  obtain ⟨c0, c1, c2, f1, f2⟩ := h.cells
  have H := Lib.hid h
  have HB := Lib.hid hB
  obtain ⟨p, c, hv⟩ := h.rd.shape
  subst hv
  have hnc : B.length ≤ c := by obtain ⟨_, _, e, _, h, _⟩ := h.rd; cases e; exact h
  have hcs := outString_cases hB ha most
  have HG := Lib.hid (fun n => calls_flip (ref_get (.slice p B.length c) B (a : Int) (w.drewN n) (h.drewN n).rd hB))
  clear h hB
  go_enter Tryd.func37, Tryd.ntmps37
  go_wp2_with fail
  go_quiet ((go_at_call 56; exact Calls.quiet_of_same (HG.out _)))
  have H1 := Lib.hid (H.out.drewN nq)
  obtain ⟨c0, c1, c2, f1, f2⟩ := H1.out.cells
  have HM1 : Hid (Mods (fun k => k = q) w (w.drewN nq)) := Mods.drewN _ _ _
  generalize w.drewN nq = w1 at *
  clear HG H
  rcases hcs with ⟨e, he, hr, ho⟩ | ⟨x, to, hr, hto, htl, hx, ho⟩
  · rw [hr]
    have HO := Lib.hid ho
    have heb : ((e : Int) == 0) = false := by rw [beq_eq_false_iff_ne]; omega
    clear hr ho
    go_wp2_with fail
    refine (rr_fail q _ B a 0 (e : Int) _ H1.out).mono ?_
    rintro en w2 ⟨rfl, hR, hm⟩
    rw [if_pos rfl] at hR
    have HM := Lib.hid (HM1.out.trans hm (fun _ _ e => e))
    have HR := Lib.hid hR
    clear hR hm
    go_wp2_with fail
    go_ret
    exact ⟨HM.out, by rw [HO.out]; exact ⟨rfl, HR.out⟩⟩
  · rw [hr]
    have HO := Lib.hid ho
    clear hr ho
    by_cases hneg : most < 0
    · rw [if_pos (Or.inl hneg)] at HO
      go_wp2_with fail
      refine (rr_fail q _ B a 0 7 _ H1.out).mono ?_
      rintro en w2 ⟨rfl, hR, hm⟩
      rw [if_pos rfl] at hR
      have HM := Lib.hid (HM1.out.trans hm (fun _ _ e => e))
      have HR := Lib.hid hR
      clear hR hm
      go_wp2_with fail
      go_ret
      exact ⟨HM.out, by rw [HO.out]; exact ⟨rfl, HR.out⟩⟩
    · obtain ⟨M, rfl⟩ : ∃ M : Nat, most = (M : Int) := ⟨most.toNat, by omega⟩
      have hwM : IntKind.u64.wrap (M : Int) = (M : Int) := wrap_u64_small _ (by omega) (by omega)
      have hM0 : ¬ (M : Int) < 0 := hneg
      by_cases hlt : M < x
      · have hlt' : (M : Int) < (x : Int) := by omega
        rw [if_pos (Or.inr hlt')] at HO
        clear hneg hn
        go_wp2_with fail
        refine (rr_fail q _ B a 0 7 _ H1.out).mono ?_
        rintro en w2 ⟨rfl, hR, hm⟩
        rw [if_pos rfl] at hR
        have HM := Lib.hid (HM1.out.trans hm (fun _ _ e => e))
        have HR := Lib.hid hR
        clear hR hm
        go_wp2_with fail
        go_ret
        exact ⟨HM.out, by rw [HO.out]; exact ⟨rfl, HR.out⟩⟩
      · have hlt' : ¬ (M : Int) < (x : Int) := by omega
        rw [if_neg (by omega)] at HO
        have hrest : (B.length : Int) - (to : Int) = ((B.length - to : Nat) : Int) := by omega
        have hwR : IntKind.u64.wrap ((B.length : Int) - (to : Int)) = (B.length : Int) - (to : Int) := wrap_u64_small _ (by omega) (by omega)
        by_cases hgt : B.length - to < x
        · have hgt' : (B.length : Int) - (to : Int) < (x : Int) := by omega
          rw [if_pos hgt] at HO
          clear hneg hn hrest hgt
          go_wp2_with fail
          refine (rr_fail q _ B a 0 3 _ H1.out).mono ?_
          rintro en w2 ⟨rfl, hR, hm⟩
          rw [if_pos rfl] at hR
          have HM := Lib.hid (HM1.out.trans hm (fun _ _ e => e))
          have HR := Lib.hid hR
          clear hR hm
          go_wp2_with fail
          go_ret
          exact ⟨HM.out, by rw [HO.out]; exact ⟨rfl, HR.out⟩⟩
        · have hgt' : ¬ (B.length : Int) - (to : Int) < (x : Int) := by omega
          rw [if_neg hgt] at HO
          obtain ⟨A, hA⟩ : ∃ A, to + x = A := ⟨_, rfl⟩
          have hAl : A ≤ B.length := by omega
          have hA1 : (to : Int) + (x : Int) = (A : Int) := by omega
          have hwx : IntKind.i64.wrap (x : Int) = (x : Int) := IntWalk.i64_in _ (by omega)
          clear hneg hn hrest
          go_wp2_with fail
          have H2 := Lib.hid (H1.out.setAt A)
          have HM2 : Hid (Mods (fun k => k = q) w (w1.setCell ⟨q, 1, none⟩ (.int .i64 (A : Int)))) := HM1.out.trans (mods_set _ q 1 _) (fun _ _ e => e)
          generalize w1.setCell ⟨q, 1, none⟩ (.int .i64 (A : Int)) = w2 at *
          clear c0 c1 c2 f1 f2 H1 HM1 w1
          have HC : Hid (∀ w', Below w2.heap.size w2 w' → w'.cell? ⟨q, 0, none⟩ = some (.slice p B.length c) ∧ w'.cell? ⟨q, 1, none⟩ = some (.int .i64 (A : Int)) ∧ w'.cell? ⟨q, 2, none⟩ = some (.int .i64 0)) := fun w' hb => by
            obtain ⟨e0, e1, e2, _, _⟩ := (H2.out.below hb).cells
            exact ⟨e0, e1, e2⟩
          have HSl : Hid (Rd w2 1 (sliced p to A c 1) ((B.drop to).take x).length (u8s ((B.drop to).take x))) := by
            show Rd _ _ _ _ _
            have h2 := H2.out.rd.fromTo to A (by omega) hAl
            rw [show A - to = x by omega] at h2
            simp only [Nat.mul_one] at h2
            rw [List.drop_take, show A - to = x by omega] at h2
            rw [List.length_take, List.length_drop, Nat.min_eq_left (by omega)]
            simpa [u8s, List.map_drop, List.map_take] using h2
          obtain ⟨p2, c2, hs2⟩ := HSl.out.shape
          refine wp_region_takeH (fun w' => Below w2.heap.size w2 w') [] [0, 1, 2, 3, 4, 5, 6, 7, 8, 9, 10, 11] (by kernel_rfl) (by kernel_rfl) (by kernel_rfl) ?_ ?_ ?_
          · intro c a a' w hd h; exact ⟨hd ▸ h.1, h.2⟩
          · exact ⟨rfl, rfl, rfl, Nat.le_refl _, fun _ _ => rfl⟩
          simp only [taken, List.map_cons, List.map_nil, List.getElem?_cons_succ, List.getElem?_cons_zero, Option.getD_some]
          repeat (first
        | (refine takeH_skip rfl ?_; simp only [Act.put, List.setIfInBounds_toArray, List.set_cons_succ, List.set_cons_zero])
        | (refine takeH_blind rfl rfl ?_; apply Exists.intro; refine ⟨fun w => ?_, ?_⟩; (go_simp; try with_reducible rfl); simp only [Act.put, List.setIfInBounds_toArray, List.set_cons_succ, List.set_cons_zero])
        | (refine takeH_reads rfl rfl ?_; apply Exists.intro; refine ⟨fun w' hS => ?_, ?_⟩; (obtain ⟨d0, d1, d2⟩ := HC.out w' hS; go_simp; try with_reducible rfl); simp only [Act.put, List.setIfInBounds_toArray, List.set_cons_succ, List.set_cons_zero]))
          refine takeH_read rfl rfl (.slice p2 ((B.drop to).take x).length c2) (fun w' _ => (exec_fromTo Tryd.elemU8 w' p B.length c to A (by omega) (by omega) _ _ _ rfl rfl rfl rfl).trans (by rw [hs2])) ?_
          simp only [Act.put, List.setIfInBounds_toArray, List.set_cons_succ, List.set_cons_zero]
          rw [hs2] at HSl
          clear hs2
          refine takeH_read rfl rfl (.string (strOf ((B.drop to).take x))) (fun w' hS => exec_convert _ _ _ rfl rfl ((HSl.out.below hS).conv _ _ _ Tryd.underlying22 Tryd.underlying5 Tryd.underlying9)) ?_
          simp only [Act.put, List.setIfInBounds_toArray, List.set_cons_succ, List.set_cons_zero]
          clear HC HSl
          repeat (first
        | (refine takeH_skip rfl ?_; simp only [Act.put, List.setIfInBounds_toArray, List.set_cons_succ, List.set_cons_zero])
        | (refine takeH_blind rfl rfl ?_; apply Exists.intro; refine ⟨fun w => ?_, ?_⟩; (go_simp; try with_reducible rfl); simp only [Act.put, List.setIfInBounds_toArray, List.set_cons_succ, List.set_cons_zero]))
          refine takeH_nil ?_
          go_wp2_with fail
          go_ret
          exact ⟨HM2.out.trans (Mods.drew (fun k => k = q) _) (fun _ _ e => e), by rw [HO.out]; exact ⟨rfl, hA ▸ H2.out.drew⟩⟩
end Go.Proofs.YtkgghlhmgolfbaaDoor
