/- Layer 4: the reference's reader: Take. -/
import Derived.Test.YtkgghlhmgolfbaaDoorRef04A
import Derived.Test.YtkgghlhmgolfbaaDoorTakeR
set_option linter.unusedVariables false
namespace Go.Proofs.YtkgghlhmgolfbaaDoor
open Go Go.RowKit

/-- What a read of bytes leaves: a new slice and the new offset, or nil and the error. -/
def GotS (o : Out (List Nat)) (w w' : World) (inv : Nat → Int → Prop) (a : Nat) (en : Ending) : Prop := match o with
  | .ok l b => (∃ r, en = .returned r ∧ w'.ownsRow w.heap.size 5 1 r l.length (u8s l)) ∧ inv b 0
  | .bad e => en = .returned (.slice none 0 0) ∧ inv a (e : Int)

set_option maxHeartbeats 2000000 in
theorem rr_take (q : Nat) (v : Value) (B : List Nat) (a : Nat) (n : Int) (w : World) (h : RRd w q v B a 0) (ha : a ≤ B.length) (hz : B.length ≤ 140737488355000) (hn : -9223372036854775808 ≤ n ∧ n < 9223372036854775808) :
    Calls Tryd.prog 36 #[.pointer (some ⟨q, 0, none⟩), .int .i64 n] w fun en w' => Mods (fun k => k = q) w w' ∧ GotS (outTake B a n) w w' (fun b e => RRd w' q v B b e) a en := by
  obtain ⟨c0, c1, c2, f1, f2⟩ := h.cells
  have H := Lib.hid h
  obtain ⟨p, c, hv⟩ := h.rd.shape
  subst hv
  have hnc : B.length ≤ c := by obtain ⟨_, _, e, _, h, _⟩ := h.rd; cases e; exact h
  clear h
  by_cases hneg : n < 0
  · have HO : Hid (outTake B a n = .bad 2) := by show _ = _; rw [outTake, if_pos hneg]
    go_enter Tryd.func36, Tryd.ntmps36
    go_wp2_with fail
    refine (rr_fail q _ B a 0 2 _ H.out).mono ?_
    rintro en w2 ⟨rfl, hR, hm⟩
    rw [if_pos rfl] at hR
    have HM := Lib.hid hm
    have HR := Lib.hid hR
    clear hR hm
    go_wp2_with fail
    go_ret
    exact ⟨HM.out, by rw [HO.out]; exact ⟨rfl, HR.out⟩⟩
  · obtain ⟨m, rfl⟩ : ∃ m : Nat, n = (m : Int) := ⟨n.toNat, by omega⟩
    by_cases hgt : B.length - a < m
    · have HO : Hid (outTake B a (m : Int) = .bad 3) := by show _ = _; rw [outTake, if_neg hneg, if_pos (by omega)]
      have hgt' : (B.length : Int) - (a : Int) < (m : Int) := by omega
      clear hneg hn
      go_enter Tryd.func36, Tryd.ntmps36
      go_wp2_with fail
      go_quiet (fail)
      have H1 := Lib.hid (H.out.drewN nq)
      have HM1 : Hid (Mods (fun k => k = q) w (w.drewN nq)) := Mods.drewN _ _ _
      generalize w.drewN nq = w1 at *
      go_wp2_with fail
      refine (rr_fail q _ B a 0 3 _ H1.out).mono ?_
      rintro en w2 ⟨rfl, hR, hm⟩
      rw [if_pos rfl] at hR
      have HM := Lib.hid (HM1.out.trans hm (fun _ _ e => e))
      have HR := Lib.hid hR
      clear hR hm
      go_wp2_with fail
      go_ret
      exact ⟨HM.out, by rw [HO.out]; exact ⟨rfl, HR.out⟩⟩
    · have HO : Hid (outTake B a (m : Int) = .ok ((B.drop a).take m) (a + m)) := by show _ = _; rw [outTake, if_neg hneg, if_neg (by omega)]; rfl
      have hgt' : ¬ (B.length : Int) - (a : Int) < (m : Int) := by omega
      obtain ⟨A, hA⟩ : ∃ A, a + m = A := ⟨_, rfl⟩
      have hAl : A ≤ B.length := by omega
      have hA1 : (a : Int) + (m : Int) = (A : Int) := by omega
      have hwa : IntKind.i64.wrap (a : Int) = (a : Int) := IntWalk.i64_in _ (by omega)
      have hA2 : (A : Int) - (m : Int) = (a : Int) := by omega
      clear hneg hn
      go_enter Tryd.func36, Tryd.ntmps36
      go_wp2_with fail
      go_quiet (fail)
      have H1 := Lib.hid (H.out.drewN nq)
      have HM1 : Hid (Mods (fun k => k = q) w (w.drewN nq)) := Mods.drewN _ _ _
      obtain ⟨d0, d1, d2, g1, g2⟩ := H1.out.cells
      generalize w.drewN nq = w1 at *
      clear c0 c1 c2 f1 f2 H
      go_wp2_with fail
      have H2 := Lib.hid (H1.out.setAt A)
      have HM2 : Hid (Mods (fun k => k = q) w (w1.setCell ⟨q, 1, none⟩ (.int .i64 (A : Int)))) := HM1.out.trans (mods_set _ q 1 _) (fun _ _ e => e)
      generalize w1.setCell ⟨q, 1, none⟩ (.int .i64 (A : Int)) = w2 at *
      clear d0 d1 d2 g1 g2 H1 HM1 w1
      have HC : Hid (∀ w', Below w2.heap.size w2 w' → w'.cell? ⟨q, 0, none⟩ = some (.slice p B.length c) ∧ w'.cell? ⟨q, 1, none⟩ = some (.int .i64 (A : Int)) ∧ w'.cell? ⟨q, 2, none⟩ = some (.int .i64 0)) := fun w' hb => by
        obtain ⟨e0, e1, e2, _, _⟩ := (H2.out.below hb).cells
        exact ⟨e0, e1, e2⟩
      refine wp_region_takeH (fun w' => Below w2.heap.size w2 w') [0, 16] [1, 2, 3, 4, 5, 6, 7, 8, 9, 10, 11, 12, 13, 14, 15, 0, 16, 17] (by kernel_rfl) (by kernel_rfl) (by kernel_rfl) ?_ ?_ ?_
      · intro c a a' w hd h; exact ⟨hd ▸ h.1, h.2⟩
      · exact ⟨rfl, rfl, rfl, Nat.le_refl _, fun _ _ => rfl⟩
      simp only [taken, List.map_cons, List.map_nil, List.getElem?_cons_succ, List.getElem?_cons_zero, Option.getD_some]
      repeat (first
        | (refine takeH_skip rfl ?_; simp only [Act.put, List.setIfInBounds_toArray, List.set_cons_succ, List.set_cons_zero])
        | (refine takeH_blind rfl rfl ?_; apply Exists.intro; refine ⟨fun w => ?_, ?_⟩; (go_simp; try with_reducible rfl); simp only [Act.put, List.setIfInBounds_toArray, List.set_cons_succ, List.set_cons_zero])
        | (refine takeH_reads rfl rfl ?_; apply Exists.intro; refine ⟨fun w' hS => ?_, ?_⟩; (obtain ⟨d0, d1, d2⟩ := HC.out w' hS; go_simp; try with_reducible rfl); simp only [Act.put, List.setIfInBounds_toArray, List.set_cons_succ, List.set_cons_zero]))
      have HSl : Hid (Rd w2 1 (sliced p a A c 1) m (u8s ((B.drop a).take m))) := by
        show Rd _ _ _ _ _
        have h2 := H2.out.rd.fromTo a A (by omega) hAl
        rw [show A - a = m by omega] at h2
        simp only [Nat.mul_one] at h2
        rw [List.drop_take, show A - a = m by omega] at h2
        simpa [u8s, List.map_drop, List.map_take] using h2
      obtain ⟨p2, c2, hs2⟩ := HSl.out.shape
      refine takeH_read rfl rfl (.slice p2 m c2) (fun w' _ => (exec_fromTo Tryd.elemU8 w' p B.length c a A (by omega) (by omega) _ _ _ rfl rfl rfl rfl).trans (by rw [hs2])) ?_
      simp only [Act.put, List.setIfInBounds_toArray, List.set_cons_succ, List.set_cons_zero]
      rw [hs2] at HSl
      clear hs2
      have HB3 : Hid (Below w2.heap.size w2 (w2.alloc (.cells #[] 5)).drew) := ((Below.refl _ w2).alloc (Nat.le_refl _) _).trans ⟨rfl, rfl, rfl, Nat.le_refl _, fun _ _ => rfl⟩
      refine takeH_run rfl rfl (.slice (some ⟨w2.heap.size, 0, none⟩) 0 0) (w2.alloc (.cells #[] 5)).drew (by go_simp; try rfl) HB3.out ?_
      simp only [Act.put, List.setIfInBounds_toArray, List.set_cons_succ, List.set_cons_zero]
      have HO3 : (w2.alloc (.cells #[] 5)).drew.ownsRow 0 5 1 (.slice (some ⟨w2.heap.size, 0, none⟩) 0 0) 0 [] := World.ownsRow_lit (base := 0) w2 #[] 0 (Nat.zero_le _) (by simp [maxLen]) (by simp)
      refine takeH_extend Tryd.elemU8 rfl rfl _ _ rfl rfl rfl HO3 (HSl.out.below HB3.out) (u8s_oneCell _) (by unfold maxLen; omega) ?_
      intro v4 w4 hown hmods hfr
      have HB4 : Hid (Below w2.heap.size w2 w4) := HB3.out.trans (hmods.below HB3.out.size (fun k hk e => by have e' : w2.heap.size = k := Option.some.inj e; omega))
      refine ⟨HB4.out, ?_⟩
      have HF4 : Hid (w4.ownsRow w2.heap.size 5 1 v4 m (u8s ((B.drop a).take m))) := by
        have h2 := owns_rebase hown (base' := w2.heap.size) (fun k hk => by
          rcases hfr k hk with e | e
          · have e' : w2.heap.size = k := Option.some.inj e
            omega
          · have := HB3.out.size; omega)
        show World.ownsRow _ _ _ _ _ _ _
        simpa using h2
      clear hown hmods hfr HO3 HB3 HSl HC
      obtain ⟨p4, c4, hv4⟩ := (Rd.of_owns HF4.out).shape
      subst hv4
      repeat (first
        | (refine takeH_skip rfl ?_; simp only [Act.put, List.setIfInBounds_toArray, List.set_cons_succ, List.set_cons_zero])
        | (refine takeH_blind rfl rfl ?_; apply Exists.intro; refine ⟨fun w => ?_, ?_⟩; (go_simp; try with_reducible rfl); simp only [Act.put, List.setIfInBounds_toArray, List.set_cons_succ, List.set_cons_zero]))
      refine takeH_nil ?_
      go_wp2_with fail
      go_ret
      refine ⟨HM2.out.trans (Mods.of_below HB4.out (fun k => k = q)) (fun _ _ e => e), ?_⟩
      rw [HO.out]
      refine ⟨⟨_, rfl, ?_⟩, hA ▸ H2.out.below HB4.out⟩
      rw [List.length_take, List.length_drop, Nat.min_eq_left (by omega)]
      exact owns_rebase HF4.out (fun k hk => by have := (HF4.out.lt k hk).1; have := HM2.out.size; omega)
end Go.Proofs.YtkgghlhmgolfbaaDoor
