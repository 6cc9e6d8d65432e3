/- Layer 3: the reference's Append and Check. -/
import Derived.Test.YtkgghlhmgolfbaaDoorRef03
import Derived.Test.YtkgghlhmgolfbaaDoorFrom
import Derived.Test.YtkgghlhmgolfbaaDoorTakeH
set_option linter.unusedVariables false
namespace Go.Proofs.YtkgghlhmgolfbaaDoor
open Go Go.RowKit

set_option maxHeartbeats 1000000 in
theorem ref_append (v : Value) (l : List Nat) (w : World) (h : Rd w 1 v l.length (u8s l)) (hl : ∀ c ∈ l, c < 256) (hn : l.length ≤ 140737488355000) :
    Calls Tryd.prog 33 #[v] w fun e w' => ∃ r, e = .returned r ∧ Made w w' 5 1 r (withCrc l).length (u8s (withCrc l)) := by
  have H2 := Lib.hid h
  have HM := Lib.hid hl
  obtain ⟨q, c, hv⟩ := h.shape
  subst hv
  clear h hl
  go_enter Tryd.func33, Tryd.ntmps33
  go_wp2_with fail
  refine (ref_sum _ l _ H2.out HM.out).mono ?_
  rintro e w1 ⟨rfl, rfl⟩
  have HW : Hid (withCrc l = l ++ le4 (crcOf l)) := rfl
  have hS := crcOf_lt l
  generalize crcOf l = S at *
  have HB : Hid (Below w.heap.size w (w.alloc (.cells #[] 5))) := (Below.refl _ _).alloc (Nat.le_refl _) _
  have HR := Lib.hid (H2.out.below HB.out)
  have HO : Hid ((w.alloc (.cells #[] 5)).ownsRow 0 5 1 (.slice (some ⟨w.heap.size, 0, none⟩) 0 0) 0 []) := World.ownsRow_lit (base := 0) w #[] 0 (Nat.zero_le _) (by simp [maxLen]) (by simp)
  have HL : Hid ((0 + l.length) * 1 ≤ 140737488355328 ∧ 0 + l.length ≤ maxLen) := by show _ ∧ _; unfold maxLen; omega
  have HL2 : Hid ((l.length + 4) * 1 ≤ 140737488355328 ∧ l.length + 4 ≤ maxLen) := by show _ ∧ _; unfold maxLen; omega
  go_wp2_with (at_builtin; refine wpList_extend Tryd.elemU8 _ _ _ _ _ _ _ HO.out HR.out (u8s_oneCell _) HL.out rfl _ _ rfl rfl rfl ?_)
  intro v' w1 hown hmods hfr
  obtain ⟨q1, c1, hv1⟩ := (Rd.of_owns hown).shape
  subst hv1
  have HO1 := Lib.hid hown
  have HF1 : Hid (∀ k, (Value.slice q1 l.length c1).ownBlock = some k → w.heap.size ≤ k) := fun k hk => by
    rcases hfr k hk with e | e
    · simp [Value.ownBlock] at e; omega
    · have := HB.out.size; omega
  have HB1 := Lib.hid (HB.out.trans (hmods.below HB.out.size (fun k hk e => by simp [Value.ownBlock] at e; omega)))
  clear hown hmods hfr HO HR HB
  have H4 : Hid (Rd (w1.alloc (.cells #[.int .u8 ((S : Int) % 256), .int .u8 ((S : Int) / 256 % 256), .int .u8 ((S : Int) / 65536 % 256), .int .u8 ((S : Int) / 16777216)] 5)) 1 (.slice (some ⟨w1.heap.size, 0, none⟩) 4 4) 4 (u8s (le4 S))) :=
    lit_rd w1 _ (le4 S) (u8s_le4 S hS).symm (by simp [le4, maxLen])
  have HO4 : Hid ((w1.alloc (.cells #[.int .u8 ((S : Int) % 256), .int .u8 ((S : Int) / 256 % 256), .int .u8 ((S : Int) / 65536 % 256), .int .u8 ((S : Int) / 16777216)] 5)).ownsRow 0 5 1 (.slice q1 l.length c1) l.length (u8s l)) := HO1.out.alloc _
  have HB4 : Hid (Below w.heap.size w (w1.alloc (.cells #[.int .u8 ((S : Int) % 256), .int .u8 ((S : Int) / 256 % 256), .int .u8 ((S : Int) / 65536 % 256), .int .u8 ((S : Int) / 16777216)] 5))) := HB1.out.alloc HB1.out.size _
  go_wp2_with (at_builtin; refine wpList_extend Tryd.elemU8 _ _ _ _ _ _ _ HO4.out H4.out (u8s_oneCell _) HL2.out rfl _ _ rfl rfl rfl ?_)
  intro v2 w2 hown hmods hfr
  have HM2 : Hid (Made w w2 5 1 v2 (withCrc l).length (u8s (withCrc l))) := by
    refine ⟨?_, HB4.out.trans (hmods.below HB4.out.size (fun k hk e => by have := HF1.out k e; omega))⟩
    have h2 := owns_rebase hown (base' := w.heap.size) (fun k hk => by
      rcases hfr k hk with e | e
      · exact HF1.out k e
      · have := HB1.out.size; omega)
    rw [← u8s_append, ← HW.out, ← le4_length S, ← List.length_append, ← HW.out] at h2
    exact h2
  clear hown hmods hfr
  go_wp2_with fail
  go_ret
  exact ⟨_, rfl, HM2.out⟩

set_option maxHeartbeats 4000000 in
theorem ref_check (v : Value) (l : List Nat) (w : World) (h : Rd w 1 v l.length (u8s l)) (hl : ∀ c ∈ l, c < 256) (hn : l.length ≤ 140737488355000) :
    Calls Tryd.prog 57 #[v] w fun e w' => e = .returned (.bool (isCrc l)) ∧ Below w.heap.size w w' := by
  have H2 := Lib.hid h
  have HM := Lib.hid hl
  obtain ⟨q, c, hv⟩ := h.shape
  subst hv
  have hnc : l.length ≤ c := by obtain ⟨_, _, e, _, h, _⟩ := h; cases e; exact h
  have hmax : (c : Int) ≤ 9223372036854775807 := by obtain ⟨_, _, e, _, _, h, _⟩ := h; cases e; unfold maxLen at h; omega
  clear h hl
  have HB0 : Hid (Below w.heap.size w w) := Below.refl _ _
  by_cases hlt : 4 ≤ l.length
  · have hge : (0 : Int) ≤ (l.length : Int) - 4 := by omega
    have hcast : (l.length : Int) - 4 = ((l.length - 4 : Nat) : Int) := by omega
    obtain ⟨n, hn4⟩ : ∃ n, l.length - 4 = n := ⟨_, rfl⟩
    go_enter Tryd.func57, Tryd.ntmps57
    go_wp2_with fail
    have HT : Hid (Rd w 1 (.slice q n c) (l.take n).length (u8s (l.take n))) := by
      show Rd _ _ _ _ _
      have := H2.out.upto n (by omega)
      rw [List.length_take, Nat.min_eq_left (by omega)]
      simpa [u8s, List.map_take] using this
    have HT8 : Hid (∀ a ∈ l.take n, a < 256) := fun a ha => HM.out a (List.mem_of_mem_take ha)
    have HW8 := Lib.hid (withCrc_lt HT8.out)
    have HTn : Hid ((l.take n).length ≤ 140737488355000) := by show _ ≤ _; rw [List.length_take]; omega
    have HE : Hid (isCrc l = decide (withCrc (l.take n) = l)) := by show _ = _; unfold isCrc; rw [hn4, decide_eq_decide]; exact ⟨fun h => h.2, fun h => ⟨hlt, h⟩⟩
    refine wp_region_takeH (fun w' => Below w.heap.size w w') [6, 7] [0, 1, 2, 3, 4, 5, 8, 9, 6, 7, 10, 11, 12] (by kernel_rfl) (by kernel_rfl) (by kernel_rfl) ?_ ?_ ?_
    · intro c a a' w hd h; exact ⟨hd ▸ h.1, h.2⟩
    · exact ⟨HB0.out.os, HB0.out.tape, HB0.out.output, HB0.out.size, HB0.out.block⟩
    simp only [taken, List.map_cons, List.map_nil, List.getElem?_cons_succ, List.getElem?_cons_zero, Option.getD_some]
    repeat (first
        | (refine takeH_skip rfl ?_; simp only [Act.put, List.setIfInBounds_toArray, List.set_cons_succ, List.set_cons_zero])
        | (refine takeH_blind rfl rfl ?_; apply Exists.intro; refine ⟨fun w => ?_, ?_⟩; (go_simp; try with_reducible rfl); simp only [Act.put, List.setIfInBounds_toArray, List.set_cons_succ, List.set_cons_zero]))
    refine takeH_read rfl rfl (.slice q n c) (fun w' _ => exec_upto Tryd.elemU8 w' q l.length c n (by omega) hnc _ _ rfl rfl rfl) ?_
    simp only [Act.put, List.setIfInBounds_toArray, List.set_cons_succ, List.set_cons_zero]
    repeat (first
        | (refine takeH_skip rfl ?_; simp only [Act.put, List.setIfInBounds_toArray, List.set_cons_succ, List.set_cons_zero])
        | (refine takeH_blind rfl rfl ?_; apply Exists.intro; refine ⟨fun w => ?_, ?_⟩; (go_simp; try with_reducible rfl); simp only [Act.put, List.setIfInBounds_toArray, List.set_cons_succ, List.set_cons_zero]))
    refine takeH_read rfl rfl (.string (strOf l)) (fun w' hS => exec_convert _ _ _ rfl rfl ((H2.out.below hS).conv _ _ _ Tryd.underlying22 Tryd.underlying5 Tryd.underlying9)) ?_
    simp only [Act.put, List.setIfInBounds_toArray, List.set_cons_succ, List.set_cons_zero]
    refine takeH_call rfl rfl (fun K hK => ?_)
    go_wp2_with fail
    refine (ref_append _ (l.take n) w.drew HT.out HT8.out HTn.out).mono ?_
    rintro e w1 ⟨r, rfl, hM⟩
    have hB : Below w.heap.size w w1 := ⟨hM.2.os, hM.2.tape, hM.2.output, hM.2.size, hM.2.block⟩
    refine hK _ _ hB ?_
    clear hK K
    refine takeH_now rfl rfl (.string (strOf (withCrc (l.take n)))) (exec_convert _ _ _ rfl rfl ((Rd.of_owns hM.1).conv _ _ _ Tryd.underlying22 Tryd.underlying5 Tryd.underlying9)) hB ?_
    simp only [Act.put, List.setIfInBounds_toArray, List.set_cons_succ, List.set_cons_zero]
    have HQ := Lib.hid (strOf_inj HW8.out HM.out)
    have HB1 := Lib.hid hB
    clear hM hB HT HT8 HTn HW8
    generalize strOf (withCrc (l.take n)) = s1 at *
    generalize strOf l = s2 at *
    repeat (first
        | (refine takeH_skip rfl ?_; simp only [Act.put, List.setIfInBounds_toArray, List.set_cons_succ, List.set_cons_zero])
        | (refine takeH_blind rfl rfl ?_; apply Exists.intro; refine ⟨fun w => ?_, ?_⟩; (go_simp; try with_reducible rfl); simp only [Act.put, List.setIfInBounds_toArray, List.set_cons_succ, List.set_cons_zero]))
    refine takeH_nil ?_
    go_wp2_with fail
    go_ret
    exact ⟨ret_bool (HQ.out.trans HE.out.symm), HB1.out⟩
  · obtain ⟨m, hm⟩ : ∃ m : Int, (l.length : Int) - 4 = m := ⟨_, rfl⟩
    have hm1 : m < 0 := by omega
    have HE : Hid (isCrc l = false) := by show _ = _; unfold isCrc; rw [decide_eq_false]; exact fun h => hlt h.1
    go_enter Tryd.func57, Tryd.ntmps57
    go_wp2_with fail
    refine wp_region_takeH (fun w' => Below w.heap.size w w') [6, 7] [0, 1, 2, 3, 4, 5, 8, 9, 6, 7, 10, 11, 12] (by kernel_rfl) (by kernel_rfl) (by kernel_rfl) ?_ ?_ ?_
    · intro c a a' w hd h; exact ⟨hd ▸ h.1, h.2⟩
    · exact ⟨HB0.out.os, HB0.out.tape, HB0.out.output, HB0.out.size, HB0.out.block⟩
    simp only [taken, List.map_cons, List.map_nil, List.getElem?_cons_succ, List.getElem?_cons_zero, Option.getD_some]
    have hmF : (0 ≤ m) = False := eq_false (by omega)
    clear hm hlt hnc hmax hn
    repeat (first
        | (refine takeH_skip rfl ?_; simp only [Act.put, List.setIfInBounds_toArray, List.set_cons_succ, List.set_cons_zero])
        | (refine takeH_blind rfl rfl ?_; apply Exists.intro; refine ⟨fun w => ?_, ?_⟩; (go_simp; try with_reducible rfl); simp only [Act.put, List.setIfInBounds_toArray, List.set_cons_succ, List.set_cons_zero]))
    refine takeH_nil ?_
    go_wp2_with fail
    go_ret
    exact ⟨ret_bool HE.out.symm, HB0.out.os, HB0.out.tape, HB0.out.output, HB0.out.size, HB0.out.block⟩
end Go.Proofs.YtkgghlhmgolfbaaDoor
