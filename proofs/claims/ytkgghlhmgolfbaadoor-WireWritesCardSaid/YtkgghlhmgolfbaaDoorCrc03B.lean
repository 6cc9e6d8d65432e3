/- Layer 3: the program's Append and Check. -/
import Derived.Test.YtkgghlhmgolfbaaDoorCrc03A
import Derived.Test.YtkgghlhmgolfbaaDoorTakeH
import Derived.OwnWalk
set_option linter.unusedVariables false
namespace Go.Proofs.YtkgghlhmgolfbaaDoor
open Go Go.RowKit

set_option maxHeartbeats 2000000 in
theorem crc_append (v : Value) (l : List Nat) (w : World) (hT : Tab w) (h : Rd w 1 v l.length (u8s l)) (hl : ∀ c ∈ l, c < 256) (hn : l.length ≤ 140737488355000) :
    Calls Tryd.prog 31 #[v] w fun e w' => ∃ r, e = .returned r ∧ Made w w' 5 1 r (withCrc l).length (u8s (withCrc l)) := by
  have HT := Lib.hid hT
  have H2 := Lib.hid h
  have HM := Lib.hid hl
  obtain ⟨q, c, hv⟩ := h.shape
  subst hv
  clear h hl hT
  obtain ⟨i, z, hi, hz, hsize, hby, hzs⟩ := Tryd.elemU8.hi
  have HI := Lib.hid hi; have HZ := Lib.hid hz; have HSz := Lib.hid hsize
  have HC : Hid ((l.length : Int) + 4 = ((l.length + 4 : Nat) : Int)) := by show _ = _; omega
  have HBy : Hid (i.bytes * (l.length + 4) ≤ 281474976710656) := by show _ ≤ _; rw [hby]; omega
  have HMx : Hid (l.length + 4 ≤ maxLen) := by show _ ≤ _; unfold maxLen; omega
  have HL : Hid ((0 + l.length) * 1 ≤ 140737488355328 ∧ 0 + l.length ≤ maxLen) := by show _ ∧ _; unfold maxLen; omega
  have HL2 : Hid ((l.length + 4) * 1 ≤ 140737488355328 ∧ l.length + 4 ≤ maxLen) := by show _ ∧ _; unfold maxLen; omega
  clear hi hz hsize hby hzs
  have hmax : (l.length : Int) + 4 ≤ 140737488355328 := by omega
  go_enter Tryd.func31, Tryd.ntmps31
  go_wp2_with (refine wpList_make_own _ rfl _ _ _ rfl 0 5 i z 1 Tryd.underlying22 HI.out HZ.out HSz.out _ _ _ (l.length + 4) rfl rfl HC.out HBy.out HMx.out (Nat.zero_le _) ?_)
  intro w1 hown hgr
  have HB : Hid (Below w.heap.size w w1) := (Mods.of_grown hgr).below (Nat.le_refl _) (fun k hk e => by cases e)
  have HO := Lib.hid hown
  have HR := Lib.hid (H2.out.below HB.out)
  clear hown hgr
  go_wp2_with (at_builtin; refine wpList_extend Tryd.elemU8 _ _ _ _ _ _ _ HO.out HR.out (u8s_oneCell _) HL.out rfl _ _ rfl rfl rfl ?_)
  intro v' w2 hown hmods hfr
  obtain ⟨q1, c1, hv1⟩ := (Rd.of_owns hown).shape
  subst hv1
  have HO1 := Lib.hid hown
  have HF1 : Hid (∀ k, (Value.slice q1 l.length c1).ownBlock = some k → w.heap.size ≤ k) := fun k hk => by
    rcases hfr k hk with e | e
    · simp [Value.ownBlock] at e; omega
    · have := HB.out.size; omega
  have HB1 := Lib.hid (HB.out.trans (hmods.below HB.out.size (fun k hk e => by simp [Value.ownBlock] at e; omega)))
  have HR1 := Lib.hid (H2.out.below HB1.out)
  have HT1 := Lib.hid (HT.out.below HB1.out (Nat.le_refl _))
  clear hown hmods hfr HO HR HB
  go_wp2_with fail
  refine (crc_sumOf _ l _ HT1.out HR1.out HM.out).mono ?_
  rintro e w3 ⟨r, rfl, hM⟩
  obtain ⟨q3, c3, hr⟩ := (Rd.of_owns hM.1).shape
  subst hr
  have HR3 := Lib.hid (Rd.of_owns hM.1)
  have HO3 := Lib.hid ((Mods.of_below hM.2 (fun _ => False)).owns HO1.out (fun _ _ e => e))
  have HB3 := Lib.hid (HB1.out.trans (hM.2.mono HB1.out.size))
  have HW : Hid (withCrc l = l ++ le4 (crcOf l)) := rfl
  clear hM
  go_wp2_with (at_builtin; refine wpList_extend Tryd.elemU8 _ _ _ _ _ _ _ HO3.out HR3.out (u8s_oneCell _) HL2.out rfl _ _ rfl rfl rfl ?_)
  intro v2 w4 hown hmods hfr
  have HM2 : Hid (Made w w4 5 1 v2 (withCrc l).length (u8s (withCrc l))) := by
    refine ⟨?_, HB3.out.trans (hmods.below HB3.out.size (fun k hk e => by have := HF1.out k e; omega))⟩
    have h2 := owns_rebase hown (base' := w.heap.size) (fun k hk => by
      rcases hfr k hk with e | e
      · exact HF1.out k e
      · have := HB3.out.size; omega)
    rw [← u8s_append, ← HW.out, ← le4_length (crcOf l), ← List.length_append, ← HW.out] at h2
    exact h2
  clear hown hmods hfr
  go_wp2_with fail
  go_ret
  exact ⟨_, rfl, HM2.out⟩

theorem isCrc_drop (l : List Nat) (h : 4 ≤ l.length) : isCrc l = decide (l.drop (l.length - 4) = le4 (crcOf (l.take (l.length - 4)))) := by
  unfold isCrc
  rw [decide_eq_decide]
  have e : l.take (l.length - 4) ++ l.drop (l.length - 4) = l := List.take_append_drop _ _
  constructor
  · rintro ⟨_, h2⟩
    rw [withCrc] at h2
    conv at h2 => rhs; rw [← e]
    exact (List.append_cancel_left h2).symm
  · intro h2
    refine ⟨h, ?_⟩
    rw [withCrc, ← h2, e]

set_option maxHeartbeats 4000000 in
theorem crc_check (v : Value) (l : List Nat) (w : World) (hT : Tab w) (h : Rd w 1 v l.length (u8s l)) (hl : ∀ c ∈ l, c < 256) :
    Calls Tryd.prog 59 #[v] w fun e w' => e = .returned (.bool (isCrc l)) ∧ Below w.heap.size w w' := by
  have HT := Lib.hid hT
  have H2 := Lib.hid h
  have HM := Lib.hid hl
  obtain ⟨q, c, hv⟩ := h.shape
  subst hv
  have hnc : l.length ≤ c := by obtain ⟨_, _, e, _, h, _⟩ := h; cases e; exact h
  have hmax : (c : Int) ≤ 9223372036854775807 := by obtain ⟨_, _, e, _, _, h, _⟩ := h; cases e; unfold maxLen at h; omega
  clear h hl hT
  have HB0 : Hid (Below w.heap.size w w) := Below.refl _ _
  by_cases hlt : 4 ≤ l.length
  · have hge : (0 : Int) ≤ (l.length : Int) - 4 := by omega
    have hcast : (l.length : Int) - 4 = ((l.length - 4 : Nat) : Int) := by omega
    have HE := Lib.hid (isCrc_drop l hlt)
    obtain ⟨n, hn4⟩ : ∃ n, l.length - 4 = n := ⟨_, rfl⟩
    rw [hn4] at HE
    have hnl : n ≤ l.length := by omega
    have HT1 : Hid (Rd w 1 (.slice q n c) (l.take n).length (u8s (l.take n))) := by
      show Rd _ _ _ _ _
      have := H2.out.upto n hnl
      rw [List.length_take, Nat.min_eq_left hnl]
      simpa [u8s, List.map_take] using this
    have HT8 : Hid (∀ a ∈ l.take n, a < 256) := fun a ha => HM.out a (List.mem_of_mem_take ha)
    have hcn : ¬ c = n := by omega
    have HD : Hid (Rd w 1 (.slice (Option.map (fun x => x.add n) q) (l.length - n) (c - n)) (l.length - n) (u8s (l.drop n))) := by
      show Rd _ _ _ _ _
      have h2 := H2.out.from n hnl
      unfold sliced at h2
      rw [if_neg hcn] at h2
      simpa [u8s, List.map_drop] using h2
    have HD8 : Hid (∀ a ∈ l.drop n, a < 256) := fun a ha => HM.out a (List.mem_of_mem_drop ha)
    go_enter Tryd.func59, Tryd.ntmps59
    go_wp2_with fail
    refine wp_region_takeH (fun w' => Below w.heap.size w w') [9, 10] [0, 1, 2, 3, 4, 5, 6, 7, 8, 9, 10, 11, 12] (by kernel_rfl) (by kernel_rfl) (by kernel_rfl) ?_ ?_ ?_
    · intro c a a' w hd h; exact ⟨hd ▸ h.1, h.2⟩
    · exact ⟨HB0.out.os, HB0.out.tape, HB0.out.output, HB0.out.size, HB0.out.block⟩
    simp only [taken, List.map_cons, List.map_nil, List.getElem?_cons_succ, List.getElem?_cons_zero, Option.getD_some]
    repeat (first
        | (refine takeH_skip rfl ?_; simp only [Act.put, List.setIfInBounds_toArray, List.set_cons_succ, List.set_cons_zero])
        | (refine takeH_blind rfl rfl ?_; apply Exists.intro; refine ⟨fun w => ?_, ?_⟩; (go_simp; try with_reducible rfl); simp only [Act.put, List.setIfInBounds_toArray, List.set_cons_succ, List.set_cons_zero]))
    refine takeH_read rfl rfl (.slice q n c) (fun w' _ => exec_upto Tryd.elemU8 w' q l.length c n hnl hnc _ _ rfl rfl rfl) ?_
    simp only [Act.put, List.setIfInBounds_toArray, List.set_cons_succ, List.set_cons_zero]
    refine takeH_call rfl rfl (fun K hK => ?_)
    go_wp2_with fail
    refine (crc_sumOf _ (l.take n) w.drew HT.out HT1.out HT8.out).mono ?_
    rintro e w1 ⟨r, rfl, hM⟩
    have hB : Below w.heap.size w w1 := ⟨hM.2.os, hM.2.tape, hM.2.output, hM.2.size, hM.2.block⟩
    obtain ⟨q3, c3, hr⟩ := (Rd.of_owns hM.1).shape
    subst hr
    have HR3 := Lib.hid (Rd.of_owns hM.1)
    have HD1 := Lib.hid (HD.out.below hB)
    have HB1 := Lib.hid hB
    refine hK _ _ hB ?_
    clear hK K hM hB
    repeat (first
        | (refine takeH_skip rfl ?_; simp only [Act.put, List.setIfInBounds_toArray, List.set_cons_succ, List.set_cons_zero])
        | (refine takeH_blind rfl rfl ?_; apply Exists.intro; refine ⟨fun w => ?_, ?_⟩; (go_simp; try with_reducible rfl); simp only [Act.put, List.setIfInBounds_toArray, List.set_cons_succ, List.set_cons_zero]))
    refine takeH_call rfl rfl (fun K hK => ?_)
    go_wp2_with fail
    refine (equal_any _ _ _ _ _ _ _ HD1.out HR3.out HD8.out (le4_lt _)).mono ?_
    rintro e w4 ⟨rfl, rfl⟩
    rw [← HE.out]
    refine hK _ _ HB1.out ?_
    clear hK K
    have HB2 := HB1
    clear HE HD HD8 HR3 HT1 HT8 HD1
    obtain ⟨b, hb⟩ : ∃ b, isCrc l = b := ⟨_, rfl⟩
    rw [hb]
    have HBb := Lib.hid hb
    clear hb
    cases b
    · repeat (first
        | (refine takeH_skip rfl ?_; simp only [Act.put, List.setIfInBounds_toArray, List.set_cons_succ, List.set_cons_zero])
        | (refine takeH_blind rfl rfl ?_; apply Exists.intro; refine ⟨fun w => ?_, ?_⟩; (go_simp; try with_reducible rfl); simp only [Act.put, List.setIfInBounds_toArray, List.set_cons_succ, List.set_cons_zero]))
      refine takeH_nil ?_
      go_wp2_with fail
      go_ret
      exact ⟨ret_bool HBb.out.symm, HB2.out⟩
    · repeat (first
        | (refine takeH_skip rfl ?_; simp only [Act.put, List.setIfInBounds_toArray, List.set_cons_succ, List.set_cons_zero])
        | (refine takeH_blind rfl rfl ?_; apply Exists.intro; refine ⟨fun w => ?_, ?_⟩; (go_simp; try with_reducible rfl); simp only [Act.put, List.setIfInBounds_toArray, List.set_cons_succ, List.set_cons_zero]))
      refine takeH_nil ?_
      go_wp2_with fail
      go_ret
      exact ⟨ret_bool HBb.out.symm, HB2.out⟩
  · obtain ⟨m, hm⟩ : ∃ m : Int, (l.length : Int) - 4 = m := ⟨_, rfl⟩
    have hm1 : m < 0 := by omega
    have HE : Hid (isCrc l = false) := by show _ = _; unfold isCrc; rw [decide_eq_false]; exact fun h => hlt h.1
    go_enter Tryd.func59, Tryd.ntmps59
    go_wp2_with fail
    refine wp_region_takeH (fun w' => Below w.heap.size w w') [9, 10] [0, 1, 2, 3, 4, 5, 6, 7, 8, 9, 10, 11, 12] (by kernel_rfl) (by kernel_rfl) (by kernel_rfl) ?_ ?_ ?_
    · intro c a a' w hd h; exact ⟨hd ▸ h.1, h.2⟩
    · exact ⟨HB0.out.os, HB0.out.tape, HB0.out.output, HB0.out.size, HB0.out.block⟩
    simp only [taken, List.map_cons, List.map_nil, List.getElem?_cons_succ, List.getElem?_cons_zero, Option.getD_some]
    have hmF : (0 ≤ m) = False := eq_false (by omega)
    clear hm hlt hnc hmax
    repeat (first
        | (refine takeH_skip rfl ?_; simp only [Act.put, List.setIfInBounds_toArray, List.set_cons_succ, List.set_cons_zero])
        | (refine takeH_blind rfl rfl ?_; apply Exists.intro; refine ⟨fun w => ?_, ?_⟩; (go_simp; try with_reducible rfl); simp only [Act.put, List.setIfInBounds_toArray, List.set_cons_succ, List.set_cons_zero]))
    refine takeH_nil ?_
    go_wp2_with fail
    go_ret
    exact ⟨ret_bool HE.out.symm, HB0.out.os, HB0.out.tape, HB0.out.output, HB0.out.size, HB0.out.block⟩
end Go.Proofs.YtkgghlhmgolfbaaDoor
