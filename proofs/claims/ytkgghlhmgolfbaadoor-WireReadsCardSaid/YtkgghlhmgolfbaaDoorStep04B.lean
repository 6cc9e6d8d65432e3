/- Layer 4: a step of both readers: Byte, Fail; any step. -/
import Derived.Test.YtkgghlhmgolfbaaDoorStep04U
import Derived.Test.YtkgghlhmgolfbaaDoorStep04S
import Derived.Test.YtkgghlhmgolfbaaDoorStep04T
import Derived.Test.YtkgghlhmgolfbaaDoorStep04X
set_option linter.unusedVariables false
namespace Go.Proofs.YtkgghlhmgolfbaaDoor
open Go Go.RowKit
variable {G : Nat} {T : World → Prop} {R : World → Nat → Value → List Nat → Nat → Int → Prop}

set_option maxHeartbeats 8000000 in
theorem step_byte (I : WIf G T R) (p q : Nat) (v vq : Value) (B : List Nat) (a : Nat) (e : Int) (N : Int) (U id : Nat) (w : World) (h : Two G R w p q v vq B a e)
    (hN : -9223372036854775808 ≤ N ∧ N < 9223372036854775808) (hU : U < 18446744073709551616) (hid : id < 256) :
    Calls Tryd.prog 17 #[.pointer (some ⟨p, 0, none⟩), .pointer (some ⟨q, 0, none⟩), .agg #[.int .i64 0, .int .i64 N, .int .u64 (U : Int), .int .u8 (id : Int)]] w fun en w' => en = .returned (.int .i64 1) ∧ Stepped G R p q v vq B w w' := by
  have HB : Hid (Below w.heap.size w (w.alloc (.cells #[.int .i64 0, .int .i64 N, .int .u64 (U : Int), .int .u8 (id : Int)] 41))) := (Below.refl _ _).alloc (Nat.le_refl _) _
  have HS := Lib.hid (h.below I HB.out)
  have HM : Hid (Mods (fun k => k = p ∨ k = q) w (w.alloc (.cells #[.int .i64 0, .int .i64 N, .int .u64 (U : Int), .int .u8 (id : Int)] 41))) := Mods.of_below HB.out _
  have HBx : Hid (Box w.heap.size N U id (w.alloc (.cells #[.int .i64 0, .int .i64 N, .int .u64 (U : Int), .int .u8 (id : Int)] 41))) := Box.new _ _ _ _ _ _
  have HOk := Lib.hid (I.ok h.one)
  have HNp : Hid (w.heap.size ≠ p) := by show _ ≠ _; have := I.lt h.one; omega
  have HNq : Hid (w.heap.size ≠ q) := by show _ ≠ _; have := h.two.blk.lt; omega
  clear h
  go_enter Tryd.func17, Tryd.ntmps17
  go_wp2_with fail
  generalize w.alloc (.cells #[.int .i64 0, .int .i64 N, .int .u64 (U : Int), .int .u8 (id : Int)] 41) = wx at *
  clear HB
  by_cases he : e = 0
  · subst he
    refine (I.byte HS.out.one).mono ?_
    rintro en w1 ⟨hm, hg⟩
    cases ho : outByte B a with
    | ok x b =>
      rw [ho] at hg
      obtain ⟨rfl, hR⟩ := hg
      have HR1 := Lib.hid hR
      have HQ1 := Lib.hid (HS.out.afterOne hm)
      have HM1 : Hid (Mods (fun k => k = p ∨ k = q) w w1) := HM.out.trans hm (fun _ _ e => Or.inl e)
      clear hm hR HM HBx
      go_wp2_with fail
      refine (rr_byte q vq B a w1 HQ1.out HOk.out.1).mono ?_
      rintro en w2 ⟨hm, hg⟩
      rw [ho] at hg
      obtain ⟨rfl, hQ⟩ := hg
      have HS2 := Lib.hid (HS.out.afterTwo I HR1.out hQ hm)
      have HM2 : Hid (Mods (fun k => k = p ∨ k = q) w w2) := HM1.out.trans hm (fun _ _ e => Or.inr e)
      clear hm hQ HS HR1 HQ1 HM1
      go_wp2_with fail
      have HS := HS2
      have HM := HM2
      clear HS2 HM2
      have HC : Hid (∀ w', QCells q vq b (0 : Int) w' → w'.cell? ⟨q, 0, none⟩ = some vq ∧ w'.cell? ⟨q, 1, none⟩ = some (.int .i64 (b : Int)) ∧ w'.cell? ⟨q, 2, none⟩ = some (.int .i64 (0 : Int))) := fun _ h => h
      have HS0 := Lib.hid (HS.out.drew I)
      refine wp_region_takeH (QCells q vq b (0 : Int)) [4, 13, 22, 24] [0, 1, 2, 3, 5, 6, 7, 8, 4, 9, 10, 11, 12, 14, 15, 16, 17, 13, 18, 19, 20, 21, 23, 22, 24, 25, 26] (by kernel_rfl) (by kernel_rfl) (by kernel_rfl) ?_ ?_ ?_
      · intro c a a' w hd h; exact ⟨hd ▸ h.1, h.2⟩
      · exact HS.out.qcells.drew
      simp only [taken, List.map_cons, List.map_nil, List.getElem?_cons_succ, List.getElem?_cons_zero, Option.getD_some]
      repeat (first
        | (refine takeH_skip rfl ?_; simp only [Act.put, List.setIfInBounds_toArray, List.set_cons_succ, List.set_cons_zero])
        | (refine takeH_blind rfl rfl ?_; apply Exists.intro; refine ⟨fun w => ?_, ?_⟩; (go_simp; try with_reducible rfl); simp only [Act.put, List.setIfInBounds_toArray, List.set_cons_succ, List.set_cons_zero])
        | (refine takeH_reads rfl rfl ?_; apply Exists.intro; refine ⟨fun w' hS => ?_, ?_⟩; (obtain ⟨d0, d1, d2⟩ := HC.out w' hS; go_simp; try with_reducible rfl); simp only [Act.put, List.setIfInBounds_toArray, List.set_cons_succ, List.set_cons_zero]))
      refine takeH_call rfl rfl (fun K' hK => ?_)
      go_wp2_with fail
      refine (I.pos HS0.out.one).mono ?_
      rintro en w1 ⟨rfl, hB⟩
      have HS1 := Lib.hid (HS0.out.below I hB)
      have HM1 : Hid (Mods (fun k => k = p ∨ k = q) w w1) := (HM.out.trans (Mods.drew (fun k => k = p ∨ k = q) _) (fun _ _ e => e)).trans (Mods.of_below hB _) (fun _ _ e => e)
      refine hK _ _ HS1.out.qcells ?_
      clear hK K' hB HS HM HS0
      repeat (first
        | (refine takeH_skip rfl ?_; simp only [Act.put, List.setIfInBounds_toArray, List.set_cons_succ, List.set_cons_zero])
        | (refine takeH_blind rfl rfl ?_; apply Exists.intro; refine ⟨fun w => ?_, ?_⟩; (go_simp; try with_reducible rfl); simp only [Act.put, List.setIfInBounds_toArray, List.set_cons_succ, List.set_cons_zero])
        | (refine takeH_reads rfl rfl ?_; apply Exists.intro; refine ⟨fun w' hS => ?_, ?_⟩; (obtain ⟨d0, d1, d2⟩ := HC.out w' hS; go_simp; try with_reducible rfl); simp only [Act.put, List.setIfInBounds_toArray, List.set_cons_succ, List.set_cons_zero]))
      refine takeH_call rfl rfl (fun K' hK => ?_)
      go_wp2_with fail
      refine (I.err HS1.out.one).mono ?_
      rintro en w2 ⟨rfl, hB⟩
      have HS2 := Lib.hid (HS1.out.below I hB)
      have HM2 : Hid (Mods (fun k => k = p ∨ k = q) w w2) := HM1.out.trans (Mods.of_below hB _) (fun _ _ e => e)
      refine hK _ _ HS2.out.qcells ?_
      clear hK K' hB HS1 HM1
      repeat (first
        | (refine takeH_skip rfl ?_; simp only [Act.put, List.setIfInBounds_toArray, List.set_cons_succ, List.set_cons_zero])
        | (refine takeH_blind rfl rfl ?_; apply Exists.intro; refine ⟨fun w => ?_, ?_⟩; (go_simp; try with_reducible rfl); simp only [Act.put, List.setIfInBounds_toArray, List.set_cons_succ, List.set_cons_zero])
        | (refine takeH_reads rfl rfl ?_; apply Exists.intro; refine ⟨fun w' hS => ?_, ?_⟩; (obtain ⟨d0, d1, d2⟩ := HC.out w' hS; go_simp; try with_reducible rfl); simp only [Act.put, List.setIfInBounds_toArray, List.set_cons_succ, List.set_cons_zero]))
      refine takeH_call rfl rfl (fun K' hK => ?_)
      go_wp2_with fail
      refine (I.fin HS2.out.one).mono ?_
      rintro en w3 ⟨rfl, hB⟩
      have HS3 := Lib.hid (HS2.out.below I hB)
      have HM3 : Hid (Mods (fun k => k = p ∨ k = q) w w3) := HM2.out.trans (Mods.of_below hB _) (fun _ _ e => e)
      have HE3 := Lib.hid (rr_end q vq B b (0 : Int) w3 HS3.out.two)
      generalize (if (0 : Int) = 0 ∧ b < B.length then (4 : Int) else (0 : Int)) = X at *
      refine hK _ _ HS3.out.qcells ?_
      clear hK K' hB HS2 HM2
      repeat (first
        | (refine takeH_skip rfl ?_; simp only [Act.put, List.setIfInBounds_toArray, List.set_cons_succ, List.set_cons_zero])
        | (refine takeH_blind rfl rfl ?_; apply Exists.intro; refine ⟨fun w => ?_, ?_⟩; (go_simp; try with_reducible rfl); simp only [Act.put, List.setIfInBounds_toArray, List.set_cons_succ, List.set_cons_zero])
        | (refine takeH_reads rfl rfl ?_; apply Exists.intro; refine ⟨fun w' hS => ?_, ?_⟩; (obtain ⟨d0, d1, d2⟩ := HC.out w' hS; go_simp; try with_reducible rfl); simp only [Act.put, List.setIfInBounds_toArray, List.set_cons_succ, List.set_cons_zero]))
      refine takeH_call rfl rfl (fun K' hK => ?_)
      go_wp2_with fail
      refine HE3.out.mono ?_
      rintro en w4 ⟨rfl, n4, rfl⟩
      have HS4 := Lib.hid (HS3.out.drewN I n4)
      have HM4 : Hid (Mods (fun k => k = p ∨ k = q) w (w3.drewN n4)) := HM3.out.trans (Mods.drewN _ _ _) (fun _ _ e => e)
      refine hK _ _ HS4.out.qcells ?_
      clear hK K' HS3 HM3 HE3
      repeat (first
        | (refine takeH_skip rfl ?_; simp only [Act.put, List.setIfInBounds_toArray, List.set_cons_succ, List.set_cons_zero])
        | (refine takeH_blind rfl rfl ?_; apply Exists.intro; refine ⟨fun w => ?_, ?_⟩; (go_simp; try with_reducible rfl); simp only [Act.put, List.setIfInBounds_toArray, List.set_cons_succ, List.set_cons_zero])
        | (refine takeH_reads rfl rfl ?_; apply Exists.intro; refine ⟨fun w' hS => ?_, ?_⟩; (obtain ⟨d0, d1, d2⟩ := HC.out w' hS; go_simp; try with_reducible rfl); simp only [Act.put, List.setIfInBounds_toArray, List.set_cons_succ, List.set_cons_zero]))
      refine takeH_nil ?_
      go_wp2_with fail
      go_ret
      exact ⟨rfl, b, (0 : Int), HS4.out, HM4.out⟩
    | bad n =>
      rw [ho] at hg
      obtain ⟨rfl, hR⟩ := hg
      have HR1 := Lib.hid hR
      have HQ1 := Lib.hid (HS.out.afterOne hm)
      have HM1 : Hid (Mods (fun k => k = p ∨ k = q) w w1) := HM.out.trans hm (fun _ _ e => Or.inl e)
      clear hm hR HM HBx
      go_wp2_with fail
      refine (rr_byte q vq B a w1 HQ1.out HOk.out.1).mono ?_
      rintro en w2 ⟨hm, hg⟩
      rw [ho] at hg
      obtain ⟨rfl, hQ⟩ := hg
      have HS2 := Lib.hid (HS.out.afterTwo I HR1.out hQ hm)
      have HM2 : Hid (Mods (fun k => k = p ∨ k = q) w w2) := HM1.out.trans hm (fun _ _ e => Or.inr e)
      clear hm hQ HS HR1 HQ1 HM1
      go_wp2_with fail
      have HS := HS2
      have HM := HM2
      clear HS2 HM2
      have HC : Hid (∀ w', QCells q vq a (n : Int) w' → w'.cell? ⟨q, 0, none⟩ = some vq ∧ w'.cell? ⟨q, 1, none⟩ = some (.int .i64 (a : Int)) ∧ w'.cell? ⟨q, 2, none⟩ = some (.int .i64 (n : Int))) := fun _ h => h
      have HS0 := Lib.hid (HS.out.drew I)
      refine wp_region_takeH (QCells q vq a (n : Int)) [4, 13, 22, 24] [0, 1, 2, 3, 5, 6, 7, 8, 4, 9, 10, 11, 12, 14, 15, 16, 17, 13, 18, 19, 20, 21, 23, 22, 24, 25, 26] (by kernel_rfl) (by kernel_rfl) (by kernel_rfl) ?_ ?_ ?_
      · intro c a a' w hd h; exact ⟨hd ▸ h.1, h.2⟩
      · exact HS.out.qcells.drew
      simp only [taken, List.map_cons, List.map_nil, List.getElem?_cons_succ, List.getElem?_cons_zero, Option.getD_some]
      repeat (first
        | (refine takeH_skip rfl ?_; simp only [Act.put, List.setIfInBounds_toArray, List.set_cons_succ, List.set_cons_zero])
        | (refine takeH_blind rfl rfl ?_; apply Exists.intro; refine ⟨fun w => ?_, ?_⟩; (go_simp; try with_reducible rfl); simp only [Act.put, List.setIfInBounds_toArray, List.set_cons_succ, List.set_cons_zero])
        | (refine takeH_reads rfl rfl ?_; apply Exists.intro; refine ⟨fun w' hS => ?_, ?_⟩; (obtain ⟨d0, d1, d2⟩ := HC.out w' hS; go_simp; try with_reducible rfl); simp only [Act.put, List.setIfInBounds_toArray, List.set_cons_succ, List.set_cons_zero]))
      refine takeH_call rfl rfl (fun K' hK => ?_)
      go_wp2_with fail
      refine (I.pos HS0.out.one).mono ?_
      rintro en w1 ⟨rfl, hB⟩
      have HS1 := Lib.hid (HS0.out.below I hB)
      have HM1 : Hid (Mods (fun k => k = p ∨ k = q) w w1) := (HM.out.trans (Mods.drew (fun k => k = p ∨ k = q) _) (fun _ _ e => e)).trans (Mods.of_below hB _) (fun _ _ e => e)
      refine hK _ _ HS1.out.qcells ?_
      clear hK K' hB HS HM HS0
      repeat (first
        | (refine takeH_skip rfl ?_; simp only [Act.put, List.setIfInBounds_toArray, List.set_cons_succ, List.set_cons_zero])
        | (refine takeH_blind rfl rfl ?_; apply Exists.intro; refine ⟨fun w => ?_, ?_⟩; (go_simp; try with_reducible rfl); simp only [Act.put, List.setIfInBounds_toArray, List.set_cons_succ, List.set_cons_zero])
        | (refine takeH_reads rfl rfl ?_; apply Exists.intro; refine ⟨fun w' hS => ?_, ?_⟩; (obtain ⟨d0, d1, d2⟩ := HC.out w' hS; go_simp; try with_reducible rfl); simp only [Act.put, List.setIfInBounds_toArray, List.set_cons_succ, List.set_cons_zero]))
      refine takeH_call rfl rfl (fun K' hK => ?_)
      go_wp2_with fail
      refine (I.err HS1.out.one).mono ?_
      rintro en w2 ⟨rfl, hB⟩
      have HS2 := Lib.hid (HS1.out.below I hB)
      have HM2 : Hid (Mods (fun k => k = p ∨ k = q) w w2) := HM1.out.trans (Mods.of_below hB _) (fun _ _ e => e)
      refine hK _ _ HS2.out.qcells ?_
      clear hK K' hB HS1 HM1
      repeat (first
        | (refine takeH_skip rfl ?_; simp only [Act.put, List.setIfInBounds_toArray, List.set_cons_succ, List.set_cons_zero])
        | (refine takeH_blind rfl rfl ?_; apply Exists.intro; refine ⟨fun w => ?_, ?_⟩; (go_simp; try with_reducible rfl); simp only [Act.put, List.setIfInBounds_toArray, List.set_cons_succ, List.set_cons_zero])
        | (refine takeH_reads rfl rfl ?_; apply Exists.intro; refine ⟨fun w' hS => ?_, ?_⟩; (obtain ⟨d0, d1, d2⟩ := HC.out w' hS; go_simp; try with_reducible rfl); simp only [Act.put, List.setIfInBounds_toArray, List.set_cons_succ, List.set_cons_zero]))
      refine takeH_call rfl rfl (fun K' hK => ?_)
      go_wp2_with fail
      refine (I.fin HS2.out.one).mono ?_
      rintro en w3 ⟨rfl, hB⟩
      have HS3 := Lib.hid (HS2.out.below I hB)
      have HM3 : Hid (Mods (fun k => k = p ∨ k = q) w w3) := HM2.out.trans (Mods.of_below hB _) (fun _ _ e => e)
      have HE3 := Lib.hid (rr_end q vq B a (n : Int) w3 HS3.out.two)
      generalize (if (n : Int) = 0 ∧ a < B.length then (4 : Int) else (n : Int)) = X at *
      refine hK _ _ HS3.out.qcells ?_
      clear hK K' hB HS2 HM2
      repeat (first
        | (refine takeH_skip rfl ?_; simp only [Act.put, List.setIfInBounds_toArray, List.set_cons_succ, List.set_cons_zero])
        | (refine takeH_blind rfl rfl ?_; apply Exists.intro; refine ⟨fun w => ?_, ?_⟩; (go_simp; try with_reducible rfl); simp only [Act.put, List.setIfInBounds_toArray, List.set_cons_succ, List.set_cons_zero])
        | (refine takeH_reads rfl rfl ?_; apply Exists.intro; refine ⟨fun w' hS => ?_, ?_⟩; (obtain ⟨d0, d1, d2⟩ := HC.out w' hS; go_simp; try with_reducible rfl); simp only [Act.put, List.setIfInBounds_toArray, List.set_cons_succ, List.set_cons_zero]))
      refine takeH_call rfl rfl (fun K' hK => ?_)
      go_wp2_with fail
      refine HE3.out.mono ?_
      rintro en w4 ⟨rfl, n4, rfl⟩
      have HS4 := Lib.hid (HS3.out.drewN I n4)
      have HM4 : Hid (Mods (fun k => k = p ∨ k = q) w (w3.drewN n4)) := HM3.out.trans (Mods.drewN _ _ _) (fun _ _ e => e)
      refine hK _ _ HS4.out.qcells ?_
      clear hK K' HS3 HM3 HE3
      repeat (first
        | (refine takeH_skip rfl ?_; simp only [Act.put, List.setIfInBounds_toArray, List.set_cons_succ, List.set_cons_zero])
        | (refine takeH_blind rfl rfl ?_; apply Exists.intro; refine ⟨fun w => ?_, ?_⟩; (go_simp; try with_reducible rfl); simp only [Act.put, List.setIfInBounds_toArray, List.set_cons_succ, List.set_cons_zero])
        | (refine takeH_reads rfl rfl ?_; apply Exists.intro; refine ⟨fun w' hS => ?_, ?_⟩; (obtain ⟨d0, d1, d2⟩ := HC.out w' hS; go_simp; try with_reducible rfl); simp only [Act.put, List.setIfInBounds_toArray, List.set_cons_succ, List.set_cons_zero]))
      refine takeH_nil ?_
      go_wp2_with fail
      go_ret
      exact ⟨rfl, a, (n : Int), HS4.out, HM4.out⟩
  · refine (I.byteE he HS.out.one).mono ?_
    rintro en w1 ⟨rfl, hR, hm⟩
    have HR1 := Lib.hid hR
    have HQ1 := Lib.hid (HS.out.afterOne hm)
    have HM1 : Hid (Mods (fun k => k = p ∨ k = q) w w1) := HM.out.trans hm (fun _ _ e => Or.inl e)
    clear hm hR HM HBx
    go_wp2_with fail
    refine (rr_byte_err q vq B a e w1 HQ1.out he).mono ?_
    rintro en w2 ⟨rfl, hQ, hm⟩
    have HS2 := Lib.hid (HS.out.afterTwo I HR1.out hQ hm)
    have HM2 : Hid (Mods (fun k => k = p ∨ k = q) w w2) := HM1.out.trans hm (fun _ _ e => Or.inr e)
    clear hm hQ HS HR1 HQ1 HM1
    go_wp2_with fail
    have HS := HS2
    have HM := HM2
    clear HS2 HM2
    have HC : Hid (∀ w', QCells q vq a e w' → w'.cell? ⟨q, 0, none⟩ = some vq ∧ w'.cell? ⟨q, 1, none⟩ = some (.int .i64 (a : Int)) ∧ w'.cell? ⟨q, 2, none⟩ = some (.int .i64 e)) := fun _ h => h
    have HS0 := Lib.hid (HS.out.drew I)
    refine wp_region_takeH (QCells q vq a e) [4, 13, 22, 24] [0, 1, 2, 3, 5, 6, 7, 8, 4, 9, 10, 11, 12, 14, 15, 16, 17, 13, 18, 19, 20, 21, 23, 22, 24, 25, 26] (by kernel_rfl) (by kernel_rfl) (by kernel_rfl) ?_ ?_ ?_
    · intro c a a' w hd h; exact ⟨hd ▸ h.1, h.2⟩
    · exact HS.out.qcells.drew
    simp only [taken, List.map_cons, List.map_nil, List.getElem?_cons_succ, List.getElem?_cons_zero, Option.getD_some]
    repeat (first
        | (refine takeH_skip rfl ?_; simp only [Act.put, List.setIfInBounds_toArray, List.set_cons_succ, List.set_cons_zero])
        | (refine takeH_blind rfl rfl ?_; apply Exists.intro; refine ⟨fun w => ?_, ?_⟩; (go_simp; try with_reducible rfl); simp only [Act.put, List.setIfInBounds_toArray, List.set_cons_succ, List.set_cons_zero])
        | (refine takeH_reads rfl rfl ?_; apply Exists.intro; refine ⟨fun w' hS => ?_, ?_⟩; (obtain ⟨d0, d1, d2⟩ := HC.out w' hS; go_simp; try with_reducible rfl); simp only [Act.put, List.setIfInBounds_toArray, List.set_cons_succ, List.set_cons_zero]))
    refine takeH_call rfl rfl (fun K' hK => ?_)
    go_wp2_with fail
    refine (I.pos HS0.out.one).mono ?_
    rintro en w1 ⟨rfl, hB⟩
    have HS1 := Lib.hid (HS0.out.below I hB)
    have HM1 : Hid (Mods (fun k => k = p ∨ k = q) w w1) := (HM.out.trans (Mods.drew (fun k => k = p ∨ k = q) _) (fun _ _ e => e)).trans (Mods.of_below hB _) (fun _ _ e => e)
    refine hK _ _ HS1.out.qcells ?_
    clear hK K' hB HS HM HS0
    repeat (first
        | (refine takeH_skip rfl ?_; simp only [Act.put, List.setIfInBounds_toArray, List.set_cons_succ, List.set_cons_zero])
        | (refine takeH_blind rfl rfl ?_; apply Exists.intro; refine ⟨fun w => ?_, ?_⟩; (go_simp; try with_reducible rfl); simp only [Act.put, List.setIfInBounds_toArray, List.set_cons_succ, List.set_cons_zero])
        | (refine takeH_reads rfl rfl ?_; apply Exists.intro; refine ⟨fun w' hS => ?_, ?_⟩; (obtain ⟨d0, d1, d2⟩ := HC.out w' hS; go_simp; try with_reducible rfl); simp only [Act.put, List.setIfInBounds_toArray, List.set_cons_succ, List.set_cons_zero]))
    refine takeH_call rfl rfl (fun K' hK => ?_)
    go_wp2_with fail
    refine (I.err HS1.out.one).mono ?_
    rintro en w2 ⟨rfl, hB⟩
    have HS2 := Lib.hid (HS1.out.below I hB)
    have HM2 : Hid (Mods (fun k => k = p ∨ k = q) w w2) := HM1.out.trans (Mods.of_below hB _) (fun _ _ e => e)
    refine hK _ _ HS2.out.qcells ?_
    clear hK K' hB HS1 HM1
    repeat (first
        | (refine takeH_skip rfl ?_; simp only [Act.put, List.setIfInBounds_toArray, List.set_cons_succ, List.set_cons_zero])
        | (refine takeH_blind rfl rfl ?_; apply Exists.intro; refine ⟨fun w => ?_, ?_⟩; (go_simp; try with_reducible rfl); simp only [Act.put, List.setIfInBounds_toArray, List.set_cons_succ, List.set_cons_zero])
        | (refine takeH_reads rfl rfl ?_; apply Exists.intro; refine ⟨fun w' hS => ?_, ?_⟩; (obtain ⟨d0, d1, d2⟩ := HC.out w' hS; go_simp; try with_reducible rfl); simp only [Act.put, List.setIfInBounds_toArray, List.set_cons_succ, List.set_cons_zero]))
    refine takeH_call rfl rfl (fun K' hK => ?_)
    go_wp2_with fail
    refine (I.fin HS2.out.one).mono ?_
    rintro en w3 ⟨rfl, hB⟩
    have HS3 := Lib.hid (HS2.out.below I hB)
    have HM3 : Hid (Mods (fun k => k = p ∨ k = q) w w3) := HM2.out.trans (Mods.of_below hB _) (fun _ _ e => e)
    have HE3 := Lib.hid (rr_end q vq B a e w3 HS3.out.two)
    generalize (if e = 0 ∧ a < B.length then (4 : Int) else e) = X at *
    refine hK _ _ HS3.out.qcells ?_
    clear hK K' hB HS2 HM2
    repeat (first
        | (refine takeH_skip rfl ?_; simp only [Act.put, List.setIfInBounds_toArray, List.set_cons_succ, List.set_cons_zero])
        | (refine takeH_blind rfl rfl ?_; apply Exists.intro; refine ⟨fun w => ?_, ?_⟩; (go_simp; try with_reducible rfl); simp only [Act.put, List.setIfInBounds_toArray, List.set_cons_succ, List.set_cons_zero])
        | (refine takeH_reads rfl rfl ?_; apply Exists.intro; refine ⟨fun w' hS => ?_, ?_⟩; (obtain ⟨d0, d1, d2⟩ := HC.out w' hS; go_simp; try with_reducible rfl); simp only [Act.put, List.setIfInBounds_toArray, List.set_cons_succ, List.set_cons_zero]))
    refine takeH_call rfl rfl (fun K' hK => ?_)
    go_wp2_with fail
    refine HE3.out.mono ?_
    rintro en w4 ⟨rfl, n4, rfl⟩
    have HS4 := Lib.hid (HS3.out.drewN I n4)
    have HM4 : Hid (Mods (fun k => k = p ∨ k = q) w (w3.drewN n4)) := HM3.out.trans (Mods.drewN _ _ _) (fun _ _ e => e)
    refine hK _ _ HS4.out.qcells ?_
    clear hK K' HS3 HM3 HE3
    repeat (first
        | (refine takeH_skip rfl ?_; simp only [Act.put, List.setIfInBounds_toArray, List.set_cons_succ, List.set_cons_zero])
        | (refine takeH_blind rfl rfl ?_; apply Exists.intro; refine ⟨fun w => ?_, ?_⟩; (go_simp; try with_reducible rfl); simp only [Act.put, List.setIfInBounds_toArray, List.set_cons_succ, List.set_cons_zero])
        | (refine takeH_reads rfl rfl ?_; apply Exists.intro; refine ⟨fun w' hS => ?_, ?_⟩; (obtain ⟨d0, d1, d2⟩ := HC.out w' hS; go_simp; try with_reducible rfl); simp only [Act.put, List.setIfInBounds_toArray, List.set_cons_succ, List.set_cons_zero]))
    refine takeH_nil ?_
    go_wp2_with fail
    go_ret
    exact ⟨rfl, a, e, HS4.out, HM4.out⟩

set_option maxHeartbeats 8000000 in
theorem step_fail (I : WIf G T R) (p q : Nat) (v vq : Value) (B : List Nat) (a : Nat) (e : Int) (N : Int) (U id : Nat) (w : World) (h : Two G R w p q v vq B a e)
    (hN : -9223372036854775808 ≤ N ∧ N < 9223372036854775808) (hU : U < 18446744073709551616) (hid : id < 256) :
    Calls Tryd.prog 17 #[.pointer (some ⟨p, 0, none⟩), .pointer (some ⟨q, 0, none⟩), .agg #[.int .i64 5, .int .i64 N, .int .u64 (U : Int), .int .u8 (id : Int)]] w fun en w' => en = .returned (.int .i64 1) ∧ Stepped G R p q v vq B w w' := by
  have HB : Hid (Below w.heap.size w (w.alloc (.cells #[.int .i64 5, .int .i64 N, .int .u64 (U : Int), .int .u8 (id : Int)] 41))) := (Below.refl _ _).alloc (Nat.le_refl _) _
  have HS := Lib.hid (h.below I HB.out)
  have HM : Hid (Mods (fun k => k = p ∨ k = q) w (w.alloc (.cells #[.int .i64 5, .int .i64 N, .int .u64 (U : Int), .int .u8 (id : Int)] 41))) := Mods.of_below HB.out _
  have HBx : Hid (Box w.heap.size N U id (w.alloc (.cells #[.int .i64 5, .int .i64 N, .int .u64 (U : Int), .int .u8 (id : Int)] 41))) := Box.new _ _ _ _ _ _
  have HOk := Lib.hid (I.ok h.one)
  have HNp : Hid (w.heap.size ≠ p) := by show _ ≠ _; have := I.lt h.one; omega
  have HNq : Hid (w.heap.size ≠ q) := by show _ ≠ _; have := h.two.blk.lt; omega
  clear h
  go_enter Tryd.func17, Tryd.ntmps17
  go_wp2_with fail
  generalize w.alloc (.cells #[.int .i64 5, .int .i64 N, .int .u64 (U : Int), .int .u8 (id : Int)] 41) = wx at *
  clear HB
  refine (I.fail N HS.out.one).mono ?_
  rintro en w1 ⟨rfl, hR, hm⟩
  have HBx1 := Lib.hid (HBx.out.mods hm (fun e => HNp.out e))
  obtain ⟨b1, b2, b3⟩ := HBx1.out
  have HR1 := Lib.hid hR
  have HQ1 := Lib.hid (HS.out.afterOne hm)
  have HM1 : Hid (Mods (fun k => k = p ∨ k = q) w w1) := HM.out.trans hm (fun _ _ e => Or.inl e)
  clear hm hR HM HBx
  go_wp2_with fail
  refine (rr_fail q vq B a e N w1 HQ1.out).mono ?_
  rintro en w2 ⟨rfl, hQ, hm⟩
  have HS2 := Lib.hid (HS.out.afterTwo I HR1.out hQ hm)
  have HM2 : Hid (Mods (fun k => k = p ∨ k = q) w w2) := HM1.out.trans hm (fun _ _ e => Or.inr e)
  clear hm hQ HS HR1 HQ1 HM1 HBx1 b1 b2 b3
  generalize (if e = 0 then N else e) = z at *
  go_wp2_with fail
  have HS := HS2
  have HM := HM2
  clear HS2 HM2
  have HC : Hid (∀ w', QCells q vq a z w' → w'.cell? ⟨q, 0, none⟩ = some vq ∧ w'.cell? ⟨q, 1, none⟩ = some (.int .i64 (a : Int)) ∧ w'.cell? ⟨q, 2, none⟩ = some (.int .i64 z)) := fun _ h => h
  have HS0 := Lib.hid (HS.out.drew I)
  refine wp_region_takeH (QCells q vq a z) [4, 13, 22, 24] [0, 1, 2, 3, 5, 6, 7, 8, 4, 9, 10, 11, 12, 14, 15, 16, 17, 13, 18, 19, 20, 21, 23, 22, 24, 25, 26] (by kernel_rfl) (by kernel_rfl) (by kernel_rfl) ?_ ?_ ?_
  · intro c a a' w hd h; exact ⟨hd ▸ h.1, h.2⟩
  · exact HS.out.qcells.drew
  simp only [taken, List.map_cons, List.map_nil, List.getElem?_cons_succ, List.getElem?_cons_zero, Option.getD_some]
  repeat (first
        | (refine takeH_skip rfl ?_; simp only [Act.put, List.setIfInBounds_toArray, List.set_cons_succ, List.set_cons_zero])
        | (refine takeH_blind rfl rfl ?_; apply Exists.intro; refine ⟨fun w => ?_, ?_⟩; (go_simp; try with_reducible rfl); simp only [Act.put, List.setIfInBounds_toArray, List.set_cons_succ, List.set_cons_zero])
        | (refine takeH_reads rfl rfl ?_; apply Exists.intro; refine ⟨fun w' hS => ?_, ?_⟩; (obtain ⟨d0, d1, d2⟩ := HC.out w' hS; go_simp; try with_reducible rfl); simp only [Act.put, List.setIfInBounds_toArray, List.set_cons_succ, List.set_cons_zero]))
  refine takeH_call rfl rfl (fun K' hK => ?_)
  go_wp2_with fail
  refine (I.pos HS0.out.one).mono ?_
  rintro en w1 ⟨rfl, hB⟩
  have HS1 := Lib.hid (HS0.out.below I hB)
  have HM1 : Hid (Mods (fun k => k = p ∨ k = q) w w1) := (HM.out.trans (Mods.drew (fun k => k = p ∨ k = q) _) (fun _ _ e => e)).trans (Mods.of_below hB _) (fun _ _ e => e)
  refine hK _ _ HS1.out.qcells ?_
  clear hK K' hB HS HM HS0
  repeat (first
        | (refine takeH_skip rfl ?_; simp only [Act.put, List.setIfInBounds_toArray, List.set_cons_succ, List.set_cons_zero])
        | (refine takeH_blind rfl rfl ?_; apply Exists.intro; refine ⟨fun w => ?_, ?_⟩; (go_simp; try with_reducible rfl); simp only [Act.put, List.setIfInBounds_toArray, List.set_cons_succ, List.set_cons_zero])
        | (refine takeH_reads rfl rfl ?_; apply Exists.intro; refine ⟨fun w' hS => ?_, ?_⟩; (obtain ⟨d0, d1, d2⟩ := HC.out w' hS; go_simp; try with_reducible rfl); simp only [Act.put, List.setIfInBounds_toArray, List.set_cons_succ, List.set_cons_zero]))
  refine takeH_call rfl rfl (fun K' hK => ?_)
  go_wp2_with fail
  refine (I.err HS1.out.one).mono ?_
  rintro en w2 ⟨rfl, hB⟩
  have HS2 := Lib.hid (HS1.out.below I hB)
  have HM2 : Hid (Mods (fun k => k = p ∨ k = q) w w2) := HM1.out.trans (Mods.of_below hB _) (fun _ _ e => e)
  refine hK _ _ HS2.out.qcells ?_
  clear hK K' hB HS1 HM1
  repeat (first
        | (refine takeH_skip rfl ?_; simp only [Act.put, List.setIfInBounds_toArray, List.set_cons_succ, List.set_cons_zero])
        | (refine takeH_blind rfl rfl ?_; apply Exists.intro; refine ⟨fun w => ?_, ?_⟩; (go_simp; try with_reducible rfl); simp only [Act.put, List.setIfInBounds_toArray, List.set_cons_succ, List.set_cons_zero])
        | (refine takeH_reads rfl rfl ?_; apply Exists.intro; refine ⟨fun w' hS => ?_, ?_⟩; (obtain ⟨d0, d1, d2⟩ := HC.out w' hS; go_simp; try with_reducible rfl); simp only [Act.put, List.setIfInBounds_toArray, List.set_cons_succ, List.set_cons_zero]))
  refine takeH_call rfl rfl (fun K' hK => ?_)
  go_wp2_with fail
  refine (I.fin HS2.out.one).mono ?_
  rintro en w3 ⟨rfl, hB⟩
  have HS3 := Lib.hid (HS2.out.below I hB)
  have HM3 : Hid (Mods (fun k => k = p ∨ k = q) w w3) := HM2.out.trans (Mods.of_below hB _) (fun _ _ e => e)
  have HE3 := Lib.hid (rr_end q vq B a z w3 HS3.out.two)
  generalize (if z = 0 ∧ a < B.length then (4 : Int) else z) = X at *
  refine hK _ _ HS3.out.qcells ?_
  clear hK K' hB HS2 HM2
  repeat (first
        | (refine takeH_skip rfl ?_; simp only [Act.put, List.setIfInBounds_toArray, List.set_cons_succ, List.set_cons_zero])
        | (refine takeH_blind rfl rfl ?_; apply Exists.intro; refine ⟨fun w => ?_, ?_⟩; (go_simp; try with_reducible rfl); simp only [Act.put, List.setIfInBounds_toArray, List.set_cons_succ, List.set_cons_zero])
        | (refine takeH_reads rfl rfl ?_; apply Exists.intro; refine ⟨fun w' hS => ?_, ?_⟩; (obtain ⟨d0, d1, d2⟩ := HC.out w' hS; go_simp; try with_reducible rfl); simp only [Act.put, List.setIfInBounds_toArray, List.set_cons_succ, List.set_cons_zero]))
  refine takeH_call rfl rfl (fun K' hK => ?_)
  go_wp2_with fail
  refine HE3.out.mono ?_
  rintro en w4 ⟨rfl, n4, rfl⟩
  have HS4 := Lib.hid (HS3.out.drewN I n4)
  have HM4 : Hid (Mods (fun k => k = p ∨ k = q) w (w3.drewN n4)) := HM3.out.trans (Mods.drewN _ _ _) (fun _ _ e => e)
  refine hK _ _ HS4.out.qcells ?_
  clear hK K' HS3 HM3 HE3
  repeat (first
        | (refine takeH_skip rfl ?_; simp only [Act.put, List.setIfInBounds_toArray, List.set_cons_succ, List.set_cons_zero])
        | (refine takeH_blind rfl rfl ?_; apply Exists.intro; refine ⟨fun w => ?_, ?_⟩; (go_simp; try with_reducible rfl); simp only [Act.put, List.setIfInBounds_toArray, List.set_cons_succ, List.set_cons_zero])
        | (refine takeH_reads rfl rfl ?_; apply Exists.intro; refine ⟨fun w' hS => ?_, ?_⟩; (obtain ⟨d0, d1, d2⟩ := HC.out w' hS; go_simp; try with_reducible rfl); simp only [Act.put, List.setIfInBounds_toArray, List.set_cons_succ, List.set_cons_zero]))
  refine takeH_nil ?_
  go_wp2_with fail
  go_ret
  exact ⟨rfl, a, z, HS4.out, HM4.out⟩

theorem step_any (I : WIf G T R) (p q : Nat) (v vq : Value) (B : List Nat) (a : Nat) (e : Int) (K N : Int) (U id : Nat) (w : World) (h : Two G R w p q v vq B a e)
    (hN : -9223372036854775808 ≤ N ∧ N < 9223372036854775808) (hU : U < 18446744073709551616) (hid : id < 256) :
    Calls Tryd.prog 17 #[.pointer (some ⟨p, 0, none⟩), .pointer (some ⟨q, 0, none⟩), .agg #[.int .i64 K, .int .i64 N, .int .u64 (U : Int), .int .u8 (id : Int)]] w fun en w' => en = .returned (.int .i64 1) ∧ Stepped G R p q v vq B w w' := by
  by_cases hK : K < 0 ∨ 5 < K
  · exact step_other I p q v vq B a e K N U id w h hK
  · have h6 : K = 0 ∨ K = 1 ∨ K = 2 ∨ K = 3 ∨ K = 4 ∨ K = 5 := by omega
    rcases h6 with rfl | rfl | rfl | rfl | rfl | rfl
    · exact step_byte I p q v vq B a e N U id w h hN hU hid
    · exact step_uint I p q v vq B a e N U id w h hN hU hid
    · exact step_take I p q v vq B a e N U id w h hN hU hid
    · exact step_string I p q v vq B a e N U id w h hN hU hid
    · exact step_section I p q v vq B a e N U id w h hN hU hid
    · exact step_fail I p q v vq B a e N U id w h hN hU hid
end Go.Proofs.YtkgghlhmgolfbaaDoor
