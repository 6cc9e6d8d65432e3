/- Layer 9: ChunkChooses, walked over the interface. -/
import Derived.Test.YtgpmoimmpbkgfaaGreatDoorMrg3
import Derived.Test.YtgpmoimmpbkgfaaGreatDoorMrg16
import Derived.Test.YtgpmoimmpbkgfaaGreatDoorMrg4
set_option linter.unusedVariables false
set_option maxRecDepth 20000
namespace Go.Proofs.YtgpmoimmpbkgfaaGreatDoor.chunkChooses
open Go Go.RowKit
variable {G : Nat} {T : World → Prop}

set_option maxHeartbeats 4000000 in
theorem walk (I : CIf G T) (hal : ∀ w, T w → Calls Tryz.prog 9 #[] w fun e w' => e = .returned (.bool true) ∧ Below w.heap.size w w')
    (w : World) (hT : T w) (lv : Value) (l : List Nat) (ok : ∀ t ∈ l, in64u t) (hl : Rd w 1 lv l.length (u64s l)) :
    Calls Tryz.prog 3 #[lv] w fun e w' => e = .returned (.bool true) ∧ Below w.heap.size w w' := by
  have HT := Lib.hid hT; have HL := Lib.hid hl; have HO := Lib.hid ok; have HAL := Lib.hid hal
  obtain ⟨pl, cl, hv⟩ := hl.shape
  subst hv
  clear hT hl ok hal
  by_cases hlt : 200 < l.length
  · have hlt' : (200 : Int) < (l.length : Int) := by omega
    go_enter Tryz.func3, Tryz.ntmps3
    go_wp2_with fail
    refine (HAL.out _ HT.out).mono ?_
    rintro e w1 ⟨rfl, hB⟩
    go_wp2_with fail
    go_ret
    exact ⟨rfl, hB⟩
  · have hlt' : ¬ (200 : Int) < (l.length : Int) := by omega
    have HN : Hid (l.length ≤ 1000000) := by show _ ≤ _; omega
    have HS : Hid (∀ tag w1, (tag = 1 ∨ tag = 2 ∨ tag = 3) → Below w.heap.size w w1 → Calls Tryz.prog 10 #[.int .i64 ((tag : Nat) : Int), .slice pl l.length cl] w1 fun e w' => e = .returned (.int .i64 (sizeC tag l)) ∧ Below w1.heap.size w1 w') := fun tag w1 ht hb => ref_size09 tag ht _ l w1 (HL.out.below hb) HO.out HN.out
    have HSz : Hid (∀ w1, T w1 → Below w.heap.size w w1 → Calls Tryz.prog 11 #[.slice pl l.length cl] w1 fun e w' => e = .returned (.agg #[.int .i64 (sizeC 1 l), .int .i64 (sizeC 2 l), .int .i64 (sizeC 3 l)]) ∧ Below w1.heap.size w1 w') := fun w1 ht hb => I.sizes _ l w1 ht (HL.out.below hb) HO.out HN.out
    have HCh : Hid (∀ w1, T w1 → Below w.heap.size w w1 → Calls Tryz.prog 12 #[.slice pl l.length cl] w1 fun e w' => e = .returned (.int .i64 (chooseC l : Int)) ∧ Below w1.heap.size w1 w') := fun w1 ht hb => I.choose _ l w1 ht (HL.out.below hb) HO.out HN.out
    have HRc : Hid (∀ w1, Below w.heap.size w w1 → Calls Tryz.prog 13 #[.slice pl l.length cl] w1 fun e w' => e = .returned (.int .i64 (chooseC l : Int)) ∧ Below w1.heap.size w1 w') := fun w1 hb => ref_choose09 _ l w1 (HL.out.below hb) HO.out HN.out
    have hs1 : Calls Tryz.prog 10 #[.int .i64 1, .slice pl l.length cl] w fun e w' => e = .returned (.int .i64 (sizeC 1 l)) ∧ Below w.heap.size w w' := HS.out 1 w (Or.inl rfl) (Below.refl _ _)
    have HS1 := Lib.hid hs1
    have HS2 : Hid (∀ w1, Below w.heap.size w w1 → Calls Tryz.prog 10 #[.int .i64 2, .slice pl l.length cl] w1 fun e w' => e = .returned (.int .i64 (sizeC 2 l)) ∧ Below w1.heap.size w1 w') := fun w1 hb => HS.out 2 w1 (Or.inr (Or.inl rfl)) hb
    have HS3 : Hid (∀ w1, Below w.heap.size w w1 → Calls Tryz.prog 10 #[.int .i64 3, .slice pl l.length cl] w1 fun e w' => e = .returned (.int .i64 (sizeC 3 l)) ∧ Below w1.heap.size w1 w') := fun w1 hb => HS.out 3 w1 (Or.inr (Or.inr rfl)) hb
    clear hlt hs1 HS
    generalize sizeC 1 l = a at *
    generalize sizeC 2 l = b at *
    generalize sizeC 3 l = c at *
    generalize chooseC l = d at *
    go_enter Tryz.func3, Tryz.ntmps3
    go_wp2_with fail
    refine HS1.out.mono ?_
    rintro e w1 ⟨rfl, hB⟩
    have HB1 := Lib.hid hB
    clear hB HS1
    go_wp2_with fail
    refine (HS2.out _ HB1.out).mono ?_
    rintro e w2 ⟨rfl, hB⟩
    have HB2 := Lib.hid (HB1.out.trans (hB.mono HB1.out.size))
    clear hB HS2 HB1
    go_wp2_with fail
    refine (HS3.out _ HB2.out).mono ?_
    rintro e w3 ⟨rfl, hB⟩
    have HB3 := Lib.hid (HB2.out.trans (hB.mono HB2.out.size))
    have HT3 := Lib.hid (I.below HT.out HB3.out)
    clear hB HS3 HB2
    go_wp2_with fail
    have hbk := Blk.new w3 #[.int .i64 a, .int .i64 b, .int .i64 c] 25
    have hC3 : (w3.alloc (.cells #[.int .i64 a, .int .i64 b, .int .i64 c] 25)).cell? ⟨w3.heap.size, 0, none⟩ = some (.int .i64 a) ∧ (w3.alloc (.cells #[.int .i64 a, .int .i64 b, .int .i64 c] 25)).cell? ⟨w3.heap.size, 1, none⟩ = some (.int .i64 b) ∧ (w3.alloc (.cells #[.int .i64 a, .int .i64 b, .int .i64 c] 25)).cell? ⟨w3.heap.size, 2, none⟩ = some (.int .i64 c) := by
      refine ⟨?_, ?_, ?_⟩ <;> (rw [hbk.cell]; rfl)
    have HC3 := Lib.hid hC3
    have HG : Hid (w3.heap.size < (w3.alloc (.cells #[.int .i64 a, .int .i64 b, .int .i64 c] 25)).heap.size) := hbk.lt
    have HBa : Hid (Below w3.heap.size w3 (w3.alloc (.cells #[.int .i64 a, .int .i64 b, .int .i64 c] 25))) := (Below.refl _ _).alloc (Nat.le_refl _) _
    have HBb := Lib.hid (HB3.out.trans (HBa.out.mono HB3.out.size))
    have HTb := Lib.hid (I.below HT3.out HBa.out)
    clear hbk hC3 HB3 HT3 HBa
    generalize (w3.alloc (.cells #[.int .i64 a, .int .i64 b, .int .i64 c] 25)) = w4 at *
    generalize w3.heap.size = q at *
    have HC : Hid (∀ w' : World, (w'.cell? ⟨q, 0, none⟩ = some (.int .i64 a) ∧ w'.cell? ⟨q, 1, none⟩ = some (.int .i64 b) ∧ w'.cell? ⟨q, 2, none⟩ = some (.int .i64 c)) → (w'.cell? ⟨q, 0, none⟩ = some (.int .i64 a) ∧ w'.cell? ⟨q, 1, none⟩ = some (.int .i64 b) ∧ w'.cell? ⟨q, 2, none⟩ = some (.int .i64 c))) := fun _ h => h
    have hEq := eql_three a b c
    refine wp_region_takeH (fun w' : World => w'.cell? ⟨q, 0, none⟩ = some (.int .i64 a) ∧ w'.cell? ⟨q, 1, none⟩ = some (.int .i64 b) ∧ w'.cell? ⟨q, 2, none⟩ = some (.int .i64 c)) [0, 3, 9, 11] [0, 1, 2, 4, 3, 5, 6, 7, 8, 10, 9, 11, 12, 13, 14] (by kernel_rfl) (by kernel_rfl) (by kernel_rfl) ?_ ?_ ?_
    · intro c a a' w hd h; exact ⟨hd ▸ h.1, h.2⟩
    · exact ⟨(World.cell?_drew _ _).trans HC3.out.1, (World.cell?_drew _ _).trans HC3.out.2.1, (World.cell?_drew _ _).trans HC3.out.2.2⟩
    simp only [taken, List.map_cons, List.map_nil, List.getElem?_cons_succ, List.getElem?_cons_zero, Option.getD_some]
    have HKp : Hid (∀ w2 w', Below w4.heap.size w4 w2 → Below w2.heap.size w2 w' → (Below w4.heap.size w4 w' ∧ (w'.cell? ⟨q, 0, none⟩ = some (.int .i64 a) ∧ w'.cell? ⟨q, 1, none⟩ = some (.int .i64 b) ∧ w'.cell? ⟨q, 2, none⟩ = some (.int .i64 c)))) := fun w2 w' h1 h2 => by
      have h := h1.trans (h2.mono h1.size)
      exact ⟨h, (h.cell HG.out).trans HC3.out.1, (h.cell HG.out).trans HC3.out.2.1, (h.cell HG.out).trans HC3.out.2.2⟩
    have HBd : Hid (Below w4.heap.size w4 w4.drew) := ⟨rfl, rfl, rfl, Nat.le_refl _, fun _ _ => rfl⟩
    have HTd := Lib.hid (I.below HTb.out HBd.out)
    refine takeH_call rfl rfl (fun K' hK => ?_)
    go_wp2_with fail
    refine (HAL.out _ HTd.out).mono ?_
    rintro e w5 ⟨rfl, hb⟩
    have HB5 := Lib.hid (HKp.out _ _ HBd.out hb).1
    have HT5 := Lib.hid (I.below HTd.out hb)
    refine hK _ _ (HKp.out _ _ HBd.out hb).2 ?_
    clear hK K' hb HBd HTd
    repeat (first
        | (refine takeH_skip rfl ?_; simp only [Act.put, List.setIfInBounds_toArray, List.set_cons_succ, List.set_cons_zero])
        | (refine takeH_blind rfl rfl ?_; apply Exists.intro; refine ⟨fun w => ?_, ?_⟩; (go_simp; try with_reducible rfl); simp only [Act.put, List.setIfInBounds_toArray, List.set_cons_succ, List.set_cons_zero])
        | (refine takeH_reads rfl rfl ?_; apply Exists.intro; refine ⟨fun w' hS => ?_, ?_⟩; (obtain ⟨d0, d1, d2⟩ := HC.out w' hS; go_simp; try with_reducible rfl); simp only [Act.put, List.setIfInBounds_toArray, List.set_cons_succ, List.set_cons_zero]))
    refine takeH_call rfl rfl (fun K' hK => ?_)
    go_wp2_with fail
    refine (HSz.out _ HT5.out (HBb.out.trans (HB5.out.mono HBb.out.size))).mono ?_
    rintro e w6 ⟨rfl, hb⟩
    have HB6 := Lib.hid (HKp.out _ _ HB5.out hb).1
    have HT6 := Lib.hid (I.below HT5.out hb)
    refine hK _ _ (HKp.out _ _ HB5.out hb).2 ?_
    clear hK K' hb HB5 HT5
    repeat (first
        | (refine takeH_skip rfl ?_; simp only [Act.put, List.setIfInBounds_toArray, List.set_cons_succ, List.set_cons_zero])
        | (refine takeH_blind rfl rfl ?_; apply Exists.intro; refine ⟨fun w => ?_, ?_⟩; (go_simp; try with_reducible rfl); simp only [Act.put, List.setIfInBounds_toArray, List.set_cons_succ, List.set_cons_zero])
        | (refine takeH_reads rfl rfl ?_; apply Exists.intro; refine ⟨fun w' hS => ?_, ?_⟩; (obtain ⟨d0, d1, d2⟩ := HC.out w' hS; go_simp; try with_reducible rfl); simp only [Act.put, List.setIfInBounds_toArray, List.set_cons_succ, List.set_cons_zero]))
    refine takeH_call rfl rfl (fun K' hK => ?_)
    go_wp2_with fail
    refine (HCh.out _ HT6.out (HBb.out.trans (HB6.out.mono HBb.out.size))).mono ?_
    rintro e w7 ⟨rfl, hb⟩
    have HB7 := Lib.hid (HKp.out _ _ HB6.out hb).1
    refine hK _ _ (HKp.out _ _ HB6.out hb).2 ?_
    clear hK K' hb HB6 HT6
    repeat (first
        | (refine takeH_skip rfl ?_; simp only [Act.put, List.setIfInBounds_toArray, List.set_cons_succ, List.set_cons_zero])
        | (refine takeH_blind rfl rfl ?_; apply Exists.intro; refine ⟨fun w => ?_, ?_⟩; (go_simp; try with_reducible rfl); simp only [Act.put, List.setIfInBounds_toArray, List.set_cons_succ, List.set_cons_zero])
        | (refine takeH_reads rfl rfl ?_; apply Exists.intro; refine ⟨fun w' hS => ?_, ?_⟩; (obtain ⟨d0, d1, d2⟩ := HC.out w' hS; go_simp; try with_reducible rfl); simp only [Act.put, List.setIfInBounds_toArray, List.set_cons_succ, List.set_cons_zero]))
    refine takeH_call rfl rfl (fun K' hK => ?_)
    go_wp2_with fail
    refine (HRc.out _ (HBb.out.trans (HB7.out.mono HBb.out.size))).mono ?_
    rintro e w8 ⟨rfl, hb⟩
    have HB8 := Lib.hid (HKp.out _ _ HB7.out hb).1
    refine hK _ _ (HKp.out _ _ HB7.out hb).2 ?_
    clear hK K' hb HB7
    repeat (first
        | (refine takeH_skip rfl ?_; simp only [Act.put, List.setIfInBounds_toArray, List.set_cons_succ, List.set_cons_zero])
        | (refine takeH_blind rfl rfl ?_; apply Exists.intro; refine ⟨fun w => ?_, ?_⟩; (go_simp; try with_reducible rfl); simp only [Act.put, List.setIfInBounds_toArray, List.set_cons_succ, List.set_cons_zero])
        | (refine takeH_reads rfl rfl ?_; apply Exists.intro; refine ⟨fun w' hS => ?_, ?_⟩; (obtain ⟨d0, d1, d2⟩ := HC.out w' hS; go_simp; try with_reducible rfl); simp only [Act.put, List.setIfInBounds_toArray, List.set_cons_succ, List.set_cons_zero]))
    refine takeH_nil ?_
    go_wp2_with fail
    go_ret
    exact ⟨by simp, HBb.out.trans (HB8.out.mono HBb.out.size)⟩
end Go.Proofs.YtgpmoimmpbkgfaaGreatDoor.chunkChooses
