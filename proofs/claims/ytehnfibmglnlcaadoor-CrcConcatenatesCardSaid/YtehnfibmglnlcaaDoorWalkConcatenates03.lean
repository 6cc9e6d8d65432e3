/- Layer 3: CrcConcatenates, walked. -/
import Derived.Test.YtehnfibmglnlcaaDoorAlive03
import Derived.Test.YtehnfibmglnlcaaDoorTakeH
set_option linter.unusedVariables false
namespace Go.Proofs.YtehnfibmglnlcaaDoor.crcConcatenates
open Go Go.RowKit

set_option maxHeartbeats 4000000 in
theorem walk (w : World) (hT : Tab w) (s : Nat) (hs : s < 4294967296) (v : Value) (l : List Nat) (ok : ∀ a ∈ l, a < 256) (hl : Rd w 1 v l.length (u8s l)) (hz : l.length * 1 ≤ 140737488351232) (k : Nat) (hk : k < 65536) :
    Calls Tryd.prog 4 #[.int .u32 s, v, .int .u16 k] w fun e w' => e = .returned (.bool true) ∧ Below w.heap.size w w' := by
  have HT := Lib.hid hT
  have HL := Lib.hid hl
  have HO := Lib.hid ok
  obtain ⟨q, c, hv⟩ := hl.shape
  subst hv
  have hnc : l.length ≤ c := by obtain ⟨_, _, e, _, h, _⟩ := hl; cases e; exact h
  have hmax : (c : Int) ≤ 9223372036854775807 := by obtain ⟨_, _, e, _, _, h, _⟩ := hl; cases e; unfold maxLen at h; omega
  clear hl ok hT
  by_cases hlt : 2000 < l.length
  · have hlt' : (2000 : Int) < (l.length : Int) := by omega
    go_enter Tryd.func4, Tryd.ntmps4
    go_wp2_with fail
    refine (alive_any _ HT.out).mono ?_
    rintro e w1 ⟨rfl, hB⟩
    go_wp2_with fail
    go_ret
    exact ⟨rfl, hB⟩
  · have hlt' : ¬ (2000 : Int) < (l.length : Int) := by omega
    obtain ⟨i, hi⟩ : ∃ i, k % (l.length + 1) = i := ⟨_, rfl⟩
    have hil : i ≤ l.length := by have := Nat.mod_lt k (show 0 < l.length + 1 by omega); omega
    have HI : Hid ((k : Int) % ((l.length : Int) + 1) = (i : Int)) := by show _ = _; rw [← hi]; simp
    clear hi
    have HS : Hid (upd (upd s (l.take i)) (l.drop i) = upd s l) := by show _ = _; rw [← upd_append, List.take_append_drop]
    have HU8 : Hid (∀ a ∈ l.take i, a < 256) := fun a ha => HO.out a (List.mem_of_mem_take ha)
    have HD8 : Hid (∀ a ∈ l.drop i, a < 256) := fun a ha => HO.out a (List.mem_of_mem_drop ha)
    have HSt := Lib.hid (upd_lt hs (l.take i) HU8.out)
    go_enter Tryd.func4, Tryd.ntmps4
    go_wp2_with fail
    rw [HI.out]
    refine wp_region_takeH (fun w' => Below w.heap.size w w') [0, 4, 9, 13] [0, 1, 2, 3, 5, 6, 7, 8, 10, 11, 12, 4, 9, 13, 14, 15, 16] (by kernel_rfl) (by kernel_rfl) (by kernel_rfl) ?_ ?_ ?_
    · intro c a a' w hd h; exact ⟨hd ▸ h.1, h.2⟩
    · exact ⟨rfl, rfl, rfl, Nat.le_refl _, fun _ _ => rfl⟩
    simp only [taken, List.map_cons, List.map_nil, List.getElem?_cons_succ, List.getElem?_cons_zero, Option.getD_some]
    refine takeH_call rfl rfl (fun K hK => ?_)
    go_wp2_with fail
    refine (alive_any w.drew HT.out).mono ?_
    rintro e w1 ⟨rfl, hb⟩
    have hB : Below w.heap.size w w1 := ⟨hb.os, hb.tape, hb.output, hb.size, hb.block⟩
    have HB1 := Lib.hid hB
    have HL1 := Lib.hid (HL.out.below hB)
    have HT1 := Lib.hid (HT.out.below hB (Nat.le_refl _))
    refine hK _ _ hB ?_
    clear hK K hB hb
    repeat (first
        | (refine takeH_skip rfl ?_; simp only [Act.put, List.setIfInBounds_toArray, List.set_cons_succ, List.set_cons_zero])
        | (refine takeH_blind rfl rfl ?_; apply Exists.intro; refine ⟨fun w => ?_, ?_⟩; (go_simp; try with_reducible rfl); simp only [Act.put, List.setIfInBounds_toArray, List.set_cons_succ, List.set_cons_zero]))
    refine takeH_read rfl rfl (.slice q i c) (fun w' _ => exec_upto Tryd.elemU8 w' q l.length c i hil hnc _ _ rfl rfl rfl) ?_
    simp only [Act.put, List.setIfInBounds_toArray, List.set_cons_succ, List.set_cons_zero]
    repeat (first
        | (refine takeH_skip rfl ?_; simp only [Act.put, List.setIfInBounds_toArray, List.set_cons_succ, List.set_cons_zero])
        | (refine takeH_blind rfl rfl ?_; apply Exists.intro; refine ⟨fun w => ?_, ?_⟩; (go_simp; try with_reducible rfl); simp only [Act.put, List.setIfInBounds_toArray, List.set_cons_succ, List.set_cons_zero]))
    have HU1 : Hid (Rd w1 1 (.slice q i c) (l.take i).length (u8s (l.take i))) := by
      show Rd _ _ _ _ _
      have := HL1.out.upto i hil
      rw [List.length_take, Nat.min_eq_left hil]
      simpa [u8s, List.map_take] using this
    have HD1 : Hid (Rd w1 1 (.slice (if c = i then q else Option.map (fun x => x.add i) q) (l.length - i) (c - i)) (l.drop i).length (u8s (l.drop i))) := by
      show Rd _ _ _ _ _
      have h2 := HL1.out.from i hil
      unfold sliced at h2
      rw [Nat.mul_one] at h2
      rw [List.length_drop, u8s, List.map_drop]
      exact h2
    generalize (if c = i then q else Option.map (fun x => x.add i) q) = p3 at *
    clear hlt hlt'
    refine takeH_call rfl rfl (fun K hK => ?_)
    go_wp2_with fail
    refine (crc_update s _ l _ HT1.out hs HL1.out HO.out).mono ?_
    rintro e w2 ⟨rfl, rfl⟩
    refine hK _ _ HB1.out ?_
    clear hK K
    refine takeH_call rfl rfl (fun K hK => ?_)
    go_wp2_with fail
    refine (crc_update s _ (l.take i) _ HT1.out hs HU1.out HU8.out).mono ?_
    rintro e w2 ⟨rfl, rfl⟩
    refine hK _ _ HB1.out ?_
    clear hK K
    refine takeH_call rfl rfl (fun K hK => ?_)
    go_wp2_with fail
    refine (crc_update (upd s (l.take i)) _ (l.drop i) _ HT1.out HSt.out HD1.out HD8.out).mono ?_
    rintro e w2 ⟨rfl, rfl⟩
    rw [HS.out]
    refine hK _ _ HB1.out ?_
    clear hK K HU1 HD1 HS HU8 HD8 HSt HL1
    generalize upd s l = U at *
    generalize upd s (l.take i) = U2 at *
    repeat (first
        | (refine takeH_skip rfl ?_; simp only [Act.put, List.setIfInBounds_toArray, List.set_cons_succ, List.set_cons_zero])
        | (refine takeH_blind rfl rfl ?_; apply Exists.intro; refine ⟨fun w => ?_, ?_⟩; (go_simp; try with_reducible rfl); simp only [Act.put, List.setIfInBounds_toArray, List.set_cons_succ, List.set_cons_zero]))
    refine takeH_nil ?_
    go_wp2_with fail
    go_ret
    exact ⟨rfl, HB1.out⟩
end Go.Proofs.YtehnfibmglnlcaaDoor.crcConcatenates
