/- Layer 5: the first form that is possible, as the program takes it. -/
import Derived.Test.YtjgiaibpipgjjaaDoorTimesSg
import Derived.Test.YtjgiaibpipgjjaaDoorStruct
set_option linter.unusedVariables false
namespace Go.Proofs.YtjgiaibpipgjjaaDoor
open Go Go.RowKit

/-- The program's table of forms. -/
def TabF (w : World) : Prop := ∀ k, k ≤ 4 → w.cell? ⟨0, k * 3, none⟩ = some (.int .u64 (markT k : Int)) ∧ w.cell? ⟨0, k * 3 + 1, none⟩ = some (.int .i64 (markLenT k : Int)) ∧ w.cell? ⟨0, k * 3 + 2, none⟩ = some (.int .i64 (widthT k : Int))
theorem TabF.block {w w' : World} (h : TabF w) (hb : w'.heap[0]? = w.heap[0]?) : TabF w' := fun k hk => by
  have := h k hk
  unfold World.cell? at this ⊢
  rw [hb]
  exact this
theorem TabF.lt {w : World} (h : TabF w) : 0 < w.heap.size := World.block_lt_of_cell? w _ (h 0 (by decide)).1
theorem TabF.below {w w' : World} {B : Nat} (h : TabF w) (hb : Below B w w') (hB : w.heap.size ≤ B) : TabF w' := h.block (hb.block _ (Nat.lt_of_lt_of_le h.lt hB))

theorem strForm : Str Tryd.prog 67 3 [.int .u64 0, .int .i64 0, .int .i64 0] := Str.mk' Tryd.underlying67 rfl (by kernel_rfl) rfl
theorem formCells_one (k : Nat) : ∀ u ∈ formCells k, u.oneCell' = true := by
  intro u hu
  simp only [formCells, List.mem_cons, List.not_mem_nil, or_false] at hu
  rcases hu with rfl | rfl | rfl <;> rfl

set_option maxHeartbeats 1000000 in
theorem formOf_any (x : Int) (w : World) (hT : TabF w) :
    Calls Tryd.prog 30 #[.int .i64 x] w fun e w' => e = .returned (formV (formT x)) ∧ Below w.heap.size w w' := by
  have hf4 := formT_le x
  go_enter Tryd.func30, Tryd.ntmps30
  go_wp2_with fail
  obtain ⟨w1, hw1⟩ : ∃ w1, w.alloc (.cells #[.int .u64 0, .int .i64 0, .int .i64 0] 67) = w1 := ⟨_, rfl⟩
  have HK1 : Hid (Blk w1 w.heap.size [.int .u64 0, .int .i64 0, .int .i64 0]) := by rw [← hw1]; exact Blk.new w _ _
  have HB1 : Hid (Below w.heap.size w w1) := by rw [← hw1]; exact (Below.refl _ w).alloc (Nat.le_refl _) _
  have HS1 : Hid (w1.heap.size = w.heap.size + 1) := by rw [← hw1]; show _ = _; simp
  have HT1 := Lib.hid (hT.below HB1.out (Nat.le_refl _))
  rw [hw1]
  clear hw1 hT
  go_loopw [3, 4] (fun i c wr => ∃ k : Nat, k ≤ 4 ∧ k ≤ formT x ∧ c = .int .i64 (k : Int) ∧ Hid (Below w1.heap.size w1 wr)) (fun _ c _ => 4 - (intOf c).toNat)
  case atStart => exact ⟨0, by omega, by omega, rfl, Below.refl _ _⟩
  case round =>
    obtain ⟨k, hk4, hkf, rfl, HBr⟩ := hrel
    by_cases hlt : k < 4
    · have hlt' : (k : Int) < 4 := by omega
      have hlt5 : (k : Int) < 5 := by omega
      have HTr := Lib.hid (HT1.out.below HBr.out (Nat.le_refl _))
      obtain ⟨t0, t1, t2⟩ := HTr.out k (by omega)
      have HP := Lib.hid (possible_any x k (by omega) wr)
      go_wp2_with fail
      refine HP.out.mono ?_
      rintro e w2 ⟨rfl, hB2⟩
      have HB2 := Lib.hid (HBr.out.trans (hB2.mono HBr.out.size))
      have HT2 := Lib.hid (HTr.out.below hB2 (Nat.le_refl _))
      clear hB2 t0 t1 t2
      by_cases hp : formT x ≤ k
      · obtain ⟨t0, t1, t2⟩ := HT2.out k (by omega)
        have hd : decide (formT x ≤ k) = true := by simpa using hp
        have HK2 : Hid (Blk w2 w.heap.size [.int .u64 0, .int .i64 0, .int .i64 0]) := HK1.out.of_same (HB2.out.block _ (by have := HS1.out; omega))
        obtain ⟨⟨c0, c1, c2⟩, f0, f1, f2⟩ := HK2.out.three
        rw [hd]
        go_wp2_with fail
        have he : formT x = k := by omega
        rw [he]
        refine bodyPost_ret (resultsS (p := 2) strForm (by kernel_rfl) _ w.heap.size rfl (formCells k) (HK2.out.set3 _ _ _) rfl) rfl ⟨rfl, ?_⟩
        have h1 := HB1.out; have h2 := HB2.out
        exact (h1.trans (h2.mono h1.size)).trans ((mods_set3 _ _ _ _ _).below (Nat.le_trans h1.size h2.size) (fun j hj e => by omega))
      · have hd : decide (formT x ≤ k) = false := by simpa using hp
        rw [hd]
        go_wp2_with fail
        go_round
        case rel => exact ⟨k + 1, by omega, by omega, by go_num, HB2.out⟩
        case measure => simp [intOf]; omega
    · have hlt' : ¬ (k : Int) < 4 := by omega
      have he : formT x = 4 := by omega
      have HTr := Lib.hid (HT1.out.below HBr.out (Nat.le_refl _))
      have t0 : wr.cell? ⟨0, 12, none⟩ = some (.int .u64 15) := (HTr.out 4 (by omega)).1
      have t1 : wr.cell? ⟨0, 13, none⟩ = some (.int .i64 4) := (HTr.out 4 (by omega)).2.1
      have t2 : wr.cell? ⟨0, 14, none⟩ = some (.int .i64 64) := (HTr.out 4 (by omega)).2.2
      have HK2 : Hid (Blk wr w.heap.size [.int .u64 0, .int .i64 0, .int .i64 0]) := HK1.out.of_same (HBr.out.block _ (by have := HS1.out; omega))
      obtain ⟨⟨c0, c1, c2⟩, f0, f1, f2⟩ := HK2.out.three
      have HE := Lib.hid he
      clear he
      go_wp2_with fail
      rw [HE.out]
      refine bodyPost_ret (resultsS (p := 2) strForm (by kernel_rfl) _ w.heap.size rfl (formCells 4) (HK2.out.set3 _ _ _) rfl) rfl ⟨rfl, ?_⟩
      have h1 := HB1.out; have h2 := HBr.out
      exact (h1.trans (h2.mono h1.size)).trans ((mods_set3 _ _ _ _ _).below (Nat.le_trans h1.size h2.size) (fun j hj e => by omega))
theorem formOf_cells (x : Int) (w : World) (hT : TabF w) :
    Calls Tryd.prog 30 #[.int .i64 x] w fun e w' => e = .returned (.agg #[.int .u64 (markT (formT x) : Int), .int .i64 (markLenT (formT x) : Int), .int .i64 (widthT (formT x) : Int)]) ∧ Below w.heap.size w w' :=
  formOf_any x w hT
end Go.Proofs.YtjgiaibpipgjjaaDoor
