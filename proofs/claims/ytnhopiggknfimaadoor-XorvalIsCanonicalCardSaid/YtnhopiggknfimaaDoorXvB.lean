/- Layer 6: the program's windows and steps. -/
import Derived.Test.YtnhopiggknfimaaDoorXvA
import Derived.Test.YtnhopiggknfimaaDoorTakeR
import Derived.BigQuiet
set_option linter.unusedVariables false
set_option maxRecDepth 20000
namespace Go.Proofs.YtnhopiggknfimaaDoor
open Go Go.RowKit

/-- The window in force, as the program holds it: leading bits and width, none of them where there is none. -/
def wl (win : Option (Nat × Nat)) : Nat := match win with | none => 0 | some (L, _) => L
def ww (win : Option (Nat × Nat)) : Nat := match win with | none => 0 | some (L, t) => 64 - L - t
/-- How a word is written. -/
def sL (win : Option (Nat × Nat)) (x : Nat) : Nat := if x = 0 then 0 else if fits win x then wl win else leadV x
def sW (win : Option (Nat × Nat)) (x : Nat) : Nat := if x = 0 then 0 else if fits win x then ww win else 64 - leadV x - trailV x
def sN (win : Option (Nat × Nat)) (x : Nat) : Bool := if x = 0 then false else if fits win x then false else true

theorem strWin : Str Tryd.prog 64 2 [.int .i64 0, .int .i64 0] := Str.mk' Tryd.underlying64 rfl (by kernel_rfl) rfl
theorem strStep : Str Tryd.prog 76 3 [.int .i64 0, .int .i64 0, .bool false] := Str.mk' Tryd.underlying76 rfl (by kernel_rfl) rfl

theorem trailing_any (a b : Nat) (ha : a ≤ 1000) (hb : b ≤ 1000) (w : World) :
    Calls Tryd.prog 46 #[.agg #[.int .i64 (a : Int), .int .i64 (b : Int)]] w fun e w' => e = .returned (.int .i64 ((64 : Int) - (a : Int) - (b : Int))) ∧ Below w.heap.size w w' := by
  have ha' : (a : Int) ≤ 1000 := by omega
  have hb' : (b : Int) ≤ 1000 := by omega
  go_enter Tryd.func46, Tryd.ntmps46
  go_wp2_with fail
  go_ret
  exact ⟨rfl, (Below.refl _ _).alloc (Nat.le_refl _) _⟩

theorem windowOf_any (x : Nat) (hx : x < 18446744073709551616) (h0 : x ≠ 0) (w : World) (hT : TabZ w) :
    Calls Tryd.prog 48 #[.int .u64 (x : Int)] w fun e w' => e = .returned (.agg #[.int .i64 (leadV x : Int), .int .i64 ((64 - leadV x - trailV x : Nat) : Int)]) ∧ Below w.heap.size w w' := by
  have HW := Lib.hid (window hx h0)
  have HL := fun w => Lib.hid (lz64 x hx h0 w)
  have HTz := fun w hT => Lib.hid (tz64 x hx h0 w hT)
  have HT := Lib.hid hT
  have e1 : (64 : Int) - (leadV x : Int) - (trailV x : Int) = ((64 - leadV x - trailV x : Nat) : Int) := by have := HW.out; omega
  have HE := Lib.hid e1
  clear e1 hT hx h0
  have hl : (leadV x : Int) ≤ 63 := by have := HW.out; omega
  have ht : (trailV x : Int) ≤ 63 := by have := HW.out; omega
  generalize leadV x = L at *
  generalize trailV x = t at *
  go_enter Tryd.func48, Tryd.ntmps48
  go_wp2_with fail
  obtain ⟨w1, hw1⟩ : ∃ w1, w.alloc (.cells #[.int .i64 0, .int .i64 0] 64) = w1 := ⟨_, rfl⟩
  have hK1 : Blk w1 w.heap.size [.int .i64 0, .int .i64 0] := by rw [← hw1]; exact Blk.new w _ _
  have HB1 : Hid (Below w.heap.size w w1) := by rw [← hw1]; exact (Below.refl _ w).alloc (Nat.le_refl _) _
  rw [hw1]
  clear hw1
  refine (HL _).out.mono ?_
  rintro e w2 ⟨rfl, hww⟩
  subst hww
  go_wp2_with fail
  refine (HTz _ (HT.out.below HB1.out (Nat.le_refl _))).out.mono ?_
  rintro e w2 ⟨rfl, hww⟩
  subst hww
  have c0 : w2.cell? ⟨w.heap.size, 0, none⟩ = some (.int .i64 0) := by rw [hK1.cell]; rfl
  have c1 : w2.cell? ⟨w.heap.size, 1, none⟩ = some (.int .i64 0) := by rw [hK1.cell]; rfl
  have f0 := hK1.free 0
  have f1 := hK1.free 1
  have HK1 := Lib.hid hK1
  clear hK1
  go_wp2_with fail
  rw [HE.out]
  refine bodyPost_ret (resultsS (p := 2) strWin (by kernel_rfl) _ w.heap.size rfl [.int .i64 (L : Int), .int .i64 ((64 - L - t : Nat) : Int)] ?_ rfl) rfl ⟨rfl, ?_⟩
  · simpa using (HK1.out.set 0 (.int .i64 (L : Int))).set 1 (.int .i64 ((64 - L - t : Nat) : Int))
  · exact HB1.out.trans (((Mods.set (fun k => k = w.heap.size) w2 ⟨w.heap.size, 0, none⟩ _ (fun _ => rfl)).trans (Mods.set (fun k => k = w.heap.size) _ ⟨w.heap.size, 1, none⟩ _ (fun _ => rfl)) (fun _ _ e => e)).below HB1.out.size (fun j hj e => by omega))

theorem fits_any (L wd x : Nat) (hw : L + wd ≤ 64) (hx : x < 18446744073709551616) (h0 : x ≠ 0) (w : World) (hT : TabZ w) :
    Calls Tryd.prog 47 #[.agg #[.int .i64 (L : Int), .int .i64 (wd : Int)], .int .u64 (x : Int)] w fun e w' => e = .returned (.bool (decide (L ≤ leadV x) && decide (64 - L - wd ≤ trailV x))) ∧ Below w.heap.size w w' := by
  have HL := fun w => Lib.hid (lz64 x hx h0 w)
  have HTz := fun w hT => Lib.hid (tz64 x hx h0 w hT)
  have HTr := fun w => Lib.hid (trailing_any L wd (by omega) (by omega) w)
  have HWin := Lib.hid (window hx h0)
  have HT := Lib.hid hT; have HWd := Lib.hid hw
  clear hT hx h0
  generalize leadV x = ld at *
  generalize trailV x = tr at *
  go_enter Tryd.func47, Tryd.ntmps47
  go_wp2_with fail
  obtain ⟨w1, hw1⟩ : ∃ w1, w.alloc (.cells #[.int .i64 (L : Int), .int .i64 (wd : Int)] 64) = w1 := ⟨_, rfl⟩
  have HK1 : Hid (Blk w1 w.heap.size [.int .i64 (L : Int), .int .i64 (wd : Int)]) := by rw [← hw1]; exact Blk.new w _ _
  have HB1 : Hid (Below w.heap.size w w1) := by rw [← hw1]; exact (Below.refl _ w).alloc (Nat.le_refl _) _
  rw [hw1]
  clear hw1
  have HC : Hid (∀ w' : World, (w'.cell? ⟨w.heap.size, 0, none⟩ = some (.int .i64 (L : Int)) ∧ w'.cell? ⟨w.heap.size, 1, none⟩ = some (.int .i64 (wd : Int)) ∧ True) → (w'.cell? ⟨w.heap.size, 0, none⟩ = some (.int .i64 (L : Int)) ∧ w'.cell? ⟨w.heap.size, 1, none⟩ = some (.int .i64 (wd : Int)) ∧ True)) := fun _ h => h
  refine wp_region_takeH (fun w' : World => w'.cell? ⟨w.heap.size, 0, none⟩ = some (.int .i64 (L : Int)) ∧ w'.cell? ⟨w.heap.size, 1, none⟩ = some (.int .i64 (wd : Int)) ∧ True) [1, 7, 9] [0, 2, 3, 1, 4, 5, 6, 8, 7, 9, 10, 11, 12] (by kernel_rfl) (by kernel_rfl) (by kernel_rfl) ?_ ?_ ?_
  · intro c a a' w hd h; exact ⟨hd ▸ h.1, h.2⟩
  · exact ⟨by rw [World.cell?_drew, HK1.out.cell]; rfl, by rw [World.cell?_drew, HK1.out.cell]; rfl, trivial⟩
  simp only [taken, List.map_cons, List.map_nil, List.getElem?_cons_succ, List.getElem?_cons_zero, Option.getD_some]
  repeat (first
        | (refine takeH_skip rfl ?_; simp only [Act.put, List.setIfInBounds_toArray, List.set_cons_succ, List.set_cons_zero])
        | (refine takeH_blind rfl rfl ?_; apply Exists.intro; refine ⟨fun w => ?_, ?_⟩; (go_simp; try with_reducible rfl); simp only [Act.put, List.setIfInBounds_toArray, List.set_cons_succ, List.set_cons_zero])
        | (refine takeH_reads rfl rfl ?_; apply Exists.intro; refine ⟨fun w' hS => ?_, ?_⟩; (obtain ⟨d0, d1, d2⟩ := HC.out w' hS; go_simp; try with_reducible rfl); simp only [Act.put, List.setIfInBounds_toArray, List.set_cons_succ, List.set_cons_zero]))
  refine takeH_call rfl rfl (fun K' hK => ?_)
  go_wp2_with fail
  refine (HL _).out.mono ?_
  rintro e w2 ⟨rfl, hww⟩
  have HW2 : Hid (w2 = w1.drew) := hww
  have HS2 : Hid (w2.cell? ⟨w.heap.size, 0, none⟩ = some (.int .i64 (L : Int)) ∧ w2.cell? ⟨w.heap.size, 1, none⟩ = some (.int .i64 (wd : Int)) ∧ True) := by show _ ∧ _; rw [hww]; exact ⟨by rw [World.cell?_drew, HK1.out.cell]; rfl, by rw [World.cell?_drew, HK1.out.cell]; rfl, trivial⟩
  have HT2 : Hid (TabZ w2) := by show TabZ _; rw [hww]; exact (HT.out.below HB1.out (Nat.le_refl _)).block rfl
  have HB2 : Hid (Below w.heap.size w w2) := by show Below _ _ _; rw [hww]; exact HB1.out.drew
  refine hK _ _ HS2.out ?_
  clear hK K' hww HW2 HB1 HK1
  have hl63 : (ld : Int) ≤ 63 := by have := HWin.out; omega
  have ht63 : (tr : Int) ≤ 63 := by have := HWin.out; omega
  by_cases hle : L ≤ ld
  · have hle' : (L : Int) ≤ (ld : Int) := by omega
    have hd1 : decide (L ≤ ld) = true := by simpa using hle
    have hd1' : decide ((L : Int) ≤ (ld : Int)) = true := by simpa using hle'
    have HD1 := Lib.hid hd1
    clear hle hd1
    repeat (first
        | (refine takeH_skip rfl ?_; simp only [Act.put, List.setIfInBounds_toArray, List.set_cons_succ, List.set_cons_zero])
        | (refine takeH_blind rfl rfl ?_; apply Exists.intro; refine ⟨fun w => ?_, ?_⟩; (go_simp; try with_reducible rfl); simp only [Act.put, List.setIfInBounds_toArray, List.set_cons_succ, List.set_cons_zero])
        | (refine takeH_reads rfl rfl ?_; apply Exists.intro; refine ⟨fun w' hS => ?_, ?_⟩; (obtain ⟨d0, d1, d2⟩ := HC.out w' hS; go_simp; try with_reducible rfl); simp only [Act.put, List.setIfInBounds_toArray, List.set_cons_succ, List.set_cons_zero]))
    refine takeH_call rfl rfl (fun K' hK => ?_)
    go_wp2_with fail
    refine (HTz _ HT2.out).out.mono ?_
    rintro e w3 ⟨rfl, hww⟩
    subst hww
    refine hK _ _ HS2.out ?_
    clear hK K'
    repeat (first
        | (refine takeH_skip rfl ?_; simp only [Act.put, List.setIfInBounds_toArray, List.set_cons_succ, List.set_cons_zero])
        | (refine takeH_blind rfl rfl ?_; apply Exists.intro; refine ⟨fun w => ?_, ?_⟩; (go_simp; try with_reducible rfl); simp only [Act.put, List.setIfInBounds_toArray, List.set_cons_succ, List.set_cons_zero])
        | (refine takeH_reads rfl rfl ?_; apply Exists.intro; refine ⟨fun w' hS => ?_, ?_⟩; (obtain ⟨d0, d1, d2⟩ := HC.out w' hS; go_simp; try with_reducible rfl); simp only [Act.put, List.setIfInBounds_toArray, List.set_cons_succ, List.set_cons_zero]))
    refine takeH_call rfl rfl (fun K' hK => ?_)
    go_wp2_with fail
    refine (HTr _).out.mono ?_
    rintro e w4 ⟨rfl, hB4⟩
    have HB4 : Hid (Below w.heap.size w w4) := HB2.out.trans (hB4.mono HB2.out.size)
    refine hK _ _ ⟨(hB4.cell (World.block_lt_of_cell? w3 _ HS2.out.1)).trans HS2.out.1, (hB4.cell (World.block_lt_of_cell? w3 _ HS2.out.2.1)).trans HS2.out.2.1, trivial⟩ ?_
    clear hK K' hB4
    have e2 : (64 : Int) - (L : Int) - (wd : Int) = ((64 - L - wd : Nat) : Int) := by have := HWd.out; omega
    have HD2 : Hid (decide (64 - L - wd ≤ tr) = decide (((64 - L - wd : Nat) : Int) ≤ (tr : Int))) := by show _ = _; rw [decide_eq_decide]; omega
    rw [e2]
    clear e2
    generalize ((64 - L - wd : Nat) : Int) = T at *
    repeat (first
        | (refine takeH_skip rfl ?_; simp only [Act.put, List.setIfInBounds_toArray, List.set_cons_succ, List.set_cons_zero])
        | (refine takeH_blind rfl rfl ?_; apply Exists.intro; refine ⟨fun w => ?_, ?_⟩; (go_simp; try with_reducible rfl); simp only [Act.put, List.setIfInBounds_toArray, List.set_cons_succ, List.set_cons_zero])
        | (refine takeH_reads rfl rfl ?_; apply Exists.intro; refine ⟨fun w' hS => ?_, ?_⟩; (obtain ⟨d0, d1, d2⟩ := HC.out w' hS; go_simp; try with_reducible rfl); simp only [Act.put, List.setIfInBounds_toArray, List.set_cons_succ, List.set_cons_zero]))
    refine takeH_nil ?_
    go_wp2_with fail
    go_ret
    exact ⟨by rw [HD1.out, HD2.out]; rfl, HB4.out⟩
  · have hle' : ¬ (L : Int) ≤ (ld : Int) := by omega
    have hd1 : decide (L ≤ ld) = false := by simpa using hle
    have hd1' : decide ((L : Int) ≤ (ld : Int)) = false := by simpa using hle'
    have HD1 := Lib.hid hd1
    clear hle hd1
    repeat (first
        | (refine takeH_skip rfl ?_; simp only [Act.put, List.setIfInBounds_toArray, List.set_cons_succ, List.set_cons_zero])
        | (refine takeH_blind rfl rfl ?_; apply Exists.intro; refine ⟨fun w => ?_, ?_⟩; (go_simp; try with_reducible rfl); simp only [Act.put, List.setIfInBounds_toArray, List.set_cons_succ, List.set_cons_zero])
        | (refine takeH_reads rfl rfl ?_; apply Exists.intro; refine ⟨fun w' hS => ?_, ?_⟩; (obtain ⟨d0, d1, d2⟩ := HC.out w' hS; go_simp; try with_reducible rfl); simp only [Act.put, List.setIfInBounds_toArray, List.set_cons_succ, List.set_cons_zero]))
    refine takeH_nil ?_
    go_wp2_with fail
    go_ret
    exact ⟨by rw [HD1.out]; rfl, HB2.out⟩
end Go.Proofs.YtnhopiggknfimaaDoor
