/- Layer 6: the program's next step. -/
import Derived.Test.YtnhopiggknfimaaDoorXvB
set_option linter.unusedVariables false
set_option maxRecDepth 20000
namespace Go.Proofs.YtnhopiggknfimaaDoor
open Go Go.RowKit

set_option maxHeartbeats 1000000 in
theorem stepFor_any (g : Nat) (win : Option (Nat × Nat)) (x : Nat) (ho : okW win) (hx : x < 18446744073709551616) (w : World) (hT : TabZ w) (c1 : w.cell? ⟨g, 1, none⟩ = some (.int .i64 (wl win : Int))) (c2 : w.cell? ⟨g, 2, none⟩ = some (.int .i64 (ww win : Int))) :
    Calls Tryd.prog 35 #[.pointer (some ⟨g, 0, none⟩), .int .u64 (x : Int)] w fun e w' => e = .returned (.agg #[.int .i64 (sL win x : Int), .int .i64 (sW win x : Int), .bool (sN win x)]) ∧ Below w.heap.size w w' := by
  have HT := Lib.hid hT
  have HG : Hid (g < w.heap.size) := World.block_lt_of_cell? w _ c1
  obtain ⟨w1, hw1⟩ : ∃ w1, w.alloc (.cells #[.int .i64 0, .int .i64 0, .bool false] 76) = w1 := ⟨_, rfl⟩
  have HK1 : Hid (Blk w1 w.heap.size [.int .i64 0, .int .i64 0, .bool false]) := by rw [← hw1]; exact Blk.new w _ _
  have HB1 : Hid (Below w.heap.size w w1) := by rw [← hw1]; exact (Below.refl _ w).alloc (Nat.le_refl _) _
  have HC1 : Hid (w1.cell? ⟨g, 1, none⟩ = some (.int .i64 (wl win : Int)) ∧ w1.cell? ⟨g, 2, none⟩ = some (.int .i64 (ww win : Int))) := ⟨(HB1.out.cell HG.out).trans c1, (HB1.out.cell HG.out).trans c2⟩
  obtain ⟨⟨d0, d1, d2⟩, f0, f1, f2⟩ := HK1.out.three
  clear hT c1 c2
  go_enter Tryd.func35, Tryd.ntmps35
  by_cases h0 : x = 0
  · subst h0
    go_wp2_with fail
    refine bodyPost_ret (resultsS (p := 4) strStep (by kernel_rfl) _ w.heap.size rfl [.int .i64 0, .int .i64 0, .bool false] (HK1.out.set3 _ _ _) rfl) rfl ⟨rfl, ?_⟩
    exact HB1.out.trans ((mods_set3 _ _ _ _ _).below HB1.out.size (fun j hj e => by omega))
  · have h0b : ((x : Int) == 0) = false := by rw [beq_eq_false_iff_ne]; omega
    have HT1 := Lib.hid (HT.out.below HB1.out (Nat.le_refl _))
    have HWo : ∀ w2, Hid (Below w1.heap.size w1 w2) → Hid (Calls Tryd.prog 48 #[.int .u64 (x : Int)] w2 fun e w' => e = .returned (.agg #[.int .i64 (leadV x : Int), .int .i64 ((64 - leadV x - trailV x : Nat) : Int)]) ∧ Below w2.heap.size w2 w') := fun w2 h => windowOf_any x hx h0 w2 (HT1.out.block (h.out.block _ HT1.out.lt))
    match win, ho, HC1 with
    | none, ho, HC1 =>
      obtain ⟨e1, e2⟩ := HC1.out
      simp only [wl, ww] at e1 e2
      go_wp2_with fail
      have HI : Hid (Below w1.heap.size w1 w1) := Below.refl _ _
      refine (HWo _ HI).out.mono ?_
      rintro e w3 ⟨rfl, hB3⟩
      have HK3 := Lib.hid (HK1.out.of_same (hB3.block _ HK1.out.lt))
      have HB3 : Hid (Below w.heap.size w w3) := HB1.out.trans (hB3.mono HB1.out.size)
      clear hB3 d0 d1 d2 f0 f1 f2
      obtain ⟨⟨d0, d1, d2⟩, f0, f1, f2⟩ := HK3.out.three
      obtain ⟨wd, hwd⟩ : ∃ wd, 64 - leadV x - trailV x = wd := ⟨_, rfl⟩
      have HWd := Lib.hid hwd
      rw [hwd]
      clear hwd
      go_wp2_with fail
      have hs : sL none x = leadV x ∧ sW none x = wd ∧ sN none x = true := by simp only [sL, sW, sN, h0, fits, HWd.out, if_false, Bool.false_eq_true]; exact ⟨trivial, trivial, trivial⟩
      refine bodyPost_ret (resultsS (p := 4) strStep (by kernel_rfl) _ w.heap.size rfl [.int .i64 (leadV x : Int), .int .i64 (wd : Int), .bool true] (HK3.out.set3 _ _ _) rfl) rfl ⟨by rw [hs.1, hs.2.1, hs.2.2], ?_⟩
      exact HB3.out.trans ((mods_set3 _ _ _ _ _).below HB3.out.size (fun j hj e => by omega))
    | some (L, t), ho, HC1 =>
      have hle := ho L t rfl
      obtain ⟨e1, e2⟩ := HC1.out
      simp only [wl, ww] at e1 e2
      have HF := Lib.hid (fits_any L (64 - L - t) x (by omega) hx h0 w1 HT1.out)
      have hwb : (((64 - L - t : Nat) : Int) == 0) = false := by rw [beq_eq_false_iff_ne]; omega
      rw [show 64 - L - (64 - L - t) = t by omega] at HF
      have HFt : Hid (fits (some (L, t)) x = (decide (L ≤ leadV x) && decide (t ≤ trailV x))) := rfl
      rw [← HFt.out] at HF
      have HWd : Hid (ww (some (L, t)) = 64 - L - t) := rfl
      clear HFt
      generalize 64 - L - t = wd at *
      go_wp2_with fail
      refine HF.out.mono ?_
      rintro e w2 ⟨rfl, hB2⟩
      have HK2 := Lib.hid (HK1.out.of_same (hB2.block _ HK1.out.lt))
      have HB2 := Lib.hid hB2
      have HC2 : Hid (w2.cell? ⟨g, 1, none⟩ = some (.int .i64 (L : Int)) ∧ w2.cell? ⟨g, 2, none⟩ = some (.int .i64 (wd : Int))) := ⟨(hB2.cell (World.block_lt_of_cell? w1 _ e1)).trans e1, (hB2.cell (World.block_lt_of_cell? w1 _ e2)).trans e2⟩
      clear hB2 d0 d1 d2 f0 f1 f2 e1 e2
      obtain ⟨⟨d0, d1, d2⟩, f0, f1, f2⟩ := HK2.out.three
      obtain ⟨e1, e2⟩ := HC2.out
      by_cases hf : fits (some (L, t)) x = true
      · rw [hf]
        have HFf := Lib.hid hf
        clear hf
        go_wp2_with fail
        have hs : sL (some (L, t)) x = L ∧ sW (some (L, t)) x = wd ∧ sN (some (L, t)) x = false := by simp only [sL, sW, sN, h0, HFf.out, HWd.out, wl, if_false, if_true]; exact ⟨trivial, trivial, trivial⟩
        refine bodyPost_ret (resultsS (p := 4) strStep (by kernel_rfl) _ w.heap.size rfl [.int .i64 (L : Int), .int .i64 (wd : Int), .bool false] (HK2.out.set3 _ _ _) rfl) rfl ⟨by rw [hs.1, hs.2.1, hs.2.2], ?_⟩
        exact (HB1.out.trans (HB2.out.mono HB1.out.size)).trans ((mods_set3 _ _ _ _ _).below (Nat.le_trans HB1.out.size HB2.out.size) (fun j hj e => by omega))
      · have hf : fits (some (L, t)) x = false := by simpa using hf
        rw [hf]
        have HFf := Lib.hid hf
        clear hf
        go_wp2_with fail
        refine (HWo _ HB2).out.mono ?_
        rintro e w3 ⟨rfl, hB3⟩
        have HK3 := Lib.hid (HK2.out.of_same (hB3.block _ HK2.out.lt))
        have HB3 : Hid (Below w.heap.size w w3) := (HB1.out.trans (HB2.out.mono HB1.out.size)).trans (hB3.mono (Nat.le_trans HB1.out.size HB2.out.size))
        clear hB3 d0 d1 d2 f0 f1 f2
        obtain ⟨⟨d0, d1, d2⟩, f0, f1, f2⟩ := HK3.out.three
        obtain ⟨wd2, hwd⟩ : ∃ wd2, 64 - leadV x - trailV x = wd2 := ⟨_, rfl⟩
        have HWd2 := Lib.hid hwd
        rw [hwd]
        clear hwd
        go_wp2_with fail
        have hs : sL (some (L, t)) x = leadV x ∧ sW (some (L, t)) x = wd2 ∧ sN (some (L, t)) x = true := by simp only [sL, sW, sN, h0, HFf.out, HWd2.out, if_false, Bool.false_eq_true]; exact ⟨trivial, trivial, trivial⟩
        refine bodyPost_ret (resultsS (p := 4) strStep (by kernel_rfl) _ w.heap.size rfl [.int .i64 (leadV x : Int), .int .i64 (wd2 : Int), .bool true] (HK3.out.set3 _ _ _) rfl) rfl ⟨by rw [hs.1, hs.2.1, hs.2.2], ?_⟩
        exact HB3.out.trans ((mods_set3 _ _ _ _ _).below HB3.out.size (fun j hj e => by omega))
end Go.Proofs.YtnhopiggknfimaaDoor
