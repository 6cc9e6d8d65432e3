/- Layer 6: the program reads a step. -/
import Derived.Test.YtnhopiggknfimaaDoorXvH
import Derived.Test.YtnhopiggknfimaaDoorRis
set_option linter.unusedVariables false
set_option maxRecDepth 20000
namespace Go.Proofs.YtnhopiggknfimaaDoor
open Go Go.RowKit

/-- The numbers that tell a window. -/
def winD (bs : List Bool) : Res (Nat × Nat) :=
  if (field 6 bs).e ≠ 0 then ⟨(field 6 bs).e, (0, 0), (field 6 bs).r⟩ else
  let y := field 6 (field 6 bs).r
  if y.e ≠ 0 then ⟨y.e, (0, 0), y.r⟩ else
  if 63 < (field 6 bs).x + y.x then ⟨8, (0, 0), y.r⟩ else ⟨0, ((field 6 bs).x, y.x + 1), y.r⟩
/-- What comes ahead of the bits inside the window. -/
def headD (win : Option (Nat × Nat)) : List Bool → Res (Nat × Nat × Bool)
  | [] => ⟨3, (0, 0, false), []⟩
  | false :: c => ⟨0, (0, 0, false), c⟩
  | [true] => ⟨3, (0, 0, false), []⟩
  | true :: false :: c => match win with
    | none => ⟨8, (0, 0, false), c⟩
    | some (L, t) => ⟨0, (L, 64 - L - t, false), c⟩
  | true :: true :: c => ⟨(winD c).e, ((winD c).x.1, (winD c).x.2, true), (winD c).r⟩

theorem field_two (n : Nat) (bs : List Bool) : field n bs = ⟨3, 0, bs⟩ ∨ ∃ x c, field n bs = ⟨0, x, c⟩ ∧ x < 2 ^ n := by
  have := field_lt n bs
  rw [field] at this ⊢
  split
  · exact Or.inl rfl
  · next h => rw [if_neg h] at this; exact Or.inr ⟨_, _, rfl, this⟩

/-- A variable of the call's own of two cells is stored into behind the reads. -/
theorem rp_set2 {p : Nat} {v : Value} {bs : List Nat} {r0 r : List Bool} {w w1 : World} {B : Nat} (h0 : RIs p v bs r0 w) (h : RP p v bs r w w1) (hB : w.heap.size ≤ B) (x y : Value) : RP p v bs r w ((w1.setCell ⟨B, 0, none⟩ x).setCell ⟨B, 1, none⟩ y) :=
  rp_more h0 h ((Mods.set (fun k => k = B) w1 ⟨B, 0, none⟩ x (fun _ => rfl)).trans (Mods.set (fun k => k = B) _ ⟨B, 1, none⟩ y (fun _ => rfl)) (fun _ _ e => e)) (fun k e => by omega)
theorem Blk.set2 {w : World} {g : Nat} {a b : Value} (h : Blk w g [a, b]) (x y : Value) : Blk ((w.setCell ⟨g, 0, none⟩ x).setCell ⟨g, 1, none⟩ y) g [x, y] := by
  simpa using (h.set 0 x).set 1 y
theorem Blk.two {w : World} {g : Nat} {a b : Value} (h : Blk w g [a, b]) : (w.cell? ⟨g, 0, none⟩ = some a ∧ w.cell? ⟨g, 1, none⟩ = some b) ∧ (w.frozen? ⟨g, 0, none⟩ = false ∧ w.frozen? ⟨g, 1, none⟩ = false) :=
  ⟨⟨by rw [h.cell]; rfl, by rw [h.cell]; rfl⟩, h.free 0, h.free 1⟩

set_option maxHeartbeats 2000000 in
theorem getWindow_any (g p : Nat) (v : Value) (bs : List Nat) (r : List Bool) (w : World) (h : RIs p v bs r w) (c3 : w.cell? ⟨g, 3, none⟩ = some (.pointer (some ⟨p, 0, none⟩))) (hgp : g ≠ p) :
    Calls Tryd.prog 54 #[.pointer (some ⟨g, 0, none⟩)] w fun e w' => e = .returned (.tuple #[.agg #[.int .i64 ((winD r).x.1 : Int), .int .i64 ((winD r).x.2 : Int)], .int .i64 ((winD r).e : Int)]) ∧ RP p v bs (winD r).r w w' := by
  obtain ⟨w1, hw1⟩ : ∃ w1, w.alloc (.cells #[.int .i64 0, .int .i64 0] 64) = w1 := ⟨_, rfl⟩
  have HK1 : Hid (Blk w1 w.heap.size [.int .i64 0, .int .i64 0]) := by rw [← hw1]; exact Blk.new w _ _
  have HB1 : Hid (Below w.heap.size w w1) := by rw [← hw1]; exact (Below.refl _ w).alloc (Nat.le_refl _) _
  have HP1 : Hid (RP p v bs r w w1) := h.start.below HB1.out
  have hgl := World.block_lt_of_cell? w _ c3
  have HG : Hid (w.heap.size ≠ p ∧ g ≠ p) := ⟨by have := h.1.blk.lt; omega, hgp⟩
  have c3 : w1.cell? ⟨g, 3, none⟩ = some (.pointer (some ⟨p, 0, none⟩)) := (HB1.out.cell (World.block_lt_of_cell? w _ c3)).trans c3
  have HC3 := Lib.hid c3
  have HF := Lib.hid (rfield p v bs r 6 w1 HP1.out.1 (by omega))
  have H := Lib.hid h
  clear h hgl hgp
  rcases field_two 6 r with hf | ⟨a, r1, hf, ha⟩
  · have HD : Hid (winD r = ⟨3, (0, 0), r⟩) := by show _ = _; rw [winD, hf]; rfl
    rw [hf] at HF
    clear hf
    go_enter Tryd.func54, Tryd.ntmps54
    go_wp2_with fail
    refine HF.out.mono ?_
    rintro e w2 ⟨rfl, hP2⟩
    have HP2 := Lib.hid (rp_trans HP1.out hP2)
    have HK2 := Lib.hid (hP2.2.blk HK1.out HG.out.1)
    obtain ⟨⟨d0, d1⟩, f0, f1⟩ := HK2.out.two
    clear hP2
    go_wp2_with fail
    rw [HD.out]
    refine bodyPost_ret (resultsS2 (p := 2) (u := 3) strWin (by kernel_rfl) _ w.heap.size rfl [.int .i64 0, .int .i64 0] (HK2.out.set2 _ _) rfl) rfl ⟨rfl, ?_⟩
    exact rp_set2 H.out HP2.out (Nat.le_refl _) _ _
  · rw [hf] at HF
    have HA : Hid (a < 64) := ha
    have HF1 := Lib.hid hf
    clear hf ha
    go_enter Tryd.func54, Tryd.ntmps54
    go_wp2_with fail
    refine HF.out.mono ?_
    rintro e w2 ⟨rfl, hP2⟩
    have HP2 := Lib.hid (rp_trans HP1.out hP2)
    have HK2 := Lib.hid (hP2.2.blk HK1.out HG.out.1)
    have c3 : w2.cell? ⟨g, 3, none⟩ = some (.pointer (some ⟨p, 0, none⟩)) := hP2.2.cell HC3.out HG.out.2
    have HC3 := Lib.hid c3
    have HF2 := Lib.hid (rfield p v bs r1 6 w2 hP2.1 (by omega))
    clear hP2 HF
    rcases field_two 6 r1 with hf | ⟨y, r2, hf, hy⟩
    · have HD : Hid (winD r = ⟨3, (0, 0), r1⟩) := by show _ = _; rw [winD, HF1.out]; simp only [hf, ne_eq, not_true_eq_false, if_false]; rfl
      rw [hf] at HF2
      clear hf
      go_wp2_with fail
      refine HF2.out.mono ?_
      rintro e w3 ⟨rfl, hP3⟩
      have HP3 := Lib.hid (rp_trans HP2.out hP3)
      have HK3 := Lib.hid (hP3.2.blk HK2.out HG.out.1)
      obtain ⟨⟨d0, d1⟩, f0, f1⟩ := HK3.out.two
      clear hP3
      go_wp2_with fail
      rw [HD.out]
      refine bodyPost_ret (resultsS2 (p := 2) (u := 3) strWin (by kernel_rfl) _ w.heap.size rfl [.int .i64 0, .int .i64 0] (HK3.out.set2 _ _) rfl) rfl ⟨rfl, ?_⟩
      exact rp_set2 H.out HP3.out (Nat.le_refl _) _ _
    · rw [hf] at HF2
      have HY : Hid (y < 64) := hy
      have HFe := Lib.hid hf
      clear hf hy
      have ha64 : (a : Int) < 64 := by have := HA.out; omega
      have hy64 : (y : Int) < 64 := by have := HY.out; omega
      go_wp2_with fail
      refine HF2.out.mono ?_
      rintro e w3 ⟨rfl, hP3⟩
      have HP3 := Lib.hid (rp_trans HP2.out hP3)
      have HK3 := Lib.hid (hP3.2.blk HK2.out HG.out.1)
      have HT4 := Lib.hid (trailing_any a (y + 1) (by have := HA.out; omega) (by have := HY.out; omega))
      clear hP3 HF2
      rw [show ((y + 1 : Nat) : Int) = (y : Int) + 1 from rfl] at HT4
      obtain ⟨w4, hw4⟩ : ∃ w4, w3.alloc (.cells #[.int .i64 (a : Int), .int .i64 ((y : Int) + 1)] 64) = w4 := ⟨_, rfl⟩
      have hK4 : Blk w4 w3.heap.size [.int .i64 (a : Int), .int .i64 ((y : Int) + 1)] := by rw [← hw4]; exact Blk.new w3 _ _
      have hB4 : Below w3.heap.size w3 w4 := by rw [← hw4]; exact (Below.refl _ w3).alloc (Nat.le_refl _) _
      have HT4 := Lib.hid (HT4.out w4)
      obtain ⟨⟨k0, k1⟩, _⟩ := hK4.two
      go_wp2_with fail
      refine HT4.out.mono ?_
      rintro e w5 ⟨rfl, hB5⟩
      have hB35 : Below w3.heap.size w3 w5 := hB4.trans (hB5.mono hB4.size)
      have HP5 := Lib.hid (HP3.out.below hB35)
      have HK5 := Lib.hid (HK3.out.of_same (hB35.block _ HK3.out.lt))
      have hK5 := hK4.of_same (hB5.block _ hK4.lt)
      obtain ⟨⟨d0, d1⟩, f0, f1⟩ := HK5.out.two
      clear k0 k1
      obtain ⟨⟨k0, k1⟩, _⟩ := hK5.two
      clear hK4 hB4 hB5 hB35 hw4 HK3 HP3 HT4 hK5
      by_cases hs : 63 < a + y
      · have hs' : (64 : Int) - (a : Int) - ((y : Int) + 1) < 0 := by omega
        have HD : Hid (winD r = ⟨8, (0, 0), r2⟩) := by show _ = _; rw [winD, HF1.out]; simp only [HFe.out, ne_eq, not_true_eq_false, if_false, hs, if_true]
        clear hs
        go_wp2_with fail
        rw [HD.out]
        refine bodyPost_ret (resultsS2 (p := 2) (u := 3) strWin (by kernel_rfl) _ w.heap.size rfl [.int .i64 0, .int .i64 0] (HK5.out.set2 _ _) rfl) rfl ⟨rfl, ?_⟩
        exact rp_set2 H.out HP5.out (Nat.le_refl _) _ _
      · have hs' : ¬ (64 : Int) - (a : Int) - ((y : Int) + 1) < 0 := by omega
        have HD : Hid (winD r = ⟨0, (a, y + 1), r2⟩) := by show _ = _; rw [winD, HF1.out]; simp only [HFe.out, ne_eq, not_true_eq_false, if_false, hs]
        clear hs
        go_wp2_with fail
        rw [HD.out]
        refine bodyPost_ret (resultsS2 (p := 2) (u := 3) strWin (by kernel_rfl) _ w.heap.size rfl [.int .i64 (a : Int), .int .i64 ((y : Int) + 1)] (HK5.out.set2 _ _) rfl) rfl ⟨rfl, ?_⟩
        exact rp_set2 H.out HP5.out (Nat.le_refl _) _ _
end Go.Proofs.YtnhopiggknfimaaDoor
