/- Layer 6: the program reads what comes ahead of the bits inside the window. -/
import Derived.Test.YtnhopiggknfimaaDoorXvI
set_option linter.unusedVariables false
set_option maxRecDepth 20000
namespace Go.Proofs.YtnhopiggknfimaaDoor
open Go Go.RowKit

theorem rp_set3 {p : Nat} {v : Value} {bs : List Nat} {r0 r : List Bool} {w w1 : World} {B : Nat} (h0 : RIs p v bs r0 w) (h : RP p v bs r w w1) (hB : w.heap.size ≤ B) (x y z : Value) : RP p v bs r w (((w1.setCell ⟨B, 0, none⟩ x).setCell ⟨B, 1, none⟩ y).setCell ⟨B, 2, none⟩ z) :=
  rp_more h0 h (mods_set3 w1 B x y z) (fun k e => by omega)

/-- A decoder's cells that a read leaves as they are. -/
structure DecC (g p : Nat) (win : Option (Nat × Nat)) (w : World) : Prop where
  c1 : w.cell? ⟨g, 1, none⟩ = some (.int .i64 (wl win : Int))
  c2 : w.cell? ⟨g, 2, none⟩ = some (.int .i64 (ww win : Int))
  c3 : w.cell? ⟨g, 3, none⟩ = some (.pointer (some ⟨p, 0, none⟩))
  gp : g ≠ p
theorem DecC.mods {g p : Nat} {win : Option (Nat × Nat)} {w w' : World} (h : DecC g p win w) (hm : Mods (fun k => k = p) w w') : DecC g p win w' := ⟨hm.cell h.c1 h.gp, hm.cell h.c2 h.gp, hm.cell h.c3 h.gp, h.gp⟩

/-- What getStep leaves. -/
def StepPost (p : Nat) (v : Value) (bs : List Nat) (w : World) (o : Res (Nat × Nat × Bool)) (e : Ending) (w' : World) : Prop :=
  e = .returned (.tuple #[.agg #[.int .i64 (o.x.1 : Int), .int .i64 (o.x.2.1 : Int), .bool o.x.2.2], .int .i64 (o.e : Int)]) ∧ RP p v bs o.r w w'

set_option maxHeartbeats 4000000 in
theorem getStep_any (g p : Nat) (v : Value) (bs : List Nat) (r : List Bool) (win : Option (Nat × Nat)) (ho : okW win) (w : World) (h : RIs p v bs r w) (hc : DecC g p win w) :
    Calls Tryd.prog 49 #[.pointer (some ⟨g, 0, none⟩)] w (StepPost p v bs w (headD win r)) := by
  obtain ⟨w1, hw1⟩ : ∃ w1, w.alloc (.cells #[.int .i64 0, .int .i64 0, .bool false] 76) = w1 := ⟨_, rfl⟩
  have HK1 : Hid (Blk w1 w.heap.size [.int .i64 0, .int .i64 0, .bool false]) := by rw [← hw1]; exact Blk.new w _ _
  have HB1 : Hid (Below w.heap.size w w1) := by rw [← hw1]; exact (Below.refl _ w).alloc (Nat.le_refl _) _
  have HP1 : Hid (RP p v bs r w w1) := h.start.below HB1.out
  have HG : Hid (w.heap.size ≠ p) := by have := h.1.blk.lt; show _ ≠ _; omega
  have HC1 := Lib.hid (hc.mods (Mods.of_below HB1.out _))
  have HO := Lib.hid ho
  have c3 := HC1.out.c3
  have HF := Lib.hid (rfield p v bs r 1 w1 HP1.out.1 (by omega))
  have H := Lib.hid h
  clear h hc ho
  match r, HP1, HF, H with
  | [], HP1, HF, H =>
    rw [field_none] at HF
    go_enter Tryd.func49, Tryd.ntmps49
    go_wp2_with fail
    refine HF.out.mono ?_
    rintro e w2 ⟨rfl, hP2⟩
    have HP2 := Lib.hid (rp_trans HP1.out hP2)
    have HK2 := Lib.hid (hP2.2.blk HK1.out HG.out)
    obtain ⟨⟨d0, d1, d2⟩, f0, f1, f2⟩ := HK2.out.three
    clear hP2
    go_wp2_with fail
    refine bodyPost_ret (resultsS2 (p := 2) (u := 3) strStep (by kernel_rfl) _ w.heap.size rfl [.int .i64 0, .int .i64 0, .bool false] (HK2.out.set3 _ _ _) rfl) rfl ⟨rfl, ?_⟩
    exact rp_set3 H.out HP2.out (Nat.le_refl _) _ _ _
  | false :: r1, HP1, HF, H =>
    rw [field_one] at HF
    go_enter Tryd.func49, Tryd.ntmps49
    go_wp2_with fail
    refine HF.out.mono ?_
    rintro e w2 ⟨rfl, hP2⟩
    have HP2 := Lib.hid (rp_trans HP1.out hP2)
    have HK2 := Lib.hid (hP2.2.blk HK1.out HG.out)
    obtain ⟨⟨d0, d1, d2⟩, f0, f1, f2⟩ := HK2.out.three
    clear hP2
    go_wp2_with fail
    refine bodyPost_ret (resultsS2 (p := 2) (u := 3) strStep (by kernel_rfl) _ w.heap.size rfl [.int .i64 0, .int .i64 0, .bool false] (HK2.out.set3 _ _ _) rfl) rfl ⟨rfl, ?_⟩
    exact rp_set3 H.out HP2.out (Nat.le_refl _) _ _ _
  | true :: r1, HP1, HF, H =>
    rw [field_one] at HF
    go_enter Tryd.func49, Tryd.ntmps49
    go_wp2_with fail
    refine HF.out.mono ?_
    rintro e w2 ⟨rfl, hP2⟩
    have HP2 := Lib.hid (rp_trans HP1.out hP2)
    have HK2 := Lib.hid (hP2.2.blk HK1.out HG.out)
    have HC2 := Lib.hid (HC1.out.mods hP2.2)
    have HF2 := Lib.hid (rfield p v bs r1 1 w2 hP2.1 (by omega))
    clear c3
    have c3 := HC2.out.c3
    clear hP2 HF
    match r1, HP1, HP2, HF2, H with
    | [], HP1, HP2, HF2, H =>
      rw [field_none] at HF2
      go_wp2_with fail
      refine HF2.out.mono ?_
      rintro e w3 ⟨rfl, hP3⟩
      have HP3 := Lib.hid (rp_trans HP2.out hP3)
      have HK3 := Lib.hid (hP3.2.blk HK2.out HG.out)
      obtain ⟨⟨d0, d1, d2⟩, f0, f1, f2⟩ := HK3.out.three
      clear hP3
      go_wp2_with fail
      refine bodyPost_ret (resultsS2 (p := 2) (u := 3) strStep (by kernel_rfl) _ w.heap.size rfl [.int .i64 0, .int .i64 0, .bool false] (HK3.out.set3 _ _ _) rfl) rfl ⟨rfl, ?_⟩
      exact rp_set3 H.out HP3.out (Nat.le_refl _) _ _ _
    | true :: r2, HP1, HP2, HF2, H =>
      rw [field_one] at HF2
      go_wp2_with fail
      refine HF2.out.mono ?_
      rintro e w3 ⟨rfl, hP3⟩
      have HP3 := Lib.hid (rp_trans HP2.out hP3)
      have HK3 := Lib.hid (hP3.2.blk HK2.out HG.out)
      have HC3 := Lib.hid (HC2.out.mods hP3.2)
      have HW := Lib.hid (getWindow_any g p v bs r2 w3 hP3.1 HC3.out.c3 HC3.out.gp)
      have HD : Hid (headD win (true :: true :: r2) = ⟨(winD r2).e, ((winD r2).x.1, (winD r2).x.2, true), (winD r2).r⟩) := rfl
      generalize (winD r2).x.1 = a at *
      generalize (winD r2).x.2 = b at *
      generalize (winD r2).e = en at *
      generalize (winD r2).r = r3 at *
      clear hP3
      go_wp2_with fail
      refine HW.out.mono ?_
      rintro e w4 ⟨rfl, hP4⟩
      have HP4 := Lib.hid (rp_trans HP3.out hP4)
      have hK4 := hP4.2.blk HK3.out HG.out
      obtain ⟨w5, hw5⟩ : ∃ w5, w4.alloc (.cells #[.int .i64 (a : Int), .int .i64 (b : Int)] 64) = w5 := ⟨_, rfl⟩
      have hB5 : Below w4.heap.size w4 w5 := by rw [← hw5]; exact (Below.refl _ w4).alloc (Nat.le_refl _) _
      have hN5 : Blk w5 w4.heap.size [.int .i64 (a : Int), .int .i64 (b : Int)] := by rw [← hw5]; exact Blk.new w4 _ _
      have HK5 := Lib.hid (hK4.of_same (hB5.block _ hK4.lt))
      have HP5 := Lib.hid (HP4.out.below hB5)
      obtain ⟨⟨d0, d1, d2⟩, f0, f1, f2⟩ := HK5.out.three
      obtain ⟨⟨k0, k1⟩, _⟩ := hN5.two
      clear hP4 HW hB5 hN5 hK4
      go_wp2_with fail
      rw [HD.out]
      refine bodyPost_ret (resultsS2 (p := 2) (u := 3) strStep (by kernel_rfl) _ w.heap.size rfl [.int .i64 (a : Int), .int .i64 (b : Int), .bool true] (HK5.out.set3 _ _ _) rfl) rfl ⟨rfl, ?_⟩
      exact rp_set3 H.out HP5.out (Nat.le_refl _) _ _ _
    | false :: r2, HP1, HP2, HF2, H =>
      rw [field_one] at HF2
      go_wp2_with fail
      refine HF2.out.mono ?_
      rintro e w3 ⟨rfl, hP3⟩
      have HP3 := Lib.hid (rp_trans HP2.out hP3)
      have HK3 := Lib.hid (hP3.2.blk HK2.out HG.out)
      have HC3 := Lib.hid (HC2.out.mods hP3.2)
      clear hP3
      have hwin : ∀ a b : Int, ∃ w5, w3.alloc (.cells #[.int .i64 a, .int .i64 b] 64) = w5 ∧ Hid (Blk w5 w.heap.size [.int .i64 0, .int .i64 0, .bool false]) ∧ Hid (Blk w5 w3.heap.size [.int .i64 a, .int .i64 b]) ∧ Hid (RP p v bs r2 w w5) := fun a b => by
        have hB5 : Below w3.heap.size w3 (w3.alloc (.cells #[.int .i64 a, .int .i64 b] 64)) := (Below.refl _ w3).alloc (Nat.le_refl _) _
        exact ⟨_, rfl, HK3.out.of_same (hB5.block _ HK3.out.lt), Blk.new w3 _ _, HP3.out.below hB5⟩
      match win, HO, HC3 with
      | none, HO, HC3 =>
        clear hwin
        have e1 : w3.cell? ⟨g, 1, none⟩ = some (.int .i64 0) := HC3.out.c1
        have e2 : w3.cell? ⟨g, 2, none⟩ = some (.int .i64 0) := HC3.out.c2
        have hB5 : Below w3.heap.size w3 (w3.alloc (.cells #[.int .i64 0, .int .i64 0] 64)) := (Below.refl _ w3).alloc (Nat.le_refl _) _
        have HK5 := Lib.hid (HK3.out.of_same (hB5.block _ HK3.out.lt))
        have HP5 := Lib.hid (HP3.out.below hB5)
        obtain ⟨⟨d0, d1, d2⟩, f0, f1, f2⟩ := HK5.out.three
        clear hB5
        go_wp2_with fail
        refine bodyPost_ret (resultsS2 (p := 2) (u := 3) strStep (by kernel_rfl) _ w.heap.size rfl [.int .i64 0, .int .i64 0, .bool false] (HK5.out.set3 _ _ _) rfl) rfl ⟨rfl, ?_⟩
        exact rp_set3 H.out HP5.out (Nat.le_refl _) _ _ _
      | some (L, t), HO, HC3 =>
        have hle := HO.out L t rfl
        have HD : Hid (headD (some (L, t)) (true :: false :: r2) = ⟨0, (L, 64 - L - t, false), r2⟩) := rfl
        have e1 : w3.cell? ⟨g, 1, none⟩ = some (.int .i64 (L : Int)) := HC3.out.c1
        have e2 : w3.cell? ⟨g, 2, none⟩ = some (.int .i64 ((64 - L - t : Nat) : Int)) := HC3.out.c2
        have hwb : (((64 - L - t : Nat) : Int) == 0) = false := by rw [beq_eq_false_iff_ne]; omega
        generalize 64 - L - t = wd at *
        obtain ⟨w5, hw5, HK5, HN5, HP5⟩ := hwin L wd
        clear hwin
        obtain ⟨⟨d0, d1, d2⟩, f0, f1, f2⟩ := HK5.out.three
        obtain ⟨⟨k0, k1⟩, _⟩ := HN5.out.two
        go_wp2_with fail
        rw [HD.out]
        refine bodyPost_ret (resultsS2 (p := 2) (u := 3) strStep (by kernel_rfl) _ w.heap.size rfl [.int .i64 (L : Int), .int .i64 (wd : Int), .bool false] (HK5.out.set3 _ _ _) rfl) rfl ⟨rfl, ?_⟩
        exact rp_set3 H.out HP5.out (Nat.le_refl _) _ _ _
end Go.Proofs.YtnhopiggknfimaaDoor
