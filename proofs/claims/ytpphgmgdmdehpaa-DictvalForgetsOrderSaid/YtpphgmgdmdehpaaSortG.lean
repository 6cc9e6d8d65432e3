/- slices.Sort of words: choosePivotOrdered. -/
import Derived.Test.YtpphgmgdmdehpaaSortF
set_option linter.unusedVariables false
set_option maxRecDepth 20000
namespace Go.Proofs.Ytpphgmgdmdehpaa
open Go Go.RowKit

set_option maxHeartbeats 8000000 in
theorem choose_pivot_u64 (g n c a b : Nat) (d : Array Nat) (w : World) (h : SU w w g n c d) (hab : a + 12 < b) (hb : b ≤ n) (hn : n < 4611686018427387904) (hg : g < w.heap.size) :
    Calls Try.prog 62 #[.slice (some ⟨g, 0, none⟩) n c, .int .i64 (a : Int), .int .i64 (b : Int)] w fun e w' =>
      ∃ (x : Nat) (t : Int), e = .returned (.tuple #[.int .i64 (x : Int), .int .i64 t]) ∧ (a ≤ x ∧ x < b) ∧ SU w w' g n c d := by
  have HS := Lib.hid h
  clear h
  obtain ⟨m, hm0⟩ : ∃ m, b - a = m := ⟨_, rfl⟩
  have hsub : (b : Int) - (a : Int) = (m : Int) := by omega
  obtain ⟨t, ht⟩ : ∃ t, m / 4 = t := ⟨_, rfl⟩
  have hdv : (m : Int) / 4 = (t : Int) := by omega
  have h12 : (8 : Int) ≤ (m : Int) := by omega
  have HI : Hid (12 < m ∧ a + m ≤ n ∧ b = a + m ∧ 4 * t ≤ m ∧ m < 4 * t + 4) := by show _ ∧ _ ∧ _ ∧ _ ∧ _; omega
  have hmn : (m : Int) ≤ 4611686018427387904 := by omega
  have han : (a : Int) ≤ 4611686018427387904 := by omega
  have htn : (t : Int) ≤ 4611686018427387904 := by omega
  clear hm0 ht hab
  go_enter Try.func62, Try.ntmps62
  have hw1 : ∃ w1, (w.alloc (.cells #[.int .i64 0] 3)) = w1 := ⟨_, rfl⟩
  have hbl : Below w.heap.size w (w.alloc (.cells #[.int .i64 0] 3)) := (Below.refl _ _).alloc (Nat.le_refl _) _
  have HM1' : Mods (fun k => k = g) w (w.alloc (.cells #[.int .i64 0] 3)) := Mods.of_below hbl _
  have HP0' : PV (w.alloc (.cells #[.int .i64 0] 3)) g n c w.heap.size d 0 := ⟨⟨HS.out.sz, (Mods.of_below hbl (fun _ => False)).owns HS.out.row (fun _ _ e => e), Mods.refl _ _⟩, by omega, Blk.new _ _ _⟩
  by_cases h50 : 50 ≤ m
  · have h50i : (50 : Int) ≤ (m : Int) := by omega
    clear h12
    have h12 : (8 : Int) ≤ (m : Int) := by omega
    go_wp2_with fail
    have HM1 := Lib.hid HM1'; have HP0 := Lib.hid HP0'
    clear HM1' HP0' hbl hw1
    generalize (w.alloc (.cells #[.int .i64 0] 3)) = w1 at *
    refine (median_adjacent_u64 g n c w.heap.size (a + t) 0 d w1 HP0.out (by have := HI.out; omega) (by have := HI.out; omega) hn (by omega)).mono ?_
    rintro e w2 ⟨x1, rfl, hx, hp⟩
    obtain ⟨hm, t1, ht1, hp1⟩ := hp
    have HPa := Lib.hid hp1; have HMa := Lib.hid hm; have hx1 := hx
    clear hm hp1 hx
    go_wp2_with fail
    refine (median_adjacent_u64 g n c w.heap.size (a + t * 2) t1 d w2 HPa.out (by have := HI.out; omega) (by have := HI.out; omega) hn (by omega)).mono ?_
    rintro e w3 ⟨x2, rfl, hx, hp⟩
    obtain ⟨hm, t2, ht2, hp1⟩ := hp
    have HPb := Lib.hid hp1; have HMb := Lib.hid (HMa.out.trans hm (fun _ _ e => e)); have hx2 := hx
    clear hm hp1 hx
    go_wp2_with fail
    refine (median_adjacent_u64 g n c w.heap.size (a + t * 3) t2 d w3 HPb.out (by have := HI.out; omega) (by have := HI.out; omega) hn (by omega)).mono ?_
    rintro e w4 ⟨x3, rfl, hx, hp⟩
    obtain ⟨hm, t3, ht3, hp1⟩ := hp
    have HPc := Lib.hid hp1; have HMc := Lib.hid (HMb.out.trans hm (fun _ _ e => e)); have hx3 := hx
    clear hm hp1 hx
    go_wp2_with fail
    refine (median_u64 g n c w.heap.size x1 x2 x3 t3 d w4 HPc.out (by have := HI.out; omega) (by have := HI.out; omega) (by have := HI.out; omega) hn (by omega)).mono ?_
    rintro e wf ⟨x, rfl, hx, hp⟩
    obtain ⟨hm2, tf, htf, hp2⟩ := hp
    have HX : Hid (a ≤ x ∧ x < b) := by show _ ∧ _; have := HI.out; omega
    have HM2 : Hid (Mods (fun k => k = w.heap.size) w1 wf) := HMc.out.trans hm2 (fun _ _ e => e)
    have HPf := Lib.hid hp2
    have hcf : wf.cell? ⟨w.heap.size, 0, none⟩ = some (.int .i64 (tf : Int)) := HPf.out.box.cell 0
    have HF : Hid (SU w wf g n c d) := ⟨HS.out.sz, HPf.out.su.row, HM1.out.trans HM2.out (fun k hk e => absurd hk (by subst e; exact Nat.lt_irrefl _))⟩
    clear hm2 hp2 hx
    by_cases h0 : tf = 0
    · subst h0
      go_wp2_with fail
      go_ret2
      exact ⟨x, _, rfl, HX.out, HF.out⟩
    · have h0i : ¬ (tf : Int) = 0 := by omega
      by_cases h1 : tf = 12
      · subst h1
        go_wp2_with fail
        go_ret2
        exact ⟨x, _, rfl, HX.out, HF.out⟩
      · have h1i : ¬ (tf : Int) = 12 := by omega
        go_wp2_with fail
        go_ret2
        exact ⟨x, _, rfl, HX.out, HF.out⟩
  · have h50i : ¬ (50 : Int) ≤ (m : Int) := by omega
    have HM1 := Lib.hid HM1'; have HP0 := Lib.hid HP0'
    clear HM1' HP0' hbl
    clear hw1
    go_wp2_with fail
    generalize (w.alloc (.cells #[.int .i64 0] 3)) = w1 at *
    refine (median_u64 g n c w.heap.size (a + t) (a + t * 2) (a + t * 3) 0 d w1 HP0.out (by have := HI.out; omega) (by have := HI.out; omega) (by have := HI.out; omega) hn (by omega)).mono ?_
    rintro e wf ⟨x, rfl, hx, hp⟩
    obtain ⟨hm2, tf, htf, hp2⟩ := hp
    have HX : Hid (a ≤ x ∧ x < b) := by show _ ∧ _; have := HI.out; omega
    have HM2 : Hid (Mods (fun k => k = w.heap.size) w1 wf) := hm2
    have HPf := Lib.hid hp2
    have hcf : wf.cell? ⟨w.heap.size, 0, none⟩ = some (.int .i64 (tf : Int)) := HPf.out.box.cell 0
    have HF : Hid (SU w wf g n c d) := ⟨HS.out.sz, HPf.out.su.row, HM1.out.trans HM2.out (fun k hk e => absurd hk (by subst e; exact Nat.lt_irrefl _))⟩
    clear hm2 hp2 hx
    by_cases h0 : tf = 0
    · subst h0
      go_wp2_with fail
      go_ret2
      exact ⟨x, _, rfl, HX.out, HF.out⟩
    · have h0i : ¬ (tf : Int) = 0 := by omega
      by_cases h1 : tf = 12
      · subst h1
        go_wp2_with fail
        go_ret2
        exact ⟨x, _, rfl, HX.out, HF.out⟩
      · have h1i : ¬ (tf : Int) = 12 := by omega
        go_wp2_with fail
        go_ret2
        exact ⟨x, _, rfl, HX.out, HF.out⟩
end Go.Proofs.Ytpphgmgdmdehpaa
