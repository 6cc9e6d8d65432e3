/- Layer 6: the program's state moves on; the bits of a step. -/
import Derived.Test.YtnhopiggknfimaaDoorXvC
set_option linter.unusedVariables false
set_option maxRecDepth 20000
namespace Go.Proofs.YtnhopiggknfimaaDoor
open Go Go.RowKit

/-- The cells of a state behind a step. -/
def advC (last x L wd a b : Nat) (c : Bool) : List Value := [.int .u64 ((last ^^^ x : Nat) : Int), .int .i64 ((if c then a else L : Nat) : Int), .int .i64 ((if c then b else wd : Nat) : Int)]

theorem Blk.facts4 {w : World} {g : Nat} {a b c : Value} {rest : List Value} (h : Blk w g (a :: b :: c :: rest)) : (w.cell? ⟨g, 0, none⟩ = some a ∧ w.cell? ⟨g, 1, none⟩ = some b ∧ w.cell? ⟨g, 2, none⟩ = some c) ∧ (w.frozen? ⟨g, 0, none⟩ = false ∧ w.frozen? ⟨g, 1, none⟩ = false ∧ w.frozen? ⟨g, 2, none⟩ = false) :=
  ⟨⟨by rw [h.cell]; rfl, by rw [h.cell]; rfl, by rw [h.cell]; rfl⟩, h.free 0, h.free 1, h.free 2⟩

set_option maxHeartbeats 1000000 in
theorem advance_any (g last x L wd a b : Nat) (c : Bool) (rest : List Value) (hla : last < 18446744073709551616) (hx : x < 18446744073709551616) (w : World) (h : Blk w g ([.int .u64 (last : Int), .int .i64 (L : Int), .int .i64 (wd : Int)] ++ rest)) :
    Calls Tryd.prog 36 #[.pointer (some ⟨g, 0, none⟩), .int .u64 (x : Int), .agg #[.int .i64 (a : Int), .int .i64 (b : Int), .bool c]] w fun e w' => e = .returned (.tuple #[]) ∧ Blk w' g (advC last x L wd a b c ++ rest) ∧ Mods (fun k => k = g) w w' := by
  have HX : Hid (bits .xor .u64 (last : Int) (x : Int) = ((last ^^^ x : Nat) : Int)) := bits_xor_u64_nat last x hla hx
  obtain ⟨w1, hw1⟩ : ∃ w1, w.alloc (.cells #[.int .i64 (a : Int), .int .i64 (b : Int), .bool c] 76) = w1 := ⟨_, rfl⟩
  have HK1 : Hid (Blk w1 w.heap.size [.int .i64 (a : Int), .int .i64 (b : Int), .bool c]) := by rw [← hw1]; exact Blk.new w _ _
  have HB1 : Hid (Below w.heap.size w w1) := by rw [← hw1]; exact (Below.refl _ w).alloc (Nat.le_refl _) _
  have HG : Hid (g < w.heap.size) := h.lt
  have HS1 : Hid (Blk w1 g (.int .u64 (last : Int) :: .int .i64 (L : Int) :: .int .i64 (wd : Int) :: rest)) := h.of_same (HB1.out.block _ HG.out)
  obtain ⟨⟨d0, d1, d2⟩, _⟩ := HK1.out.three
  obtain ⟨⟨s0, s1, s2⟩, f0, f1, f2⟩ := HS1.out.facts4
  have hne : w.heap.size ≠ g := by have := HG.out; omega
  have hne' : g ≠ w.heap.size := by have := HG.out; omega
  clear h
  cases c with
  | true =>
    go_enter Tryd.func36, Tryd.ntmps36
    go_wp2_with fail
    go_end0
    rw [HX.out]
    refine ⟨rfl, ?_, ?_⟩
    · simpa [advC] using ((HS1.out.set 0 (.int .u64 ((last ^^^ x : Nat) : Int))).set 1 (.int .i64 (a : Int))).set 2 (.int .i64 (b : Int))
    · exact (Mods.of_below HB1.out _).trans (mods_set3 w1 g _ _ _) (fun _ _ e => e)
  | false =>
    go_enter Tryd.func36, Tryd.ntmps36
    go_wp2_with fail
    go_end0
    rw [HX.out]
    refine ⟨rfl, ?_, ?_⟩
    · simpa [advC] using HS1.out.set 0 (.int .u64 ((last ^^^ x : Nat) : Int))
    · exact (Mods.of_below HB1.out _).trans (Mods.set (fun k => k = g) w1 ⟨g, 0, none⟩ _ (fun _ => rfl)) (fun _ _ e => e)

/-- The bits of a step of this kind. -/
def stepN (a b : Nat) (c : Bool) : Nat := if a = 0 ∧ b = 0 then 1 else if c then 14 + b else 2 + b
theorem size_any (a b : Nat) (c : Bool) (hab : (a = 0 ∧ b = 0) ∨ 1 ≤ b) (hb : b ≤ 1000) (ha : a ≤ 1000) (w : World) :
    Calls Tryd.prog 37 #[.agg #[.int .i64 (a : Int), .int .i64 (b : Int), .bool c]] w fun e w' => e = .returned (.int .i64 (stepN a b c : Int)) ∧ Below w.heap.size w w' := by
  have hb' : (b : Int) ≤ 1000 := by omega
  rcases hab with ⟨rfl, rfl⟩ | h1
  · go_enter Tryd.func37, Tryd.ntmps37
    go_wp2_with fail
    go_ret
    exact ⟨rfl, (Below.refl _ w).alloc (Nat.le_refl _) _⟩
  · have hbb : ((b : Int) == 0) = false := by rw [beq_eq_false_iff_ne]; omega
    have hb1 : (1 : Int) ≤ (b : Int) := by omega
    have HN : Hid ¬ (a = 0 ∧ b = 0) := by show ¬ _; omega
    have HNt : Hid (stepN a b true = 14 + b) := by show _ = _; rw [stepN, if_neg HN.out, if_pos rfl]
    have HNf : Hid (stepN a b false = 2 + b) := by show _ = _; rw [stepN, if_neg HN.out, if_neg (by decide)]
    cases c with
    | true =>
      go_enter Tryd.func37, Tryd.ntmps37
      go_wp2_with fail
      go_ret
      exact ⟨by rw [HNt.out]; go_num, (Below.refl _ w).alloc (Nat.le_refl _) _⟩
    | false =>
      go_enter Tryd.func37, Tryd.ntmps37
      go_wp2_with fail
      go_ret
      exact ⟨by rw [HNf.out]; go_num, (Below.refl _ w).alloc (Nat.le_refl _) _⟩
end Go.Proofs.YtnhopiggknfimaaDoor
