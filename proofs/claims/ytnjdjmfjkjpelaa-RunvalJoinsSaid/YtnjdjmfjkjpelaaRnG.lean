/- Layer 7: the program reads a run. -/
import Derived.Test.YtnjdjmfjkjpelaaRnA
import Derived.Test.YtnjdjmfjkjpelaaRis2
set_option linter.unusedVariables false
set_option maxRecDepth 20000
namespace Go.Proofs.Ytnjdjmfjkjpelaa
open Go Go.RowKit

/-- A run, read. -/
def runD (bs : List Bool) : Res (Nat × Nat) :=
  if (field 64 bs).e ≠ 0 then ⟨(field 64 bs).e, (0, 0), (field 64 bs).r⟩ else
  let y := field 7 (field 64 bs).r
  if y.e ≠ 0 then ⟨y.e, (0, 0), y.r⟩ else ⟨0, ((field 64 bs).x, y.x + 1), y.r⟩

set_option maxHeartbeats 2000000 in
theorem getRun_any (p : Nat) (v : Value) (bs : List Nat) (r : List Bool) (w : World) (h : RIs p v bs r w) :
    Calls Try.prog 48 #[.pointer (some ⟨p, 0, none⟩)] w fun e w' => e = .returned (.tuple #[.agg #[.int .u64 ((runD r).x.1 : Int), .int .i64 ((runD r).x.2 : Int)], .int .i64 ((runD r).e : Int)]) ∧ RP p v bs (runD r).r w w' := by
  obtain ⟨w1, hw1⟩ : ∃ w1, w.alloc (.cells #[.int .u64 0, .int .i64 0] 31) = w1 := ⟨_, rfl⟩
  have HK1 : Hid (Blk w1 w.heap.size [.int .u64 0, .int .i64 0]) := by rw [← hw1]; exact Blk.new w _ _
  have HB1 : Hid (Below w.heap.size w w1) := by rw [← hw1]; exact (Below.refl _ w).alloc (Nat.le_refl _) _
  have HP1 : Hid (RP p v bs r w w1) := h.start.below HB1.out
  have HG : Hid (w.heap.size ≠ p) := by show _ ≠ _; have := h.1.blk.lt; omega
  have HF := Lib.hid (rfield p v bs r 64 w1 HP1.out.1 (by omega))
  have H := Lib.hid h
  clear h
  rcases field_two 64 r with hf | ⟨a, r1, hf, ha⟩
  · have HD : Hid (runD r = ⟨3, (0, 0), r⟩) := by show _ = _; rw [runD, hf]; rfl
    rw [hf] at HF
    clear hf
    go_enter Try.func48, Try.ntmps48
    go_wp2_with fail
    refine HF.out.mono ?_
    rintro e w2 ⟨rfl, hP2⟩
    have HP2 := Lib.hid (rp_trans HP1.out hP2)
    have HK2 := Lib.hid (hP2.2.blk HK1.out HG.out)
    obtain ⟨⟨d0, d1⟩, f0, f1⟩ := HK2.out.two
    clear hP2
    go_wp2_with fail
    rw [HD.out]
    refine bodyPost_ret (resultsS2 (p := 2) (u := 3) strRun (by kernel_rfl) _ w.heap.size rfl [.int .u64 0, .int .i64 0] (HK2.out.set2 _ _) rfl) rfl ⟨rfl, ?_⟩
    exact rp_set2 H.out HP2.out (Nat.le_refl _) _ _
  · rw [hf] at HF
    have HF1 := Lib.hid hf
    clear hf ha
    go_enter Try.func48, Try.ntmps48
    go_wp2_with fail
    refine HF.out.mono ?_
    rintro e w2 ⟨rfl, hP2⟩
    have HP2 := Lib.hid (rp_trans HP1.out hP2)
    have HK2 := Lib.hid (hP2.2.blk HK1.out HG.out)
    have HF2 := Lib.hid (rfield p v bs r1 7 w2 hP2.1 (by omega))
    clear hP2 HF
    rcases field_two 7 r1 with hf | ⟨y, r2, hf, hy⟩
    · have HD : Hid (runD r = ⟨3, (0, 0), r1⟩) := by show _ = _; rw [runD, HF1.out]; simp only [hf, ne_eq, not_true_eq_false, if_false]; rfl
      rw [hf] at HF2
      clear hf
      go_wp2_with fail
      refine HF2.out.mono ?_
      rintro e w3 ⟨rfl, hP3⟩
      have HP3 := Lib.hid (rp_trans HP2.out hP3)
      have HK3 := Lib.hid (hP3.2.blk HK2.out HG.out)
      obtain ⟨⟨d0, d1⟩, f0, f1⟩ := HK3.out.two
      clear hP3
      go_wp2_with fail
      rw [HD.out]
      refine bodyPost_ret (resultsS2 (p := 2) (u := 3) strRun (by kernel_rfl) _ w.heap.size rfl [.int .u64 0, .int .i64 0] (HK3.out.set2 _ _) rfl) rfl ⟨rfl, ?_⟩
      exact rp_set2 H.out HP3.out (Nat.le_refl _) _ _
    · rw [hf] at HF2
      have hy128 : (y : Int) < 128 := by omega
      have HD : Hid (runD r = ⟨0, (a, y + 1), r2⟩) := by show _ = _; rw [runD, HF1.out]; simp only [hf, ne_eq, not_true_eq_false, if_false]
      clear hf hy
      go_wp2_with fail
      refine HF2.out.mono ?_
      rintro e w3 ⟨rfl, hP3⟩
      have HP3 := Lib.hid (rp_trans HP2.out hP3)
      have HK3 := Lib.hid (hP3.2.blk HK2.out HG.out)
      obtain ⟨⟨d0, d1⟩, f0, f1⟩ := HK3.out.two
      clear hP3 HF2
      go_wp2_with fail
      rw [HD.out]
      refine bodyPost_ret (resultsS2 (p := 2) (u := 3) strRun (by kernel_rfl) _ w.heap.size rfl [.int .u64 (a : Int), .int .i64 ((y + 1 : Nat) : Int)] (HK3.out.set2 _ _) rfl) rfl ⟨rfl, ?_⟩
      exact rp_set2 H.out HP3.out (Nat.le_refl _) _ _
end Go.Proofs.Ytnjdjmfjkjpelaa
