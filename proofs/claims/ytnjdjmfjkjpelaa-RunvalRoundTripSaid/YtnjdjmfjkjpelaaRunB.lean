/- Layer 7: the reading of runs, step by step. No program in sight. -/
import Derived.Test.YtnjdjmfjkjpelaaRun
namespace Go.Proofs.Ytnjdjmfjkjpelaa

def GetAtR (n : Nat) (bs : List Bool) (acc : List Nat) (cnt : Nat) (bits : List Bool) : Prop := ∃ f, n - acc.length ≤ f ∧ decR n bs = decRF f n acc cnt bits
theorem getR_start (n : Nat) (bs : List Bool) : GetAtR n bs [] 128 bs := ⟨n, by simp, rfl⟩
theorem getR_done {n : Nat} {bs : List Bool} {acc : List Nat} {cnt : Nat} {bits : List Bool} (h : GetAtR n bs acc cnt bits) (hn : n ≤ acc.length) : decR n bs = ⟨0, acc, bits⟩ := by
  obtain ⟨f, _, h⟩ := h
  rw [h, decRF_done hn]
theorem getR_step {n : Nat} {bs : List Bool} {acc : List Nat} {cnt : Nat} {bits : List Bool} (h : GetAtR n bs acc cnt bits) (hn : acc.length < n) : ∃ f, n - acc.length ≤ f + 1 ∧ decR n bs = decRF (f + 1) n acc cnt bits := by
  obtain ⟨f, hf, h⟩ := h
  obtain ⟨g, rfl⟩ : ∃ g, f = g + 1 := ⟨f - 1, by omega⟩
  exact ⟨g, hf, h⟩
theorem getR_eof1 {n : Nat} {bs : List Bool} {acc : List Nat} {cnt : Nat} {bits : List Bool} (h : GetAtR n bs acc cnt bits) (hn : acc.length < n) (hs : bits.length < 64) : decR n bs = ⟨3, [], bits⟩ := by
  obtain ⟨f, _, h⟩ := getR_step h hn
  rw [h, decRF, if_neg (by omega)]
  simp only [field_short hs]
  rfl
theorem getR_eof2 {n : Nat} {bs : List Bool} {acc : List Nat} {cnt x : Nat} {bits b1 : List Bool} (h : GetAtR n bs acc cnt bits) (hn : acc.length < n) (h1 : field 64 bits = ⟨0, x, b1⟩) (hs : b1.length < 7) : decR n bs = ⟨3, [], b1⟩ := by
  obtain ⟨f, _, h⟩ := getR_step h hn
  rw [h, decRF, if_neg (by omega)]
  simp only [h1, field_short hs, ne_eq, not_true_eq_false, if_false]
  rfl
theorem getR_bad {n : Nat} {bs : List Bool} {acc : List Nat} {cnt x c : Nat} {bits b1 b2 : List Bool} (h : GetAtR n bs acc cnt bits) (hn : acc.length < n) (h1 : field 64 bits = ⟨0, x, b1⟩) (h2 : field 7 b1 = ⟨0, c, b2⟩) (hb : n < acc.length + c + 1 ∨ (acc.getLast? = some x ∧ cnt < 128)) : decR n bs = ⟨8, [], b2⟩ := by
  obtain ⟨f, _, h⟩ := getR_step h hn
  rw [h, decRF, if_neg (by omega)]
  simp only [h1, h2, ne_eq, not_true_eq_false, if_false]
  rw [if_pos hb]
theorem getR_next {n : Nat} {bs : List Bool} {acc : List Nat} {cnt x c : Nat} {bits b1 b2 : List Bool} (h : GetAtR n bs acc cnt bits) (hn : acc.length < n) (h1 : field 64 bits = ⟨0, x, b1⟩) (h2 : field 7 b1 = ⟨0, c, b2⟩) (hb : ¬ (n < acc.length + c + 1 ∨ (acc.getLast? = some x ∧ cnt < 128))) : GetAtR n bs (acc ++ List.replicate (c + 1) x) (c + 1) b2 := by
  obtain ⟨f, hf, h⟩ := getR_step h hn
  refine ⟨f, by rw [List.length_append, List.length_replicate]; omega, ?_⟩
  rw [h, decRF, if_neg (by omega)]
  simp only [h1, h2, ne_eq, not_true_eq_false, if_false]
  rw [if_neg hb]
end Go.Proofs.Ytnjdjmfjkjpelaa
