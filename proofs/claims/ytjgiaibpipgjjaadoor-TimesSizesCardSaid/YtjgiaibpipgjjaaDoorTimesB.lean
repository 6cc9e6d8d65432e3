/- Layer 5: the reading of times, step by step. No program in sight. -/
import Derived.Test.YtjgiaibpipgjjaaDoorTimes
namespace Go.Proofs.YtjgiaibpipgjjaaDoor
open Go.RowKit

/-- What has been read, ahead of what is still to be read. -/
def ext (acc : List Int) (s : Res (List Int)) : Res (List Int) := if s.e ≠ 0 then ⟨s.e, [], s.r⟩ else ⟨0, acc ++ s.x, s.r⟩
def GetAt (n : Nat) (bs : List Bool) (j : Nat) (acc : List Int) (d : Int) (bits : List Bool) : Prop :=
  (j = 0 ∧ acc = [] ∧ d = 0 ∧ bits = bs) ∨ ∃ k last, j = k + 1 ∧ acc.length = j ∧ acc[k]? = some last ∧ decT n bs = ext acc (decFrom (n - j) last d bits)

theorem getAt_first_eof {n : Nat} {bs : List Bool} (hn : 0 < n) (h : bs.length < 64) : decT n bs = ⟨3, [], bs⟩ := by
  obtain ⟨m, rfl⟩ : ∃ m, n = m + 1 := ⟨n - 1, by omega⟩
  have hf : field 64 bs = ⟨3, 0, bs⟩ := by rw [field, if_pos h]
  rw [decT, hf]; rfl
theorem getAt_first {n : Nat} {bs : List Bool} (hn : 0 < n) (h : ¬ bs.length < 64) : GetAt n bs 1 [toI (numOf (bs.take 64))] 0 (bs.drop 64) := by
  obtain ⟨m, rfl⟩ : ∃ m, n = m + 1 := ⟨n - 1, by omega⟩
  have hf : field 64 bs = ⟨0, numOf (bs.take 64), bs.drop 64⟩ := by rw [field, if_neg h]
  refine Or.inr ⟨0, _, rfl, rfl, rfl, ?_⟩
  rw [decT, hf]
  simp only [ne_eq, not_true_eq_false, if_false]
  rfl
theorem getAt_bad {n j : Nat} {bs bits : List Bool} {acc : List Int} {d last : Int} (hj : j < n) (h : decT n bs = ext acc (decFrom (n - j) last d bits)) {e : Nat} {r : List Bool} (he : e ≠ 0) (hx : decX bits = ⟨e, 0, r⟩) : decT n bs = ⟨e, [], r⟩ := by
  obtain ⟨m, hm⟩ : ∃ m, n - j = m + 1 := ⟨n - j - 1, by omega⟩
  rw [h, hm, decFrom, hx]
  simp only [ne_eq, he, not_false_eq_true, if_true, ext]
theorem getAt_next {n j : Nat} {bs bits : List Bool} {acc : List Int} {d last : Int} (hj : j < n) (hl : acc.length = j) (h : decT n bs = ext acc (decFrom (n - j) last d bits)) {x : Int} {r : List Bool} (hx : decX bits = ⟨0, x, r⟩) :
    GetAt n bs (j + 1) (acc ++ [wrap64 (last + wrap64 (d + x))]) (wrap64 (d + x)) r := by
  obtain ⟨m, hm⟩ : ∃ m, n - j = m + 1 := ⟨n - j - 1, by omega⟩
  have hm' : n - (j + 1) = m := by omega
  refine Or.inr ⟨j, wrap64 (last + wrap64 (d + x)), rfl, by simp [hl], by rw [List.getElem?_append_right (by omega), hl]; simp, ?_⟩
  rw [h, hm, hm', decFrom, hx]
  generalize wrap64 (last + wrap64 (d + x)) = t
  generalize wrap64 (d + x) = d'
  simp only [ne_eq, not_true_eq_false, if_false, ext]
  by_cases he : (decFrom m t d' r).e = 0
  · simp only [he, not_true_eq_false, if_false, List.append_assoc, List.cons_append, List.nil_append]
  · simp only [he, not_false_eq_true, if_true]
theorem getAt_done {n : Nat} {bs bits : List Bool} {acc : List Int} {d : Int} (h : GetAt n bs n acc d bits) : decT n bs = ⟨0, acc, bits⟩ := by
  rcases h with ⟨rfl, rfl, _, rfl⟩ | ⟨k, last, _, _, _, h⟩
  · rfl
  · rw [h, Nat.sub_self, decFrom]
    simp [ext]
theorem decX_of {b r : List Bool} {K : Nat} (h : ones 4 b = ⟨0, K, r⟩) : decX b = if (field (widthT K) r).e ≠ 0 then ⟨(field (widthT K) r).e, 0, (field (widthT K) r).r⟩ else
    if formT (signT (field (widthT K) r).x (widthT K)) ≠ K then ⟨8, 0, (field (widthT K) r).r⟩ else ⟨0, signT (field (widthT K) r).x (widthT K), (field (widthT K) r).r⟩ := by
  simp only [decX, h, ne_eq, not_true_eq_false, if_false]
theorem decX_bad {b r : List Bool} {e K : Nat} (he : e ≠ 0) (h : ones 4 b = ⟨e, K, r⟩) : decX b = ⟨e, 0, r⟩ := by
  simp only [decX, h, ne_eq, he, not_false_eq_true, if_true]
theorem decX_eof {b r : List Bool} {K : Nat} (h : ones 4 b = ⟨0, K, r⟩) (hl : r.length < widthT K) : decX b = ⟨3, 0, r⟩ := by
  rw [decX_of h, field, if_pos hl]; rfl
theorem decX_wrong {b r : List Bool} {K : Nat} (h : ones 4 b = ⟨0, K, r⟩) (hl : ¬ r.length < widthT K) (hf : formT (signT (numOf (r.take (widthT K))) (widthT K)) ≠ K) : decX b = ⟨8, 0, r.drop (widthT K)⟩ := by
  rw [decX_of h, field, if_neg hl]
  simp only [ne_eq, not_true_eq_false, if_false]
  rw [if_pos hf]
theorem decX_right {b r : List Bool} {K : Nat} (h : ones 4 b = ⟨0, K, r⟩) (hl : ¬ r.length < widthT K) (hf : formT (signT (numOf (r.take (widthT K))) (widthT K)) = K) : decX b = ⟨0, signT (numOf (r.take (widthT K))) (widthT K), r.drop (widthT K)⟩ := by
  rw [decX_of h, field, if_neg hl]
  simp only [ne_eq, not_true_eq_false, if_false]
  rw [if_neg (fun h => h hf)]
/-- A zero of no bits. -/
theorem decX_zero {b r : List Bool} (h : ones 4 b = ⟨0, 0, r⟩) : decX b = ⟨0, 0, r⟩ := by
  have h1 := decX_right h (Nat.not_lt_zero _) (show formT (signT (numOf []) 0) = 0 by decide)
  exact h1

/-- Ones read so far. -/
def OnesAt (b : List Bool) (k : Nat) (c : List Bool) : Prop := ones 4 b = ⟨(ones (4 - k) c).e, k + (ones (4 - k) c).x, (ones (4 - k) c).r⟩
theorem onesAt_zero (b : List Bool) : OnesAt b 0 b := by show ones 4 b = ⟨_, 0 + _, _⟩; rw [Nat.zero_add]
theorem onesAt_eof {b : List Bool} {k : Nat} (hk : k < 4) (h : OnesAt b k []) : decX b = ⟨3, 0, []⟩ := by
  obtain ⟨m, hm⟩ : ∃ m, 4 - k = m + 1 := ⟨3 - k, by omega⟩
  rw [OnesAt, hm] at h
  exact decX_bad (by decide) h
theorem onesAt_stop {b c : List Bool} {k : Nat} (hk : k < 4) (h : OnesAt b k (false :: c)) : ones 4 b = ⟨0, k, c⟩ := by
  obtain ⟨m, hm⟩ : ∃ m, 4 - k = m + 1 := ⟨3 - k, by omega⟩
  rw [OnesAt, hm] at h
  exact h
theorem onesAt_next {b c : List Bool} {k : Nat} (hk : k < 4) (h : OnesAt b k (true :: c)) : OnesAt b (k + 1) c := by
  obtain ⟨m, hm⟩ : ∃ m, 4 - k = m + 1 := ⟨3 - k, by omega⟩
  rw [OnesAt, hm] at h
  rw [OnesAt, h, show 4 - (k + 1) = m by omega, ones]
  simp only [Res.mk.injEq, true_and, and_true]
  omega
theorem onesAt_four {b c : List Bool} (h : OnesAt b 4 c) : ones 4 b = ⟨0, 4, c⟩ := h
end Go.Proofs.YtjgiaibpipgjjaaDoor
