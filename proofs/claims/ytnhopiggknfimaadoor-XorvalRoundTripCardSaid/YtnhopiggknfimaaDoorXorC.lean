/- Layer 6: the reading of values, step by step. No program in sight. -/
import Derived.Test.YtnhopiggknfimaaDoorXorB
namespace Go.Proofs.YtnhopiggknfimaaDoor

/-- What has been read, ahead of what is still to be read. -/
def extV (acc : List Nat) (s : Res (List Nat)) : Res (List Nat) := if s.e ≠ 0 then ⟨s.e, [], s.r⟩ else ⟨0, acc ++ s.x, s.r⟩
def GetAtV (n : Nat) (bs : List Bool) (j : Nat) (acc : List Nat) (win : Option (Nat × Nat)) (bits : List Bool) : Prop :=
  (j = 0 ∧ acc = [] ∧ win = none ∧ bits = bs) ∨ ∃ k last, j = k + 1 ∧ acc.length = j ∧ acc[k]? = some last ∧ last < 18446744073709551616 ∧ okW win ∧ decV n bs = extV acc (decFromV (n - j) win last bits)

theorem getV_first_eof {n : Nat} {bs : List Bool} (hn : 0 < n) (h : bs.length < 64) : decV n bs = ⟨3, [], bs⟩ := by
  obtain ⟨m, rfl⟩ : ∃ m, n = m + 1 := ⟨n - 1, by omega⟩
  rw [decV, field_short h]; rfl
theorem getV_first {n : Nat} {bs : List Bool} (hn : 0 < n) (h : ¬ bs.length < 64) : GetAtV n bs 1 [numOf (bs.take 64)] none (bs.drop 64) := by
  obtain ⟨m, rfl⟩ : ∃ m, n = m + 1 := ⟨n - 1, by omega⟩
  refine Or.inr ⟨0, _, rfl, rfl, rfl, by simpa using take_lt h, (fun _ _ e => by cases e), ?_⟩
  rw [decV, field_full h]
  simp only [ne_eq, not_true_eq_false, if_false]
  rfl
theorem getV_bad {n j : Nat} {bs bits : List Bool} {acc : List Nat} {win : Option (Nat × Nat)} {last : Nat} (hj : j < n) (h : decV n bs = extV acc (decFromV (n - j) win last bits)) {e : Nat} {x : Nat × Option (Nat × Nat)} {r : List Bool} (he : e ≠ 0) (hx : decW win bits = ⟨e, x, r⟩) : decV n bs = ⟨e, [], r⟩ := by
  obtain ⟨m, hm⟩ : ∃ m, n - j = m + 1 := ⟨n - j - 1, by omega⟩
  rw [h, hm, decFromV, hx]
  simp only [ne_eq, he, not_false_eq_true, if_true, extV]
theorem getV_next {n j : Nat} {bs bits : List Bool} {acc : List Nat} {win win' : Option (Nat × Nat)} {last : Nat} (hj : j < n) (hl : acc.length = j) (hla : last < 18446744073709551616) (ho : okW win) (h : decV n bs = extV acc (decFromV (n - j) win last bits)) {x : Nat} {r : List Bool} (hx : decW win bits = ⟨0, (x, win'), r⟩) :
    GetAtV n bs (j + 1) (acc ++ [last ^^^ x]) win' r := by
  obtain ⟨m, hm⟩ : ∃ m, n - j = m + 1 := ⟨n - j - 1, by omega⟩
  have hm' : n - (j + 1) = m := by omega
  obtain ⟨i1, i2, _⟩ := decW_inv ho (bs := bits) (by rw [hx])
  rw [hx] at i1 i2
  refine Or.inr ⟨j, last ^^^ x, rfl, by simp [hl], by rw [List.getElem?_append_right (by omega), hl]; simp, xor_lt64 hla i1, ?_, ?_⟩
  · have i3 : win' = nextW win x := i2
    rw [i3]; exact okW_next ho i1
  · rw [h, hm, hm', decFromV, hx]
    generalize last ^^^ x = t
    simp only [ne_eq, not_true_eq_false, if_false, extV]
    by_cases he : (decFromV m win' t r).e = 0
    · simp only [he, not_true_eq_false, if_false, List.append_assoc, List.cons_append, List.nil_append]
    · simp only [he, not_false_eq_true, if_true]
theorem getV_done {n : Nat} {bs bits : List Bool} {acc : List Nat} {win : Option (Nat × Nat)} (h : GetAtV n bs n acc win bits) : decV n bs = ⟨0, acc, bits⟩ := by
  rcases h with ⟨rfl, rfl, _, rfl⟩ | ⟨k, last, _, _, _, _, _, h⟩
  · rfl
  · rw [h, Nat.sub_self, decFromV]
    simp [extV]

theorem decW_same (win : Option (Nat × Nat)) (c : List Bool) : decW win (false :: c) = ⟨0, (0, win), c⟩ := by simp only [decW]
theorem decW_none (c : List Bool) : decW none (true :: false :: c) = ⟨8, (0, none), c⟩ := by simp only [decW]
theorem decW_nil (win : Option (Nat × Nat)) : decW win [] = ⟨3, (0, none), []⟩ := by simp only [decW]
theorem decW_half (win : Option (Nat × Nat)) : decW win [true] = ⟨3, (0, none), []⟩ := by simp only [decW]
theorem decOld_short {L t : Nat} {c : List Bool} (h : c.length < 64 - L - t) : decW (some (L, t)) (true :: false :: c) = ⟨3, (0, none), c⟩ := by
  rw [decW_old, decOld, field_short h]; rfl
theorem decOld_zero {L t : Nat} {c : List Bool} (h : ¬ c.length < 64 - L - t) (hx : numOf (c.take (64 - L - t)) * 2 ^ t = 0) : decW (some (L, t)) (true :: false :: c) = ⟨8, (0, none), c.drop (64 - L - t)⟩ := by
  rw [decW_old, decOld, field_full h]
  simp only [ne_eq, not_true_eq_false, if_false, hx, if_true]
theorem decOld_right {L t : Nat} {c : List Bool} (h : ¬ c.length < 64 - L - t) (hx : numOf (c.take (64 - L - t)) * 2 ^ t ≠ 0) : decW (some (L, t)) (true :: false :: c) = ⟨0, (numOf (c.take (64 - L - t)) * 2 ^ t, some (L, t)), c.drop (64 - L - t)⟩ := by
  rw [decW_old, decOld, field_full h]
  simp only [ne_eq, not_true_eq_false, if_false, hx]
theorem decNew_short1 {win : Option (Nat × Nat)} {c : List Bool} (h : c.length < 6) : decW win (true :: true :: c) = ⟨3, (0, none), c⟩ := by
  rw [decW_new, decNew, field_short h]; rfl
theorem decNew_short2 {win : Option (Nat × Nat)} {c c1 : List Bool} {a : Nat} (h1 : field 6 c = ⟨0, a, c1⟩) (h : c1.length < 6) : decW win (true :: true :: c) = ⟨3, (0, none), c1⟩ := by
  rw [decW_new, decNew, h1]
  simp only [field_short h, ne_eq, not_true_eq_false, if_false]
  rfl
theorem decNew_wide {win : Option (Nat × Nat)} {c c1 c2 : List Bool} {a y : Nat} (h1 : field 6 c = ⟨0, a, c1⟩) (h2 : field 6 c1 = ⟨0, y, c2⟩) (h : 63 < a + y) : decW win (true :: true :: c) = ⟨8, (0, none), c2⟩ := by
  rw [decW_new, decNew, h1]
  simp only [h2, ne_eq, not_true_eq_false, if_false, h, if_true]
theorem decNew_short3 {win : Option (Nat × Nat)} {c c1 c2 : List Bool} {a y : Nat} (h1 : field 6 c = ⟨0, a, c1⟩) (h2 : field 6 c1 = ⟨0, y, c2⟩) (h : ¬ 63 < a + y) (h3 : c2.length < 64 - a - (63 - a - y)) : decW win (true :: true :: c) = ⟨3, (0, none), c2⟩ := by
  rw [decW_new, decNew, h1]
  simp only [h2, ne_eq, not_true_eq_false, if_false, h, field_short h3]
  rfl
theorem decNew_zero {win : Option (Nat × Nat)} {c c1 c2 c3 : List Bool} {a y u : Nat} (h1 : field 6 c = ⟨0, a, c1⟩) (h2 : field 6 c1 = ⟨0, y, c2⟩) (h : ¬ 63 < a + y) (h3 : field (64 - a - (63 - a - y)) c2 = ⟨0, u, c3⟩) (hx : u * 2 ^ (63 - a - y) = 0) : decW win (true :: true :: c) = ⟨8, (0, none), c3⟩ := by
  rw [decW_new, decNew, h1]
  simp only [h2, ne_eq, not_true_eq_false, if_false, h, h3, hx, if_true]
theorem decNew_wrong {win : Option (Nat × Nat)} {c c1 c2 c3 : List Bool} {a y u : Nat} (h1 : field 6 c = ⟨0, a, c1⟩) (h2 : field 6 c1 = ⟨0, y, c2⟩) (h : ¬ 63 < a + y) (h3 : field (64 - a - (63 - a - y)) c2 = ⟨0, u, c3⟩) (hx : u * 2 ^ (63 - a - y) ≠ 0)
    (hw : leadV (u * 2 ^ (63 - a - y)) ≠ a ∨ trailV (u * 2 ^ (63 - a - y)) ≠ 63 - a - y ∨ fits win (u * 2 ^ (63 - a - y)) = true) : decW win (true :: true :: c) = ⟨8, (0, none), c3⟩ := by
  rw [decW_new, decNew, h1]
  simp only [h2, ne_eq, not_true_eq_false, if_false, h, h3, hx]
  rw [if_pos hw]
theorem decNew_right {win : Option (Nat × Nat)} {c c1 c2 c3 : List Bool} {a y u : Nat} (h1 : field 6 c = ⟨0, a, c1⟩) (h2 : field 6 c1 = ⟨0, y, c2⟩) (h : ¬ 63 < a + y) (h3 : field (64 - a - (63 - a - y)) c2 = ⟨0, u, c3⟩) (hx : u * 2 ^ (63 - a - y) ≠ 0)
    (hw : ¬ (leadV (u * 2 ^ (63 - a - y)) ≠ a ∨ trailV (u * 2 ^ (63 - a - y)) ≠ 63 - a - y ∨ fits win (u * 2 ^ (63 - a - y)) = true)) : decW win (true :: true :: c) = ⟨0, (u * 2 ^ (63 - a - y), some (a, 63 - a - y)), c3⟩ := by
  rw [decW_new, decNew, h1]
  simp only [h2, ne_eq, not_true_eq_false, if_false, h, h3, hx]
  rw [if_neg hw]
end Go.Proofs.YtnhopiggknfimaaDoor
