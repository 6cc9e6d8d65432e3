/- Layer 3: four bits at a time; linear changes of states as tables of 32 images. No program in sight. -/
import Derived.Test.YtkgghlhmgolfbaaDoorCrcB
namespace Go.Proofs.YtkgghlhmgolfbaaDoor

/-! ### Four bits at a time -/
def fours : List Nat := [0, 498536548, 997073096, 651767980, 1994146192, 1802195444, 1303535960, 1342533948, 3988292384, 4027552580, 3604390888, 3412177804, 2607071920, 2262029012, 2685067896, 3183342108]
theorem fours_eq : ∀ i, i < 16 → fours.getD i 0 = shrN 4 i := by decide
theorem shrN_four (y : Nat) : shrN 4 (16 * y) = y := by
  rw [show 16 * y = 2 * (2 * (2 * (2 * y))) by omega]
  simp only [shrN, shr1_even]
theorem shr4 (s : Nat) : shrN 4 s = s / 16 ^^^ shrN 4 (s % 16) := by
  have e : s = 16 * (s / 16) ^^^ s % 16 := by
    apply Nat.eq_of_testBit_eq
    intro i
    have h1 : 16 * (s / 16) = 2 ^ 4 * (s / 16) := rfl
    have h2 : s % 16 = s % 2 ^ 4 := rfl
    rw [Nat.testBit_xor, h1, h2, Nat.testBit_two_pow_mul, Nat.testBit_mod_two_pow, show (16 : Nat) = 2 ^ 4 from rfl, Nat.testBit_div_two_pow]
    by_cases hi : i < 4
    · simp [hi, show ¬ 4 ≤ i by omega]
    · simp [hi, show 4 ≤ i by omega]
  conv => lhs; rw [e]
  rw [shrN_xor, shrN_four]
theorem step8_fours (s c : Nat) : step8 s c = shrN 4 (shrN 4 (s ^^^ c)) := by rw [step8, ← shrN_add]

/-! ### Tables -/
theorem mod_step (s i : Nat) : s % 2 ^ (i + 1) = if s / 2 ^ i % 2 = 1 then s % 2 ^ i ^^^ 2 ^ i else s % 2 ^ i := by
  apply Nat.eq_of_testBit_eq
  intro j
  have hb : s.testBit i = decide (s / 2 ^ i % 2 = 1) := Nat.testBit_eq_decide_div_mod_eq
  by_cases h : s / 2 ^ i % 2 = 1
  · rw [if_pos h, Nat.testBit_xor, Nat.testBit_mod_two_pow, Nat.testBit_mod_two_pow, Nat.testBit_two_pow]
    rw [decide_eq_true h] at hb
    by_cases hj : j = i
    · subst hj; simp [hb]
    · by_cases hl : j < i
      · simp [hl, show j < i + 1 by omega, Ne.symm hj]
      · simp [hl, show ¬ j < i + 1 by omega, Ne.symm hj]
  · rw [if_neg h, Nat.testBit_mod_two_pow, Nat.testBit_mod_two_pow]
    rw [decide_eq_false h] at hb
    by_cases hj : j = i
    · subst hj; simp [hb]
    · by_cases hl : j < i
      · simp [hl, show j < i + 1 by omega]
      · simp [hl, show ¬ j < i + 1 by omega]
theorem zeros_xor (k a b : Nat) : zeros k (a ^^^ b) = zeros k a ^^^ zeros k b := shrN_xor _ _ _
theorem zeros_none (s : Nat) : zeros 0 s = s := rfl
theorem zeros_of_none (k : Nat) : zeros k 0 = 0 := shrN_zero _
theorem zeros_step (k s i : Nat) : zeros k (s % 2 ^ (i + 1)) = if s / 2 ^ i % 2 = 1 then zeros k (s % 2 ^ i) ^^^ zeros k (2 ^ i) else zeros k (s % 2 ^ i) := by
  rw [mod_step]
  split
  · rw [zeros_xor]
  · rfl
/-- The images of the 32 states with one bit. -/
def images (k : Nat) : List Nat := (List.range 32).map fun i => zeros k (2 ^ i)
theorem images_length (k : Nat) : (images k).length = 32 := by simp [images]
theorem images_get (k i : Nat) (h : i < 32) : (images k)[i]? = some (zeros k (2 ^ i)) := by simp [images, h]
theorem two_pow_lt32 {i : Nat} (h : i < 32) : 2 ^ i < 4294967296 := Nat.pow_lt_pow_right (a := 2) (n := 32) (by decide) h
theorem image_lt (k i : Nat) (h : i < 32) : zeros k (2 ^ i) < 4294967296 := zeros_lt (two_pow_lt32 h)
theorem zeros_twice (k s : Nat) : zeros k (zeros k s) = zeros (2 * k) s := by rw [← zeros_add, Nat.two_mul]
theorem zeros_one (s : Nat) : zeros 1 s = upd s [0] := by
  rw [upd_cons, upd_nil, step8, Nat.xor_zero]; rfl
theorem crc_zeros {a b : List Nat} (ha : ∀ x ∈ a, x < 256) (hb : ∀ x ∈ b, x < 256) : crcOf b ^^^ zeros b.length (crcOf a) = crcOf (a ++ b) := (crc_concat ha hb).symm
/-- The first j images; the others still 0. -/
def partly (m j : Nat) : List Nat := (images m).take j ++ List.replicate (32 - j) 0
theorem partly_none (m : Nat) : partly m 0 = List.replicate 32 0 := by simp [partly]
theorem partly_all (m : Nat) : partly m 32 = images m := by simp [partly, List.take_of_length_le (Nat.le_of_eq (images_length m))]
theorem partly_length (m j : Nat) (h : j ≤ 32) : (partly m j).length = 32 := by simp [partly, images_length]; omega
theorem partly_set (m j : Nat) (h : j < 32) : (partly m j).set j (zeros m (2 ^ j)) = partly m (j + 1) := by
  have hl : ((images m).take j).length = j := by rw [List.length_take, images_length]; omega
  unfold partly
  rw [List.set_append_right _ _ (by omega), hl, Nat.sub_self, show 32 - j = (32 - (j + 1)) + 1 by omega, List.replicate_succ, List.set_cons_zero, List.take_add_one, images_get m j h]
  simp
/-- One digit of a number of steps. -/
theorem zeros_half (k r s : Nat) : zeros (k * r) s = zeros (2 * k * (r / 2)) (if r % 2 = 1 then zeros k s else s) := by
  have e : 2 * k * (r / 2) = k * (2 * (r / 2)) := by rw [Nat.mul_comm 2 k, Nat.mul_assoc]
  rw [e]
  by_cases h : r % 2 = 1
  · rw [if_pos h, ← zeros_add]
    congr 1
    conv => lhs; rw [show r = 2 * (r / 2) + 1 by omega, Nat.mul_add, Nat.mul_one]
    omega
  · rw [if_neg h]
    congr 2
    omega
end Go.Proofs.YtkgghlhmgolfbaaDoor
