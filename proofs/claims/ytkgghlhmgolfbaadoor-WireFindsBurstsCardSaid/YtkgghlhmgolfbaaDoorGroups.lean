/- Layer 2: numbers and their groups of seven digits, as lists of numbers. No program in sight. -/
import Derived.Laws.BitsLemmas
import Derived.Laws.Bits64
import Derived.Laws.Bits64b
namespace Go.Proofs.YtkgghlhmgolfbaaDoor

/-- The bytes of the groups of x. -/
def groups (x : Nat) : List Nat := if x < 128 then [x] else (x % 128 + 128) :: groups (x / 128)
termination_by x
decreasing_by omega

theorem groups_small {x : Nat} (h : x < 128) : groups x = [x] := by rw [groups, if_pos h]
theorem groups_big {x : Nat} (h : ¬ x < 128) : groups x = (x % 128 + 128) :: groups (x / 128) := by rw [groups, if_neg h]

theorem groups_ne (x : Nat) : groups x ≠ [] := by
  by_cases h : x < 128
  · rw [groups_small h]; simp
  · rw [groups_big h]; simp
theorem groups_pos (x : Nat) : 0 < (groups x).length := List.length_pos_iff.2 (groups_ne x)
theorem groups_len (k x : Nat) (h : x < 128 ^ (k + 1)) : (groups x).length ≤ k + 1 := by
  induction k generalizing x with
  | zero => rw [groups_small (by simpa using h)]; simp
  | succ k ih =>
    by_cases hx : x < 128
    · rw [groups_small hx]; simp
    · rw [groups_big hx]
      have := ih (x / 128) (by rw [Nat.div_lt_iff_lt_mul (by decide)]; rwa [Nat.pow_succ] at h)
      simp; omega
theorem groups_ten {x : Nat} (h : x < 18446744073709551616) : (groups x).length ≤ 10 := groups_len 9 x (Nat.lt_of_lt_of_le h (by decide))
theorem groups_lt (x : Nat) : ∀ c ∈ groups x, c < 256 := by
  induction x using Nat.strongRecOn with
  | _ x ih =>
    by_cases h : x < 128
    · rw [groups_small h]; intro c hc; simp at hc; omega
    · rw [groups_big h]
      intro c hc
      rcases List.mem_cons.1 hc with rfl | hc
      · omega
      · exact ih (x / 128) (by omega) c hc

/-- What is read from the bytes on, number i of them being next, x read so far: the number, how many bytes, the error. -/
def readFrom : List Nat → Nat → Nat → Nat × Nat × Nat
  | [], _, _ => (0, 0, 3)
  | c :: cs, i, x =>
    if i = 9 ∧ 1 < c then (0, 0, 6)
    else if 128 ≤ c then readFrom cs (i + 1) (x + c % 128 * 2 ^ (7 * i))
    else if c = 0 ∧ 0 < i then (0, 0, 5)
    else (x + c * 2 ^ (7 * i), i + 1, 0)

/-- What is read at an offset: the number, the offset after it, the error. -/
def readAt (b : List Nat) (o : Int) : Nat × Int × Nat :=
  if o < 0 ∨ (b.length : Int) < o then (0, 0, 2)
  else ((readFrom (b.drop o.toNat) 0 0).1, (if (readFrom (b.drop o.toNat) 0 0).2.2 = 0 then o + (readFrom (b.drop o.toNat) 0 0).2.1 else 0), (readFrom (b.drop o.toNat) 0 0).2.2)

theorem readFrom_err {l : List Nat} {i x : Nat} (h : (readFrom l i x).2.2 ≠ 0) : (readFrom l i x).1 = 0 ∧ (readFrom l i x).2.1 = 0 := by
  induction l generalizing i x with
  | nil => simp [readFrom]
  | cons c cs ih =>
    rw [readFrom] at h ⊢
    split
    · exact ⟨rfl, rfl⟩
    · next h1 =>
      rw [if_neg h1] at h
      split
      · next h2 => rw [if_pos h2] at h; exact ih h
      · next h2 =>
        rw [if_neg h2] at h
        split
        · exact ⟨rfl, rfl⟩
        · next h3 => rw [if_neg h3] at h; simp at h

/-- The groups of y are read back, whatever follows. -/
theorem readFrom_groups (y i x : Nat) (rest : List Nat) (hi : i ≤ 9) (hy : y < 2 ^ (64 - 7 * i)) (hp : 0 < i → 0 < y) : readFrom (groups y ++ rest) i x = (x + y * 2 ^ (7 * i), i + (groups y).length, 0) := by
  induction y using Nat.strongRecOn generalizing i x with
  | _ y ih =>
    have h9 : i = 9 → y < 2 := fun e => by subst e; simpa using hy
    by_cases h : y < 128
    · rw [groups_small h]
      show readFrom (y :: rest) i x = _
      rw [readFrom, if_neg (by rintro ⟨e, h1⟩; have := h9 e; omega), if_neg (by omega), if_neg (by rintro ⟨e, h1⟩; have := hp h1; omega)]
      simp
    · rw [groups_big h]
      show readFrom ((y % 128 + 128) :: (groups (y / 128) ++ rest)) i x = _
      have hne : i ≠ 9 := fun e => by have := h9 e; omega
      rw [readFrom, if_neg (by rintro ⟨e, _⟩; exact hne e), if_pos (by omega)]
      have hpow : 2 ^ (64 - 7 * i) = 2 ^ (64 - 7 * (i + 1)) * 128 := by
        rw [show 64 - 7 * i = (64 - 7 * (i + 1)) + 7 from by omega, Nat.pow_add]
      rw [ih (y / 128) (by omega) (i + 1) _ (by omega) (by rw [Nat.div_lt_iff_lt_mul (by decide), ← hpow]; exact hy) (fun _ => by omega)]
      have hm : 2 ^ (7 * (i + 1)) = 128 * 2 ^ (7 * i) := by rw [show 7 * (i + 1) = 7 + 7 * i from by omega, Nat.pow_add]
      have e1 : (y % 128 + 128) % 128 = y % 128 := by omega
      rw [e1, hm]
      have e2 : y / 128 * (128 * 2 ^ (7 * i)) = (y / 128 * 128) * 2 ^ (7 * i) := by rw [Nat.mul_assoc]
      rw [e2, Nat.add_assoc x, ← Nat.add_mul, show y % 128 + y / 128 * 128 = y from by omega]
      simp only [List.length_cons]
      rw [show i + 1 + (groups (y / 128)).length = i + ((groups (y / 128)).length + 1) from by omega]

/-- What is read without an error is the groups of a number. -/
theorem readFrom_ok {l : List Nat} {i x : Nat} (hl : ∀ c ∈ l, c < 256) (hi : i ≤ 9) (h : (readFrom l i x).2.2 = 0) :
    ∃ y, l.take ((readFrom l i x).2.1 - i) = groups y ∧ (readFrom l i x).1 = x + y * 2 ^ (7 * i) ∧ (0 < i → 0 < y) ∧ y < 2 ^ (64 - 7 * i) ∧ i < (readFrom l i x).2.1 ∧ (readFrom l i x).2.1 - i ≤ l.length := by
  induction l generalizing i x with
  | nil => simp [readFrom] at h
  | cons c cs ih =>
    have hc : c < 256 := hl c (by simp)
    rw [readFrom] at h ⊢
    by_cases h1 : i = 9 ∧ 1 < c
    · rw [if_pos h1] at h; simp at h
    · rw [if_neg h1] at h ⊢
      by_cases h2 : 128 ≤ c
      · rw [if_pos h2] at h ⊢
        have hne : i ≠ 9 := fun e => h1 ⟨e, by omega⟩
        obtain ⟨y, hy, hx, hp, hlt, hgt, hle⟩ := ih (fun c h => hl c (by simp [h])) (by omega) h
        have hy0 := hp (by omega)
        have hpow : 2 ^ (64 - 7 * i) = 2 ^ (64 - 7 * (i + 1)) * 128 := by
          rw [show 64 - 7 * i = (64 - 7 * (i + 1)) + 7 from by omega, Nat.pow_add]
        have hm : 2 ^ (7 * (i + 1)) = 128 * 2 ^ (7 * i) := by rw [show 7 * (i + 1) = 7 + 7 * i from by omega, Nat.pow_add]
        refine ⟨c % 128 + y * 128, ?_, ?_, fun _ => by omega, by rw [hpow]; omega, by omega, by simp; omega⟩
        · rw [groups_big (by omega), show (c % 128 + y * 128) % 128 + 128 = c from by omega, show (c % 128 + y * 128) / 128 = y from by omega, ← hy]
          generalize (readFrom cs (i + 1) (x + c % 128 * 2 ^ (7 * i))).2.1 = m at *
          rw [show m - i = (m - (i + 1)) + 1 from by omega, List.take_succ_cons]
        · rw [hx, hm, Nat.add_mul, Nat.add_assoc, Nat.mul_assoc]
      · rw [if_neg h2] at h ⊢
        by_cases h3 : c = 0 ∧ 0 < i
        · rw [if_pos h3] at h; simp at h
        · rw [if_neg h3]
          refine ⟨c, ?_, rfl, fun hi0 => by by_cases e : c = 0
                                            · exact absurd ⟨e, hi0⟩ h3
                                            · omega, ?_, by simp, by simp⟩
          · rw [groups_small (by omega)]
            simp
          · by_cases e : i = 9
            · subst e
              have : ¬ 1 < c := fun h => h1 ⟨rfl, h⟩
              simp; omega
            · have : 2 ^ 8 ≤ 2 ^ (64 - 7 * i) := Nat.pow_le_pow_right (by omega) (by omega)
              omega

/-- The number that is read fits. -/
theorem readFrom_lt {l : List Nat} (hl : ∀ c ∈ l, c < 256) : (readFrom l 0 0).1 < 18446744073709551616 := by
  by_cases h : (readFrom l 0 0).2.2 = 0
  · obtain ⟨y, _, hx, _, hlt, _⟩ := readFrom_ok hl (by omega) h
    rw [hx]; simpa using hlt
  · rw [(readFrom_err h).1]; omega

/-- A proper part of the groups of a number, from the first on, ends early. -/
theorem readFrom_prefix (y i x k : Nat) (hi : i ≤ 9) (hy : y < 2 ^ (64 - 7 * i)) (hk : k < (groups y).length) : readFrom ((groups y).take k) i x = (0, 0, 3) := by
  induction y using Nat.strongRecOn generalizing i x k with
  | _ y ih =>
    cases k with
    | zero => rfl
    | succ k =>
      by_cases h : y < 128
      · rw [groups_small h] at hk; simp at hk
      · have h9 : i ≠ 9 := fun e => by subst e; have : y < 2 := by simpa using hy
                                       omega
        rw [groups_big h] at hk ⊢
        simp only [List.length_cons] at hk
        rw [List.take_succ_cons, readFrom, if_neg (by rintro ⟨e, _⟩; exact h9 e), if_pos (by omega)]
        have hpow : 2 ^ (64 - 7 * i) = 2 ^ (64 - 7 * (i + 1)) * 128 := by
          rw [show 64 - 7 * i = (64 - 7 * (i + 1)) + 7 from by omega, Nat.pow_add]
        exact ih (y / 128) (by omega) (i + 1) _ k (by omega) (by rw [Nat.div_lt_iff_lt_mul (by decide), ← hpow]; exact hy) (by omega)

/-- The number that stands for a signed number. -/
def fold (x : Int) : Nat := if x < 0 then (-2 * x - 1).toNat else (2 * x).toNat
def unfold (x : Nat) : Int := if x % 2 = 1 then -((x / 2 : Nat) : Int) - 1 else ((x / 2 : Nat) : Int)
theorem unfold_fold (x : Int) : unfold (fold x) = x := by
  unfold unfold fold
  split <;> split <;> omega
theorem fold_lt {x : Int} (h : -9223372036854775808 ≤ x ∧ x < 9223372036854775808) : fold x < 18446744073709551616 := by
  unfold fold
  split <;> omega

theorem readAt_in {l : List Nat} {o : Nat} (ho : o ≤ l.length) {a n e : Nat} (h : readFrom (l.drop o) 0 0 = (a, n, e)) : readAt l (o : Int) = (a, (if e = 0 then (o : Int) + n else 0), e) := by
  rw [readAt, if_neg (by omega), Int.toNat_natCast, h]
theorem readAt_groups (before after : List Nat) {y : Nat} (hy : y < 18446744073709551616) : readAt (before ++ groups y ++ after) (before.length : Int) = (y, ((before.length + (groups y).length : Nat) : Int), 0) := by
  have h : readFrom ((before ++ groups y ++ after).drop before.length) 0 0 = (y, (groups y).length, 0) := by
    rw [List.append_assoc, List.drop_left, readFrom_groups y 0 0 after (by omega) (by simpa using hy) (by omega)]
    simp
  rw [readAt_in (by simp) h]
  simp
theorem pow_seven {k : Nat} (hk : k ≤ 8) : 2 ^ (7 * k) ≤ 72057594037927936 := Nat.le_trans (Nat.pow_le_pow_right (by decide) (show 7 * k ≤ 56 by omega)) (by decide)
theorem next_small {y u k : Nat} (hy : y < 2 ^ (7 * k)) : y + u % 128 * 2 ^ (7 * k) < 2 ^ (7 * (k + 1)) := by
  have hm : 2 ^ (7 * (k + 1)) = 128 * 2 ^ (7 * k) := by rw [show 7 * (k + 1) = 7 + 7 * k from by omega, Nat.pow_add]
  have : u % 128 * 2 ^ (7 * k) ≤ 127 * 2 ^ (7 * k) := Nat.mul_le_mul_right _ (by omega)
  rw [hm]; omega
theorem shift_small {u k : Nat} (hk : k ≤ 8) : u % 128 * 2 ^ (7 * k) < 18446744073709551616 := by
  have h1 := pow_seven hk
  have : u % 128 * 2 ^ (7 * k) ≤ 127 * 72057594037927936 := Nat.mul_le_mul (by omega) h1
  omega

/-! ### The operations of a word of 64 bits -/
theorem wrap_u64_nat (n : Nat) (h : n < 18446744073709551616) : IntKind.u64.wrap (n : Int) = (n : Int) := by rw [IntKind.wrap_u64]; omega
/-- The next group is put above the bits read so far. -/
theorem or_shift (y u k : Nat) (hy : y < 2 ^ (7 * k)) (hk : 7 * k ≤ 63) (ht : u % 128 * 2 ^ (7 * k) < 18446744073709551616) :
    bits BinOp.or IntKind.u64 (y : Int) (IntKind.u64.wrap ((u : Int) % 128 * 2 ^ (7 * k))) = ((y + u % 128 * 2 ^ (7 * k) : Nat) : Int) := by
  have e : (u : Int) % 128 * 2 ^ (7 * k) = ((u % 128 * 2 ^ (7 * k) : Nat) : Int) := by simp
  have hy2 : y < 18446744073709551616 := Nat.lt_of_lt_of_le hy (Nat.le_trans (Nat.pow_le_pow_right (by decide) hk) (by decide))
  rw [e, wrap_u64_nat _ ht, bits_or_u64_nat _ _ hy2 ht, Nat.or_comm, ← Nat.shiftLeft_eq, ← Nat.shiftLeft_add_eq_or_of_lt hy, Nat.add_comm]
theorem add_group (y u U : Nat) (hy : y < U) (hU : U ≤ 72057594037927936) : IntKind.u64.wrap ((y : Int) + IntKind.u64.wrap ((u : Int) % 128 * (U : Int))) = ((y + u % 128 * U : Nat) : Int) ∧ y + u % 128 * U < U * 128 := by
  have h1 : u % 128 * U ≤ 127 * U := Nat.mul_le_mul_right _ (by omega)
  have e : (u : Int) % 128 * (U : Int) = ((u % 128 * U : Nat) : Int) := by simp
  have e2 : (y : Int) + ((u % 128 * U : Nat) : Int) = ((y + u % 128 * U : Nat) : Int) := by omega
  rw [e, wrap_u64_nat _ (by omega), e2, wrap_u64_nat _ (by omega)]
  exact ⟨rfl, by omega⟩
theorem or_top (y : Nat) (hy : y < 2 ^ (7 * 9)) : bits BinOp.or IntKind.u64 (y : Int) 9223372036854775808 = ((y + 2 ^ (7 * 9) : Nat) : Int) := by
  have hy2 : y < 18446744073709551616 := Nat.lt_of_lt_of_le hy (by decide)
  have e : (9223372036854775808 : Int) = ((1 <<< (7 * 9) : Nat) : Int) := by decide
  rw [e, bits_or_u64_nat _ _ hy2 (by decide), Nat.or_comm, ← Nat.shiftLeft_add_eq_or_of_lt hy, Nat.add_comm, Nat.shiftLeft_eq, Nat.one_mul]
theorem xor_max (b : Nat) (hb : b < 18446744073709551616) : 18446744073709551615 ^^^ b = 18446744073709551615 - b := by
  apply Nat.eq_of_testBit_eq
  intro i
  have h1 := Nat.testBit_two_pow_sub_succ (n := 64) (x := b) hb i
  have h2 := Nat.testBit_two_pow_sub_one 64 i
  rw [show (2 : Nat) ^ 64 - 1 = 18446744073709551615 from rfl] at h2
  rw [show (2 : Nat) ^ 64 - (b + 1) = 18446744073709551615 - b from by omega] at h1
  rw [Nat.testBit_xor, h1, h2]
  by_cases hi : i < 64
  · simp [hi]
  · have : b.testBit i = false := Nat.testBit_lt_two_pow (Nat.lt_of_lt_of_le hb (Nat.pow_le_pow_right (n := 2) (i := 64) (by decide) (by omega)))
    simp [hi, this]
/-- The complement of twice a negative number, as a word. -/
theorem not_double (x : Int) (h : -9223372036854775808 ≤ x) (hn : x < 0) : bits BinOp.xor IntKind.u64 IntKind.u64.max (IntKind.u64.wrap (IntKind.u64.wrap x * 2)) = (fold x : Int) := by
  have e : IntKind.u64.wrap (IntKind.u64.wrap x * 2) = ((18446744073709551616 + 2 * x).toNat : Int) := by rw [IntKind.wrap_u64, IntKind.wrap_u64]; omega
  have em : IntKind.u64.max = ((18446744073709551615 : Nat) : Int) := rfl
  rw [e, em, bits_xor_u64_nat _ _ (by decide) (by omega), xor_max _ (by omega)]
  unfold fold
  rw [if_pos hn]
  omega
end Go.Proofs.YtkgghlhmgolfbaaDoor
