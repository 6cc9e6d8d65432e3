/- Layer 3: inverted bits; the checksum of a concatenation. No program in sight. -/
import Derived.Test.YtkgghlhmgolfbaaDoorCrc
namespace Go.Proofs.YtkgghlhmgolfbaaDoor

theorem bitsOf_get {b : List Nat} (j : Nat) (h : j < 8 * b.length) : (bitsOf b)[j]? = some ((b.getD (j / 8) 0).testBit (j % 8)) := by
  induction b generalizing j with
  | nil => simp at h
  | cons c b ih =>
    rw [bitsOf_cons]
    by_cases hj : j < 8
    · rw [List.getElem?_append_left (by rw [lsb_length]; exact hj), lsb_get _ _ _ hj, show j / 8 = 0 by omega, show j % 8 = j by omega]; rfl
    · rw [List.getElem?_append_right (by rw [lsb_length]; omega), lsb_length, ih (j - 8) (by simp at h; omega), show j / 8 = (j - 8) / 8 + 1 by omega, show (j - 8) % 8 = j % 8 by omega]
      simp
theorem bitsOf_none {b : List Nat} (j : Nat) (h : ¬ j < 8 * b.length) : (bitsOf b)[j]? = none := List.getElem?_eq_none (by rw [bitsOf_length]; omega)

def flipBit (b : List Nat) (k : Nat) : List Nat := b.set (k / 8) (b.getD (k / 8) 0 ^^^ 2 ^ (k % 8))
/-- The bits of a pattern inverted, the first n of them. -/
def flipTo (b : List Nat) (o p : Nat) : Nat → List Nat
  | 0 => b
  | n + 1 => if p / 2 ^ n % 2 = 1 ∧ o + n < 8 * b.length then flipBit (flipTo b o p n) (o + n) else flipTo b o p n
theorem flipBit_length (b : List Nat) (k : Nat) : (flipBit b k).length = b.length := by simp [flipBit]
theorem flipTo_length (b : List Nat) (o p n : Nat) : (flipTo b o p n).length = b.length := by
  induction n with
  | zero => rfl
  | succ n ih => rw [flipTo]; split <;> simp [flipBit_length, ih]
theorem flipBit_lt {b : List Nat} (h : ∀ c ∈ b, c < 256) (k : Nat) : ∀ c ∈ flipBit b k, c < 256 := by
  intro c hc
  rcases List.mem_or_eq_of_mem_set hc with h1 | h1
  · exact h c h1
  · rw [h1]
    refine Nat.xor_lt_two_pow (n := 8) ?_ (Nat.pow_lt_pow_right (by decide) (by omega))
    by_cases hk : k / 8 < b.length
    · rw [List.getD_eq_getElem?_getD, List.getElem?_eq_getElem hk, Option.getD_some]; exact h _ (List.getElem_mem hk)
    · rw [List.getD_eq_getElem?_getD, List.getElem?_eq_none (by omega)]; decide
theorem flipTo_lt {b : List Nat} (h : ∀ c ∈ b, c < 256) (o p n : Nat) : ∀ c ∈ flipTo b o p n, c < 256 := by
  induction n with
  | zero => exact h
  | succ n ih => rw [flipTo]; split
                 · exact flipBit_lt ih _
                 · exact ih
theorem flipBit_get (b : List Nat) (k j : Nat) (hj : j < 8 * b.length) :
    ((flipBit b k).getD (j / 8) 0).testBit (j % 8) = (((b.getD (j / 8) 0).testBit (j % 8)) ^^ decide (j = k)) := by
  unfold flipBit
  by_cases hq : j / 8 = k / 8
  · rw [← hq, List.getD_eq_getElem?_getD, List.getElem?_set_self (by omega), Option.getD_some, Nat.testBit_xor, Nat.testBit_two_pow]
    congr 1
    rw [decide_eq_decide]; omega
  · rw [List.getD_eq_getElem?_getD, List.getElem?_set_ne (fun e => hq e.symm), ← List.getD_eq_getElem?_getD, decide_eq_false (by omega), Bool.xor_false]
theorem flipTo_get (b : List Nat) (o p n j : Nat) (hj : j < 8 * b.length) :
    ((flipTo b o p n).getD (j / 8) 0).testBit (j % 8) = (((b.getD (j / 8) 0).testBit (j % 8)) ^^ (decide (o ≤ j ∧ j < o + n) && p.testBit (j - o))) := by
  induction n with
  | zero => rw [flipTo, decide_eq_false (by omega)]; simp
  | succ n ih =>
    rw [flipTo]
    have hbit : p.testBit n = decide (p / 2 ^ n % 2 = 1) := Nat.testBit_eq_decide_div_mod_eq
    by_cases hjn : j = o + n
    · subst hjn
      have hr : decide (o ≤ o + n ∧ o + n < o + (n + 1)) = true := decide_eq_true (by omega)
      have hr0 : decide (o ≤ o + n ∧ o + n < o + n) = false := decide_eq_false (by omega)
      rw [hr0] at ih
      rw [hr, Bool.true_and, Nat.add_sub_cancel_left, hbit]
      split
      · next h => rw [flipBit_get _ _ _ (by rw [flipTo_length]; exact hj), ih, decide_eq_true rfl, decide_eq_true h.1]; simp
      · next h => rw [ih, decide_eq_false (fun h1 => h ⟨h1, hj⟩)]; simp
    · have hr : decide (o ≤ j ∧ j < o + (n + 1)) = decide (o ≤ j ∧ j < o + n) := by rw [decide_eq_decide]; omega
      rw [hr, ← ih]
      split
      · rw [flipBit_get _ _ _ (by rw [flipTo_length]; exact hj), decide_eq_false hjn, Bool.xor_false]
      · rfl

theorem flip_bits (b : List Nat) (o p : Nat) (ho : o < 8 * b.length) : ∃ m z, m ≤ 32 ∧
    List.zipWith Bool.xor (bitsOf b) (bitsOf (flipTo b o p 32)) = List.replicate o false ++ lsb (p % 2 ^ m) m ++ List.replicate z false := by
  obtain ⟨m, hm⟩ : ∃ m, min 32 (8 * b.length - o) = m := ⟨_, rfl⟩
  refine ⟨m, 8 * b.length - o - m, by omega, ?_⟩
  rw [lsb_mod]
  apply List.ext_getElem?
  intro j
  have hlen : 8 * (flipTo b o p 32).length = 8 * b.length := by rw [flipTo_length]
  have hrep : (List.replicate o false ++ lsb p m).length = o + m := by simp [lsb_length]
  by_cases hj : j < 8 * b.length
  · rw [List.getElem?_zipWith, bitsOf_get j hj, bitsOf_get j (by rw [hlen]; exact hj), flipTo_get b o p 32 j hj]
    generalize (b.getD (j / 8) 0).testBit (j % 8) = x
    by_cases h1 : j < o
    · rw [List.getElem?_append_left (by rw [hrep]; omega), List.getElem?_append_left (by simp; exact h1), List.getElem?_replicate, if_pos h1, decide_eq_false (by omega)]
      cases x <;> rfl
    · by_cases h2 : j < o + m
      · rw [List.getElem?_append_left (by rw [hrep]; exact h2), List.getElem?_append_right (by simp; omega), List.length_replicate, lsb_get _ _ _ (by omega), decide_eq_true (by omega)]
        cases x <;> simp
      · rw [List.getElem?_append_right (by rw [hrep]; omega), hrep, List.getElem?_replicate, if_pos (by omega), decide_eq_false (by omega)]
        cases x <;> rfl
  · rw [List.getElem?_zipWith, bitsOf_none j hj, List.getElem?_append_right (by rw [hrep]; omega), hrep, List.getElem?_replicate, if_neg (by omega)]

/-- Inverted bits within 32 consecutive ones are found. -/
theorem flip_found {c : List Nat} (hc : ∀ x ∈ c, x < 256) (h4 : 4 ≤ c.length) (hok : isCrc c = true) (o p : Nat) (ho : o < 8 * c.length) : isCrc (flipTo c o p 32) = decide (c = flipTo c o p 32) := by
  obtain ⟨m, z, hm, hx⟩ := flip_bits c o p ho
  obtain ⟨h1, h2⟩ := burst hc (flipTo_lt hc o p 32) (flipTo_length c o p 32).symm h4 hok o (p % 2 ^ m) m z hm (Nat.mod_lt _ (Nat.two_pow_pos m)) hx
  rw [Bool.eq_iff_iff, decide_eq_true_eq, h1, h2]

theorem zip_self (l : List Bool) : List.zipWith Bool.xor l l = List.replicate l.length false := by
  induction l with
  | nil => rfl
  | cons a l ih => rw [List.zipWith_cons_cons, ih]; cases a <;> rfl
theorem zip_lsb (v u n : Nat) : List.zipWith Bool.xor (lsb v n) (lsb (v ^^^ u) n) = lsb u n := by
  induction n generalizing v u with
  | zero => rfl
  | succ n ih =>
    rw [lsb, lsb, lsb, List.zipWith_cons_cons, Nat.xor_div_two, ih, xor_mod2]
    congr 1
    rcases Nat.mod_two_eq_zero_or_one v with a | a <;> rcases Nat.mod_two_eq_zero_or_one u with b | b
    all_goals
      have : (v + u) % 2 = (v % 2 + u % 2) % 2 := by omega
      rw [this, a, b]; rfl
/-- A changed byte is found. -/
theorem byte_found {c : List Nat} (hc : ∀ x ∈ c, x < 256) (h4 : 4 ≤ c.length) (hok : isCrc c = true) (i y : Nat) (hi : i < c.length) (hy : y < 256) : isCrc (c.set i (c[i] ^^^ y)) = decide (y = 0) := by
  have hd : ∀ x ∈ c.set i (c[i] ^^^ y), x < 256 := fun x hx => by
    rcases List.mem_or_eq_of_mem_set hx with h1 | h1
    · exact hc x h1
    · rw [h1]; exact Nat.xor_lt_two_pow (n := 8) (hc _ (List.getElem_mem hi)) hy
  have e1 : c = c.take i ++ c[i] :: c.drop (i + 1) := by simp
  have e2 : c.set i (c[i] ^^^ y) = c.take i ++ (c[i] ^^^ y) :: c.drop (i + 1) := List.set_eq_take_append_cons_drop ▸ by simp [hi]
  have hx : List.zipWith Bool.xor (bitsOf c) (bitsOf (c.set i (c[i] ^^^ y))) = List.replicate (bitsOf (c.take i)).length false ++ lsb y 8 ++ List.replicate (bitsOf (c.drop (i + 1))).length false := by
    rw [e2]
    conv => lhs; arg 2; rw [e1]
    rw [bitsOf_append, bitsOf_append, bitsOf_cons, bitsOf_cons, List.zipWith_append rfl, zip_self, List.zipWith_append (by simp [lsb_length]), zip_self, zip_lsb, List.append_assoc]
  obtain ⟨h1, _⟩ := burst hc hd (by simp) h4 hok _ y 8 _ (by decide) hy hx
  rw [Bool.eq_iff_iff, decide_eq_true_eq, h1]

/-- The checksum of a concatenation. -/
theorem crc_concat {a b : List Nat} (ha : ∀ x ∈ a, x < 256) (hb : ∀ x ∈ b, x < 256) : crcOf (a ++ b) = crcOf b ^^^ shrN (8 * b.length) (crcOf a) := by
  have hab : ∀ x ∈ a ++ b, x < 256 := fun x hx => by
    rcases List.mem_append.1 hx with h | h
    · exact ha x h
    · exact hb x h
  have h1 : upd 4294967295 a = 4294967295 ^^^ crcOf a := by rw [crcOf_xor a ha, ← Nat.xor_assoc, Nat.xor_self, Nat.zero_xor]
  rw [crcOf_xor _ hab, upd_append, h1, upd_xor _ _ _ hb, crcOf_xor b hb, Nat.xor_assoc]
/-- The state after n bytes 0. -/
def zeros (n s : Nat) : Nat := shrN (8 * n) s
theorem zeros_add (n m s : Nat) : zeros (n + m) s = zeros m (zeros n s) := by rw [zeros, Nat.mul_add, shrN_add]; rfl
theorem zeros_lt {n s : Nat} (h : s < 4294967296) : zeros n s < 4294967296 := shrN_lt h
end Go.Proofs.YtkgghlhmgolfbaaDoor
