/- Layers 5 to 8: what is read from bits: fields, pure. No program in sight. -/
import Derived.Test.YtpphgmgdmdehpaaBitsB
namespace Go.Proofs.Ytpphgmgdmdehpaa

/-- What a read of bits gives: an error, a value, the bits that are left. -/
structure Res (α : Type) where
  e : Nat
  x : α
  r : List Bool

/-- n bits, as a number. -/
def field (n : Nat) (bs : List Bool) : Res Nat := if bs.length < n then ⟨3, 0, bs⟩ else ⟨0, numOf (bs.take n), bs.drop n⟩

theorem fieldBits_mod (x n : Nat) : fieldBits (x % 2 ^ n) n = fieldBits x n := by
  apply List.ext_getElem?
  intro i
  by_cases hi : i < n
  · rw [fieldBits_get _ _ _ hi, fieldBits_get _ _ _ hi, Nat.testBit_mod_two_pow]
    simp only [show n - 1 - i < n by omega, decide_true, Bool.true_and]
  · rw [List.getElem?_eq_none (by rw [fieldBits_length]; omega), List.getElem?_eq_none (by rw [fieldBits_length]; omega)]
theorem numOf_cons (b : Bool) (l : List Bool) : numOf (b :: l) = b.toNat * 2 ^ l.length + numOf l := by
  have h := numOf_append [b] l
  simpa [numOf] using h
theorem fieldBits_numOf (l : List Bool) : fieldBits (numOf l) l.length = l := by
  induction l with
  | nil => rfl
  | cons b l ih =>
    have hl := numOf_lt l
    rw [List.length_cons, fieldBits, numOf_cons]
    have e1 : (b.toNat * 2 ^ l.length + numOf l).testBit l.length = b := by
      have hd : (b.toNat * 2 ^ l.length + numOf l) / 2 ^ l.length = b.toNat := by
        rw [Nat.add_comm, Nat.add_mul_div_right _ _ (Nat.two_pow_pos _), Nat.div_eq_of_lt hl, Nat.zero_add]
      rw [Nat.testBit_eq_decide_div_mod_eq, hd]
      cases b <;> rfl
    have e2 : fieldBits (b.toNat * 2 ^ l.length + numOf l) l.length = fieldBits (numOf l) l.length := by
      rw [← fieldBits_mod, Nat.add_comm, Nat.add_mul_mod_self_right, fieldBits_mod]
    rw [e1, e2, ih]

theorem field_back (x n : Nat) (rest : List Bool) (hx : x < 2 ^ n) : field n (fieldBits x n ++ rest) = ⟨0, x, rest⟩ := by
  have hl := fieldBits_length x n
  have ht : (fieldBits x n ++ rest).take n = fieldBits x n := by rw [List.take_append_of_le_length (by omega), List.take_of_length_le (by omega)]
  have hd : (fieldBits x n ++ rest).drop n = rest := by rw [List.drop_append_of_le_length (by omega), List.drop_of_length_le (by omega), List.nil_append]
  rw [field, if_neg (by rw [List.length_append, hl]; omega), ht, hd, numOf_fieldBits, Nat.mod_eq_of_lt hx]
theorem field_inv {n : Nat} {bs : List Bool} (h : (field n bs).e = 0) : bs = fieldBits (field n bs).x n ++ (field n bs).r ∧ (field n bs).x < 2 ^ n := by
  rw [field] at h ⊢
  split
  · next hs => rw [if_pos hs] at h; cases h
  · next hs =>
    have hl : (bs.take n).length = n := by rw [List.length_take]; omega
    have h1 := fieldBits_numOf (bs.take n)
    have h2 := numOf_lt (bs.take n)
    rw [hl] at h1 h2
    exact ⟨by show bs = fieldBits (numOf (bs.take n)) n ++ bs.drop n; rw [h1, List.take_append_drop], h2⟩
theorem field_e (n : Nat) (bs : List Bool) : (field n bs).e = 0 ∨ (field n bs).e = 3 := by
  rw [field]; split
  · exact Or.inr rfl
  · exact Or.inl rfl
/-- r is an end of bs. -/
def Suf (r bs : List Bool) : Prop := ∃ a, bs = a ++ r
theorem Suf.refl (bs : List Bool) : Suf bs bs := ⟨[], rfl⟩
theorem Suf.trans {a b c : List Bool} (h : Suf a b) (k : Suf b c) : Suf a c := by
  obtain ⟨x, rfl⟩ := h; obtain ⟨y, rfl⟩ := k; exact ⟨y ++ x, by rw [List.append_assoc]⟩
theorem Suf.cons {a b : List Bool} (h : Suf a b) (x : Bool) : Suf a (x :: b) := by obtain ⟨y, rfl⟩ := h; exact ⟨x :: y, rfl⟩
theorem Suf.len {a b : List Bool} (h : Suf a b) : a.length ≤ b.length := by obtain ⟨y, rfl⟩ := h; simp
theorem Suf.drop {a b : List Bool} (h : Suf a b) : a = b.drop (b.length - a.length) := by
  obtain ⟨y, rfl⟩ := h
  rw [List.length_append, Nat.add_sub_cancel, List.drop_left]
theorem suf_field (n : Nat) (bs : List Bool) : Suf (field n bs).r bs := by
  rw [field]; split
  · exact Suf.refl _
  · exact ⟨bs.take n, (List.take_append_drop _ _).symm⟩

/-- The bytes of bits behind the first 64. -/
theorem byteOf_past (a b : List Bool) (m j : Nat) (ha : a.length = 8 * m) : byteOf (a ++ b) (m + j) = byteOf b j := by
  have h : ∀ i, (a ++ b).getD (8 * (m + j) + i) false = b.getD (8 * j + i) false := fun i => by
    rw [List.getD_eq_getElem?_getD, List.getD_eq_getElem?_getD, List.getElem?_append_right (by omega)]
    congr 2
    omega
  rw [byteOf_eq, byteOf_eq, h, h, h, h, h, h, h]
  have h0 := h 0
  rw [Nat.add_zero, Nat.add_zero] at h0
  rw [h0]
theorem pack_drop (a b : List Bool) (m : Nat) (ha : a.length = 8 * m) : (pack (a ++ b)).drop m = pack b := by
  apply List.ext_getElem?
  intro i
  rw [List.getElem?_drop]
  by_cases hi : i < (b.length + 7) / 8
  · rw [pack_get b i hi, pack_get (a ++ b) (m + i) (by rw [List.length_append]; omega), byteOf_past a b m i ha]
  · rw [List.getElem?_eq_none (by rw [pack_length, List.length_append]; omega), List.getElem?_eq_none (by rw [pack_length]; omega)]

/-- uint64(x) and int64(u). -/
def ofI (x : Int) : Nat := (x % 18446744073709551616).toNat
def toI (u : Nat) : Int := if u < 9223372036854775808 then (u : Int) else (u : Int) - 18446744073709551616
theorem ofI_lt (x : Int) : ofI x < 18446744073709551616 := by unfold ofI; omega
theorem toI_ofI {x : Int} (h : -9223372036854775808 ≤ x ∧ x < 9223372036854775808) : toI (ofI x) = x := by unfold toI ofI; omega
theorem ofI_toI {u : Nat} (h : u < 18446744073709551616) : ofI (toI u) = u := by unfold toI ofI; omega
theorem toI_in {u : Nat} (h : u < 18446744073709551616) : -9223372036854775808 ≤ toI u ∧ toI u < 9223372036854775808 := by unfold toI; omega
theorem wrap_ofI (x : Int) : IntKind.u64.wrap x = (ofI x : Int) := by rw [IntKind.wrap_u64]; unfold ofI; omega
theorem wrap_toI {u : Nat} (h : u < 18446744073709551616) : IntKind.i64.wrap (u : Int) = toI u := by rw [IntKind.wrap_i64]; unfold toI; omega
theorem field_short {n : Nat} {bs : List Bool} (h : bs.length < n) : field n bs = ⟨3, 0, bs⟩ := by rw [field, if_pos h]
theorem field_full {n : Nat} {bs : List Bool} (h : ¬ bs.length < n) : field n bs = ⟨0, numOf (bs.take n), bs.drop n⟩ := by rw [field, if_neg h]
theorem take_lt {n : Nat} {bs : List Bool} (h : ¬ bs.length < n) : numOf (bs.take n) < 2 ^ n := by
  have := numOf_lt (bs.take n)
  rwa [List.length_take, Nat.min_eq_left (by omega)] at this
def in64u (x : Nat) : Prop := x < 18446744073709551616
end Go.Proofs.Ytpphgmgdmdehpaa
