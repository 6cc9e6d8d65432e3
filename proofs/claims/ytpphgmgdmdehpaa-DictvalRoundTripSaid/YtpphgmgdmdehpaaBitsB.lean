/- Plain facts: packed bits are read back. -/
import Derived.Test.YtpphgmgdmdehpaaBits
namespace Go.Proofs.Ytpphgmgdmdehpaa

theorem byteOf_bit (l : List Bool) (j r : Nat) (hr : r < 8) : (byteOf l j).testBit (7 - r) = l.getD (8 * j + r) false := by
  have key : ((byteOf l j).testBit (7 - r)).toNat = (l.getD (8 * j + r) false).toNat := by
    rw [testBit_toNat, byteOf_eq]
    have h : ∀ i, (l.getD i false).toNat ≤ 1 := fun i => by cases l.getD i false <;> simp
    have := h (8 * j); have := h (8 * j + 1); have := h (8 * j + 2); have := h (8 * j + 3); have := h (8 * j + 4); have := h (8 * j + 5); have := h (8 * j + 6); have := h (8 * j + 7)
    match r, hr with
    | 0, _ => simp only [Nat.add_zero, Nat.sub_zero]; omega
    | 1, _ => simp only [Nat.reduceSub]; omega
    | 2, _ => simp only [Nat.reduceSub]; omega
    | 3, _ => simp only [Nat.reduceSub]; omega
    | 4, _ => simp only [Nat.reduceSub]; omega
    | 5, _ => simp only [Nat.reduceSub]; omega
    | 6, _ => simp only [Nat.reduceSub]; omega
    | 7, _ => simp only [Nat.reduceSub]; omega
  revert key
  cases (byteOf l j).testBit (7 - r) <;> cases l.getD (8 * j + r) false <;> simp

theorem bitAt_pack (l : List Bool) (i : Nat) (h : i < 8 * ((l.length + 7) / 8)) : bitAt (pack l) i = l.getD i false := by
  simp only [bitAt]
  rw [List.getD, pack_get l (i / 8) (by omega)]
  simp only [Option.getD_some]
  rw [byteOf_bit l (i / 8) (i % 8) (Nat.mod_lt _ (by omega))]
  congr 1; omega

theorem unpack_pack (l : List Bool) : unpack (pack l) = l ++ List.replicate (8 * ((l.length + 7) / 8) - l.length) false := by
  apply List.ext_getElem?
  intro i
  by_cases hi : i < 8 * ((l.length + 7) / 8)
  · rw [unpack_get _ _ (by rw [pack_length]; exact hi), bitAt_pack l i hi]
    by_cases hl : i < l.length
    · rw [List.getElem?_append_left hl, List.getElem?_eq_getElem hl]; simp [List.getD, hl]
    · rw [List.getElem?_append_right (by omega), List.getElem?_replicate, if_pos (by omega), getD_past l i (by omega)]
  · rw [List.getElem?_eq_none (by rw [unpack_length, pack_length]; omega), List.getElem?_eq_none (by simp; omega)]

theorem seg_pack (a b c : List Bool) : seg (pack (a ++ b ++ c)) a.length b.length = b := by
  simp only [seg, unpack_pack]
  rw [List.append_assoc, List.append_assoc, List.drop_left, List.take_left]

theorem numOf_fieldBits (x n : Nat) : numOf (fieldBits x n) = x % 2 ^ n := by
  induction n with
  | zero => simp [fieldBits, numOf, Nat.mod_one]
  | succ n ih =>
    rw [show fieldBits x (n + 1) = [x.testBit n] ++ fieldBits x n from rfl, numOf_append, ih, fieldBits_length, Nat.mod_pow_succ, ← testBit_toNat]
    simp only [numOf, List.foldl, Nat.zero_mul, Nat.zero_add]
    rw [Nat.mul_comm, Nat.add_comm]

theorem fieldBits_inj_len (x n : Nat) : (fieldBits x n).length = n := fieldBits_length x n

/-- 'x & (1<<n - 1)', as the program computes it. -/
theorem mask_u64 (x n : Nat) (hx : x < 18446744073709551616) (hn : n < 64) : bits BinOp.and IntKind.u64 (x : Int) (2 ^ n - 1) = ((x % 2 ^ n : Nat) : Int) := by
  have := bits_mask .u64 64 (by decide) wraps_u64 n (by omega) (x : Int) (Int.natCast_nonneg _) (by omega)
  rw [this]; simp
theorem mask_u64' (x n : Nat) (hx : x < 18446744073709551616) (hn : n < 64) : bits BinOp.and IntKind.u64 (x : Int) (IntKind.u64.wrap (IntKind.u64.wrap (2 ^ n) - 1)) = ((x % 2 ^ n : Nat) : Int) := by
  have h1 : (2 : Int) ^ n ≤ 2 ^ 63 := by
    have : 2 ^ n ≤ 2 ^ 63 := Nat.pow_le_pow_right (by omega) (by omega)
    exact_mod_cast this
  have h2 : (0 : Int) < 2 ^ n := by
    have : 0 < 2 ^ n := Nat.two_pow_pos n
    exact_mod_cast this
  have e1 : IntKind.u64.wrap (2 ^ n) = 2 ^ n := wraps_u64 _ (by omega) (by omega)
  have e2 : IntKind.u64.wrap (2 ^ n - 1) = 2 ^ n - 1 := wraps_u64 _ (by omega) (by omega)
  rw [e1, e2, mask_u64 x n hx hn]

theorem endOf_pack_aux (l : List Bool) : ((unpack (pack l)).drop l.length).all (fun b => !b) = true := by
  rw [unpack_pack, List.drop_left, List.all_eq_true]
  intro b hb
  rw [List.eq_of_mem_replicate hb]; rfl
end Go.Proofs.Ytpphgmgdmdehpaa
