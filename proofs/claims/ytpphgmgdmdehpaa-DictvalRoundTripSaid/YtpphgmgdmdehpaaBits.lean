/- Plain facts on lists of bits and their bytes (no Go in sight). -/
import Derived.Laws.BitsLemmas
import Derived.Laws.Bits64
import Derived.Laws.Bits64b
namespace Go.Proofs.Ytpphgmgdmdehpaa

/-- Byte number j of a list of bits, the first bit being the highest; missing bits are 0. -/
def byteOf (l : List Bool) (j : Nat) : Nat := (List.range 8).foldl (fun c k => c * 2 + (l.getD (8 * j + k) false).toNat) 0
/-- The bytes of a list of bits. -/
def pack (l : List Bool) : List Nat := (List.range ((l.length + 7) / 8)).map (byteOf l)
/-- The lowest n bits of x, the highest first. -/
def fieldBits (x : Nat) : Nat → List Bool
  | 0 => []
  | n + 1 => x.testBit n :: fieldBits x n
/-- The number whose bits are given, the highest first. -/
def numOf (l : List Bool) : Nat := l.foldl (fun c b => c * 2 + b.toNat) 0
/-- The bits of bytes. -/
def unpack (bs : List Nat) : List Bool := bs.flatMap (fun b => fieldBits b 8)

theorem byteOf_eq (l : List Bool) (j : Nat) : byteOf l j = (l.getD (8 * j) false).toNat * 128 + (l.getD (8 * j + 1) false).toNat * 64 + (l.getD (8 * j + 2) false).toNat * 32 + (l.getD (8 * j + 3) false).toNat * 16
    + (l.getD (8 * j + 4) false).toNat * 8 + (l.getD (8 * j + 5) false).toNat * 4 + (l.getD (8 * j + 6) false).toNat * 2 + (l.getD (8 * j + 7) false).toNat := by
  simp only [byteOf, List.range, List.range.loop, List.foldl, Nat.add_zero]
  omega

theorem byteOf_lt (l : List Bool) (j : Nat) : byteOf l j < 256 := by
  have h : ∀ b : Bool, b.toNat ≤ 1 := fun b => by cases b <;> simp
  rw [byteOf_eq]
  have := h (l.getD (8 * j) false); have := h (l.getD (8 * j + 1) false); have := h (l.getD (8 * j + 2) false); have := h (l.getD (8 * j + 3) false)
  have := h (l.getD (8 * j + 4) false); have := h (l.getD (8 * j + 5) false); have := h (l.getD (8 * j + 6) false); have := h (l.getD (8 * j + 7) false)
  omega

theorem pack_length (l : List Bool) : (pack l).length = (l.length + 7) / 8 := by simp [pack]
theorem pack_nil : pack [] = [] := rfl
theorem pack_get (l : List Bool) (j : Nat) (h : j < (l.length + 7) / 8) : (pack l)[j]? = some (byteOf l j) := by simp [pack, h]
theorem pack_lt (l : List Bool) : ∀ x ∈ pack l, x < 256 := by
  intro x hx
  simp only [pack, List.mem_map] at hx
  obtain ⟨j, _, rfl⟩ := hx
  exact byteOf_lt l j

theorem getD_push (l : List Bool) (b : Bool) (i : Nat) : (l ++ [b]).getD i false = if i = l.length then b else l.getD i false := by
  rcases Nat.lt_trichotomy i l.length with h | h | h
  · rw [if_neg (by omega)]; simp [List.getD, List.getElem?_append_left h]
  · subst h; simp [List.getD]
  · rw [if_neg (by omega)]; simp [List.getD, List.getElem?_eq_none (show l.length ≤ i by omega), List.getElem?_append_right (show l.length ≤ i by omega), List.getElem?_eq_none (show [b].length ≤ i - l.length by simp; omega)]

theorem getD_past (l : List Bool) (i : Nat) (h : l.length ≤ i) : l.getD i false = false := by simp [List.getD, List.getElem?_eq_none h]

theorem byteOf_push_other (l : List Bool) (b : Bool) (j : Nat) (h : j ≠ l.length / 8) : byteOf (l ++ [b]) j = byteOf l j := by
  rw [byteOf_eq, byteOf_eq]
  rw [getD_push, getD_push, getD_push, getD_push, getD_push, getD_push, getD_push, getD_push]
  rw [if_neg (by omega), if_neg (by omega), if_neg (by omega), if_neg (by omega), if_neg (by omega), if_neg (by omega), if_neg (by omega), if_neg (by omega)]

theorem byteOf_push (l : List Bool) (b : Bool) : byteOf (l ++ [b]) (l.length / 8) = byteOf l (l.length / 8) + b.toNat * 2 ^ (7 - l.length % 8) ∧ byteOf l (l.length / 8) % 2 ^ (8 - l.length % 8) = 0 := by
  have hq : l.length = 8 * (l.length / 8) + l.length % 8 := by omega
  generalize hj : l.length / 8 = j at hq
  have hr : l.length % 8 < 8 := by omega
  generalize l.length % 8 = r at hq hr
  rw [byteOf_eq, byteOf_eq]
  rw [getD_push, getD_push, getD_push, getD_push, getD_push, getD_push, getD_push, getD_push]
  match r, hr with
  | 0, _ =>
    rw [getD_past l (8 * j) (by omega), getD_past l (8 * j + 1) (by omega), getD_past l (8 * j + 2) (by omega), getD_past l (8 * j + 3) (by omega), getD_past l (8 * j + 4) (by omega), getD_past l (8 * j + 5) (by omega), getD_past l (8 * j + 6) (by omega), getD_past l (8 * j + 7) (by omega)]
    simp [hq]
  | 1, _ =>
    rw [getD_past l (8 * j + 1) (by omega), getD_past l (8 * j + 2) (by omega), getD_past l (8 * j + 3) (by omega), getD_past l (8 * j + 4) (by omega), getD_past l (8 * j + 5) (by omega), getD_past l (8 * j + 6) (by omega), getD_past l (8 * j + 7) (by omega)]
    simp [hq]
  | 2, _ =>
    rw [getD_past l (8 * j + 2) (by omega), getD_past l (8 * j + 3) (by omega), getD_past l (8 * j + 4) (by omega), getD_past l (8 * j + 5) (by omega), getD_past l (8 * j + 6) (by omega), getD_past l (8 * j + 7) (by omega)]
    simp [hq]; omega
  | 3, _ =>
    rw [getD_past l (8 * j + 3) (by omega), getD_past l (8 * j + 4) (by omega), getD_past l (8 * j + 5) (by omega), getD_past l (8 * j + 6) (by omega), getD_past l (8 * j + 7) (by omega)]
    simp [hq]; omega
  | 4, _ =>
    rw [getD_past l (8 * j + 4) (by omega), getD_past l (8 * j + 5) (by omega), getD_past l (8 * j + 6) (by omega), getD_past l (8 * j + 7) (by omega)]
    simp [hq]; omega
  | 5, _ =>
    rw [getD_past l (8 * j + 5) (by omega), getD_past l (8 * j + 6) (by omega), getD_past l (8 * j + 7) (by omega)]
    simp [hq]; omega
  | 6, _ =>
    rw [getD_past l (8 * j + 6) (by omega), getD_past l (8 * j + 7) (by omega)]
    simp [hq]; omega
  | 7, _ =>
    rw [getD_past l (8 * j + 7) (by omega)]
    simp [hq]; omega

/-- A bit behind full bytes begins a new byte. -/
theorem pack_push_new (l : List Bool) (b : Bool) (h : l.length % 8 = 0) : pack (l ++ [b]) = pack l ++ [b.toNat * 128] := by
  have e : byteOf (l ++ [b]) (l.length / 8) = b.toNat * 128 := by
    obtain ⟨h1, _⟩ := byteOf_push l b
    have h0 : byteOf l (l.length / 8) = 0 := by
      rw [byteOf_eq, getD_past l _ (by omega), getD_past l _ (by omega), getD_past l _ (by omega), getD_past l _ (by omega), getD_past l _ (by omega), getD_past l _ (by omega), getD_past l _ (by omega), getD_past l _ (by omega)]; rfl
    rw [h1, h0, h]; simp
  simp only [pack, List.length_append, List.length_singleton]
  rw [show (l.length + 1 + 7) / 8 = (l.length + 7) / 8 + 1 from by omega, List.range_succ, List.map_append]
  congr 1
  · apply List.map_congr_left
    intro j hj
    rw [List.mem_range] at hj
    exact byteOf_push_other l b j (by omega)
  · simp only [List.map_cons, List.map_nil]
    rw [show (l.length + 7) / 8 = l.length / 8 from by omega, e]

/-- A bit behind others is added to the last byte. -/
theorem pack_push_old (l : List Bool) (b : Bool) (h : l.length % 8 ≠ 0) : pack (l ++ [b]) = (pack l).set (l.length / 8) (byteOf (l ++ [b]) (l.length / 8)) := by
  apply List.ext_getElem?
  intro i
  rw [List.getElem?_set]
  simp only [pack, List.length_append, List.length_singleton, List.length_map, List.length_range]
  rw [show (l.length + 1 + 7) / 8 = (l.length + 7) / 8 from by omega]
  by_cases hi : i < (l.length + 7) / 8
  · by_cases hq : l.length / 8 = i
    · subst hq; simp [hi]
    · simp [hi, hq, byteOf_push_other l b i (Ne.symm hq)]
  · rw [if_neg (by omega)]
    simp [hi]

/-- What the program stores into the last byte. -/
theorem or_bit (l : List Bool) (b : Bool) (c y : Int) (hc : c = (byteOf l (l.length / 8) : Int)) (hy : y = ((b.toNat * 2 ^ (7 - l.length % 8) : Nat) : Int)) :
    bits BinOp.or IntKind.u8 c y = ((byteOf (l ++ [b]) (l.length / 8) : Nat) : Int) := by
  obtain ⟨h1, h2⟩ := byteOf_push l b
  have hlt := byteOf_lt l (l.length / 8)
  have hlt' := byteOf_lt (l ++ [b]) (l.length / 8)
  have hb : b.toNat * 2 ^ (7 - l.length % 8) < 2 ^ (8 - l.length % 8) := by
    have e : 2 ^ (8 - l.length % 8) = 2 * 2 ^ (7 - l.length % 8) := by rw [show 8 - l.length % 8 = (7 - l.length % 8) + 1 from by omega, Nat.pow_succ]; omega
    have := Nat.two_pow_pos (7 - l.length % 8)
    cases b <;> simp <;> omega
  subst hc hy
  rw [h1] at hlt' ⊢
  rw [Int.natCast_add]
  exact bits_join .u8 8 (by decide) wraps_u8 (8 - l.length % 8) _ _ (Int.natCast_nonneg _) (by exact_mod_cast h2) (by simpa using (show (byteOf l (l.length / 8) : Int) < 256 by omega)) (Int.natCast_nonneg _) (by exact_mod_cast hb) (by simpa using (show ((b.toNat * 2 ^ (7 - l.length % 8) : Nat) : Int) < 256 by omega))

theorem fieldBits_length (x n : Nat) : (fieldBits x n).length = n := by induction n with
  | zero => rfl
  | succ n ih => simp [fieldBits, ih]
theorem fieldBits_get (x n i : Nat) (h : i < n) : (fieldBits x n)[i]? = some (x.testBit (n - 1 - i)) := by
  induction n generalizing i with
  | zero => omega
  | succ n ih =>
    cases i with
    | zero => simp [fieldBits]
    | succ i => simp only [fieldBits, List.getElem?_cons_succ]; rw [ih i (by omega)]; congr 2; omega
theorem fieldBits_take_succ (x n i : Nat) (h : i < n) : (fieldBits x n).take (i + 1) = (fieldBits x n).take i ++ [x.testBit (n - 1 - i)] := by
  rw [List.take_add_one, fieldBits_get x n i h]; rfl
theorem fieldBits_split (x n k : Nat) (h : k ≤ n) : fieldBits x n = fieldBits (x / 2 ^ k) (n - k) ++ fieldBits x k := by
  induction n with
  | zero => have : k = 0 := by omega
            subst this; rfl
  | succ n ih =>
    by_cases hk : k = n + 1
    · subst hk; simp [fieldBits]
    · rw [show n + 1 - k = (n - k) + 1 from by omega]
      simp only [fieldBits, List.cons_append]
      rw [ih (by omega)]
      congr 1
      rw [← Nat.shiftRight_eq_div_pow, Nat.testBit_shiftRight]
      congr 1; omega

theorem numOf_append (a b : List Bool) : numOf (a ++ b) = numOf a * 2 ^ b.length + numOf b := by
  have key : ∀ (b : List Bool) (c : Nat), b.foldl (fun c b => c * 2 + b.toNat) c = c * 2 ^ b.length + b.foldl (fun c b => c * 2 + b.toNat) 0 := by
    intro b
    induction b with
    | nil => intro c; simp
    | cons x b ih => intro c; simp only [List.foldl, List.length_cons]; rw [ih (c * 2 + x.toNat), ih (0 * 2 + x.toNat), Nat.pow_succ]; simp [Nat.add_mul]; rw [Nat.mul_assoc, Nat.mul_comm 2, Nat.add_assoc]
  simp only [numOf, List.foldl_append]
  exact key b _
theorem numOf_lt (l : List Bool) : numOf l < 2 ^ l.length := by
  have key : ∀ (n : Nat) (l : List Bool), l.length = n → numOf l < 2 ^ n := by
    intro n
    induction n with
    | zero => intro l h; rw [List.length_eq_zero_iff.1 h]; simp [numOf]
    | succ n ih =>
      intro l h
      have hne : l ≠ [] := by intro e; simp [e] at h
      rw [← List.dropLast_concat_getLast hne, numOf_append]
      have := ih l.dropLast (by simp [h])
      have hb : ∀ b : Bool, numOf [b] ≤ 1 := fun b => by cases b <;> simp [numOf]
      have := hb (l.getLast hne)
      simp only [List.length_singleton, Nat.pow_succ]
      omega
  exact key _ l rfl

/-- Bit number j of a list of bytes. -/
def bitAt (bs : List Nat) (j : Nat) : Bool := (bs.getD (j / 8) 0).testBit (7 - j % 8)
theorem unpack_length (bs : List Nat) : (unpack bs).length = 8 * bs.length := by
  induction bs with
  | nil => rfl
  | cons b bs ih => simp only [unpack, List.flatMap_cons, List.length_append, fieldBits_length, List.length_cons] at ih ⊢; omega
theorem unpack_cons (b : Nat) (bs : List Nat) : unpack (b :: bs) = fieldBits b 8 ++ unpack bs := rfl
theorem unpack_append (a b : List Nat) : unpack (a ++ b) = unpack a ++ unpack b := by simp [unpack, List.flatMap_append]
theorem unpack_get (bs : List Nat) (j : Nat) (h : j < 8 * bs.length) : (unpack bs)[j]? = some (bitAt bs j) := by
  induction bs generalizing j with
  | nil => simp at h
  | cons b bs ih =>
    rw [unpack_cons]
    by_cases hj : j < 8
    · rw [List.getElem?_append_left (by rw [fieldBits_length]; exact hj), fieldBits_get b 8 j hj]
      simp only [bitAt]
      rw [show j / 8 = 0 from by omega, show 8 - 1 - j = 7 - j % 8 from by omega]
      simp
    · rw [List.getElem?_append_right (by rw [fieldBits_length]; omega), fieldBits_length, ih (j - 8) (by simp at h; omega)]
      simp only [bitAt]
      rw [show j / 8 = (j - 8) / 8 + 1 from by omega, show j % 8 = (j - 8) % 8 from by omega]
      simp
/-- The n bits from bit number i on. -/
def seg (bs : List Nat) (i n : Nat) : List Bool := ((unpack bs).drop i).take n
theorem seg_length (bs : List Nat) (i n : Nat) (h : i + n ≤ 8 * bs.length) : (seg bs i n).length = n := by simp [seg, unpack_length]; omega
theorem seg_zero (bs : List Nat) (i : Nat) : seg bs i 0 = [] := by simp [seg]
theorem seg_succ (bs : List Nat) (i n : Nat) (h : i + n < 8 * bs.length) : seg bs i (n + 1) = seg bs i n ++ [bitAt bs (i + n)] := by
  simp only [seg]
  rw [List.take_add_one, List.getElem?_drop, unpack_get bs (i + n) h]; rfl
theorem numOf_push (l : List Bool) (b : Bool) : numOf (l ++ [b]) = numOf l * 2 + b.toNat := by simp [numOf]

theorem testBit_toNat (x k : Nat) : (x.testBit k).toNat = x / 2 ^ k % 2 := by
  rw [Nat.testBit_eq_decide_div_mod_eq]
  by_cases h : x / 2 ^ k % 2 = 1
  · simp [h]
  · have : x / 2 ^ k % 2 = 0 := by omega
    simp [this]

/-- The bit of a byte, as the program computes it. -/
theorem bit_of_byte (x k : Nat) (hx : x < 256) : bits BinOp.and IntKind.u8 ((x : Int) / 2 ^ k) 1 = ((x.testBit k).toNat : Int) := by
  have e : (x : Int) / 2 ^ k = ((x / 2 ^ k : Nat) : Int) := by simp
  have hle : x / 2 ^ k ≤ x := Nat.div_le_self _ _
  rw [e]
  have h8 : ((x / 2 ^ k : Nat) : Int) < 2 ^ 8 := by omega
  have := bits_mask .u8 8 (by decide) wraps_u8 1 (by decide) ((x / 2 ^ k : Nat) : Int) (Int.natCast_nonneg _) h8
  simp only [Int.reduceSub, Int.pow_one] at this
  rw [this, testBit_toNat]
  omega

theorem wraps_u64 (n : Int) (h₀ : 0 ≤ n) (h₁ : n < 2 ^ 64) : IntKind.u64.wrap n = n := by rw [IntKind.wrap_u64]; omega
/-- One more bit behind a number. -/
theorem u64_or_bit (x b : Nat) (hb : b ≤ 1) (hx : x * 2 + b < 18446744073709551616) : bits BinOp.or IntKind.u64 ((x : Int) * 2) (b : Int) = ((x * 2 + b : Nat) : Int) := by
  have := bits_join .u64 64 (by decide) wraps_u64 1 ((x : Int) * 2) (b : Int) (by omega) (by omega) (by omega) (by omega) (by omega) (by omega)
  rw [this]; omega

end Go.Proofs.Ytpphgmgdmdehpaa
