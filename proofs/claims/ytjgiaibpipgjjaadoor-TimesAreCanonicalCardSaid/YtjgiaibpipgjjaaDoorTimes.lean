/- Layer 5: the encoding of times, and its reading, as functions on lists. No program in sight. -/
import Derived.Test.YtjgiaibpipgjjaaDoorCode
import Derived.RowKit
namespace Go.Proofs.YtjgiaibpipgjjaaDoor
open Go.RowKit

/- int64 arithmetic: 'wrap64', as the walk spells it. -/
theorem w64_eq (x : Int) : wrap64 x = (x + 9223372036854775808) % 18446744073709551616 - 9223372036854775808 := rfl
theorem w64_in (x : Int) : -9223372036854775808 ≤ wrap64 x ∧ wrap64 x < 9223372036854775808 := by rw [w64_eq]; omega
def in64 (x : Int) : Prop := -9223372036854775808 ≤ x ∧ x < 9223372036854775808

def formT (x : Int) : Nat := if x = 0 then 0 else if -64 ≤ x ∧ x ≤ 63 then 1 else if -2048 ≤ x ∧ x ≤ 2047 then 2 else if -2147483648 ≤ x ∧ x ≤ 2147483647 then 3 else 4
def widthT : Nat → Nat
  | 0 => 0
  | 1 => 7
  | 2 => 12
  | 3 => 32
  | _ => 64
def headT : Nat → List Bool
  | 0 => [false]
  | 1 => [true, false]
  | 2 => [true, true, false]
  | 3 => [true, true, true, false]
  | _ => [true, true, true, true]
theorem formT_le (x : Int) : formT x ≤ 4 := by unfold formT; split <;> (try split) <;> (try split) <;> (try split) <;> omega
theorem widthT_le (k : Nat) : widthT k ≤ 64 := by unfold widthT; split <;> omega

/-- The signed number of w bits. -/
def signT (u w : Nat) : Int := if 2 ^ (w - 1) ≤ u then (u : Int) - 2 ^ w else (u : Int)

/-- A difference of differences. -/
def encX (x : Int) : List Bool := headT (formT x) ++ fieldBits (ofI x) (widthT (formT x))
def encFrom (last d : Int) : List Int → List Bool
  | [] => []
  | t :: l => encX (wrap64 (wrap64 (t - last) - d)) ++ encFrom t (wrap64 (t - last)) l
def encT : List Int → List Bool
  | [] => []
  | t :: l => fieldBits (ofI t) 64 ++ encFrom t 0 l

/-- Ones, up to m of them, and the zero behind fewer. -/
def ones : Nat → List Bool → Res Nat
  | 0, bs => ⟨0, 0, bs⟩
  | _ + 1, [] => ⟨3, 0, []⟩
  | _ + 1, false :: bs => ⟨0, 0, bs⟩
  | m + 1, true :: bs => ⟨(ones m bs).e, (ones m bs).x + 1, (ones m bs).r⟩
def decX (bs : List Bool) : Res Int :=
  let k := ones 4 bs
  if k.e ≠ 0 then ⟨k.e, 0, k.r⟩ else
  let u := field (widthT k.x) k.r
  if u.e ≠ 0 then ⟨u.e, 0, u.r⟩ else
  if formT (signT u.x (widthT k.x)) ≠ k.x then ⟨8, 0, u.r⟩ else ⟨0, signT u.x (widthT k.x), u.r⟩
def decFrom : Nat → Int → Int → List Bool → Res (List Int)
  | 0, _, _, bs => ⟨0, [], bs⟩
  | n + 1, last, d, bs =>
    if (decX bs).e ≠ 0 then ⟨(decX bs).e, [], (decX bs).r⟩ else
    let s := decFrom n (wrap64 (last + wrap64 (d + (decX bs).x))) (wrap64 (d + (decX bs).x)) (decX bs).r
    if s.e ≠ 0 then ⟨s.e, [], s.r⟩ else ⟨0, wrap64 (last + wrap64 (d + (decX bs).x)) :: s.x, s.r⟩
def decT : Nat → List Bool → Res (List Int)
  | 0, bs => ⟨0, [], bs⟩
  | n + 1, bs =>
    if (field 64 bs).e ≠ 0 then ⟨(field 64 bs).e, [], (field 64 bs).r⟩ else
    let s := decFrom n (toI (field 64 bs).x) 0 (field 64 bs).r
    if s.e ≠ 0 then ⟨s.e, [], s.r⟩ else ⟨0, toI (field 64 bs).x :: s.x, s.r⟩

theorem ones_back (k : Nat) (hk : k ≤ 4) (rest : List Bool) : ones 4 (headT k ++ rest) = ⟨0, k, rest⟩ := by
  match k, hk with
  | 0, _ => rfl
  | 1, _ => rfl
  | 2, _ => rfl
  | 3, _ => rfl
  | 4, _ => rfl
theorem ones_inv {bs : List Bool} (h : (ones 4 bs).e = 0) : bs = headT (ones 4 bs).x ++ (ones 4 bs).r ∧ (ones 4 bs).x ≤ 4 := by
  match bs, h with
  | [], h => cases h
  | false :: bs, _ => exact ⟨rfl, Nat.le_of_ble_eq_true rfl⟩
  | [true], h => cases h
  | true :: false :: bs, _ => exact ⟨rfl, Nat.le_of_ble_eq_true rfl⟩
  | [true, true], h => cases h
  | true :: true :: false :: bs, _ => exact ⟨rfl, Nat.le_of_ble_eq_true rfl⟩
  | [true, true, true], h => cases h
  | true :: true :: true :: false :: bs, _ => exact ⟨rfl, Nat.le_of_ble_eq_true rfl⟩
  | true :: true :: true :: true :: bs, _ => exact ⟨rfl, Nat.le_of_ble_eq_true rfl⟩
theorem ones_len (m : Nat) (bs : List Bool) : (ones m bs).r.length ≤ bs.length := by
  induction m generalizing bs with
  | zero => exact Nat.le_refl _
  | succ m ih =>
    match bs with
    | [] => exact Nat.le_refl _
    | false :: bs => exact Nat.le_succ _
    | true :: bs => exact Nat.le_trans (ih bs) (Nat.le_succ _)

theorem sign_back {x : Int} (hx : in64 x) : signT (ofI x % 2 ^ widthT (formT x)) (widthT (formT x)) = x := by
  unfold in64 at hx
  unfold formT
  split
  · next h => subst h; rfl
  · split
    · next h => simp only [widthT, signT, ofI]; omega
    · split
      · next h => simp only [widthT, signT, ofI]; omega
      · split
        · next h => simp only [widthT, signT, ofI]; omega
        · simp only [widthT, signT, ofI]; omega
theorem sign_of {u k : Nat} (hk : k ≤ 4) (hu : u < 2 ^ widthT k) (hf : formT (signT u (widthT k)) = k) : in64 (signT u (widthT k)) ∧ ofI (signT u (widthT k)) % 2 ^ widthT k = u := by
  match k, hk with
  | 0, _ => simp only [widthT, signT, ofI, in64] at *; omega
  | 1, _ => simp only [widthT, signT, ofI, in64] at *; omega
  | 2, _ => simp only [widthT, signT, ofI, in64] at *; omega
  | 3, _ => simp only [widthT, signT, ofI, in64] at *; omega
  | 4, _ => simp only [widthT, signT, ofI, in64] at *; omega

theorem encX_fields (x : Int) : encX x = headT (formT x) ++ fieldBits (ofI x % 2 ^ widthT (formT x)) (widthT (formT x)) := by rw [fieldBits_mod]; rfl
theorem decX_back {x : Int} (hx : in64 x) (rest : List Bool) : decX (encX x ++ rest) = ⟨0, x, rest⟩ := by
  have hb := sign_back hx
  rw [encX_fields, List.append_assoc]
  simp only [decX, ones_back _ (formT_le x), field_back _ _ _ (Nat.mod_lt _ (Nat.two_pow_pos _)), hb, ne_eq, not_true_eq_false, if_false]
theorem decX_inv {bs : List Bool} (h : (decX bs).e = 0) : bs = encX (decX bs).x ++ (decX bs).r ∧ in64 (decX bs).x := by
  have e : decX bs = if (ones 4 bs).e ≠ 0 then ⟨(ones 4 bs).e, 0, (ones 4 bs).r⟩ else
      if (field (widthT (ones 4 bs).x) (ones 4 bs).r).e ≠ 0 then ⟨(field (widthT (ones 4 bs).x) (ones 4 bs).r).e, 0, (field (widthT (ones 4 bs).x) (ones 4 bs).r).r⟩ else
      if formT (signT (field (widthT (ones 4 bs).x) (ones 4 bs).r).x (widthT (ones 4 bs).x)) ≠ (ones 4 bs).x then ⟨8, 0, (field (widthT (ones 4 bs).x) (ones 4 bs).r).r⟩
      else ⟨0, signT (field (widthT (ones 4 bs).x) (ones 4 bs).r).x (widthT (ones 4 bs).x), (field (widthT (ones 4 bs).x) (ones 4 bs).r).r⟩ := rfl
  rw [e] at h ⊢
  split at h
  · next hn => exact absurd h hn
  · next h1 =>
    rw [if_neg h1]
    split at h
    · next hn => exact absurd h hn
    · next h2 =>
      rw [if_neg h2]
      split at h
      · cases h
      · next h3 =>
        rw [if_neg h3]
        have a1 := ones_inv (Decidable.not_not.1 h1)
        have a2 := field_inv (Decidable.not_not.1 h2)
        have a3 := Decidable.not_not.1 h3
        obtain ⟨b1, b2⟩ := sign_of a1.2 a2.2 a3
        refine ⟨?_, b1⟩
        rw [encX_fields]
        show bs = headT (formT (signT _ _)) ++ fieldBits (ofI (signT _ _) % 2 ^ widthT (formT (signT _ _))) (widthT (formT (signT _ _))) ++ _
        rw [a3, b2, List.append_assoc, ← a2.1]
        exact a1.1

theorem w64_sub_add {a b : Int} (ha : in64 a) : wrap64 (b + wrap64 (a - b)) = a := by unfold in64 at ha; rw [w64_eq, w64_eq]; omega
theorem w64_dd {a d : Int} (ha : in64 a) : wrap64 (d + wrap64 (a - d)) = a := w64_sub_add ha
theorem w64_add_sub {x d : Int} (hx : in64 x) : wrap64 (wrap64 (d + x) - d) = x := by unfold in64 at hx; rw [w64_eq, w64_eq]; omega

theorem decFrom_back (l : List Int) (hl : ∀ t ∈ l, in64 t) (last d : Int) (rest : List Bool) : decFrom l.length last d (encFrom last d l ++ rest) = ⟨0, l, rest⟩ := by
  induction l generalizing last d with
  | nil => rfl
  | cons t l ih =>
    have ht : in64 t := hl t (by simp)
    have h1 : wrap64 (d + wrap64 (wrap64 (t - last) - d)) = wrap64 (t - last) := w64_dd (w64_in _)
    have h2 : wrap64 (last + wrap64 (t - last)) = t := w64_sub_add ht
    have hd : decX (encFrom last d (t :: l) ++ rest) = ⟨0, wrap64 (wrap64 (t - last) - d), encFrom t (wrap64 (t - last)) l ++ rest⟩ := by
      rw [encFrom, List.append_assoc]; exact decX_back (w64_in _) _
    rw [List.length_cons, decFrom, hd]
    simp only [h1, h2, ih (fun t ht => hl t (by simp [ht])), ne_eq, not_true_eq_false, if_false]
theorem decFrom_inv (n : Nat) (last d : Int) (bs : List Bool) (h : (decFrom n last d bs).e = 0) :
    bs = encFrom last d (decFrom n last d bs).x ++ (decFrom n last d bs).r ∧ (decFrom n last d bs).x.length = n ∧ ∀ t ∈ (decFrom n last d bs).x, in64 t := by
  induction n generalizing last d bs with
  | zero => exact ⟨rfl, rfl, by simp [decFrom]⟩
  | succ n ih =>
    rw [decFrom] at h ⊢
    split at h
    · next hn => exact absurd h hn
    · next h1 =>
      rw [if_neg h1]
      have a1 := decX_inv (Decidable.not_not.1 h1)
      generalize decX bs = y at *
      simp only at h ⊢
      split at h
      · next hn => exact absurd h hn
      · next h2 =>
        rw [if_neg h2]
        obtain ⟨b1, b2, b3⟩ := ih _ _ _ (Decidable.not_not.1 h2)
        have c1 : wrap64 (wrap64 (last + wrap64 (d + y.x)) - last) = wrap64 (d + y.x) := w64_add_sub (w64_in _)
        have c2 : wrap64 (wrap64 (d + y.x) - d) = y.x := w64_add_sub a1.2
        refine ⟨?_, by simp [b2], fun t ht => ?_⟩
        · show bs = encFrom last d (_ :: _) ++ _
          rw [encFrom, c1, c2, List.append_assoc, ← b1]
          exact a1.1
        · rcases List.mem_cons.1 ht with rfl | h
          · exact w64_in _
          · exact b3 t h
theorem decT_back (l : List Int) (hl : ∀ t ∈ l, in64 t) (rest : List Bool) : decT l.length (encT l ++ rest) = ⟨0, l, rest⟩ := by
  match l, hl with
  | [], _ => rfl
  | t :: l, hl =>
    have ht : in64 t := hl t (by simp)
    have hf : field 64 (encT (t :: l) ++ rest) = ⟨0, ofI t, encFrom t 0 l ++ rest⟩ := by
      rw [encT, List.append_assoc]; exact field_back _ _ _ (ofI_lt t)
    rw [List.length_cons, decT, hf]
    simp only [toI_ofI ht, decFrom_back l (fun t ht => hl t (by simp [ht])), ne_eq, not_true_eq_false, if_false]
theorem decT_inv (n : Nat) (bs : List Bool) (h : (decT n bs).e = 0) :
    bs = encT (decT n bs).x ++ (decT n bs).r ∧ (decT n bs).x.length = n ∧ ∀ t ∈ (decT n bs).x, in64 t := by
  match n with
  | 0 => exact ⟨rfl, rfl, by simp [decT]⟩
  | n + 1 =>
    rw [decT] at h ⊢
    split at h
    · next hn => exact absurd h hn
    · next h1 =>
      rw [if_neg h1]
      have a1 := field_inv (Decidable.not_not.1 h1)
      generalize field 64 bs = y at *
      simp only at h ⊢
      split at h
      · next hn => exact absurd h hn
      · next h2 =>
        rw [if_neg h2]
        obtain ⟨b1, b2, b3⟩ := decFrom_inv _ _ _ _ (Decidable.not_not.1 h2)
        refine ⟨?_, by simp [b2], fun t ht => ?_⟩
        · show bs = encT (_ :: _) ++ _
          rw [encT, ofI_toI a1.2, List.append_assoc, ← b1]
          exact a1.1
        · rcases List.mem_cons.1 ht with rfl | h
          · exact toI_in a1.2
          · exact b3 t h

theorem headT_len (k : Nat) : (headT k).length ≤ 4 := by unfold headT; split <;> decide
theorem encX_len (x : Int) : (encX x).length ≤ 68 := by
  rw [encX, List.length_append, fieldBits_length]
  have := headT_len (formT x); have := widthT_le (formT x); omega
theorem encFrom_len (last d : Int) (l : List Int) : (encFrom last d l).length ≤ 68 * l.length := by
  induction l generalizing last d with
  | nil => exact Nat.le_refl _
  | cons t l ih =>
    rw [encFrom, List.length_append, List.length_cons]
    have := encX_len (wrap64 (wrap64 (t - last) - d)); have := ih t (wrap64 (t - last)); omega
theorem encT_len (l : List Int) : (encT l).length ≤ 68 * l.length := by
  match l with
  | [] => exact Nat.le_refl _
  | t :: l =>
    rw [encT, List.length_append, fieldBits_length, List.length_cons]
    have := encFrom_len t 0 l; omega
theorem encX_zero : encX 0 = [false] := rfl

/-- Times with constant differences. -/
def seqT (s p : Int) : Nat → List Int
  | 0 => []
  | n + 1 => s :: seqT (wrap64 (s + p)) p n
theorem seqT_length (s p : Int) (n : Nat) : (seqT s p n).length = n := by
  induction n generalizing s with
  | zero => rfl
  | succ n ih => simp [seqT, ih]
theorem seqT_in (s p : Int) (n : Nat) (hs : in64 s) : ∀ t ∈ seqT s p n, in64 t := by
  induction n generalizing s with
  | zero => simp [seqT]
  | succ n ih =>
    intro t ht
    rcases List.mem_cons.1 ht with rfl | h
    · exact hs
    · exact ih _ (w64_in _) t h
/-- Where a sequence stands. -/
def atT (s p : Int) : Nat → Int
  | 0 => s
  | n + 1 => wrap64 (atT s p n + p)
theorem atT_succ (s p : Int) (n : Nat) : atT (wrap64 (s + p)) p n = atT s p (n + 1) := by
  induction n with
  | zero => rfl
  | succ n ih => rw [atT, ih]; rfl
theorem seqT_push (s p : Int) (n : Nat) : seqT s p (n + 1) = seqT s p n ++ [atT s p n] := by
  induction n generalizing s with
  | zero => rfl
  | succ n ih => rw [seqT, ih, atT_succ]; rfl
theorem atT_in {s p : Int} (hs : in64 s) (n : Nat) : in64 (atT s p n) := by
  cases n with
  | zero => exact hs
  | succ n => exact w64_in _
theorem seqT_take (s p : Int) (k n : Nat) (h : k ≤ n) : (seqT s p n).take k = seqT s p k := by
  induction k generalizing s n with
  | zero => rfl
  | succ k ih =>
    match n, h with
    | n + 1, h => rw [seqT, List.take_succ_cons, ih _ n (by omega)]; rfl
theorem encFrom_seq (last p : Int) (n : Nat) : (encFrom last (wrap64 p) (seqT (wrap64 (last + p)) p n)).length = n := by
  induction n generalizing last with
  | zero => rfl
  | succ n ih =>
    have h1 : wrap64 (wrap64 (last + p) - last) = wrap64 p := by rw [w64_eq, w64_eq, w64_eq]; omega
    have h2 : wrap64 (wrap64 p - wrap64 p) = 0 := by rw [Int.sub_self, w64_eq]; rfl
    rw [seqT, encFrom, h1, h2, encX_zero, List.length_append, ih]
    simp [Nat.add_comm]
theorem encT_seq (s p : Int) (k : Nat) : (encT (seqT s p (k + 2))).length = (encT (seqT s p 2)).length + k := by
  have h1 : wrap64 (wrap64 (s + p) - s) = wrap64 p := by rw [w64_eq, w64_eq, w64_eq]; omega
  have e : ∀ k, (encT (seqT s p (k + 2))).length = 64 + (encX (wrap64 (wrap64 p - 0))).length + k := fun k => by
    rw [seqT, seqT, encT, encFrom, h1, List.length_append, List.length_append, fieldBits_length, encFrom_seq]; omega
  rw [e, e 0, Nat.add_zero]

theorem encFrom_shift (by_ last d : Int) (l : List Int) : encFrom (wrap64 (last + by_)) d (l.map fun t => wrap64 (t + by_)) = encFrom last d l := by
  induction l generalizing last d with
  | nil => rfl
  | cons t l ih =>
    have h1 : wrap64 (wrap64 (t + by_) - wrap64 (last + by_)) = wrap64 (t - last) := by rw [w64_eq, w64_eq, w64_eq, w64_eq]; omega
    rw [List.map_cons, encFrom, encFrom, h1, ih]
theorem encT_shift (by_ t : Int) (l : List Int) : encT ((t :: l).map fun t => wrap64 (t + by_)) = fieldBits (ofI (wrap64 (t + by_))) 64 ++ encFrom t 0 l := by
  rw [List.map_cons, encT, encFrom_shift]
theorem suf_ones (m : Nat) (bs : List Bool) : Suf (ones m bs).r bs := by
  induction m generalizing bs with
  | zero => exact Suf.refl _
  | succ m ih =>
    match bs with
    | [] => exact Suf.refl _
    | false :: bs => exact ⟨[false], rfl⟩
    | true :: bs => exact (ih bs).cons true
theorem suf_decX (bs : List Bool) : Suf (decX bs).r bs := by
  have h1 := suf_ones 4 bs
  have h2 := suf_field (widthT (ones 4 bs).x) (ones 4 bs).r
  simp only [decX]
  split
  · exact h1
  · split
    · exact h2.trans h1
    · split
      · exact h2.trans h1
      · exact h2.trans h1
theorem suf_decFrom (n : Nat) (last d : Int) (bs : List Bool) : Suf (decFrom n last d bs).r bs := by
  induction n generalizing last d bs with
  | zero => exact Suf.refl _
  | succ n ih =>
    have h1 := suf_decX bs
    rw [decFrom]
    split
    · exact h1
    · simp only
      split
      · exact (ih _ _ _).trans h1
      · exact (ih _ _ _).trans h1
theorem suf_decT (n : Nat) (bs : List Bool) : Suf (decT n bs).r bs := by
  match n with
  | 0 => exact Suf.refl _
  | n + 1 =>
    have h1 := suf_field 64 bs
    rw [decT]
    split
    · exact h1
    · simp only
      split
      · exact (suf_decFrom _ _ _ _).trans h1
      · exact (suf_decFrom _ _ _ _).trans h1
end Go.Proofs.YtjgiaibpipgjjaaDoor
