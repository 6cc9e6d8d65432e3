/- Layer 6: the encoding of values by exclusive or, and its reading, as functions on lists. No program in sight. -/
import Derived.Test.YtnhopiggknfimaaDoorCode
namespace Go.Proofs.YtnhopiggknfimaaDoor

/-- Leading and trailing zeros of a word that is not 0. -/
def leadV (x : Nat) : Nat := 63 - Nat.log2 x
def tz : Nat → Nat → Nat
  | 0, _ => 0
  | f + 1, x => if x % 2 = 0 then 1 + tz f (x / 2) else 0
def trailV (x : Nat) : Nat := tz 64 x

theorem tz_dvd (f x : Nat) : 2 ^ tz f x ∣ x := by
  induction f generalizing x with
  | zero => exact Nat.one_dvd x
  | succ f ih =>
    rw [tz]
    split
    · next h =>
      obtain ⟨c, hc⟩ := ih (x / 2)
      refine ⟨c, ?_⟩
      rw [Nat.add_comm, Nat.pow_succ]
      generalize 2 ^ tz f (x / 2) = P at *
      have : x = 2 * (x / 2) := by omega
      rw [this, hc, Nat.mul_comm P 2, Nat.mul_assoc]
    · exact Nat.one_dvd x
theorem le_tz (f k x : Nat) (hk : k ≤ f) (h : 2 ^ k ∣ x) : k ≤ tz f x := by
  induction k generalizing f x with
  | zero => exact Nat.zero_le _
  | succ k ih =>
    obtain ⟨f, rfl⟩ : ∃ g, f = g + 1 := ⟨f - 1, by omega⟩
    obtain ⟨c, hc⟩ := h
    have he : x = 2 * (2 ^ k * c) := by rw [hc, Nat.pow_succ, Nat.mul_comm (2 ^ k) 2, Nat.mul_assoc]
    rw [tz, if_pos (by omega)]
    have := ih f (x / 2) (by omega) ⟨c, by rw [he]; omega⟩
    omega
theorem lead_lt {x : Nat} (hx : x < 18446744073709551616) (h0 : x ≠ 0) : x < 2 ^ (64 - leadV x) := by
  have h1 : Nat.log2 x < 64 := (Nat.log2_lt h0).2 (by simpa using hx)
  have h2 := @Nat.lt_log2_self x
  rw [leadV, show 64 - (63 - Nat.log2 x) = Nat.log2 x + 1 by omega]
  exact h2
theorem le_lead {x L : Nat} (h0 : x ≠ 0) (hL : L ≤ 63) (h : x < 2 ^ (64 - L)) : L ≤ leadV x := by
  have h1 : Nat.log2 x < 64 - L := (Nat.log2_lt h0).2 h
  rw [leadV]; omega
theorem lead_le (x : Nat) : leadV x ≤ 63 := by rw [leadV]; omega
/-- A word's window. -/
theorem window {x : Nat} (hx : x < 18446744073709551616) (h0 : x ≠ 0) : leadV x + trailV x ≤ 63 := by
  have h1 : Nat.log2 x < 64 := (Nat.log2_lt h0).2 (by simpa using hx)
  have h2 : 2 ^ trailV x ≤ x := Nat.le_of_dvd (by omega) (tz_dvd 64 x)
  have h3 : trailV x ≤ Nat.log2 x := (Nat.le_log2 h0).2 h2
  rw [leadV]; omega

theorem inside_lt {x L t : Nat} (h : x < 2 ^ (64 - L)) (hd : 2 ^ t ∣ x) (hw : L + t ≤ 63) : x / 2 ^ t < 2 ^ (64 - L - t) ∧ x / 2 ^ t * 2 ^ t = x := by
  refine ⟨?_, Nat.div_mul_cancel hd⟩
  rw [Nat.div_lt_iff_lt_mul (Nat.two_pow_pos t), ← Nat.pow_add, show 64 - L - t + t = 64 - L by omega]
  exact h
theorem outside_lt {u L t : Nat} (h : u < 2 ^ (64 - L - t)) (hw : L + t ≤ 63) : u * 2 ^ t < 2 ^ (64 - L) := by
  have : u * 2 ^ t < 2 ^ (64 - L - t) * 2 ^ t := Nat.mul_lt_mul_of_pos_right h (Nat.two_pow_pos t)
  rw [← Nat.pow_add, show 64 - L - t + t = 64 - L by omega] at this
  exact this
theorem pow_le64 (L : Nat) : 2 ^ (64 - L) ≤ 18446744073709551616 := by
  have : 2 ^ (64 - L) ≤ 2 ^ 64 := Nat.pow_le_pow_right (by decide) (by omega)
  simpa using this

/-- Whether a word fits the current window. -/
def fits (win : Option (Nat × Nat)) (x : Nat) : Bool := match win with
  | none => false
  | some (L, t) => decide (L ≤ leadV x) && decide (t ≤ trailV x)
def freshW (x : Nat) : List Bool := [true, true] ++ (fieldBits (leadV x) 6 ++ (fieldBits (63 - leadV x - trailV x) 6 ++ fieldBits (x / 2 ^ trailV x) (64 - leadV x - trailV x)))
def encW (win : Option (Nat × Nat)) (x : Nat) : List Bool := if x = 0 then [false] else
  match win with
  | some (L, t) => if fits win x then [true, false] ++ fieldBits (x / 2 ^ t) (64 - L - t) else freshW x
  | none => freshW x
def nextW (win : Option (Nat × Nat)) (x : Nat) : Option (Nat × Nat) := if x = 0 then win else if fits win x then win else some (leadV x, trailV x)
def okW (win : Option (Nat × Nat)) : Prop := ∀ L t, win = some (L, t) → L + t ≤ 63
theorem okW_next {win : Option (Nat × Nat)} (h : okW win) {x : Nat} (hx : x < 18446744073709551616) : okW (nextW win x) := by
  intro L t e
  rw [nextW] at e
  split at e
  · exact h L t e
  · next h0 =>
    split at e
    · exact h L t e
    · cases e; exact window hx h0

def encFromV (win : Option (Nat × Nat)) (last : Nat) : List Nat → List Bool
  | [] => []
  | v :: l => encW win (v ^^^ last) ++ encFromV (nextW win (v ^^^ last)) v l
def encV : List Nat → List Bool
  | [] => []
  | v :: l => fieldBits v 64 ++ encFromV none v l

/-- One word, and the window behind it. -/
def decOld (L t : Nat) (bs : List Bool) : Res (Nat × Option (Nat × Nat)) :=
  let u := field (64 - L - t) bs
  if u.e ≠ 0 then ⟨u.e, (0, none), u.r⟩ else if u.x * 2 ^ t = 0 then ⟨8, (0, none), u.r⟩ else ⟨0, (u.x * 2 ^ t, some (L, t)), u.r⟩
def decNew (win : Option (Nat × Nat)) (bs : List Bool) : Res (Nat × Option (Nat × Nat)) :=
  let a := field 6 bs
  if a.e ≠ 0 then ⟨a.e, (0, none), a.r⟩ else
  let y := field 6 a.r
  if y.e ≠ 0 then ⟨y.e, (0, none), y.r⟩ else
  if 63 < a.x + y.x then ⟨8, (0, none), y.r⟩ else
  let b := 63 - a.x - y.x
  let u := field (64 - a.x - b) y.r
  if u.e ≠ 0 then ⟨u.e, (0, none), u.r⟩ else
  if u.x * 2 ^ b = 0 then ⟨8, (0, none), u.r⟩ else
  if leadV (u.x * 2 ^ b) ≠ a.x ∨ trailV (u.x * 2 ^ b) ≠ b ∨ fits win (u.x * 2 ^ b) = true then ⟨8, (0, none), u.r⟩ else ⟨0, (u.x * 2 ^ b, some (a.x, b)), u.r⟩
def decW (win : Option (Nat × Nat)) : List Bool → Res (Nat × Option (Nat × Nat))
  | [] => ⟨3, (0, none), []⟩
  | false :: bs => ⟨0, (0, win), bs⟩
  | [true] => ⟨3, (0, none), []⟩
  | true :: false :: bs => match win with
    | none => ⟨8, (0, none), bs⟩
    | some (L, t) => decOld L t bs
  | true :: true :: bs => decNew win bs
def decFromV : Nat → Option (Nat × Nat) → Nat → List Bool → Res (List Nat)
  | 0, _, _, bs => ⟨0, [], bs⟩
  | n + 1, win, last, bs =>
    let w := decW win bs
    if w.e ≠ 0 then ⟨w.e, [], w.r⟩ else
    let s := decFromV n w.x.2 (last ^^^ w.x.1) w.r
    if s.e ≠ 0 then ⟨s.e, [], s.r⟩ else ⟨0, (last ^^^ w.x.1) :: s.x, s.r⟩
def decV : Nat → List Bool → Res (List Nat)
  | 0, bs => ⟨0, [], bs⟩
  | n + 1, bs =>
    if (field 64 bs).e ≠ 0 then ⟨(field 64 bs).e, [], (field 64 bs).r⟩ else
    let s := decFromV n none (field 64 bs).x (field 64 bs).r
    if s.e ≠ 0 then ⟨s.e, [], s.r⟩ else ⟨0, (field 64 bs).x :: s.x, s.r⟩

theorem decOld_back {L t x : Nat} (hw : L + t ≤ 63) (h0 : x ≠ 0) (hx : x < 2 ^ (64 - L)) (hd : 2 ^ t ∣ x) (rest : List Bool) : decOld L t (fieldBits (x / 2 ^ t) (64 - L - t) ++ rest) = ⟨0, (x, some (L, t)), rest⟩ := by
  obtain ⟨h1, h2⟩ := inside_lt hx hd hw
  simp only [decOld, field_back _ _ _ h1, h2, h0, ne_eq, not_true_eq_false, if_false]
theorem decNew_back {win : Option (Nat × Nat)} {x : Nat} (hx : x < 18446744073709551616) (h0 : x ≠ 0) (hf : fits win x = false) (rest : List Bool) :
    decNew win (fieldBits (leadV x) 6 ++ (fieldBits (63 - leadV x - trailV x) 6 ++ (fieldBits (x / 2 ^ trailV x) (64 - leadV x - trailV x) ++ rest))) = ⟨0, (x, some (leadV x, trailV x)), rest⟩ := by
  have hw := window hx h0
  have hb : 63 - leadV x - (63 - leadV x - trailV x) = trailV x := by omega
  obtain ⟨h1, h2⟩ := inside_lt (lead_lt hx h0) (tz_dvd 64 x) hw
  have f1 := field_back (leadV x) 6 (fieldBits (63 - leadV x - trailV x) 6 ++ (fieldBits (x / 2 ^ trailV x) (64 - leadV x - trailV x) ++ rest)) (by have := lead_le x; omega)
  have f2 := field_back (63 - leadV x - trailV x) 6 (fieldBits (x / 2 ^ trailV x) (64 - leadV x - trailV x) ++ rest) (by omega)
  have f3 := field_back (x / 2 ^ trailV x) (64 - leadV x - trailV x) rest h1
  have h2' : x / 2 ^ trailV x * 2 ^ trailV x = x := h2
  simp only [decNew, f1, f2, hb, f3, h2', h0, hf, ne_eq, not_true_eq_false, if_false, or_self, Bool.false_eq_true]
  rw [if_neg (by omega)]
theorem decW_new (win : Option (Nat × Nat)) (bs : List Bool) : decW win (true :: true :: bs) = decNew win bs := by simp only [decW]
theorem decW_old (L t : Nat) (bs : List Bool) : decW (some (L, t)) (true :: false :: bs) = decOld L t bs := by simp only [decW]
theorem decW_back {win : Option (Nat × Nat)} (ho : okW win) {x : Nat} (hx : x < 18446744073709551616) (rest : List Bool) : decW win (encW win x ++ rest) = ⟨0, (x, nextW win x), rest⟩ := by
  by_cases h0 : x = 0
  · subst h0
    unfold encW
    rw [if_pos rfl, nextW, if_pos rfl]
    simp only [List.cons_append, List.nil_append, decW]
  · by_cases hf : fits win x = true
    · cases win with
      | none => cases hf
      | some w =>
        obtain ⟨L, t⟩ := w
        have h := hf
        simp only [fits, Bool.and_eq_true, decide_eq_true_eq] at h
        have hL := ho L t rfl
        have hx2 : x < 2 ^ (64 - L) := Nat.lt_of_lt_of_le (lead_lt hx h0) (Nat.pow_le_pow_right (by decide) (by omega))
        have hd : 2 ^ t ∣ x := Nat.dvd_trans (Nat.pow_dvd_pow 2 h.2) (tz_dvd 64 x)
        rw [encW, if_neg h0, nextW, if_neg h0, if_pos hf]
        simp only [hf, if_true, List.cons_append, List.nil_append, decW_old]
        exact decOld_back hL h0 hx2 hd rest
    · have hff : fits win x = false := by simpa using hf
      have he : encW win x = freshW x := by
        unfold encW
        rw [if_neg h0]
        cases win with
        | none => rfl
        | some w => obtain ⟨L, t⟩ := w; simp only [hff, Bool.false_eq_true, if_false]
      rw [he, nextW, if_neg h0, if_neg hf, freshW]
      simp only [List.cons_append, List.nil_append, List.append_assoc, decW_new]
      exact decNew_back hx h0 hff rest

theorem decOld_inv {L t : Nat} (hw : L + t ≤ 63) {bs : List Bool} (h : (decOld L t bs).e = 0) : ∃ x, decOld L t bs = ⟨0, (x, some (L, t)), (decOld L t bs).r⟩ ∧ x ≠ 0 ∧ x < 18446744073709551616 ∧ fits (some (L, t)) x = true ∧ bs = fieldBits (x / 2 ^ t) (64 - L - t) ++ (decOld L t bs).r := by
  simp only [decOld] at h ⊢
  split at h
  · next hn => exact absurd h hn
  · next h1 =>
    rw [if_neg h1]
    split at h
    · cases h
    · next h2 =>
      rw [if_neg h2]
      obtain ⟨a1, a2⟩ := field_inv (Decidable.not_not.1 h1)
      have hlt := outside_lt a2 hw
      refine ⟨_, rfl, h2, Nat.lt_of_lt_of_le hlt (pow_le64 L), ?_, ?_⟩
      · simp only [fits, Bool.and_eq_true, decide_eq_true_eq]
        exact ⟨le_lead h2 (by omega) hlt, le_tz 64 t _ (by omega) ⟨_, Nat.mul_comm _ _⟩⟩
      · rw [Nat.mul_div_cancel _ (Nat.two_pow_pos t)]; exact a1
theorem decNew_inv {win : Option (Nat × Nat)} {bs : List Bool} (h : (decNew win bs).e = 0) : ∃ x, decNew win bs = ⟨0, (x, some (leadV x, trailV x)), (decNew win bs).r⟩ ∧ x ≠ 0 ∧ x < 18446744073709551616 ∧ fits win x = false ∧ true :: true :: bs = freshW x ++ (decNew win bs).r := by
  simp only [decNew] at h ⊢
  split at h
  · next hn => exact absurd h hn
  · next h1 =>
    rw [if_neg h1]
    split at h
    · next hn => exact absurd h hn
    · next h2 =>
      rw [if_neg h2]
      split at h
      · cases h
      · next h3 =>
        rw [if_neg h3]
        split at h
        · next hn => exact absurd h hn
        · next h4 =>
          rw [if_neg h4]
          split at h
          · cases h
          · next h5 =>
            rw [if_neg h5]
            split at h
            · cases h
            · next h6 =>
              rw [if_neg h6]
              obtain ⟨a1, a2⟩ := field_inv (Decidable.not_not.1 h1)
              obtain ⟨b1, b2⟩ := field_inv (Decidable.not_not.1 h2)
              obtain ⟨c1, c2⟩ := field_inv (Decidable.not_not.1 h4)
              generalize field 6 bs = F1 at *
              generalize field 6 F1.r = F2 at *
              generalize hB : 63 - F1.x - F2.x = b at *
              generalize field (64 - F1.x - b) F2.r = F3 at *
              have h6a : leadV (F3.x * 2 ^ b) = F1.x := by
                by_cases e : leadV (F3.x * 2 ^ b) = F1.x
                · exact e
                · exact absurd (Or.inl e) h6
              have h6b : trailV (F3.x * 2 ^ b) = b := by
                by_cases e : trailV (F3.x * 2 ^ b) = b
                · exact e
                · exact absurd (Or.inr (Or.inl e)) h6
              have h6c : fits win (F3.x * 2 ^ b) = false := by
                cases e : fits win (F3.x * 2 ^ b) with
                | false => rfl
                | true => exact absurd (Or.inr (Or.inr e)) h6
              have hlt := outside_lt c2 (by omega)
              refine ⟨_, by rw [h6a, h6b], h5, Nat.lt_of_lt_of_le hlt (pow_le64 _), h6c, ?_⟩
              rw [freshW, h6a, h6b, Nat.mul_div_cancel _ (Nat.two_pow_pos b), show 63 - F1.x - b = F2.x by omega]
              simp only [List.cons_append, List.nil_append, List.append_assoc]
              rw [← c1, ← b1, ← a1]
theorem decW_inv {win : Option (Nat × Nat)} (ho : okW win) {bs : List Bool} (h : (decW win bs).e = 0) : (decW win bs).x.1 < 18446744073709551616 ∧ (decW win bs).x.2 = nextW win (decW win bs).x.1 ∧ bs = encW win (decW win bs).x.1 ++ (decW win bs).r := by
  match bs, h with
  | [], h => cases h
  | false :: bs, _ =>
    simp only [decW]
    exact ⟨by decide, rfl, rfl⟩
  | [true], h => cases h
  | true :: false :: bs, h =>
    cases win with
    | none => simp only [decW] at h; cases h
    | some w =>
      obtain ⟨L, t⟩ := w
      rw [decW_old] at h ⊢
      obtain ⟨x, hx, h0, hlt, hf, hb⟩ := decOld_inv (ho L t rfl) h
      generalize decOld L t bs = D at *
      have hD : D.x = (x, some (L, t)) := by rw [hx]
      rw [hD]
      refine ⟨hlt, ?_, ?_⟩
      · show some (L, t) = nextW (some (L, t)) x
        rw [nextW, if_neg h0, if_pos hf]
      · show true :: false :: bs = encW (some (L, t)) x ++ D.r
        rw [encW, if_neg h0]
        simp only [hf, if_true, List.cons_append, List.nil_append]
        rw [← hb]
  | true :: true :: bs, h =>
    rw [decW_new] at h ⊢
    obtain ⟨x, hx, h0, hlt, hf, hb⟩ := decNew_inv h
    generalize decNew win bs = D at *
    have hD : D.x = (x, some (leadV x, trailV x)) := by rw [hx]
    rw [hD]
    refine ⟨hlt, ?_, ?_⟩
    · show some (leadV x, trailV x) = nextW win x
      rw [nextW, if_neg h0, if_neg (by rw [hf]; decide)]
    · show true :: true :: bs = encW win x ++ D.r
      have he : encW win x = freshW x := by
        unfold encW
        rw [if_neg h0]
        cases win with
        | none => rfl
        | some w => obtain ⟨L, t⟩ := w; simp only [hf, Bool.false_eq_true, if_false]
      rw [he]; exact hb
end Go.Proofs.YtnhopiggknfimaaDoor
