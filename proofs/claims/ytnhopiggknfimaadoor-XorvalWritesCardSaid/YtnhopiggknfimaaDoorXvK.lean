/- Layer 6: the reading of a word as the program takes it: a step, the bits inside, and whether the step is the word's. No program in sight. -/
import Derived.Test.YtnhopiggknfimaaDoorXvJ
set_option linter.unusedVariables false
namespace Go.Proofs.YtnhopiggknfimaaDoor

def stepD (win : Option (Nat × Nat)) (bits : List Bool) : Res Nat :=
  if (headD win bits).e ≠ 0 then ⟨(headD win bits).e, 0, (headD win bits).r⟩ else
  let u := field (headD win bits).x.2.1 (headD win bits).r
  if u.e ≠ 0 then ⟨u.e, 0, u.r⟩ else
  let x := u.x * 2 ^ (64 - (headD win bits).x.1 - (headD win bits).x.2.1)
  if sL win x = (headD win bits).x.1 ∧ sW win x = (headD win bits).x.2.1 ∧ sN win x = (headD win bits).x.2.2 then ⟨0, x, u.r⟩ else ⟨8, 0, u.r⟩

theorem stepD_of {win : Option (Nat × Nat)} {bits c : List Bool} {a b : Nat} {n : Bool} (h : headD win bits = ⟨0, (a, b, n), c⟩) :
    stepD win bits = (if (field b c).e ≠ 0 then ⟨(field b c).e, 0, (field b c).r⟩ else if sL win ((field b c).x * 2 ^ (64 - a - b)) = a ∧ sW win ((field b c).x * 2 ^ (64 - a - b)) = b ∧ sN win ((field b c).x * 2 ^ (64 - a - b)) = n then ⟨0, (field b c).x * 2 ^ (64 - a - b), (field b c).r⟩ else ⟨8, 0, (field b c).r⟩) := by
  rw [stepD, h]; simp only [ne_eq, not_true_eq_false, if_false]
theorem stepD_bad {win : Option (Nat × Nat)} {bits c : List Bool} {e : Nat} {x : Nat × Nat × Bool} (he : e ≠ 0) (h : headD win bits = ⟨e, x, c⟩) : stepD win bits = ⟨e, 0, c⟩ := by
  rw [stepD, h, if_pos he]

theorem headD_form {win : Option (Nat × Nat)} (ho : okW win) (bits : List Bool) : (headD win bits).e = 0 → (headD win bits).x.1 ≤ 63 ∧ (headD win bits).x.2.1 ≤ 64 ∧ (headD win bits).x.1 + (headD win bits).x.2.1 ≤ 64 := by
  match bits with
  | [] => intro h; cases h
  | false :: c => intro _; exact ⟨by show 0 ≤ 63; omega, by show 0 ≤ 64; omega, by show 0 + 0 ≤ 64; omega⟩
  | [true] => intro h; cases h
  | true :: false :: c =>
    cases win with
    | none => intro h; cases h
    | some w => obtain ⟨L, t⟩ := w; have := ho L t rfl; intro _; exact ⟨by show L ≤ 63; omega, by show 64 - L - t ≤ 64; omega, by show L + (64 - L - t) ≤ 64; omega⟩
  | true :: true :: c =>
    intro h
    change (winD c).e = 0 at h
    show (winD c).x.1 ≤ 63 ∧ (winD c).x.2 ≤ 64 ∧ (winD c).x.1 + (winD c).x.2 ≤ 64
    rw [winD] at h ⊢
    split at h
    · next hn => exact absurd h hn
    · next h1 =>
      rw [if_neg h1]
      simp only at h ⊢
      split at h
      · next hn => exact absurd h hn
      · next h2 =>
        rw [if_neg h2]
        split at h
        · cases h
        · next h3 => rw [if_neg h3]; simp only; omega

theorem fits_of {L t x : Nat} (h0 : x ≠ 0) (hL : L ≤ 63) (ht : t ≤ 64) (hx : x < 2 ^ (64 - L)) (hd : 2 ^ t ∣ x) : fits (some (L, t)) x = true := by
  simp only [fits, Bool.and_eq_true, decide_eq_true_eq]
  exact ⟨le_lead h0 hL hx, le_tz 64 t x ht hd⟩

theorem decW_step {win : Option (Nat × Nat)} (ho : okW win) (bits : List Bool) :
    ∃ y, decW win bits = ⟨(stepD win bits).e, y, (stepD win bits).r⟩ ∧ ((stepD win bits).e = 0 → y = ((stepD win bits).x, nextW win (stepD win bits).x)) := by
  match bits with
  | [] => exact ⟨_, decW_nil win, fun h => by cases h⟩
  | false :: c =>
    have hs : stepD win (false :: c) = ⟨0, 0, c⟩ := by
      rw [stepD_of (a := 0) (b := 0) (n := false) (c := c) rfl]
      have hf : field 0 c = ⟨0, 0, c⟩ := by rw [field, if_neg (by omega)]; rfl
      rw [hf]
      simp only [ne_eq, not_true_eq_false, if_false, Nat.zero_mul, sL, sW, sN, if_true, and_self]
    rw [hs]
    exact ⟨_, decW_same win c, fun _ => by rw [nextW, if_pos rfl]⟩
  | [true] => exact ⟨_, decW_half win, fun h => by cases h⟩
  | true :: false :: c =>
    cases win with
    | none => exact ⟨_, decW_none c, fun h => by cases h⟩
    | some w =>
      obtain ⟨L, t⟩ := w
      have hw := ho L t rfl
      rw [stepD_of (a := L) (b := 64 - L - t) (n := false) (c := c) rfl, show 64 - L - (64 - L - t) = t by omega]
      by_cases hs : c.length < 64 - L - t
      · rw [field_short hs]
        exact ⟨_, decOld_short hs, fun h => by cases h⟩
      · have hlt := take_lt hs
        rw [field_full hs]
        simp only [ne_eq, not_true_eq_false, if_false]
        generalize hu : numOf (c.take (64 - L - t)) = u at *
        by_cases h0 : u * 2 ^ t = 0
        · rw [if_neg (by rw [h0, sW, if_pos rfl]; omega)]
          exact ⟨_, decOld_zero hs (by rw [hu]; exact h0), fun h => by cases h⟩
        · have hx := outside_lt hlt hw
          have hf := fits_of h0 (by omega) (by omega) hx ⟨u, Nat.mul_comm _ _⟩
          rw [if_pos (by rw [sL, sW, sN]; simp only [h0, hf, if_true, if_false, wl, ww, and_self])]
          refine ⟨_, by rw [decOld_right hs (by rw [hu]; exact h0), hu], fun _ => ?_⟩
          rw [nextW, if_neg h0, if_pos hf]
  | true :: true :: c =>
    by_cases h1 : c.length < 6
    · have hw : headD win (true :: true :: c) = ⟨3, (0, 0, true), c⟩ := by
        show (⟨_, _, _⟩ : Res _) = _
        rw [winD, field_short h1]; rfl
      rw [stepD_bad (by decide) hw]
      exact ⟨_, decNew_short1 h1, fun h => by cases h⟩
    · obtain ⟨a, c1, hf1, ha⟩ : ∃ a c1, field 6 c = ⟨0, a, c1⟩ ∧ a < 64 := ⟨_, _, field_full h1, take_lt h1⟩
      by_cases h2 : c1.length < 6
      · have hw : headD win (true :: true :: c) = ⟨3, (0, 0, true), c1⟩ := by
          show (⟨_, _, _⟩ : Res _) = _
          rw [winD, hf1]; simp only [field_short h2, ne_eq, not_true_eq_false, if_false]; rfl
        rw [stepD_bad (by decide) hw]
        exact ⟨_, decNew_short2 hf1 h2, fun h => by cases h⟩
      · obtain ⟨y, c2, hf2, hy⟩ : ∃ y c2, field 6 c1 = ⟨0, y, c2⟩ ∧ y < 64 := ⟨_, _, field_full h2, take_lt h2⟩
        by_cases h3 : 63 < a + y
        · have hw : headD win (true :: true :: c) = ⟨8, (0, 0, true), c2⟩ := by
            show (⟨_, _, _⟩ : Res _) = _
            rw [winD, hf1]; simp only [hf2, ne_eq, not_true_eq_false, if_false, h3, if_true]
          rw [stepD_bad (by decide) hw]
          exact ⟨_, decNew_wide hf1 hf2 h3, fun h => by cases h⟩
        · have hw : headD win (true :: true :: c) = ⟨0, (a, y + 1, true), c2⟩ := by
            show (⟨_, _, _⟩ : Res _) = _
            rw [winD, hf1]; simp only [hf2, ne_eq, not_true_eq_false, if_false, h3]
          rw [stepD_of hw, show 64 - a - (y + 1) = 63 - a - y by omega]
          have e1 : 64 - a - (63 - a - y) = y + 1 := by omega
          by_cases hs : c2.length < y + 1
          · rw [field_short hs]
            exact ⟨_, decNew_short3 hf1 hf2 h3 (by rw [e1]; exact hs), fun h => by cases h⟩
          · have hlt := take_lt hs
            have hff : field (64 - a - (63 - a - y)) c2 = ⟨0, numOf (c2.take (y + 1)), c2.drop (y + 1)⟩ := by rw [e1]; exact field_full hs
            rw [field_full hs]
            simp only [ne_eq, not_true_eq_false, if_false]
            generalize numOf (c2.take (y + 1)) = u at *
            generalize c2.drop (y + 1) = c3 at *
            have hx : u * 2 ^ (63 - a - y) < 18446744073709551616 := by
              have := outside_lt (L := a) (t := 63 - a - y) (u := u) (by rw [show 64 - a - (63 - a - y) = y + 1 by omega]; exact hlt) (by omega)
              exact Nat.lt_of_lt_of_le this (pow_le64 a)
            generalize hxx : u * 2 ^ (63 - a - y) = x at *
            by_cases h0 : x = 0
            · rw [if_neg (by rw [h0, sW, if_pos rfl]; omega)]
              exact ⟨_, decNew_zero hf1 hf2 h3 hff (by rw [hxx]; exact h0), fun h => by cases h⟩
            · have hwx := window hx h0
              by_cases hg : leadV x ≠ a ∨ trailV x ≠ 63 - a - y ∨ fits win x = true
              · rw [if_neg]
                · exact ⟨_, decNew_wrong hf1 hf2 h3 hff (by rw [hxx]; exact h0) (by rw [hxx]; exact hg), fun h => by cases h⟩
                · rw [sL, sW, sN]
                  by_cases hf : fits win x = true
                  · simp only [h0, hf, if_true, if_false, Bool.false_eq_true, and_false, not_false_eq_true]
                  · have hff2 : fits win x = false := by simpa using hf
                    simp only [h0, hff2, if_false, Bool.false_eq_true, and_true]
                    rcases hg with h | h | h
                    · exact fun k => h k.1
                    · exact fun k => h (by omega)
                    · exact absurd h hf
              · have h1 : leadV x = a := Decidable.not_not.1 (fun h => hg (Or.inl h))
                have h2 : trailV x = 63 - a - y := Decidable.not_not.1 (fun h => hg (Or.inr (Or.inl h)))
                have h3' : fits win x = false := by
                  cases hb : fits win x with
                  | true => exact absurd (Or.inr (Or.inr hb)) hg
                  | false => rfl
                rw [if_pos]
                · refine ⟨_, by rw [decNew_right hf1 hf2 h3 hff (by rw [hxx]; exact h0) (by rw [hxx]; exact hg), hxx], fun _ => ?_⟩
                  rw [nextW, if_neg h0, if_neg (by rw [h3']; decide), h1, h2]
                · rw [sL, sW, sN]
                  simp only [h0, h3', if_false, Bool.false_eq_true, and_true]
                  omega
end Go.Proofs.YtnhopiggknfimaaDoor
