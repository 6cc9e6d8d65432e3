/- Layer 8: the reading, step by step. No program in sight. -/
import Derived.Test.YtpphgmgdmdehpaaDict
namespace Go.Proofs.Ytpphgmgdmdehpaa

/-- Where the reading of the dictionary stands. -/
def WAt (k : Nat) (b1 : List Bool) (acc : List Nat) (bits : List Bool) : Prop := ∃ j, acc.length + j = k + 1 ∧ wordsD (k + 1) [] b1 = wordsD j acc bits ∧ Asc acc
/-- Where the reading of the indices stands. -/
def IAt (m n : Nat) (b2 : List Bool) (is : List Nat) (bits : List Bool) : Prop := ∃ j, is.length + j = n ∧ indsD m n [] b2 = indsD m j is bits ∧ ∀ i ∈ is, i < m

theorem getD_none (bs : List Bool) : decD 0 bs = ⟨0, [], bs⟩ := by rw [decD, if_pos rfl]
theorem getD_eof7 {n : Nat} {bs : List Bool} (hn : n ≠ 0) (h : bs.length < 7) : decD n bs = ⟨3, [], bs⟩ := by
  rw [decD, if_neg hn, field_short h]
  simp
theorem getD_words {n k : Nat} {bs b1 : List Bool} (hn : n ≠ 0) (h : field 7 bs = ⟨0, k, b1⟩) : decD n bs = decWords k n b1 := by
  rw [decD, if_neg hn, h]
  simp
theorem wat_start (k : Nat) (b1 : List Bool) : WAt k b1 [] b1 := ⟨k + 1, by simp, rfl, List.Pairwise.nil⟩
theorem wat_step {k : Nat} {b1 : List Bool} {acc : List Nat} {bits : List Bool} (h : WAt k b1 acc bits) (hl : acc.length < k + 1) : ∃ j, acc.length + (j + 1) = k + 1 ∧ wordsD (k + 1) [] b1 = wordsD (j + 1) acc bits ∧ Asc acc := by
  obtain ⟨j, h1, h2, h3⟩ := h
  obtain ⟨i, rfl⟩ : ∃ i, j = i + 1 := ⟨j - 1, by omega⟩
  exact ⟨i, h1, h2, h3⟩
theorem getD_weof {n k : Nat} {b1 bits : List Bool} {acc : List Nat} (h : WAt k b1 acc bits) (hl : acc.length < k + 1) (hs : bits.length < 64) : decWords k n b1 = ⟨3, [], bits⟩ := by
  obtain ⟨j, h1, h2, h3⟩ := wat_step h hl
  rw [decWords, h2, wordsD, field_short hs]
  simp
theorem getD_wbad {n k x : Nat} {b1 bits b2 : List Bool} {acc : List Nat} (h : WAt k b1 acc bits) (hl : acc.length < k + 1) (hf : field 64 bits = ⟨0, x, b2⟩) (hne : acc ≠ []) (hx : x ≤ acc.getLastD 0) : decWords k n b1 = ⟨8, [], b2⟩ := by
  obtain ⟨j, h1, h2, h3⟩ := wat_step h hl
  have e : wordsD (j + 1) acc bits = ⟨8, [], b2⟩ := by rw [wordsD, hf, if_neg (by simp), if_pos ⟨hne, hx⟩]
  rw [decWords, h2, e]
  simp
theorem getD_wnext {k x : Nat} {b1 bits b2 : List Bool} {acc : List Nat} (h : WAt k b1 acc bits) (hl : acc.length < k + 1) (hf : field 64 bits = ⟨0, x, b2⟩) (hx : acc ≠ [] → acc.getLastD 0 < x) : WAt k b1 (acc ++ [x]) b2 := by
  obtain ⟨j, h1, h2, h3⟩ := wat_step h hl
  refine ⟨j, by rw [List.length_append, List.length_singleton]; omega, ?_, asc_snoc h3 hx⟩
  rw [h2, wordsD, hf, if_neg (by simp), if_neg (fun e => by have := hx e.1; have := e.2; simp only at this; omega)]
theorem getD_wdone {n k : Nat} {b1 bits : List Bool} {acc : List Nat} (h : WAt k b1 acc bits) (hl : ¬ acc.length < k + 1) : acc.length = k + 1 ∧ Asc acc ∧ decWords k n b1 = decIx acc n bits := by
  obtain ⟨j, h1, h2, h3⟩ := h
  have hj : j = 0 := by omega
  subst hj
  refine ⟨by omega, h3, ?_⟩
  rw [decWords, h2, wordsD]
  simp
theorem iat_start (m n : Nat) (b2 : List Bool) : IAt m n b2 [] b2 := ⟨n, by simp, rfl, fun i hi => by cases hi⟩
theorem iat_step {m n : Nat} {b2 : List Bool} {is : List Nat} {bits : List Bool} (h : IAt m n b2 is bits) (hl : is.length < n) : ∃ j, is.length + (j + 1) = n ∧ indsD m n [] b2 = indsD m (j + 1) is bits ∧ ∀ i ∈ is, i < m := by
  obtain ⟨j, h1, h2, h3⟩ := h
  obtain ⟨i, rfl⟩ : ∃ i, j = i + 1 := ⟨j - 1, by omega⟩
  exact ⟨i, h1, h2, h3⟩
theorem getD_ieof {n : Nat} {d is : List Nat} {b2 bits : List Bool} (h : IAt d.length n b2 is bits) (hl : is.length < n) (hs : bits.length < widthD d.length) : decIx d n b2 = ⟨3, [], bits⟩ := by
  obtain ⟨j, h1, h2, h3⟩ := iat_step h hl
  have e : indsD d.length (j + 1) is bits = ⟨3, [], bits⟩ := by rw [indsD, field_short hs]; simp
  rw [decIx, h2, e]
  simp
theorem getD_ibad {n x : Nat} {d is : List Nat} {b2 bits b3 : List Bool} (h : IAt d.length n b2 is bits) (hl : is.length < n) (hf : field (widthD d.length) bits = ⟨0, x, b3⟩) (hx : d.length ≤ x) : decIx d n b2 = ⟨8, [], b3⟩ := by
  obtain ⟨j, h1, h2, h3⟩ := iat_step h hl
  have e : indsD d.length (j + 1) is bits = ⟨8, [], b3⟩ := by rw [indsD, hf, if_neg (by simp), if_pos hx]
  rw [decIx, h2, e]
  simp
theorem getD_inext {m n x : Nat} {is : List Nat} {b2 bits b3 : List Bool} (h : IAt m n b2 is bits) (hl : is.length < n) (hf : field (widthD m) bits = ⟨0, x, b3⟩) (hx : x < m) : IAt m n b2 (is ++ [x]) b3 := by
  obtain ⟨j, h1, h2, h3⟩ := iat_step h hl
  refine ⟨j, by rw [List.length_append, List.length_singleton]; omega, ?_, fun i hi => ?_⟩
  · rw [h2, indsD, hf, if_neg (by simp), if_neg (by simp only; omega)]
  · rcases List.mem_append.1 hi with e | e
    · exact h3 i e
    · rw [List.mem_singleton] at e; omega
theorem getD_idone {n : Nat} {d is : List Nat} {b2 bits : List Bool} (h : IAt d.length n b2 is bits) (hl : ¬ is.length < n) : is.length = n ∧ (∀ i ∈ is, i < d.length) ∧ (indsD d.length n [] b2 = ⟨0, is, bits⟩) := by
  obtain ⟨j, h1, h2, h3⟩ := h
  have hj : j = 0 := by omega
  subst hj
  exact ⟨by omega, h3, by rw [h2, indsD]⟩
theorem getD_unused {n j : Nat} {d is : List Nat} {b2 bits : List Bool} (h : IAt d.length n b2 is bits) (hl : ¬ is.length < n) (hj : j < d.length) (hu : j ∉ is) : decIx d n b2 = ⟨8, [], bits⟩ := by
  obtain ⟨_, _, h3⟩ := getD_idone h hl
  have e : usedAll d.length is = false := by
    cases hb : usedAll d.length is with
    | false => rfl
    | true => exact absurd ((usedAll_iff _ _).1 hb j hj) hu
  rw [decIx, h3]
  simp [e]
theorem getD_used {n : Nat} {d is : List Nat} {b2 bits : List Bool} (h : IAt d.length n b2 is bits) (hl : ¬ is.length < n) (hu : ∀ j, j < d.length → j ∈ is) : decIx d n b2 = ⟨0, valsD d is, bits⟩ := by
  obtain ⟨_, _, h3⟩ := getD_idone h hl
  have e := (usedAll_iff _ _).2 hu
  rw [decIx, h3]
  simp [e]
theorem valsD_snoc (d is : List Nat) (x : Nat) : valsD d (is ++ [x]) = valsD d is ++ [d.getD x 0] := by simp [valsD]

theorem suf_wordsD (k : Nat) (acc : List Nat) (bs : List Bool) : Suf (wordsD k acc bs).r bs := by
  induction k generalizing acc bs with
  | zero => exact Suf.refl _
  | succ k ih =>
    have h1 := suf_field 64 bs
    rw [wordsD]
    split
    · exact h1
    · split
      · exact h1
      · exact (ih _ _).trans h1
theorem suf_indsD (k n : Nat) (acc : List Nat) (bs : List Bool) : Suf (indsD k n acc bs).r bs := by
  induction n generalizing acc bs with
  | zero => exact Suf.refl _
  | succ n ih =>
    have h1 := suf_field (widthD k) bs
    rw [indsD]
    split
    · exact h1
    · split
      · exact h1
      · exact (ih _ _).trans h1
theorem suf_decIx (d : List Nat) (n : Nat) (bs : List Bool) : Suf (decIx d n bs).r bs := by
  have h := suf_indsD d.length n [] bs
  rw [decIx]
  split
  · exact h
  · split
    · exact h
    · exact h
theorem suf_decD (n : Nat) (bs : List Bool) : Suf (decD n bs).r bs := by
  have h1 := suf_field 7 bs
  rw [decD]
  split
  · exact Suf.refl _
  · split
    · exact h1
    · have h2 := (suf_wordsD ((field 7 bs).x + 1) [] (field 7 bs).r).trans h1
      rw [decWords]
      split
      · exact h2
      · exact (suf_decIx _ _ _).trans h2
theorem decIx_nil (d : List Nat) (n : Nat) (bs : List Bool) (h : (decIx d n bs).e ≠ 0) : (decIx d n bs).x = [] := by
  revert h
  rw [decIx]
  split
  · intro _; rfl
  · split
    · intro _; rfl
    · intro h; exact absurd rfl h
theorem decD_nil (n : Nat) (bs : List Bool) (h : (decD n bs).e ≠ 0) : (decD n bs).x = [] := by
  revert h
  rw [decD]
  split
  · intro _; rfl
  · split
    · intro _; rfl
    · rw [decWords]
      split
      · intro _; rfl
      · exact decIx_nil _ _ _
end Go.Proofs.Ytpphgmgdmdehpaa
