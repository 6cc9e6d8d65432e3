/- Layer 6: lists of values: what is written is read back, and the other way round; lengths. No program in sight. -/
import Derived.Test.YtnhopiggknfimaaDoorXor
namespace Go.Proofs.YtnhopiggknfimaaDoor

theorem xor_lt64 {a b : Nat} (ha : a < 18446744073709551616) (hb : b < 18446744073709551616) : a ^^^ b < 18446744073709551616 := Nat.xor_lt_two_pow (n := 64) ha hb
theorem xor_back (a b : Nat) : b ^^^ (a ^^^ b) = a := by rw [Nat.xor_comm a b, ← Nat.xor_assoc, Nat.xor_self, Nat.zero_xor]
theorem xor_back2 (a b : Nat) : (b ^^^ a) ^^^ b = a := by rw [Nat.xor_comm b a, Nat.xor_assoc, Nat.xor_self, Nat.xor_zero]
theorem decFromV_back (l : List Nat) (hl : ∀ v ∈ l, in64u v) (win : Option (Nat × Nat)) (ho : okW win) (last : Nat) (hla : in64u last) (rest : List Bool) : decFromV l.length win last (encFromV win last l ++ rest) = ⟨0, l, rest⟩ := by
  induction l generalizing win last with
  | nil => rfl
  | cons v l ih =>
    have hv : in64u v := hl v (by simp)
    have hx : v ^^^ last < 18446744073709551616 := xor_lt64 hv hla
    have hd : decW win (encFromV win last (v :: l) ++ rest) = ⟨0, (v ^^^ last, nextW win (v ^^^ last)), encFromV (nextW win (v ^^^ last)) v l ++ rest⟩ := by
      rw [encFromV, List.append_assoc]; exact decW_back ho hx _
    rw [List.length_cons, decFromV, hd]
    simp only [xor_back, ih (fun v hv => hl v (by simp [hv])) _ (okW_next ho hx) v hv, ne_eq, not_true_eq_false, if_false]
theorem decFromV_inv (n : Nat) (win : Option (Nat × Nat)) (ho : okW win) (last : Nat) (hla : in64u last) (bs : List Bool) (h : (decFromV n win last bs).e = 0) :
    bs = encFromV win last (decFromV n win last bs).x ++ (decFromV n win last bs).r ∧ (decFromV n win last bs).x.length = n ∧ ∀ v ∈ (decFromV n win last bs).x, in64u v := by
  induction n generalizing win last bs with
  | zero => exact ⟨rfl, rfl, by simp [decFromV]⟩
  | succ n ih =>
    rw [decFromV] at h ⊢
    simp only at h ⊢
    split at h
    · next hn => exact absurd h hn
    · next h1 =>
      rw [if_neg h1]
      obtain ⟨a1, a2, a3⟩ := decW_inv ho (Decidable.not_not.1 h1)
      generalize decW win bs = y at *
      split at h
      · next hn => exact absurd h hn
      · next h2 =>
        rw [if_neg h2]
        have hv : in64u (last ^^^ y.x.1) := xor_lt64 hla a1
        obtain ⟨b1, b2, b3⟩ := ih _ (by rw [a2]; exact okW_next ho a1) _ hv _ (Decidable.not_not.1 h2)
        refine ⟨?_, by simp [b2], fun v hv' => ?_⟩
        · show bs = encFromV win last (_ :: _) ++ _
          rw [encFromV, xor_back2, ← a2, List.append_assoc, ← b1]
          exact a3
        · rcases List.mem_cons.1 hv' with rfl | h
          · exact hv
          · exact b3 v h
theorem decV_back (l : List Nat) (hl : ∀ v ∈ l, in64u v) (rest : List Bool) : decV l.length (encV l ++ rest) = ⟨0, l, rest⟩ := by
  match l, hl with
  | [], _ => rfl
  | v :: l, hl =>
    have hv : in64u v := hl v (by simp)
    have hf : field 64 (encV (v :: l) ++ rest) = ⟨0, v, encFromV none v l ++ rest⟩ := by
      rw [encV, List.append_assoc]; exact field_back _ _ _ hv
    rw [List.length_cons, decV, hf]
    simp only [decFromV_back l (fun v hv => hl v (by simp [hv])) none (fun _ _ e => by cases e) v hv, ne_eq, not_true_eq_false, if_false]
theorem decV_inv (n : Nat) (bs : List Bool) (h : (decV n bs).e = 0) : bs = encV (decV n bs).x ++ (decV n bs).r ∧ (decV n bs).x.length = n ∧ ∀ v ∈ (decV n bs).x, in64u v := by
  match n with
  | 0 => exact ⟨rfl, rfl, by simp [decV]⟩
  | n + 1 =>
    rw [decV] at h ⊢
    split at h
    · next hn => exact absurd h hn
    · next h1 =>
      rw [if_neg h1]
      obtain ⟨a1, a2⟩ := field_inv (Decidable.not_not.1 h1)
      generalize field 64 bs = y at *
      simp only at h ⊢
      split at h
      · next hn => exact absurd h hn
      · next h2 =>
        rw [if_neg h2]
        have hv : in64u y.x := a2
        obtain ⟨b1, b2, b3⟩ := decFromV_inv _ _ (fun _ _ e => by cases e) _ hv _ (Decidable.not_not.1 h2)
        refine ⟨?_, by simp [b2], fun v hv' => ?_⟩
        · show bs = encV (_ :: _) ++ _
          rw [encV, List.append_assoc, ← b1]
          exact a1
        · rcases List.mem_cons.1 hv' with rfl | h
          · exact hv
          · exact b3 v h
theorem decV_nil (n : Nat) (bs : List Bool) (h : (decV n bs).e ≠ 0) : (decV n bs).x = [] := by
  match n with
  | 0 => exact absurd rfl h
  | n + 1 =>
    rw [decV] at h ⊢
    split
    · rfl
    · next h1 =>
      rw [if_neg h1] at h
      simp only at h ⊢
      split
      · rfl
      · next h2 => rw [if_neg h2] at h; exact absurd rfl h

theorem suf_decOld (L t : Nat) (bs : List Bool) : Suf (decOld L t bs).r bs := by
  have h := suf_field (64 - L - t) bs
  simp only [decOld]
  split
  · exact h
  · split
    · exact h
    · exact h
theorem suf_decNew (win : Option (Nat × Nat)) (bs : List Bool) : Suf (decNew win bs).r bs := by
  have h1 := suf_field 6 bs
  have h2 := (suf_field 6 (field 6 bs).r).trans h1
  have h3 := (suf_field (64 - (field 6 bs).x - (63 - (field 6 bs).x - (field 6 (field 6 bs).r).x)) (field 6 (field 6 bs).r).r).trans h2
  simp only [decNew]
  split
  · exact h1
  · split
    · exact h2
    · split
      · exact h2
      · split
        · exact h3
        · split
          · exact h3
          · split
            · exact h3
            · exact h3
theorem suf_decW (win : Option (Nat × Nat)) (bs : List Bool) : Suf (decW win bs).r bs := by
  match bs with
  | [] => exact Suf.refl _
  | false :: bs => simp only [decW]; exact (Suf.refl _).cons _
  | [true] => exact ⟨[true], rfl⟩
  | true :: false :: bs =>
    cases win with
    | none => simp only [decW]; exact ((Suf.refl _).cons _).cons _
    | some w => obtain ⟨L, t⟩ := w; rw [decW_old]; exact ((suf_decOld L t bs).cons _).cons _
  | true :: true :: bs => rw [decW_new]; exact ((suf_decNew win bs).cons _).cons _
theorem suf_decFromV (n : Nat) (win : Option (Nat × Nat)) (last : Nat) (bs : List Bool) : Suf (decFromV n win last bs).r bs := by
  induction n generalizing win last bs with
  | zero => exact Suf.refl _
  | succ n ih =>
    have h1 := suf_decW win bs
    rw [decFromV]
    simp only
    split
    · exact h1
    · split
      · exact (ih _ _ _).trans h1
      · exact (ih _ _ _).trans h1
theorem suf_decV (n : Nat) (bs : List Bool) : Suf (decV n bs).r bs := by
  match n with
  | 0 => exact Suf.refl _
  | n + 1 =>
    have h1 := suf_field 64 bs
    rw [decV]
    split
    · exact h1
    · simp only
      split
      · exact (suf_decFromV _ _ _ _).trans h1
      · exact (suf_decFromV _ _ _ _).trans h1

theorem freshW_len (x : Nat) : (freshW x).length ≤ 78 := by
  rw [freshW]; simp only [List.length_append, fieldBits_length, List.length_cons, List.length_nil]; omega
theorem encW_len (win : Option (Nat × Nat)) (x : Nat) : (encW win x).length ≤ 78 := by
  unfold encW
  split
  · simp
  · split
    · split
      · simp only [List.length_append, fieldBits_length, List.length_cons, List.length_nil]; omega
      · exact freshW_len x
    · exact freshW_len x
theorem encFromV_len (win : Option (Nat × Nat)) (last : Nat) (l : List Nat) : (encFromV win last l).length ≤ 78 * l.length := by
  induction l generalizing win last with
  | nil => exact Nat.le_refl _
  | cons v l ih =>
    rw [encFromV, List.length_append, List.length_cons]
    have := encW_len win (v ^^^ last); have := ih (nextW win (v ^^^ last)) v; omega
theorem encV_len (l : List Nat) : (encV l).length ≤ 78 * l.length := by
  match l with
  | [] => exact Nat.le_refl _
  | v :: l =>
    rw [encV, List.length_append, fieldBits_length, List.length_cons]
    have := encFromV_len none v l; omega
/-- More values take no fewer bits. -/
theorem encFromV_mono (win : Option (Nat × Nat)) (last : Nat) (l k : List Nat) : (encFromV win last l).length ≤ (encFromV win last (l ++ k)).length := by
  induction l generalizing win last with
  | nil => exact Nat.zero_le _
  | cons v l ih =>
    rw [List.cons_append, encFromV, encFromV, List.length_append, List.length_append]
    have := ih (nextW win (v ^^^ last)) v; omega
theorem encV_mono (l k : List Nat) : (encV l).length ≤ (encV (l ++ k)).length := by
  match l with
  | [] => exact Nat.zero_le _
  | v :: l =>
    rw [List.cons_append, encV, encV, List.length_append, List.length_append]
    have := encFromV_mono none v l k; omega
/-- A value that is repeated takes one bit. -/
theorem encFromV_same (win : Option (Nat × Nat)) (x n : Nat) : (encFromV win x (List.replicate n x)).length = n := by
  induction n generalizing win with
  | zero => rfl
  | succ n ih =>
    rw [List.replicate_succ, encFromV, Nat.xor_self, List.length_append]
    have h1 : encW win 0 = [false] := by unfold encW; rw [if_pos rfl]
    have h2 : nextW win 0 = win := by rw [nextW, if_pos rfl]
    rw [h1, h2, ih]
    simp [Nat.add_comm]
theorem encV_same (x n : Nat) (hn : 0 < n) : (encV (List.replicate n x)).length = 63 + n := by
  obtain ⟨m, rfl⟩ : ∃ m, n = m + 1 := ⟨n - 1, by omega⟩
  rw [List.replicate_succ, encV, List.length_append, fieldBits_length, encFromV_same]; omega
theorem xor_pair (a b c : Nat) : (a ^^^ c) ^^^ (b ^^^ c) = a ^^^ b := by
  rw [Nat.xor_comm b c, Nat.xor_assoc, ← Nat.xor_assoc c c b, Nat.xor_self, Nat.zero_xor]
theorem encFromV_mask (c : Nat) (win : Option (Nat × Nat)) (last : Nat) (l : List Nat) : encFromV win (last ^^^ c) (l.map fun v => v ^^^ c) = encFromV win last l := by
  induction l generalizing win last with
  | nil => rfl
  | cons v l ih => rw [List.map_cons, encFromV, encFromV, xor_pair, ih]
theorem encV_mask (c v : Nat) (l : List Nat) : encV ((v :: l).map fun v => v ^^^ c) = fieldBits (v ^^^ c) 64 ++ encFromV none v l := by
  rw [List.map_cons, encV, encFromV_mask]
end Go.Proofs.YtnhopiggknfimaaDoor
