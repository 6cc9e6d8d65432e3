/- Layer 7: runs, their encoding, and its reading, as functions on lists. No program in sight. -/
import Derived.Test.YtnjdjmfjkjpelaaCode
namespace Go.Proofs.Ytnjdjmfjkjpelaa

/-- A value is added to runs. -/
def addR (rs : List (Nat × Nat)) (x : Nat) : List (Nat × Nat) := match rs.getLast? with
  | some (v, c) => if v = x ∧ c < 128 then rs.dropLast ++ [(v, c + 1)] else rs ++ [(x, 1)]
  | none => rs ++ [(x, 1)]
def splitFrom (rs : List (Nat × Nat)) (l : List Nat) : List (Nat × Nat) := l.foldl addR rs
def splitR (l : List Nat) : List (Nat × Nat) := splitFrom [] l
def joinR (rs : List (Nat × Nat)) : List Nat := rs.flatMap fun r => List.replicate r.2 r.1
def encRun (r : Nat × Nat) : List Bool := fieldBits r.1 64 ++ fieldBits (r.2 - 1) 7
def encR (l : List Nat) : List Bool := (splitR l).flatMap encRun

theorem splitFrom_append (rs : List (Nat × Nat)) (a b : List Nat) : splitFrom rs (a ++ b) = splitFrom (splitFrom rs a) b := by simp [splitFrom, List.foldl_append]
theorem splitR_push (l : List Nat) (x : Nat) : splitR (l ++ [x]) = addR (splitR l) x := splitFrom_append [] l [x]
theorem addR_nil (x : Nat) : addR [] x = [(x, 1)] := rfl
theorem addR_last (p : List (Nat × Nat)) (v c x : Nat) : addR (p ++ [(v, c)]) x = if v = x ∧ c < 128 then p ++ [(v, c + 1)] else p ++ [(v, c)] ++ [(x, 1)] := by
  simp [addR]
theorem cases_last (rs : List (Nat × Nat)) : rs = [] ∨ ∃ p v c, rs = p ++ [(v, c)] := by
  rcases List.eq_nil_or_concat rs with h | ⟨p, ⟨v, c⟩, h⟩
  · exact Or.inl h
  · exact Or.inr ⟨p, v, c, by simpa using h⟩
theorem joinR_append (a b : List (Nat × Nat)) : joinR (a ++ b) = joinR a ++ joinR b := by simp [joinR, List.flatMap_append]
theorem joinR_one (v c : Nat) : joinR [(v, c)] = List.replicate c v := by simp [joinR]
theorem joinR_add (rs : List (Nat × Nat)) (x : Nat) : joinR (addR rs x) = joinR rs ++ [x] := by
  rcases cases_last rs with rfl | ⟨p, v, c, rfl⟩
  · rfl
  · rw [addR_last]
    split
    · next h =>
      obtain ⟨rfl, _⟩ := h
      rw [joinR_append, joinR_append, joinR_one, joinR_one, List.replicate_succ', List.append_assoc]
    · rw [joinR_append _ [(x, 1)], joinR_one]; rfl
theorem joinR_splitFrom (rs : List (Nat × Nat)) (l : List Nat) : joinR (splitFrom rs l) = joinR rs ++ l := by
  induction l generalizing rs with
  | nil => simp [splitFrom]
  | cons x l ih =>
    show joinR (splitFrom (addR rs x) l) = _
    rw [ih, joinR_add, List.append_assoc]; rfl
theorem joinR_splitR (l : List Nat) : joinR (splitR l) = l := by rw [splitR, joinR_splitFrom]; rfl

/-- Whether a value begins a new run behind p. -/
def okR (p : Option (Nat × Nat)) (v : Nat) : Prop := ∀ pv pc, p = some (pv, pc) → ¬ (pv = v ∧ pc < 128)
def runOk (r : Nat × Nat) : Prop := 1 ≤ r.2 ∧ r.2 ≤ 128 ∧ r.1 < 18446744073709551616
def Chain : Option (Nat × Nat) → List (Nat × Nat) → Prop
  | _, [] => True
  | p, r :: rs => runOk r ∧ okR p r.1 ∧ Chain (some r) rs
def lastR (p : Option (Nat × Nat)) (rs : List (Nat × Nat)) : Option (Nat × Nat) := match rs.getLast? with
  | some r => some r
  | none => p
theorem lastR_snoc (p : Option (Nat × Nat)) (rs : List (Nat × Nat)) (r : Nat × Nat) : lastR p (rs ++ [r]) = some r := by simp [lastR]
theorem lastR_cons (p : Option (Nat × Nat)) (r : Nat × Nat) (rs : List (Nat × Nat)) : lastR p (r :: rs) = lastR (some r) rs := by
  cases rs with
  | nil => rfl
  | cons s rs => simp [lastR, List.getLast?_cons]
theorem chain_snoc {p : Option (Nat × Nat)} {rs : List (Nat × Nat)} {r : Nat × Nat} : Chain p (rs ++ [r]) ↔ Chain p rs ∧ runOk r ∧ okR (lastR p rs) r.1 := by
  induction rs generalizing p with
  | nil => simp [Chain, lastR]
  | cons s rs ih => rw [List.cons_append, Chain, Chain, ih, lastR_cons, and_assoc, and_assoc]
theorem chain_all {p : Option (Nat × Nat)} {rs : List (Nat × Nat)} (h : Chain p rs) : ∀ r ∈ rs, runOk r := by
  induction rs generalizing p with
  | nil => intro r hr; cases hr
  | cons s rs ih =>
    intro r hr
    rcases List.mem_cons.1 hr with rfl | hr
    · exact h.1
    · exact ih h.2.2 r hr
theorem chain_add {rs : List (Nat × Nat)} (h : Chain none rs) {x : Nat} (hx : x < 18446744073709551616) : Chain none (addR rs x) := by
  rcases cases_last rs with rfl | ⟨p, v, c, rfl⟩
  · exact ⟨⟨Nat.le_refl _, by omega, hx⟩, (fun _ _ e => by cases e), trivial⟩
  · rw [addR_last]
    obtain ⟨h1, h2, h3⟩ := chain_snoc.1 h
    split
    · next hh => exact chain_snoc.2 ⟨h1, ⟨by omega, by show c + 1 ≤ 128; omega, h2.2.2⟩, h3⟩
    · next hh =>
      refine chain_snoc.2 ⟨h, ⟨Nat.le_refl _, by omega, hx⟩, ?_⟩
      rw [lastR_snoc]
      intro pv pc e
      cases e
      exact hh
theorem chain_splitFrom {rs : List (Nat × Nat)} (h : Chain none rs) {l : List Nat} (hl : ∀ x ∈ l, x < 18446744073709551616) : Chain none (splitFrom rs l) := by
  induction l generalizing rs with
  | nil => exact h
  | cons x l ih => exact ih (chain_add h (hl x (by simp))) (fun y hy => hl y (by simp [hy]))
theorem chain_splitR {l : List Nat} (hl : ∀ x ∈ l, x < 18446744073709551616) : Chain none (splitR l) := chain_splitFrom (rs := []) trivial hl

/-- A whole run added to runs that do not end in it. -/
theorem split_run (rs : List (Nat × Nat)) (x k : Nat) (hk : k < 128) (h : okR (lastR none rs) x) : splitFrom rs (List.replicate (k + 1) x) = rs ++ [(x, k + 1)] := by
  induction k with
  | zero =>
    show addR rs x = _
    rcases cases_last rs with rfl | ⟨p, v, c, rfl⟩
    · rfl
    · rw [addR_last, if_neg]
      intro hh
      exact h v c (lastR_snoc _ _ _) hh
  | succ k ih =>
    rw [List.replicate_succ', splitFrom_append, ih (by omega)]
    show addR (rs ++ [(x, k + 1)]) x = _
    rw [addR_last, if_pos ⟨rfl, by omega⟩]

/- Reading. -/
def cntOf (p : Option (Nat × Nat)) : Nat := match p with
  | some (_, c) => c
  | none => 128
/-- The runs that stand for the rest of n values; acc: the values so far; cnt: the count of the run before. -/
def decRF : Nat → Nat → List Nat → Nat → List Bool → Res (List Nat)
  | 0, _, acc, _, bs => ⟨0, acc, bs⟩
  | f + 1, n, acc, cnt, bs =>
    if n ≤ acc.length then ⟨0, acc, bs⟩ else
    let a := field 64 bs
    if a.e ≠ 0 then ⟨a.e, [], a.r⟩ else
    let c := field 7 a.r
    if c.e ≠ 0 then ⟨c.e, [], c.r⟩ else
    if n < acc.length + c.x + 1 ∨ (acc.getLast? = some a.x ∧ cnt < 128) then ⟨8, [], c.r⟩ else
    decRF f n (acc ++ List.replicate (c.x + 1) a.x) (c.x + 1) c.r
def decR (n : Nat) (bs : List Bool) : Res (List Nat) := decRF n n [] 128 bs

theorem decRF_done {f n : Nat} {acc : List Nat} {cnt : Nat} {bs : List Bool} (h : n ≤ acc.length) : decRF f n acc cnt bs = ⟨0, acc, bs⟩ := by
  cases f with
  | zero => rfl
  | succ f => rw [decRF, if_pos h]
/-- The last value so far is that of the last run. -/
def LastOk (acc : List Nat) (cnt : Nat) (rs : List (Nat × Nat)) : Prop := acc = joinR rs ∧ (∀ r, lastR none rs = some r → acc.getLast? = some r.1 ∧ cnt = r.2) ∧ (rs = [] → cnt = 128)
theorem lastOk_nil : LastOk [] 128 [] := ⟨rfl, (fun _ e => by cases e), fun _ => rfl⟩
theorem lastOk_snoc {acc : List Nat} {cnt : Nat} {rs : List (Nat × Nat)} (h : LastOk acc cnt rs) (x k : Nat) : LastOk (acc ++ List.replicate (k + 1) x) (k + 1) (rs ++ [(x, k + 1)]) := by
  refine ⟨by rw [joinR_append, joinR_one, ← h.1], fun r e => ?_, fun e => by simp at e⟩
  rw [lastR_snoc] at e
  cases e
  refine ⟨?_, rfl⟩
  rw [List.replicate_succ', ← List.append_assoc]; simp
theorem ok_of_last {acc : List Nat} {cnt : Nat} {rs : List (Nat × Nat)} (h : LastOk acc cnt rs) {x : Nat} : okR (lastR none rs) x ↔ ¬ (acc.getLast? = some x ∧ cnt < 128) := by
  constructor
  · intro ho ⟨h1, h2⟩
    rcases cases_last rs with rfl | ⟨p, v, c, rfl⟩
    · rw [h.1] at h1; cases h1
    · obtain ⟨e1, e2⟩ := h.2.1 (v, c) (lastR_snoc _ _ _)
      rw [e1] at h1
      exact ho v c (lastR_snoc _ _ _) ⟨Option.some.inj h1, by rw [← show cnt = c from e2]; exact h2⟩
  · intro hn pv pc e hh
    obtain ⟨e1, e2⟩ := h.2.1 (pv, pc) e
    exact hn ⟨by rw [e1, hh.1], by rw [e2]; exact hh.2⟩

theorem decRF_back (rs : List (Nat × Nat)) (rest : List Bool) : ∀ (f n : Nat) (acc : List Nat) (cnt : Nat) (ps : List (Nat × Nat)), LastOk acc cnt ps → Chain (lastR none ps) rs → n = acc.length + (joinR rs).length → n - acc.length ≤ f →
    decRF f n acc cnt (rs.flatMap encRun ++ rest) = ⟨0, acc ++ joinR rs, rest⟩ := by
  induction rs with
  | nil =>
    intro f n acc cnt ps _ _ hn _
    rw [decRF_done (by simp [joinR] at hn; omega)]
    simp [joinR]
  | cons r rs ih =>
    intro f n acc cnt ps hl hc hn hf
    obtain ⟨v, c⟩ := r
    obtain ⟨⟨h1, h2, h3⟩, hok, hch⟩ := hc
    simp only at h1 h2 h3 hok
    obtain ⟨k, rfl⟩ : ∃ k, c = k + 1 := ⟨c - 1, by omega⟩
    have hj : joinR ((v, k + 1) :: rs) = List.replicate (k + 1) v ++ joinR rs := by simp [joinR]
    rw [hj, List.length_append, List.length_replicate] at hn
    obtain ⟨f, rfl⟩ : ∃ g, f = g + 1 := ⟨f - 1, by omega⟩
    have e1 := field_back v 64 (fieldBits k 7 ++ (rs.flatMap encRun ++ rest)) (by simpa using h3)
    have e2 := field_back k 7 (rs.flatMap encRun ++ rest) (by omega)
    rw [List.flatMap_cons, encRun]
    simp only [Nat.add_sub_cancel, List.append_assoc]
    rw [decRF, if_neg (by omega)]
    simp only [e1, e2, ne_eq, not_true_eq_false, if_false]
    rw [if_neg, ih f n _ _ (ps ++ [(v, k + 1)]) (lastOk_snoc hl v k) (by rw [lastR_snoc]; exact hch) (by rw [List.length_append, List.length_replicate]; omega) (by rw [List.length_append, List.length_replicate]; omega), hj, List.append_assoc]
    intro hh
    rcases hh with hh | hh
    · omega
    · exact (ok_of_last hl).1 hok hh
theorem decR_back (l : List Nat) (hl : ∀ x ∈ l, x < 18446744073709551616) (rest : List Bool) : decR l.length (encR l ++ rest) = ⟨0, l, rest⟩ := by
  have h := decRF_back (splitR l) rest l.length l.length [] 128 [] lastOk_nil (chain_splitR hl) (by rw [joinR_splitR]; simp) (by simp)
  rw [joinR_splitR] at h
  simpa [decR, encR] using h

theorem decRF_inv : ∀ (f n : Nat) (acc : List Nat) (cnt : Nat) (ps : List (Nat × Nat)) (bs : List Bool), LastOk acc cnt ps → splitR acc = ps → (∀ x ∈ acc, x < 18446744073709551616) → acc.length ≤ n → n - acc.length ≤ f → (decRF f n acc cnt bs).e = 0 →
    ∃ rs, splitR (decRF f n acc cnt bs).x = ps ++ rs ∧ bs = rs.flatMap encRun ++ (decRF f n acc cnt bs).r ∧ (decRF f n acc cnt bs).x.length = n ∧ ∀ x ∈ (decRF f n acc cnt bs).x, x < 18446744073709551616 := by
  intro f
  induction f with
  | zero =>
    intro n acc cnt ps bs hl hs hi hn hf _
    exact ⟨[], by simp [decRF, hs], by simp [decRF], by show acc.length = n; omega, hi⟩
  | succ f ih =>
    intro n acc cnt ps bs hl hs hi hn hf h
    rw [decRF] at h ⊢
    by_cases hd : n ≤ acc.length
    · rw [if_pos hd]
      exact ⟨[], by simp [hs], by simp, by show acc.length = n; omega, hi⟩
    · rw [if_neg hd] at h ⊢
      simp only at h ⊢
      by_cases h1 : (field 64 bs).e ≠ 0
      · rw [if_pos h1] at h; exact absurd h h1
      · rw [if_neg h1] at h ⊢
        by_cases h2 : (field 7 (field 64 bs).r).e ≠ 0
        · rw [if_pos h2] at h; exact absurd h h2
        · rw [if_neg h2] at h ⊢
          split at h
          · cases h
          · next h3 =>
            rw [if_neg h3]
            obtain ⟨a1, a2⟩ := field_inv (Decidable.not_not.1 h1)
            obtain ⟨b1, b2⟩ := field_inv (Decidable.not_not.1 h2)
            generalize field 64 bs = F1 at *
            generalize field 7 F1.r = F2 at *
            have h3a : acc.length + F2.x + 1 ≤ n := by
              by_cases e : n < acc.length + F2.x + 1
              · exact absurd (Or.inl e) h3
              · omega
            have h3b : ¬ (acc.getLast? = some F1.x ∧ cnt < 128) := fun e => h3 (Or.inr e)
            have hsp : splitR (acc ++ List.replicate (F2.x + 1) F1.x) = ps ++ [(F1.x, F2.x + 1)] := by
              rw [splitR, splitFrom_append, show splitFrom [] acc = ps from hs]
              exact split_run ps F1.x F2.x (by omega) ((ok_of_last hl).2 h3b)
            have hi2 : ∀ x ∈ acc ++ List.replicate (F2.x + 1) F1.x, x < 18446744073709551616 := fun x hx => by
              rcases List.mem_append.1 hx with hx | hx
              · exact hi x hx
              · rw [List.eq_of_mem_replicate hx]; simpa using a2
            obtain ⟨rs, r1, r2, r3, r4⟩ := ih n _ _ (ps ++ [(F1.x, F2.x + 1)]) F2.r (lastOk_snoc hl F1.x F2.x) hsp hi2 (by rw [List.length_append, List.length_replicate]; omega) (by rw [List.length_append, List.length_replicate]; omega) h
            refine ⟨(F1.x, F2.x + 1) :: rs, by rw [r1, List.append_assoc]; rfl, ?_, r3, r4⟩
            rw [List.flatMap_cons, encRun]
            simp only [Nat.add_sub_cancel, List.append_assoc]
            rw [← r2, ← b1, ← a1]
theorem decR_inv (n : Nat) (bs : List Bool) (h : (decR n bs).e = 0) : bs = encR (decR n bs).x ++ (decR n bs).r ∧ (decR n bs).x.length = n ∧ ∀ x ∈ (decR n bs).x, x < 18446744073709551616 := by
  obtain ⟨rs, r1, r2, r3, r4⟩ := decRF_inv n n [] 128 [] bs lastOk_nil rfl (by simp) (Nat.zero_le _) (by simp) h
  refine ⟨?_, r3, r4⟩
  rw [encR, show splitR (decR n bs).x = [] ++ rs from r1]
  exact r2
theorem decRF_nil : ∀ (f n : Nat) (acc : List Nat) (cnt : Nat) (bs : List Bool), (decRF f n acc cnt bs).e ≠ 0 → (decRF f n acc cnt bs).x = [] := by
  intro f
  induction f with
  | zero => intro n acc cnt bs h; exact absurd rfl h
  | succ f ih =>
    intro n acc cnt bs h
    rw [decRF] at h ⊢
    by_cases hd : n ≤ acc.length
    · rw [if_pos hd] at h; exact absurd rfl h
    · rw [if_neg hd] at h ⊢
      simp only at h ⊢
      split
      · rfl
      · next h1 =>
        rw [if_neg h1] at h
        split
        · rfl
        · next h2 =>
          rw [if_neg h2] at h
          split
          · rfl
          · next h3 => rw [if_neg h3] at h; exact ih _ _ _ _ h
theorem decR_nil (n : Nat) (bs : List Bool) (h : (decR n bs).e ≠ 0) : (decR n bs).x = [] := decRF_nil n n [] 128 bs h
theorem suf_decRF : ∀ (f n : Nat) (acc : List Nat) (cnt : Nat) (bs : List Bool), Suf (decRF f n acc cnt bs).r bs := by
  intro f
  induction f with
  | zero => intro n acc cnt bs; exact Suf.refl _
  | succ f ih =>
    intro n acc cnt bs
    have h1 := suf_field 64 bs
    have h2 := (suf_field 7 (field 64 bs).r).trans h1
    rw [decRF]
    split
    · exact Suf.refl _
    · simp only
      split
      · exact h1
      · split
        · exact h2
        · split
          · exact h2
          · exact (ih _ _ _ _).trans h2
theorem suf_decR (n : Nat) (bs : List Bool) : Suf (decR n bs).r bs := suf_decRF n n [] 128 bs

theorem encRun_len (r : Nat × Nat) : (encRun r).length = 71 := by simp [encRun, fieldBits_length]
theorem encRuns_len (rs : List (Nat × Nat)) : (rs.flatMap encRun).length = 71 * rs.length := by
  induction rs with
  | nil => rfl
  | cons r rs ih => rw [List.flatMap_cons, List.length_append, encRun_len, ih, List.length_cons]; omega
theorem addR_len (rs : List (Nat × Nat)) (x : Nat) : (addR rs x).length ≤ rs.length + 1 := by
  rcases cases_last rs with rfl | ⟨p, v, c, rfl⟩
  · simp [addR_nil]
  · rw [addR_last]; split <;> simp
theorem splitFrom_len (rs : List (Nat × Nat)) (l : List Nat) : (splitFrom rs l).length ≤ rs.length + l.length := by
  induction l generalizing rs with
  | nil => simp [splitFrom]
  | cons x l ih =>
    have h := ih (addR rs x)
    have h2 := addR_len rs x
    show (splitFrom (addR rs x) l).length ≤ _
    rw [List.length_cons]; omega
theorem splitR_len (l : List Nat) : (splitR l).length ≤ l.length := by have := splitFrom_len [] l; simpa [splitR] using this
theorem encR_length (l : List Nat) : (encR l).length = 71 * (splitR l).length := encRuns_len _
theorem encR_len (l : List Nat) : (encR l).length ≤ 71 * l.length := by rw [encR_length]; have := splitR_len l; omega
end Go.Proofs.Ytnjdjmfjkjpelaa
