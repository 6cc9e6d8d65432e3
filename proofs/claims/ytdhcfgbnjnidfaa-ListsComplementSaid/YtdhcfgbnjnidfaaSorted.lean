/- Lists in strictly ascending order, whatever the order: insertion, the sorted list of some elements. No program in sight. -/
namespace Go.Proofs.Ytdhcfgbnjnidfaa

section
variable {α : Type}

/-- A strict order. -/
structure LtPre (lt : α → α → Bool) : Prop where
  irr : ∀ a, lt a a = false
  tr : ∀ a b c, lt a b = true → lt b c = true → lt a c = true
/-- A strict order that is total. -/
structure LtOk (lt : α → α → Bool) : Prop extends LtPre lt where
  tot : ∀ a b, lt a b = false → lt b a = false → a = b

def AscB (lt : α → α → Bool) (l : List α) : Prop := l.Pairwise (fun a b => lt a b = true)
/-- An element put in its place, once. -/
def insB (lt : α → α → Bool) (x : α) : List α → List α
  | [] => [x]
  | y :: l => if lt y x then y :: insB lt x l else if lt x y then x :: y :: l else y :: l
def tabFrom (lt : α → α → Bool) (t l : List α) : List α := l.foldl (fun t x => insB lt x t) t
/-- The elements of a list, each once, in ascending order. -/
def tabB (lt : α → α → Bool) (l : List α) : List α := tabFrom lt [] l

variable {lt : α → α → Bool}
theorem LtPre.asy (h : LtPre lt) {a b : α} (hab : lt a b = true) : lt b a = false := by
  rcases Bool.eq_false_or_eq_true (lt b a) with hb | hb
  · have := h.tr a b a hab hb; rw [h.irr] at this; cases this
  · exact hb
theorem LtPre.ne (h : LtPre lt) {a b : α} (hab : lt a b = true) : a ≠ b := fun e => by subst e; rw [h.irr] at hab; cases hab
/-- Where a is not below b, b is not above. -/
theorem LtOk.le_tr (h : LtOk lt) {a b c : α} (hab : lt b a = false) (hbc : lt b c = true) : lt a c = true := by
  rcases Bool.eq_false_or_eq_true (lt a b) with e | e
  · exact h.tr a b c e hbc
  · rw [h.tot a b e hab]; exact hbc

theorem insB_mem (h : LtOk lt) (x z : α) (d : List α) : z ∈ insB lt x d ↔ z = x ∨ z ∈ d := by
  induction d with
  | nil => simp [insB]
  | cons y l ih =>
    rw [insB]
    split
    · rw [List.mem_cons, ih, List.mem_cons]
      constructor
      · rintro (h | h | h)
        · exact Or.inr (Or.inl h)
        · exact Or.inl h
        · exact Or.inr (Or.inr h)
      · rintro (h | h | h)
        · exact Or.inr (Or.inl h)
        · exact Or.inl h
        · exact Or.inr (Or.inr h)
    · next h1 =>
      split
      · simp
      · next h2 =>
        have e : y = x := h.tot y x (by simpa using h1) (by simpa using h2)
        subst e
        simp
theorem insB_asc (h : LtOk lt) (x : α) (d : List α) (ha : AscB lt d) : AscB lt (insB lt x d) := by
  induction d with
  | nil => exact List.pairwise_singleton _ _
  | cons y l ih =>
    obtain ⟨h1, h2⟩ := List.pairwise_cons.1 ha
    rw [insB]
    split
    · next hyx =>
      exact List.pairwise_cons.2 ⟨fun z hz => by
        rcases (insB_mem h x z l).1 hz with e | e
        · subst e; exact hyx
        · exact h1 z e, ih h2⟩
    · split
      · next hxy =>
        exact List.pairwise_cons.2 ⟨fun z hz => by
          rcases List.mem_cons.1 hz with e | e
          · subst e; exact hxy
          · exact h.tr _ _ _ hxy (h1 z e), ha⟩
      · exact ha
theorem insB_le (x : α) (d : List α) : (insB lt x d).length ≤ d.length + 1 := by
  induction d with
  | nil => exact Nat.le_refl _
  | cons y l ih =>
    rw [insB]
    split
    · rw [List.length_cons, List.length_cons]; omega
    · split
      · exact Nat.le_refl _
      · exact Nat.le_succ _
/-- An element that is there. -/
theorem insB_at (h : LtPre lt) (x : α) (a b : List α) (ha : ∀ z ∈ a, lt z x = true) : insB lt x (a ++ x :: b) = a ++ x :: b := by
  induction a with
  | nil => rw [List.nil_append, insB, if_neg (by rw [h.irr]; simp), if_neg (by rw [h.irr]; simp)]
  | cons y l ih =>
    rw [List.cons_append, insB, if_pos (ha y (by simp)), ih (fun z hz => ha z (by simp [hz]))]
/-- An element that is not there. -/
theorem insB_parts (h : LtPre lt) (x : α) (a b : List α) (ha : ∀ z ∈ a, lt z x = true) (hb : ∀ z, b.head? = some z → lt x z = true) : insB lt x (a ++ b) = a ++ x :: b := by
  induction a with
  | nil =>
    cases b with
    | nil => rfl
    | cons y l =>
      have := hb y rfl
      rw [List.nil_append, insB, if_neg (by rw [h.asy this]; simp), if_pos this, List.nil_append]
  | cons y l ih =>
    rw [List.cons_append, insB, if_pos (ha y (by simp)), ih (fun z hz => ha z (by simp [hz])), List.cons_append]
theorem insB_last (h : LtPre lt) (x : α) (d : List α) (hd : ∀ z ∈ d, lt z x = true) : insB lt x d = d ++ [x] := by
  have := insB_parts h x d [] hd (fun z e => by cases e)
  rwa [List.append_nil] at this

theorem tabFrom_asc (h : LtOk lt) (t l : List α) (ht : AscB lt t) : AscB lt (tabFrom lt t l) := by
  induction l generalizing t with
  | nil => exact ht
  | cons x l ih => exact ih (insB lt x t) (insB_asc h x t ht)
theorem tabFrom_mem (h : LtOk lt) (t l : List α) (z : α) : z ∈ tabFrom lt t l ↔ z ∈ t ∨ z ∈ l := by
  induction l generalizing t with
  | nil => simp [tabFrom]
  | cons x l ih =>
    show z ∈ tabFrom lt (insB lt x t) l ↔ _
    rw [ih (insB lt x t), insB_mem h, List.mem_cons]
    constructor
    · rintro ((h | h) | h)
      · exact Or.inr (Or.inl h)
      · exact Or.inl h
      · exact Or.inr (Or.inr h)
    · rintro (h | h | h)
      · exact Or.inl (Or.inr h)
      · exact Or.inl (Or.inl h)
      · exact Or.inr h
theorem tabFrom_len (t l : List α) : (tabFrom lt t l).length ≤ t.length + l.length := by
  induction l generalizing t with
  | nil => exact Nat.le_refl _
  | cons x l ih =>
    have h1 := ih (insB lt x t); have h2 := insB_le (lt := lt) x t
    show (tabFrom lt (insB lt x t) l).length ≤ _
    rw [List.length_cons]; omega
theorem tabFrom_snoc (t l : List α) (x : α) : tabFrom lt t (l ++ [x]) = insB lt x (tabFrom lt t l) := by rw [tabFrom, List.foldl_append]; rfl
theorem tabB_asc (h : LtOk lt) (l : List α) : AscB lt (tabB lt l) := tabFrom_asc h [] l List.Pairwise.nil
theorem tabB_mem (h : LtOk lt) (l : List α) (z : α) : z ∈ tabB lt l ↔ z ∈ l := by rw [tabB, tabFrom_mem h]; simp
theorem tabB_len (l : List α) : (tabB lt l).length ≤ l.length := by have := tabFrom_len (lt := lt) [] l; rw [List.length_nil] at this; rw [tabB]; omega
theorem tabB_snoc (l : List α) (x : α) : tabB lt (l ++ [x]) = insB lt x (tabB lt l) := tabFrom_snoc [] l x

theorem ascB_ext (h : LtPre lt) (a b : List α) (ha : AscB lt a) (hb : AscB lt b) (hm : ∀ x, x ∈ a ↔ x ∈ b) : a = b := by
  induction a generalizing b with
  | nil =>
    cases b with
    | nil => rfl
    | cons y l => exact absurd ((hm y).2 (List.mem_cons_self ..)) List.not_mem_nil
  | cons x a ih =>
    cases b with
    | nil => exact absurd ((hm x).1 (List.mem_cons_self ..)) List.not_mem_nil
    | cons y b =>
      obtain ⟨a1, a2⟩ := List.pairwise_cons.1 ha
      obtain ⟨b1, b2⟩ := List.pairwise_cons.1 hb
      have hxy : x = y := by
        rcases List.mem_cons.1 ((hm x).1 (List.mem_cons_self ..)) with e | e
        · exact e
        · rcases List.mem_cons.1 ((hm y).2 (List.mem_cons_self ..)) with f | f
          · exact f.symm
          · have p := b1 x e; have q := a1 y f
            rw [h.asy p] at q; cases q
      subst hxy
      rw [ih b a2 b2 (fun z => ?_)]
      constructor
      · intro hz
        rcases List.mem_cons.1 ((hm z).1 (List.mem_cons_of_mem _ hz)) with e | e
        · subst e; exact absurd rfl (h.ne (a1 z hz))
        · exact e
      · intro hz
        rcases List.mem_cons.1 ((hm z).2 (List.mem_cons_of_mem _ hz)) with e | e
        · subst e; exact absurd rfl (h.ne (b1 z hz))
        · exact e
theorem tabB_ext (h : LtOk lt) (a b : List α) (hm : ∀ x, x ∈ a ↔ x ∈ b) : tabB lt a = tabB lt b :=
  ascB_ext h.toLtPre _ _ (tabB_asc h a) (tabB_asc h b) (fun x => by rw [tabB_mem h, tabB_mem h]; exact hm x)
theorem tabB_of_asc (h : LtOk lt) (a : List α) (ha : AscB lt a) : tabB lt a = a := ascB_ext h.toLtPre _ _ (tabB_asc h a) ha (fun x => tabB_mem h a x)

/-- Ascending: neighbour by neighbour. -/
theorem ascB_snoc (h : LtPre lt) {l : List α} {x : α} : AscB lt (l ++ [x]) ↔ AscB lt l ∧ (∀ y, l.getLast? = some y → lt y x = true) := by
  constructor
  · intro ha
    obtain ⟨h1, _, h3⟩ := List.pairwise_append.1 ha
    exact ⟨h1, fun y hy => h3 y (List.mem_of_getLast? hy) x (by simp)⟩
  · rintro ⟨h1, h2⟩
    refine List.pairwise_append.2 ⟨h1, List.pairwise_singleton _ _, fun a ha b hb => ?_⟩
    simp only [List.mem_singleton] at hb
    subst hb
    rcases List.eq_nil_or_concat l with e | ⟨p, y, e⟩
    · subst e; cases ha
    · have hy : lt y b = true := h2 y (by rw [e]; simp)
      rw [List.concat_eq_append] at e
      subst e
      rcases List.mem_append.1 ha with e | e
      · exact h.tr _ _ _ ((List.pairwise_append.1 h1).2.2 a e y (by simp)) hy
      · simp only [List.mem_singleton] at e; subst e; exact hy
theorem ascB_take {l : List α} (h : AscB lt l) (i : Nat) : AscB lt (l.take i) := List.Pairwise.sublist (List.take_sublist _ _) h
theorem ascB_get {l : List α} (h : AscB lt l) {i j : Nat} (hij : i < j) (hj : j < l.length) : lt (l[i]'(by omega)) l[j] = true := List.pairwise_iff_getElem.1 h i j (by omega) hj hij
end
end Go.Proofs.Ytdhcfgbnjnidfaa
