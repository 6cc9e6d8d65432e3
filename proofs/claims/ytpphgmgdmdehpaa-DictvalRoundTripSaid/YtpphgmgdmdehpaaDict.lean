/- Layer 8: dictionaries, the encoding by them, and its reading, as functions on lists. No program in sight. -/
import Derived.Test.YtpphgmgdmdehpaaCode
namespace Go.Proofs.Ytpphgmgdmdehpaa

/-- A value put in its place, once. -/
def insD (x : Nat) : List Nat → List Nat
  | [] => [x]
  | y :: l => if y = x then y :: l else if x < y then x :: y :: l else y :: insD x l
def dictFrom (d l : List Nat) : List Nat := l.foldl (fun d x => insD x d) d
def dictD (l : List Nat) : List Nat := dictFrom [] l
def Asc (d : List Nat) : Prop := d.Pairwise (· < ·)
def widthD (k : Nat) : Nat := if k ≤ 1 then 0 else Nat.log2 (k - 1) + 1

theorem insD_mem (x z : Nat) (d : List Nat) : z ∈ insD x d ↔ z = x ∨ z ∈ d := by
  induction d with
  | nil => simp [insD]
  | cons y l ih =>
    rw [insD]
    split
    · next h => subst h; simp
    · split
      · simp
      · rw [List.mem_cons, ih, List.mem_cons]
        constructor
        · rintro (h | h | h)
          · exact Or.inr (Or.inl h)
          · exact Or.inl h
          · exact Or.inr (Or.inr h)
        · rintro (h | h | h)
          · exact Or.inr (Or.inl h)
          · exact Or.inl h
          · exact Or.inr (Or.inr h)
theorem insD_asc (x : Nat) (d : List Nat) (h : Asc d) : Asc (insD x d) := by
  induction d with
  | nil => exact List.pairwise_singleton _ _
  | cons y l ih =>
    obtain ⟨h1, h2⟩ := List.pairwise_cons.1 h
    rw [insD]
    split
    · exact h
    · next hne =>
      split
      · next hlt =>
        exact List.pairwise_cons.2 ⟨fun z hz => by
          rcases List.mem_cons.1 hz with e | e
          · omega
          · have := h1 z e; omega, h⟩
      · next hge =>
        exact List.pairwise_cons.2 ⟨fun z hz => by
          rcases (insD_mem x z l).1 hz with e | e
          · omega
          · exact h1 z e, ih h2⟩
theorem insD_in (x : Nat) (d : List Nat) (ha : Asc d) (h : x ∈ d) : insD x d = d := by
  induction d with
  | nil => cases h
  | cons y l ih =>
    obtain ⟨h1, h2⟩ := List.pairwise_cons.1 ha
    rw [insD]
    split
    · rfl
    · next hne =>
      rcases List.mem_cons.1 h with e | e
      · exact absurd e.symm hne
      · rw [if_neg (by have := h1 x e; omega), ih h2 e]
theorem insD_parts (x : Nat) (a b : List Nat) (ha : ∀ z ∈ a, z < x) (hb : ∀ z ∈ b, x < z) : insD x (a ++ b) = a ++ x :: b := by
  induction a with
  | nil =>
    cases b with
    | nil => rfl
    | cons y l =>
      have := hb y (List.mem_cons_self ..)
      rw [List.nil_append, insD, if_neg (by omega), if_pos this, List.nil_append]
  | cons y l ih =>
    have := ha y (List.mem_cons_self ..)
    rw [List.cons_append, insD, if_neg (by omega), if_neg (by omega), ih (fun z hz => ha z (List.mem_cons_of_mem _ hz)), List.cons_append]
theorem insD_new (x : Nat) (d : List Nat) (h : x ∉ d) : (insD x d).length = d.length + 1 := by
  induction d with
  | nil => rfl
  | cons y l ih =>
    rw [List.mem_cons, not_or] at h
    rw [insD, if_neg (fun e => h.1 e.symm)]
    split
    · rfl
    · rw [List.length_cons, ih h.2, List.length_cons]
theorem insD_le (x : Nat) (d : List Nat) : (insD x d).length ≤ d.length + 1 := by
  induction d with
  | nil => exact Nat.le_refl _
  | cons y l ih =>
    rw [insD]
    split
    · exact Nat.le_succ _
    · split
      · exact Nat.le_refl _
      · rw [List.length_cons, List.length_cons]; omega
theorem dictFrom_asc (d l : List Nat) (h : Asc d) : Asc (dictFrom d l) := by
  induction l generalizing d with
  | nil => exact h
  | cons x l ih => exact ih (insD x d) (insD_asc x d h)
theorem dictFrom_mem (d l : List Nat) (z : Nat) : z ∈ dictFrom d l ↔ z ∈ d ∨ z ∈ l := by
  induction l generalizing d with
  | nil => simp [dictFrom]
  | cons x l ih =>
    have := ih (insD x d)
    show z ∈ dictFrom (insD x d) l ↔ _
    rw [this, insD_mem, List.mem_cons]
    constructor
    · rintro ((h | h) | h)
      · exact Or.inr (Or.inl h)
      · exact Or.inl h
      · exact Or.inr (Or.inr h)
    · rintro (h | h | h)
      · exact Or.inl (Or.inr h)
      · exact Or.inl (Or.inl h)
      · exact Or.inr h
theorem dictFrom_len (d l : List Nat) : (dictFrom d l).length ≤ d.length + l.length := by
  induction l generalizing d with
  | nil => exact Nat.le_refl _
  | cons x l ih =>
    have h1 := ih (insD x d); have h2 := insD_le x d
    show (dictFrom (insD x d) l).length ≤ _
    rw [List.length_cons]; omega
theorem dictFrom_snoc (d l : List Nat) (x : Nat) : dictFrom d (l ++ [x]) = insD x (dictFrom d l) := by rw [dictFrom, List.foldl_append]; rfl
theorem dictD_asc (l : List Nat) : Asc (dictD l) := dictFrom_asc [] l List.Pairwise.nil
theorem dictD_mem (l : List Nat) (z : Nat) : z ∈ dictD l ↔ z ∈ l := by rw [dictD, dictFrom_mem]; simp
theorem dictD_len (l : List Nat) : (dictD l).length ≤ l.length := by have := dictFrom_len [] l; rw [List.length_nil] at this; rw [dictD]; omega
theorem dictD_snoc (l : List Nat) (x : Nat) : dictD (l ++ [x]) = insD x (dictD l) := dictFrom_snoc [] l x

theorem asc_ext (a b : List Nat) (ha : Asc a) (hb : Asc b) (h : ∀ x, x ∈ a ↔ x ∈ b) : a = b := by
  induction a generalizing b with
  | nil =>
    cases b with
    | nil => rfl
    | cons y l => exact absurd ((h y).2 (List.mem_cons_self ..)) List.not_mem_nil
  | cons x a ih =>
    cases b with
    | nil => exact absurd ((h x).1 (List.mem_cons_self ..)) List.not_mem_nil
    | cons y b =>
      obtain ⟨a1, a2⟩ := List.pairwise_cons.1 ha
      obtain ⟨b1, b2⟩ := List.pairwise_cons.1 hb
      have hxy : x = y := by
        rcases List.mem_cons.1 ((h x).1 (List.mem_cons_self ..)) with e | e
        · exact e
        · rcases List.mem_cons.1 ((h y).2 (List.mem_cons_self ..)) with f | f
          · exact f.symm
          · have := b1 x e; have := a1 y f; omega
      subst hxy
      rw [ih b a2 b2 (fun z => by
        constructor
        · intro hz
          rcases List.mem_cons.1 ((h z).1 (List.mem_cons_of_mem _ hz)) with e | e
          · have := a1 z hz; omega
          · exact e
        · intro hz
          rcases List.mem_cons.1 ((h z).2 (List.mem_cons_of_mem _ hz)) with e | e
          · have := b1 z hz; omega
          · exact e)]
theorem dictD_unique (l d : List Nat) (hd : Asc d) (h : ∀ x, x ∈ d ↔ x ∈ l) : dictD l = d :=
  asc_ext _ _ (dictD_asc l) hd (fun x => by rw [dictD_mem, h])
theorem dictD_same (l m : List Nat) (h : ∀ x, x ∈ l ↔ x ∈ m) : dictD l = dictD m :=
  asc_ext _ _ (dictD_asc l) (dictD_asc m) (fun x => by rw [dictD_mem, dictD_mem, h])

theorem lt_width {x k : Nat} (h : x < k) : x < 2 ^ widthD k := by
  rw [widthD]
  split
  · have : x = 0 := by omega
    subst this; decide
  · have := @Nat.lt_log2_self (k - 1)
    omega
theorem width_le {k : Nat} (h : k ≤ 128) : widthD k ≤ 7 := by
  rw [widthD]
  split
  · omega
  · have : Nat.log2 (k - 1) < 7 := (Nat.log2_lt (by omega)).2 (by omega)
    omega

/-- The encoding. -/
def wordsBits (d : List Nat) : List Bool := d.flatMap fun x => fieldBits x 64
def indsBits (k : Nat) (is : List Nat) : List Bool := is.flatMap fun i => fieldBits i (widthD k)
def encD (l : List Nat) : List Bool := if l = [] then [] else fieldBits ((dictD l).length - 1) 7 ++ (wordsBits (dictD l) ++ indsBits (dictD l).length (l.map fun x => (dictD l).idxOf x))

/-- The reading. -/
def wordsD : Nat → List Nat → List Bool → Res (List Nat)
  | 0, acc, bs => ⟨0, acc, bs⟩
  | k + 1, acc, bs =>
    if (field 64 bs).e ≠ 0 then ⟨(field 64 bs).e, [], (field 64 bs).r⟩ else
    if acc ≠ [] ∧ (field 64 bs).x ≤ acc.getLastD 0 then ⟨8, [], (field 64 bs).r⟩ else
    wordsD k (acc ++ [(field 64 bs).x]) (field 64 bs).r
def indsD (k : Nat) : Nat → List Nat → List Bool → Res (List Nat)
  | 0, acc, bs => ⟨0, acc, bs⟩
  | n + 1, acc, bs =>
    if (field (widthD k) bs).e ≠ 0 then ⟨(field (widthD k) bs).e, [], (field (widthD k) bs).r⟩ else
    if k ≤ (field (widthD k) bs).x then ⟨8, [], (field (widthD k) bs).r⟩ else
    indsD k n (acc ++ [(field (widthD k) bs).x]) (field (widthD k) bs).r
def usedAll (k : Nat) (is : List Nat) : Bool := (List.range k).all fun j => is.contains j
def valsD (d is : List Nat) : List Nat := is.map fun i => d.getD i 0
def decIx (d : List Nat) (n : Nat) (bs : List Bool) : Res (List Nat) :=
  if (indsD d.length n [] bs).e ≠ 0 then ⟨(indsD d.length n [] bs).e, [], (indsD d.length n [] bs).r⟩ else
  if usedAll d.length (indsD d.length n [] bs).x = false then ⟨8, [], (indsD d.length n [] bs).r⟩ else ⟨0, valsD d (indsD d.length n [] bs).x, (indsD d.length n [] bs).r⟩
def decWords (k n : Nat) (bs : List Bool) : Res (List Nat) :=
  if (wordsD (k + 1) [] bs).e ≠ 0 then ⟨(wordsD (k + 1) [] bs).e, [], (wordsD (k + 1) [] bs).r⟩ else decIx (wordsD (k + 1) [] bs).x n (wordsD (k + 1) [] bs).r
def decD (n : Nat) (bs : List Bool) : Res (List Nat) :=
  if n = 0 then ⟨0, [], bs⟩ else
  if (field 7 bs).e ≠ 0 then ⟨(field 7 bs).e, [], (field 7 bs).r⟩ else decWords (field 7 bs).x n (field 7 bs).r

theorem getLastD_snoc (a : List Nat) (x y : Nat) : (a ++ [x]).getLastD y = x := by simp [List.getLastD_eq_getLast?]
theorem asc_last {a : List Nat} {x : Nat} (h : Asc (a ++ [x])) (hne : a ≠ []) : a.getLastD 0 < x := by
  obtain ⟨b, y, rfl⟩ : ∃ b y, a = b ++ [y] := ⟨a.dropLast, a.getLast hne, (List.dropLast_concat_getLast hne).symm⟩
  rw [getLastD_snoc]
  rw [Asc, List.pairwise_append] at h
  exact h.2.2 y (by simp) x (by simp)
theorem asc_snoc {a : List Nat} {x : Nat} (ha : Asc a) (h : a ≠ [] → a.getLastD 0 < x) : Asc (a ++ [x]) := by
  rcases List.eq_nil_or_concat a with e | ⟨b, y, e⟩
  · subst e; exact List.pairwise_singleton _ _
  · subst e
    have hy : y < x := by have := h (by simp); rwa [List.concat_eq_append, getLastD_snoc] at this
    rw [List.concat_eq_append] at ha ⊢
    refine List.pairwise_append.2 ⟨ha, List.pairwise_singleton _ _, fun z hz u hu => ?_⟩
    rw [List.mem_singleton] at hu
    subst hu
    rcases List.mem_append.1 hz with e | e
    · have := (List.pairwise_append.1 ha).2.2 z e y (by simp); omega
    · rw [List.mem_singleton] at e; omega
theorem asc_left {a b : List Nat} (h : Asc (a ++ b)) : Asc a := (List.pairwise_append.1 h).1

theorem wordsD_back (d acc : List Nat) (rest : List Bool) (ha : Asc (acc ++ d)) (hd : ∀ x ∈ d, x < 18446744073709551616) : wordsD d.length acc (wordsBits d ++ rest) = ⟨0, acc ++ d, rest⟩ := by
  induction d generalizing acc with
  | nil => rw [List.append_nil]; rfl
  | cons x d ih =>
    have hx := hd x (List.mem_cons_self ..)
    have e1 : acc ++ x :: d = (acc ++ [x]) ++ d := by rw [List.append_assoc]; rfl
    rw [e1] at ha ⊢
    have hf := field_back x 64 (wordsBits d ++ rest) (by simpa using hx)
    rw [wordsBits, List.flatMap_cons, List.append_assoc, List.length_cons, wordsD]
    rw [wordsBits] at hf
    rw [hf]
    rw [if_neg (by simp), if_neg (fun h => by have := asc_last (asc_left ha) h.1; have := h.2; simp only at this; omega)]
    exact ih (acc ++ [x]) ha (fun z hz => hd z (List.mem_cons_of_mem _ hz))
theorem wordsD_inv (k : Nat) (acc : List Nat) (bs : List Bool) (h : (wordsD k acc bs).e = 0) : ∃ d, d.length = k ∧ (wordsD k acc bs).x = acc ++ d ∧ bs = wordsBits d ++ (wordsD k acc bs).r ∧ (Asc acc → Asc (acc ++ d)) ∧ ∀ x ∈ d, x < 18446744073709551616 := by
  induction k generalizing acc bs with
  | zero => exact ⟨[], rfl, (List.append_nil _).symm, rfl, fun h => by rwa [List.append_nil], fun x hx => by cases hx⟩
  | succ k ih =>
    rw [wordsD] at h ⊢
    by_cases h1 : (field 64 bs).e = 0
    · rw [if_neg (fun e => e h1)] at h ⊢
      by_cases h2 : acc ≠ [] ∧ (field 64 bs).x ≤ acc.getLastD 0
      · rw [if_pos h2] at h; cases h
      · rw [if_neg h2] at h ⊢
        obtain ⟨d, d1, d2, d3, d4, d5⟩ := ih _ _ h
        obtain ⟨f1, f2⟩ := field_inv h1
        refine ⟨(field 64 bs).x :: d, by rw [List.length_cons, d1], by rw [d2, List.append_assoc]; rfl, ?_, fun ha => ?_, fun x hx => ?_⟩
        · rw [wordsBits, List.flatMap_cons, List.append_assoc]
          rw [wordsBits] at d3
          rw [← d3]
          exact f1
        · have := d4 (asc_snoc ha (fun hne => by
            have := h2
            rw [not_and] at this
            have := this hne
            omega))
          rwa [List.append_assoc] at this
        · rcases List.mem_cons.1 hx with e | e
          · rw [e]; simpa using f2
          · exact d5 x e
    · rw [if_pos h1] at h; exact absurd h h1

theorem indsD_back (k : Nat) (is acc : List Nat) (rest : List Bool) (hi : ∀ i ∈ is, i < k) : indsD k is.length acc (indsBits k is ++ rest) = ⟨0, acc ++ is, rest⟩ := by
  induction is generalizing acc with
  | nil => rw [List.append_nil]; rfl
  | cons x d ih =>
    have hx := hi x (List.mem_cons_self ..)
    have e1 : acc ++ x :: d = (acc ++ [x]) ++ d := by rw [List.append_assoc]; rfl
    rw [e1]
    have hf := field_back x (widthD k) (indsBits k d ++ rest) (lt_width hx)
    rw [indsBits, List.flatMap_cons, List.append_assoc, List.length_cons, indsD]
    rw [indsBits] at hf
    rw [hf]
    rw [if_neg (by simp), if_neg (by simp only; omega)]
    exact ih (acc ++ [x]) (fun z hz => hi z (List.mem_cons_of_mem _ hz))
theorem indsD_inv (k n : Nat) (acc : List Nat) (bs : List Bool) (h : (indsD k n acc bs).e = 0) : ∃ is, is.length = n ∧ (indsD k n acc bs).x = acc ++ is ∧ bs = indsBits k is ++ (indsD k n acc bs).r ∧ ∀ i ∈ is, i < k := by
  induction n generalizing acc bs with
  | zero => exact ⟨[], rfl, (List.append_nil _).symm, rfl, fun x hx => by cases hx⟩
  | succ n ih =>
    rw [indsD] at h ⊢
    by_cases h1 : (field (widthD k) bs).e = 0
    · rw [if_neg (fun e => e h1)] at h ⊢
      by_cases h2 : k ≤ (field (widthD k) bs).x
      · rw [if_pos h2] at h; cases h
      · rw [if_neg h2] at h ⊢
        obtain ⟨d, d1, d2, d3, d5⟩ := ih _ _ h
        obtain ⟨f1, f2⟩ := field_inv h1
        refine ⟨(field (widthD k) bs).x :: d, by rw [List.length_cons, d1], by rw [d2, List.append_assoc]; rfl, ?_, fun x hx => ?_⟩
        · rw [indsBits, List.flatMap_cons, List.append_assoc]
          rw [indsBits] at d3
          rw [← d3]
          exact f1
        · rcases List.mem_cons.1 hx with e | e
          · omega
          · exact d5 x e
    · rw [if_pos h1] at h; exact absurd h h1
theorem usedAll_iff (k : Nat) (is : List Nat) : usedAll k is = true ↔ ∀ j, j < k → j ∈ is := by
  rw [usedAll, List.all_eq_true]
  constructor
  · intro h j hj
    exact List.contains_iff_mem.1 (h j (List.mem_range.2 hj))
  · intro h j hj
    exact List.contains_iff_mem.2 (h j (List.mem_range.1 hj))

theorem getD_idxOf {d : List Nat} {x : Nat} (h : x ∈ d) : d.getD (d.idxOf x) 0 = x := by
  have hl := List.idxOf_lt_length_of_mem h
  rw [List.getD_eq_getElem?_getD, List.getElem?_eq_getElem hl, Option.getD_some]
  exact List.getElem_idxOf hl
theorem asc_nodup {d : List Nat} (h : Asc d) : d.Nodup := h.imp (fun h => Nat.ne_of_lt h)
theorem idxOf_getD {d : List Nat} (hd : Asc d) {i : Nat} (h : i < d.length) : d.idxOf (d.getD i 0) = i := by
  rw [List.getD_eq_getElem?_getD, List.getElem?_eq_getElem h, Option.getD_some]
  exact (asc_nodup hd).idxOf_getElem i h

theorem decD_back (l : List Nat) (rest : List Bool) (hl : ∀ x ∈ l, x < 18446744073709551616) (hk : (dictD l).length ≤ 128) : decD l.length (encD l ++ rest) = ⟨0, l, rest⟩ := by
  by_cases hne : l = []
  · subst hne; rfl
  · have hn : l.length ≠ 0 := fun e => hne (List.eq_nil_of_length_eq_zero e)
    obtain ⟨x0, hx0⟩ := List.exists_mem_of_ne_nil l hne
    have hdp : 0 < (dictD l).length := List.length_pos_of_mem ((dictD_mem l x0).2 hx0)
    have h1 := field_back ((dictD l).length - 1) 7 (wordsBits (dictD l) ++ indsBits (dictD l).length (l.map fun x => (dictD l).idxOf x) ++ rest) (by omega)
    have h2 := wordsD_back (dictD l) [] (indsBits (dictD l).length (l.map fun x => (dictD l).idxOf x) ++ rest) (dictD_asc l) (fun x hx => hl x ((dictD_mem l x).1 hx))
    have hix : ∀ i ∈ l.map (fun x => (dictD l).idxOf x), i < (dictD l).length := fun i hi => by
      obtain ⟨x, hx, rfl⟩ := List.mem_map.1 hi
      exact List.idxOf_lt_length_of_mem ((dictD_mem l x).2 hx)
    have h3 := indsD_back (dictD l).length (l.map fun x => (dictD l).idxOf x) [] rest hix
    have h4 : usedAll (dictD l).length (l.map fun x => (dictD l).idxOf x) = true := (usedAll_iff _ _).2 fun j hj => by
      have hm : (dictD l).getD j 0 ∈ l := (dictD_mem l _).1 (by
        rw [List.getD_eq_getElem?_getD, List.getElem?_eq_getElem hj, Option.getD_some]
        exact List.getElem_mem hj)
      exact List.mem_map.2 ⟨_, hm, idxOf_getD (dictD_asc l) hj⟩
    have h5 : valsD (dictD l) (l.map fun x => (dictD l).idxOf x) = l := by
      rw [valsD, List.map_map]
      conv => rhs; rw [← List.map_id l]
      exact List.map_congr_left fun x hx => getD_idxOf ((dictD_mem l x).2 hx)
    rw [List.length_map] at h3
    rw [List.nil_append] at h2 h3
    rw [encD, if_neg hne, decD, if_neg hn, List.append_assoc, h1]
    simp only [ne_eq, not_true_eq_false, if_false]
    rw [decWords, show (dictD l).length - 1 + 1 = (dictD l).length by omega, List.append_assoc, h2]
    simp only [ne_eq, not_true_eq_false, if_false]
    rw [decIx, h3]
    simp only [ne_eq, not_true_eq_false, if_false, h4, h5, Bool.true_eq_false]
theorem decIx_inv (d : List Nat) (n : Nat) (bs : List Bool) (hd : Asc d) (h : (decIx d n bs).e = 0) : ∃ is, bs = indsBits d.length is ++ (decIx d n bs).r ∧ (decIx d n bs).x.length = n ∧ dictD (decIx d n bs).x = d ∧ is = (decIx d n bs).x.map fun x => d.idxOf x := by
  rw [decIx] at h ⊢
  by_cases h1 : (indsD d.length n [] bs).e = 0
  · rw [if_neg (fun e => e h1)] at h ⊢
    by_cases h2 : usedAll d.length (indsD d.length n [] bs).x = false
    · rw [if_pos h2] at h; cases h
    · rw [if_neg h2]
      obtain ⟨is, i1, i2, i3, i4⟩ := indsD_inv _ _ _ _ h1
      rw [List.nil_append] at i2
      rw [Bool.not_eq_false, i2] at h2
      rw [i2]
      have hu := (usedAll_iff _ _).1 h2
      refine ⟨is, i3, ?_, ?_, ?_⟩
      · show (valsD d is).length = n; rw [valsD, List.length_map, i1]
      · refine dictD_unique _ _ hd (fun x => ?_)
        show x ∈ d ↔ x ∈ valsD d is
        constructor
        · intro hx
          exact List.mem_map.2 ⟨d.idxOf x, hu _ (List.idxOf_lt_length_of_mem hx), getD_idxOf hx⟩
        · intro hx
          obtain ⟨i, hi, rfl⟩ := List.mem_map.1 hx
          have hl := i4 i hi
          rw [List.getD_eq_getElem?_getD, List.getElem?_eq_getElem hl, Option.getD_some]
          exact List.getElem_mem hl
      · show is = (valsD d is).map _
        rw [valsD, List.map_map]
        conv => lhs; rw [← List.map_id is]
        exact List.map_congr_left fun i hi => (idxOf_getD hd (i4 i hi)).symm
  · rw [if_pos h1] at h; exact absurd h h1
theorem decD_inv (n : Nat) (bs : List Bool) (h : (decD n bs).e = 0) : bs = encD (decD n bs).x ++ (decD n bs).r ∧ (decD n bs).x.length = n ∧ (dictD (decD n bs).x).length ≤ 128 ∧ ∀ x ∈ (decD n bs).x, x < 18446744073709551616 := by
  rw [decD] at h ⊢
  by_cases h0 : n = 0
  · rw [if_pos h0]; subst h0; exact ⟨rfl, rfl, Nat.zero_le _, fun x hx => by cases hx⟩
  · rw [if_neg h0] at h ⊢
    by_cases h1 : (field 7 bs).e = 0
    · rw [if_neg (fun e => e h1)] at h ⊢
      obtain ⟨f1, f2⟩ := field_inv h1
      generalize (field 7 bs).x = k at *
      generalize (field 7 bs).r = b1 at *
      rw [decWords] at h ⊢
      by_cases h2 : (wordsD (k + 1) [] b1).e = 0
      · rw [if_neg (fun e => e h2)] at h ⊢
        obtain ⟨d, d1, d2, d3, d4, d5⟩ := wordsD_inv _ _ _ h2
        rw [List.nil_append] at d2 d4
        have hd := d4 List.Pairwise.nil
        rw [d2] at h ⊢
        generalize (wordsD (k + 1) [] b1).r = b2 at *
        obtain ⟨is, i1, i2, i3, i4⟩ := decIx_inv d n b2 hd h
        have hmem : ∀ x, x ∈ (decIx d n b2).x ↔ x ∈ d := fun x => by rw [← dictD_mem, i3]
        refine ⟨?_, i2, by rw [i3, d1]; omega, fun x hx => d5 x ((hmem x).1 hx)⟩
        rw [encD, if_neg (fun e => by rw [e] at i2; exact h0 i2.symm), i3, ← i4, d1, Nat.add_sub_cancel, List.append_assoc, List.append_assoc]
        rw [d1] at i1
        rw [← i1, ← d3]
        exact f1
      · rw [if_pos h2] at h; exact absurd h h2
    · rw [if_pos h1] at h; exact absurd h h1
end Go.Proofs.Ytpphgmgdmdehpaa
