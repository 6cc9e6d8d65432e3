/- LabP, LabE, InsE, ModP, Made, LabRw, SamRow, SamOk, Own2, SerRow, LabOw, LabNx, in one text. -/
import Derived.Test.YtkodhbkmpnokjaaGreatMrg1
import Derived.Test.YtkodhbkmpnokjaaGreatProg
import Derived.WalkSpells
import Derived.WalkLawsBesides
import Derived.Outline
import Derived.Lib.Hide
import Derived.Deep.QuietTactic
import Derived.BigQuiet
import Derived.StillTailTactics
import Derived.Laws.IdiomStrings
import Derived.Lib.SlBytesConst

section
/- Layer 11: labels, their order, normal label sets, as functions on lists. No program in sight. -/
set_option linter.unusedVariables false
namespace Go.Proofs.YtkodhbkmpnokjaaGreat
open Go Go.RowKit

/-! ### Comparing, in general -/
structure CmpOk {α : Type} (cmp : α → α → Int) : Prop where
  dom : ∀ a b, cmp a b = -1 ∨ cmp a b = 0 ∨ cmp a b = 1
  eq : ∀ a b, cmp a b = 0 ↔ a = b
  flip : ∀ a b, cmp b a = - cmp a b
  tr : ∀ a b c, cmp a b = -1 → cmp b c = -1 → cmp a c = -1
theorem CmpOk.refl {α : Type} {cmp : α → α → Int} (h : CmpOk cmp) (a : α) : cmp a a = 0 := (h.eq a a).2 rfl
theorem CmpOk.lt {α : Type} {cmp : α → α → Int} (h : CmpOk cmp) : LtOk (fun a b => decide (cmp a b = -1)) :=
  ⟨⟨fun a => by rw [h.refl]; rfl, fun a b c h1 h2 => by
    simp only [decide_eq_true_eq] at h1 h2 ⊢
    exact h.tr a b c h1 h2⟩, fun a b h1 h2 => by
    simp only [decide_eq_false_iff_not] at h1 h2
    rw [h.flip a b] at h2
    rcases h.dom a b with e | e | e
    · exact absurd e h1
    · exact (h.eq a b).1 e
    · rw [e] at h2; exact absurd rfl h2⟩
/-- From an order. -/
def ordB {α : Type} (lt : α → α → Bool) (a b : α) : Int := if lt a b then -1 else if lt b a then 1 else 0
theorem ordB_ok {α : Type} {lt : α → α → Bool} (h : LtOk lt) : CmpOk (ordB lt) := by
  refine ⟨fun a b => ?_, fun a b => ?_, fun a b => ?_, fun a b c h1 h2 => ?_⟩
  · unfold ordB; split
    · exact Or.inl rfl
    · split
      · exact Or.inr (Or.inr rfl)
      · exact Or.inr (Or.inl rfl)
  · unfold ordB
    constructor
    · intro e
      split at e
      · cases e
      · next h1 =>
        split at e
        · cases e
        · next h2 => exact h.tot a b (by simpa using h1) (by simpa using h2)
    · rintro rfl; simp [h.irr]
  · unfold ordB
    rcases Bool.eq_false_or_eq_true (lt a b) with e | e
    · simp [e, h.asy e]
    · rcases Bool.eq_false_or_eq_true (lt b a) with f | f <;> simp [e, f]
  · have lt1 : ∀ x y, ordB lt x y = -1 → lt x y = true := fun x y e => by
      unfold ordB at e
      split at e
      · assumption
      · split at e <;> cases e
    have := h.tr a b c (lt1 a b h1) (lt1 b c h2)
    unfold ordB; rw [if_pos this]
/-- Pairs, first by the first. -/
def cmpP {α β : Type} (c1 : α → α → Int) (c2 : β → β → Int) (a b : α × β) : Int := if c1 a.1 b.1 = 0 then c2 a.2 b.2 else c1 a.1 b.1
theorem cmpP_ok {α β : Type} {c1 : α → α → Int} {c2 : β → β → Int} (h1 : CmpOk c1) (h2 : CmpOk c2) : CmpOk (cmpP c1 c2) := by
  refine ⟨fun a b => ?_, fun a b => ?_, fun a b => ?_, fun a b c e f => ?_⟩
  · unfold cmpP; split
    · exact h2.dom _ _
    · exact h1.dom _ _
  · obtain ⟨a1, a2⟩ := a; obtain ⟨b1, b2⟩ := b
    unfold cmpP
    split
    · next e => rw [h2.eq]; simp only at e; rw [(h1.eq _ _).1 e]; simp
    · next e =>
      constructor
      · intro h; exact absurd h e
      · rintro h; cases h; exact absurd (h1.refl _) e
  · unfold cmpP
    rw [h1.flip a.1 b.1, h2.flip a.2 b.2]
    by_cases e : c1 a.1 b.1 = 0
    · rw [if_pos e, if_pos (by omega)]
    · rw [if_neg e, if_neg (by omega)]
  · unfold cmpP at e f ⊢
    by_cases e1 : c1 a.1 b.1 = 0
    · rw [if_pos e1] at e
      rw [(h1.eq _ _).1 e1]
      by_cases f1 : c1 b.1 c.1 = 0
      · rw [if_pos f1] at f ⊢; exact h2.tr _ _ _ e f
      · rw [if_neg f1] at f ⊢; exact f
    · rw [if_neg e1] at e
      by_cases f1 : c1 b.1 c.1 = 0
      · rw [if_pos f1] at f
        rw [← (h1.eq _ _).1 f1, if_neg e1]; exact e
      · rw [if_neg f1] at f
        have := h1.tr _ _ _ e f
        rw [this, if_neg (by decide)]
/-- Lists, element by element; a proper prefix is less. -/
def cmpL {α : Type} (c : α → α → Int) : List α → List α → Int
  | [], [] => 0
  | [], _ :: _ => -1
  | _ :: _, [] => 1
  | a :: l, b :: k => if c a b = 0 then cmpL c l k else c a b
theorem cmpL_ok {α : Type} {c : α → α → Int} (h : CmpOk c) : CmpOk (cmpL c) := by
  refine ⟨fun a => ?_, fun a => ?_, fun a => ?_, fun a => ?_⟩
  · induction a with
    | nil => intro b; cases b <;> simp [cmpL]
    | cons x a ih =>
      intro b
      cases b with
      | nil => simp [cmpL]
      | cons y b => rw [cmpL]; split
                    · exact ih b
                    · exact h.dom _ _
  · induction a with
    | nil => intro b; cases b <;> simp [cmpL]
    | cons x a ih =>
      intro b
      cases b with
      | nil => simp [cmpL]
      | cons y b =>
        rw [cmpL]
        split
        · next e => rw [ih b, (h.eq _ _).1 e]; simp
        · next e =>
          constructor
          · intro g; exact absurd g e
          · rintro g; cases g; exact absurd (h.refl _) e
  · induction a with
    | nil => intro b; cases b <;> simp [cmpL]
    | cons x a ih =>
      intro b
      cases b with
      | nil => simp [cmpL]
      | cons y b =>
        rw [cmpL, cmpL, h.flip x y, ih b]
        by_cases e : c x y = 0
        · rw [if_pos e, if_pos (by omega)]
        · rw [if_neg e, if_neg (by omega)]
  · induction a with
    | nil =>
      intro b k e f
      cases k with
      | nil => cases b with
        | nil => simp [cmpL] at e
        | cons y b => simp [cmpL] at f
      | cons z k => rfl
    | cons x a ih =>
      intro b k e f
      cases b with
      | nil => simp [cmpL] at e
      | cons y b =>
        cases k with
        | nil => simp [cmpL] at f
        | cons z k =>
          rw [cmpL] at e f ⊢
          by_cases e1 : c x y = 0
          · rw [if_pos e1] at e
            rw [(h.eq _ _).1 e1]
            by_cases f1 : c y z = 0
            · rw [if_pos f1] at f ⊢; exact ih b k e f
            · rw [if_neg f1] at f ⊢; exact f
          · rw [if_neg e1] at e
            by_cases f1 : c y z = 0
            · rw [← (h.eq _ _).1 f1, if_neg e1]; exact e
            · rw [if_neg f1] at f
              have := h.tr _ _ _ e f
              rw [this, if_neg (by decide)]

/-! ### Labels -/
abbrev Lab := ByteArray × ByteArray
def ordS : ByteArray → ByteArray → Int := ordB ltS
theorem ordS_ok : CmpOk ordS := ordB_ok ltS_ok
def cmpLab : Lab → Lab → Int := cmpP ordS ordS
theorem cmpLab_ok : CmpOk cmpLab := cmpP_ok ordS_ok ordS_ok
def cmpLabs : List Lab → List Lab → Int := cmpL cmpLab
theorem cmpLabs_ok : CmpOk cmpLabs := cmpL_ok cmpLab_ok

/-- ErrName or ErrLimit of a label. -/
def oneL (x : Lab) : Nat := if x.1.size = 0 then 17 else if 65535 < x.1.size ∨ 65535 < x.2.size then 7 else 0
/-- What Check gives, the name before being p. -/
def checkFrom (p : Option ByteArray) : List Lab → Nat
  | [] => 0
  | x :: l =>
    if oneL x ≠ 0 then oneL x else
    match p with
    | none => checkFrom (some x.1) l
    | some n => if x.1 = n then 18 else if ltS x.1 n then 16 else checkFrom (some x.1) l
def checkL (l : List Lab) : Nat := checkFrom none l

/-- The order of labels, by names. -/
def ltN (a b : Lab) : Bool := ltS a.1 b.1
/-- The first error of a label. -/
def firstErr : List Lab → Nat
  | [] => 0
  | x :: l => if oneL x ≠ 0 then oneL x else firstErr l
/-- Labels are put in order, one by one; none if two have one name. -/
def putL : List Lab → List Lab → Option (List Lab)
  | out, [] => some out
  | out, x :: l => if ∃ y ∈ out, y.1 = x.1 then none else putL (insB ltN x out) l
/-- What Normalize gives. -/
def normL (l : List Lab) : Nat × List Lab := if firstErr l ≠ 0 then (firstErr l, []) else match putL [] l with
  | none => (18, [])
  | some out => (0, out)
def getL (l : List Lab) (n : ByteArray) : Option ByteArray := (l.find? fun x => decide (x.1 = n)).map Prod.snd
def stringsL (l : List Lab) : List ByteArray := l.flatMap fun x => [x.1, x.2]

theorem ltN_ok : LtPre ltN := ⟨fun a => ltS_ok.irr _, fun a b c => ltS_ok.tr _ _ _⟩
theorem ltN_ne {a b : Lab} (h : a.1 ≠ b.1) : ltN a b = false → ltN b a = true := fun h1 => by
  rcases Bool.eq_false_or_eq_true (ltN b a) with e | e
  · exact e
  · exact absurd (ltS_ok.tot _ _ h1 e) h
theorem insN_mem (x z : Lab) (d : List Lab) (hd : ∀ y ∈ d, y.1 ≠ x.1) : z ∈ insB ltN x d ↔ z = x ∨ z ∈ d := by
  induction d with
  | nil => simp [insB]
  | cons y l ih =>
    have hy := hd y (by simp)
    rw [insB]
    split
    · rw [List.mem_cons, ih (fun y hy => hd y (by simp [hy])), List.mem_cons]
      constructor
      · rintro (h | h | h)
        · exact Or.inr (Or.inl h)
        · exact Or.inl h
        · exact Or.inr (Or.inr h)
      · rintro (h | h | h)
        · exact Or.inr (Or.inl h)
        · exact Or.inl h
        · exact Or.inr (Or.inr h)
    · next h1 =>
      rw [if_pos (ltN_ne hy (by simpa using h1))]
      simp
theorem insN_asc (x : Lab) (d : List Lab) (hd : ∀ y ∈ d, y.1 ≠ x.1) (ha : AscB ltN d) : AscB ltN (insB ltN x d) := by
  induction d with
  | nil => exact List.pairwise_singleton _ _
  | cons y l ih =>
    obtain ⟨h1, h2⟩ := List.pairwise_cons.1 ha
    have hd' : ∀ y ∈ l, y.1 ≠ x.1 := fun y hy => hd y (by simp [hy])
    rw [insB]
    split
    · next hyx =>
      exact List.pairwise_cons.2 ⟨fun z hz => by
        rcases (insN_mem x z l hd').1 hz with e | e
        · subst e; exact hyx
        · exact h1 z e, ih hd' h2⟩
    · next hyx =>
      have hxy := ltN_ne (hd y (by simp)) (by simpa using hyx)
      rw [if_pos hxy]
      exact List.pairwise_cons.2 ⟨fun z hz => by
        rcases List.mem_cons.1 hz with e | e
        · subst e; exact hxy
        · exact ltN_ok.tr _ _ _ hxy (h1 z e), ha⟩

theorem firstErr_zero (l : List Lab) : firstErr l = 0 ↔ ∀ x ∈ l, oneL x = 0 := by
  induction l with
  | nil => simp [firstErr]
  | cons x l ih =>
    rw [firstErr]
    split
    · next h => constructor
                · intro e; exact absurd e h
                · intro e; exact absurd (e x (by simp)) h
    · next h => rw [ih]; simp only [List.mem_cons, forall_eq_or_imp]
                constructor
                · intro e; exact ⟨Decidable.not_not.1 h, e⟩
                · intro e; exact e.2
/-- The names of labels. -/
def namesL (l : List Lab) : List ByteArray := l.map Prod.fst
theorem putL_some (l : List Lab) : ∀ (out r : List Lab), putL out l = some r → AscB ltN out → AscB ltN r ∧ (∀ z, z ∈ r ↔ z ∈ out ∨ z ∈ l) ∧ (namesL l).Nodup ∧ (∀ y ∈ out, ∀ x ∈ l, y.1 ≠ x.1) := by
  induction l with
  | nil => intro out r h ha; simp [putL] at h; subst h; exact ⟨ha, fun z => by simp, List.nodup_nil, fun _ _ _ h => by cases h⟩
  | cons x l ih =>
    intro out r h ha
    rw [putL] at h
    split at h
    · cases h
    · next hn =>
      have hn' : ∀ y ∈ out, y.1 ≠ x.1 := fun y hy e => hn ⟨y, hy, e⟩
      obtain ⟨h1, h2, h3, h4⟩ := ih _ r h (insN_asc x out hn' ha)
      refine ⟨h1, fun z => ?_, ?_, fun y hy z hz => ?_⟩
      · rw [h2, insN_mem x z out hn', List.mem_cons]
        constructor
        · rintro ((h | h) | h)
          · exact Or.inr (Or.inl h)
          · exact Or.inl h
          · exact Or.inr (Or.inr h)
        · rintro (h | h | h)
          · exact Or.inl (Or.inr h)
          · exact Or.inl (Or.inl h)
          · exact Or.inr h
      · rw [namesL, List.map_cons, List.nodup_cons]
        refine ⟨fun hm => ?_, h3⟩
        obtain ⟨z, hz, he⟩ := List.mem_map.1 hm
        exact h4 x ((insN_mem x x out hn').2 (Or.inl rfl)) z hz he.symm
      · rcases List.mem_cons.1 hz with e | e
        · subst e; exact hn' y hy
        · exact h4 y ((insN_mem x y out hn').2 (Or.inr hy)) z e
theorem putL_of (l : List Lab) : ∀ (out : List Lab), (namesL l).Nodup → (∀ y ∈ out, ∀ x ∈ l, y.1 ≠ x.1) → ∃ r, putL out l = some r := by
  induction l with
  | nil => intro out _ _; exact ⟨out, rfl⟩
  | cons x l ih =>
    intro out hnd hd
    rw [namesL, List.map_cons, List.nodup_cons] at hnd
    have hn' : ∀ y ∈ out, y.1 ≠ x.1 := fun y hy => hd y hy x (by simp)
    rw [putL, if_neg (fun ⟨y, hy, e⟩ => hn' y hy e)]
    refine ih _ hnd.2 (fun y hy z hz => ?_)
    rcases (insN_mem x y out hn').1 hy with e | e
    · subst e; intro he; exact hnd.1 (List.mem_map.2 ⟨z, hz, he.symm⟩)
    · exact hd y e z (by simp [hz])
theorem normL_ok {l : List Lab} : (normL l).1 = 0 ↔ (∀ x ∈ l, oneL x = 0) ∧ (namesL l).Nodup := by
  unfold normL
  constructor
  · intro h
    split at h
    · next h1 => exact absurd h h1
    · next h1 =>
      split at h
      · cases h
      · next r hr => exact ⟨(firstErr_zero l).1 (Decidable.not_not.1 h1), (putL_some l [] r hr List.Pairwise.nil).2.2.1⟩
  · rintro ⟨h1, h2⟩
    rw [if_neg (not_not_intro ((firstErr_zero l).2 h1))]
    obtain ⟨r, hr⟩ := putL_of l [] h2 (fun _ h => by cases h)
    rw [hr]
theorem normL_res {l : List Lab} (h : (normL l).1 = 0) : AscB ltN (normL l).2 ∧ ∀ z, z ∈ (normL l).2 ↔ z ∈ l := by
  have h0 := normL_ok.1 h
  unfold normL
  rw [if_neg (not_not_intro ((firstErr_zero l).2 h0.1))]
  obtain ⟨r, hr⟩ := putL_of l [] h0.2 (fun _ h => by cases h)
  rw [hr]
  obtain ⟨a, b, _⟩ := putL_some l [] r hr List.Pairwise.nil
  exact ⟨a, fun z => by rw [b]; simp⟩
theorem normL_err {l : List Lab} (h : (normL l).1 ≠ 0) : (normL l).2 = [] := by
  unfold normL at h ⊢
  split
  · rfl
  · next h1 =>
    rw [if_neg h1] at h
    split
    · rfl
    · next r hr => rw [hr] at h; exact absurd rfl h
theorem norm_perm {l m : List Lab} (hp : l.Perm m) : ((normL l).1 = 0 ↔ (normL m).1 = 0) ∧ (normL l).2 = (normL m).2 := by
  have hiff : (normL l).1 = 0 ↔ (normL m).1 = 0 := by
    rw [normL_ok, normL_ok]
    have h1 : (namesL l).Nodup ↔ (namesL m).Nodup := (hp.map Prod.fst).nodup_iff
    have h2 : (∀ x ∈ l, oneL x = 0) ↔ (∀ x ∈ m, oneL x = 0) := ⟨fun h x hx => h x (hp.mem_iff.2 hx), fun h x hx => h x (hp.mem_iff.1 hx)⟩
    rw [h1, h2]
  refine ⟨hiff, ?_⟩
  by_cases h : (normL l).1 = 0
  · obtain ⟨a1, a2⟩ := normL_res h
    obtain ⟨b1, b2⟩ := normL_res (hiff.1 h)
    exact ascB_ext ltN_ok _ _ a1 b1 (fun z => by rw [a2, b2]; exact hp.mem_iff)
  · rw [normL_err h, normL_err (fun e => h (hiff.2 e))]
theorem ascN_nodup {l : List Lab} (h : AscB ltN l) : (namesL l).Nodup := by
  rw [namesL, List.Nodup, List.pairwise_map]
  exact List.Pairwise.imp (fun hab e => by unfold ltN at hab; rw [e, ltS_ok.irr] at hab; cases hab) h
theorem norm_of_asc {l : List Lab} (h : AscB ltN l) (ho : ∀ x ∈ l, oneL x = 0) : normL l = (0, l) := by
  have h0 : (normL l).1 = 0 := normL_ok.2 ⟨ho, ascN_nodup h⟩
  obtain ⟨a1, a2⟩ := normL_res h0
  have : (normL l).2 = l := ascB_ext ltN_ok _ _ a1 h a2
  exact Prod.ext h0 this
theorem norm_idem {l : List Lab} (h : (normL l).1 = 0) : normL (normL l).2 = (0, (normL l).2) := by
  obtain ⟨a1, a2⟩ := normL_res h
  exact norm_of_asc a1 (fun x hx => (normL_ok.1 h).1 x ((a2 x).1 hx))
theorem check_asc (l : List Lab) : ∀ (p : Option ByteArray), AscB ltN l → (∀ x ∈ l, oneL x = 0) → (∀ n, p = some n → ∀ x, l.head? = some x → ltS n x.1 = true) → checkFrom p l = 0 := by
  induction l with
  | nil => intro p _ _ _; rfl
  | cons x l ih =>
    intro p ha ho hp
    obtain ⟨h1, h2⟩ := List.pairwise_cons.1 ha
    have hrec : checkFrom (some x.1) l = 0 := ih (some x.1) h2 (fun y hy => ho y (by simp [hy])) (fun n hn y hy => by
      cases hn
      exact h1 y (List.mem_of_mem_head? hy))
    cases p with
    | none => rw [checkFrom, if_neg (not_not_intro (ho x (by simp)))]; exact hrec
    | some n =>
      have hl := hp n rfl x rfl
      rw [checkFrom, if_neg (not_not_intro (ho x (by simp)))]
      rw [if_neg (fun e => by rw [e, ltS_ok.irr] at hl; cases hl), if_neg (by rw [ltS_ok.asy hl]; simp)]
      exact hrec
theorem check_norm {l : List Lab} (h : (normL l).1 = 0) : checkL (normL l).2 = 0 := by
  obtain ⟨a1, a2⟩ := normL_res h
  exact check_asc _ none a1 (fun x hx => (normL_ok.1 h).1 x ((a2 x).1 hx)) (fun _ e => by cases e)
end Go.Proofs.YtkodhbkmpnokjaaGreat

end

section
/- Layer 11: how great the errors are, how long a normal label set is. No program in sight. -/
set_option linter.unusedVariables false
namespace Go.Proofs.YtkodhbkmpnokjaaGreat
open Go Go.RowKit

theorem oneL_le (x : Lab) : oneL x ≤ 18 := by rw [oneL]; (repeat' split) <;> omega
theorem checkFrom_le (l : List Lab) : ∀ p, checkFrom p l ≤ 18 := by
  induction l with
  | nil => intro p; rw [checkFrom]; omega
  | cons x l ih =>
    intro p
    have h1 := oneL_le x
    cases p with
    | none =>
      rw [checkFrom]
      split
      · exact h1
      · exact ih _
    | some n =>
      rw [checkFrom]
      repeat' split
      all_goals first | exact h1 | exact ih _ | omega
theorem checkL_le (l : List Lab) : checkL l ≤ 18 := checkFrom_le l none
theorem firstErr_le (l : List Lab) : firstErr l ≤ 18 := by
  induction l with
  | nil => rw [firstErr]; omega
  | cons x l ih =>
    rw [firstErr]
    split
    · exact oneL_le x
    · exact ih
theorem putL_le (l : List Lab) : ∀ (out r : List Lab), putL out l = some r → r.length ≤ out.length + l.length := by
  induction l with
  | nil => intro out r h; rw [putL] at h; simp at h; subst h; simp
  | cons x l ih =>
    intro out r h
    rw [putL] at h
    split at h
    · cases h
    · have h1 := ih _ _ h
      have h2 := insB_le (lt := ltN) x out
      rw [List.length_cons]; omega
theorem norm_le (l : List Lab) : (normL l).1 ≤ 18 ∧ (normL l).2.length ≤ l.length := by
  have hf := firstErr_le l
  rw [normL]
  split
  · exact ⟨hf, Nat.zero_le _⟩
  · cases hp : putL [] l with
    | none => exact ⟨Nat.le_refl _, Nat.zero_le _⟩
    | some r =>
      have := putL_le l [] r hp
      rw [List.length_nil, Nat.zero_add] at this
      exact ⟨Nat.zero_le _, this⟩
/-- What holds of all labels holds of the normal set's. -/
theorem norm_all {p : Lab → Prop} {l : List Lab} (h : ∀ x ∈ l, p x) : ∀ x ∈ (normL l).2, p x := by
  intro x hx
  by_cases h0 : (normL l).1 = 0
  · exact h x (((normL_res h0).2 x).1 hx)
  · rw [normL_err h0] at hx; cases hx
/-- A normal set is normal. -/
theorem norm_norm (l : List Lab) : normL (normL l).2 = (0, (normL l).2) := by
  by_cases h0 : (normL l).1 = 0
  · exact norm_idem h0
  · rw [normL_err h0]; rfl
theorem cmp_range (a b : List Lab) : -1 ≤ cmpLabs a b ∧ cmpLabs a b ≤ 1 := by rcases cmpLabs_ok.dom a b with e | e | e <;> rw [e] <;> decide
theorem cmp_trans (a b c : List Lab) : (cmpLabs a b ≤ 0 → cmpLabs b c ≤ 0 → cmpLabs a c ≤ 0) ∧ (cmpLabs a b = 0 → cmpLabs b c = 0 → cmpLabs a c = 0) ∧ (cmpLabs a b < 0 → cmpLabs b c ≤ 0 → cmpLabs a c < 0) := by
  have hle : ∀ x y, cmpLabs x y ≤ 0 → cmpLabs x y = -1 ∨ x = y := fun x y h => by
    rcases cmpLabs_ok.dom x y with e | e | e
    · exact Or.inl e
    · exact Or.inr ((cmpLabs_ok.eq x y).1 e)
    · omega
  refine ⟨fun h1 h2 => ?_, fun h1 h2 => ?_, fun h1 h2 => ?_⟩
  · rcases hle a b h1 with e1 | e1
    · rcases hle b c h2 with e2 | e2
      · rw [cmpLabs_ok.tr a b c e1 e2]; decide
      · subst e2; omega
    · subst e1; exact h2
  · rw [(cmpLabs_ok.eq a b).1 h1, (cmpLabs_ok.eq b c).1 h2]; exact cmpLabs_ok.refl c
  · rcases hle a b (by omega) with e1 | e1
    · rcases hle b c h2 with e2 | e2
      · rw [cmpLabs_ok.tr a b c e1 e2]; decide
      · subst e2; exact h1
    · subst e1; rw [cmpLabs_ok.refl] at h1; omega
end Go.Proofs.YtkodhbkmpnokjaaGreat

end

section
/- Sorting by insertion from the end, whatever the order: elements of one key keep theirs. No program in sight. -/
namespace Go.Proofs.YtkodhbkmpnokjaaGreat

theorem snoc_ind {α : Type} {p : List α → Prop} (h0 : p []) (h1 : ∀ l x, p l → p (l ++ [x])) (l : List α) : p l := by
  have h : ∀ l : List α, p l.reverse := fun l => by
    induction l with
    | nil => exact h0
    | cons x l ih => rw [List.reverse_cons]; exact h1 _ _ ih
  have := h l.reverse
  rwa [List.reverse_reverse] at this
section
variable {α : Type}
/-- A strict weak order. -/
structure LtWk (lt : α → α → Bool) : Prop extends LtPre lt where
  co : ∀ a b c, lt a c = true → lt a b = true ∨ lt b c = true
variable {lt : α → α → Bool}

/-- Where x is put: ahead of what is greater, from the end on. -/
def posE (lt : α → α → Bool) (x : α) (d : List α) : Nat := d.length - (d.reverse.takeWhile (fun y => lt x y)).length
def insE (lt : α → α → Bool) (x : α) (d : List α) : List α := d.take (posE lt x d) ++ x :: d.drop (posE lt x d)
def sortE (lt : α → α → Bool) (l : List α) : List α := l.foldl (fun d x => insE lt x d) []
theorem posE_of {x : α} {d : List α} {k : Nat} (hk : k ≤ d.length) (h1 : ∀ y ∈ d.drop k, lt x y = true) (h2 : ∀ y, 0 < k → d[k - 1]? = some y → lt x y = false) : posE lt x d = k := by
  have hs : d.reverse = (d.drop k).reverse ++ (d.take k).reverse := by rw [← List.reverse_append, List.take_append_drop]
  have ht : d.reverse.takeWhile (fun y => lt x y) = (d.drop k).reverse := by
    rw [hs, List.takeWhile_append_of_pos (fun y hy => h1 y (List.mem_reverse.1 hy))]
    have : (d.take k).reverse.takeWhile (fun y => lt x y) = [] := by
      rcases Nat.eq_zero_or_pos k with rfl | hp
      · simp
      · have hlt : k - 1 < d.length := by omega
        have hl : d.take k = d.take (k - 1) ++ [d[k - 1]] := by
          conv => lhs; rw [show k = (k - 1) + 1 by omega]
          rw [List.take_add_one, List.getElem?_eq_getElem hlt]; rfl
        rw [hl, List.reverse_append, List.reverse_singleton, List.singleton_append, List.takeWhile_cons, h2 _ hp (List.getElem?_eq_getElem hlt)]
        rfl
    rw [this, List.append_nil]
  rw [posE, ht, List.length_reverse, List.length_drop]; omega
theorem posE_spec (x : α) (d : List α) : posE lt x d ≤ d.length ∧ (∀ y ∈ d.drop (posE lt x d), lt x y = true) ∧ (∀ y, 0 < posE lt x d → d[posE lt x d - 1]? = some y → lt x y = false) := by
  induction d using snoc_ind with
  | h0 => exact ⟨Nat.le_refl _, fun y hy => by simp at hy, fun y h _ => by simp [posE] at h⟩
  | h1 d z ih =>
    by_cases hz : lt x z = true
    · have hp : posE lt x (d ++ [z]) = posE lt x d := by
        refine posE_of (by rw [List.length_append]; have := ih.1; omega) (fun y hy => ?_) (fun y h0 hy => ?_)
        · rw [List.drop_append_of_le_length ih.1] at hy
          rcases List.mem_append.1 hy with e | e
          · exact ih.2.1 y e
          · rw [List.mem_singleton.1 e]; exact hz
        · rw [List.getElem?_append_left (by have := ih.1; omega)] at hy
          exact ih.2.2 y h0 hy
      rw [hp]
      refine ⟨by rw [List.length_append]; have := ih.1; omega, fun y hy => ?_, fun y h0 hy => ?_⟩
      · rw [List.drop_append_of_le_length ih.1] at hy
        rcases List.mem_append.1 hy with e | e
        · exact ih.2.1 y e
        · rw [List.mem_singleton.1 e]; exact hz
      · rw [List.getElem?_append_left (by have := ih.1; omega)] at hy
        exact ih.2.2 y h0 hy
    · have hp : posE lt x (d ++ [z]) = d.length + 1 := by
        refine posE_of (by simp) (fun y hy => ?_) (fun y h0 hy => ?_)
        · rw [List.drop_of_length_le (by simp)] at hy; cases hy
        · rw [Nat.add_sub_cancel, List.getElem?_append_right (Nat.le_refl _), Nat.sub_self] at hy
          simp at hy; subst hy; simpa using hz
      rw [hp]
      refine ⟨by simp, fun y hy => ?_, fun y h0 hy => ?_⟩
      · rw [List.drop_of_length_le (by simp)] at hy; cases hy
      · rw [Nat.add_sub_cancel, List.getElem?_append_right (Nat.le_refl _), Nat.sub_self] at hy
        simp at hy; subst hy; simpa using hz
theorem insE_perm (x : α) (d : List α) : (insE lt x d).Perm (x :: d) := by
  unfold insE
  refine (List.perm_middle).trans ?_
  rw [List.take_append_drop]
theorem insE_len (x : α) (d : List α) : (insE lt x d).length = d.length + 1 := by rw [(insE_perm x d).length_eq, List.length_cons]

/-- Ascending, equals allowed. -/
def SrtE (lt : α → α → Bool) (d : List α) : Prop := d.Pairwise (fun a b => lt b a = false)
theorem insE_srt (h : LtWk lt) (x : α) (d : List α) (hd : SrtE lt d) : SrtE lt (insE lt x d) := by
  obtain ⟨h1, h2, h3⟩ := posE_spec (lt := lt) x d
  generalize posE lt x d = k at *
  have hk : insE lt x d = d.take (posE lt x d) ++ x :: d.drop (posE lt x d) := rfl
  have hp : posE lt x d = k := posE_of h1 h2 h3
  rw [hk, hp]
  have hsp : SrtE lt (d.take k ++ d.drop k) := by rw [List.take_append_drop]; exact hd
  obtain ⟨a1, a2, a3⟩ := List.pairwise_append.1 hsp
  refine List.pairwise_append.2 ⟨a1, List.pairwise_cons.2 ⟨fun b hb => h.asy (h2 b hb), a2⟩, fun a ha b hb => ?_⟩
  rcases List.mem_cons.1 hb with rfl | hb
  · have hp : 0 < k := by rcases Nat.eq_zero_or_pos k with rfl | hp; · simp at ha
                          · exact hp
    have hlt : k - 1 < d.length := by omega
    have hy := h3 d[k - 1] hp (List.getElem?_eq_getElem hlt)
    obtain ⟨i, hi, rfl⟩ := List.getElem_of_mem ha
    rw [List.length_take] at hi
    rw [List.getElem_take]
    rcases Bool.eq_false_or_eq_true (lt b d[i]) with e | e
    · rcases h.co b d[k - 1] d[i] e with f | f
      · rw [hy] at f; cases f
      · rcases Nat.lt_or_eq_of_le (show i ≤ k - 1 by omega) with g | g
        · have := List.pairwise_iff_getElem.1 hd i (k - 1) (by omega) hlt g
          rw [this] at f; cases f
        · simp only [g] at f; rw [h.irr] at f; cases f
    · exact e
  · exact a3 a ha b hb
theorem sortE_snoc (l : List α) (x : α) : sortE lt (l ++ [x]) = insE lt x (sortE lt l) := by rw [sortE, List.foldl_append]; rfl
theorem sortE_perm (l : List α) : (sortE lt l).Perm l := by
  induction l using snoc_ind with
  | h0 => exact List.Perm.refl _
  | h1 l x ih =>
    rw [sortE_snoc]
    exact (insE_perm x _).trans ((List.Perm.cons x ih).trans (List.perm_append_singleton x l).symm)
theorem sortE_srt (h : LtWk lt) (l : List α) : SrtE lt (sortE lt l) := by
  induction l using snoc_ind with
  | h0 => exact List.Pairwise.nil
  | h1 l x ih => rw [sortE_snoc]; exact insE_srt h x _ ih
theorem sortE_len (l : List α) : (sortE lt l).length = l.length := (sortE_perm l).length_eq
/-- No two have one key. -/
def Keys (lt : α → α → Bool) (l : List α) : Prop := l.Pairwise (fun a b => lt a b = true ∨ lt b a = true)
theorem Keys.perm {l m : List α} (h : l.Perm m) : Keys lt l ↔ Keys lt m := h.pairwise_iff (fun {_ _} e => e.symm)
theorem asc_of_srt {d : List α} (h : SrtE lt d) (hk : Keys lt d) : AscB lt d := by
  refine (List.pairwise_and_iff.2 ⟨h, hk⟩).imp (fun {_ _} e => ?_)
  rcases e.2 with f | f
  · exact f
  · rw [e.1] at f; cases f
theorem keys_of_asc {d : List α} (h : AscB lt d) : Keys lt d := h.imp (fun {_ _} e => Or.inl e)
theorem sortE_asc (h : LtWk lt) {l : List α} (hk : Keys lt l) : AscB lt (sortE lt l) := asc_of_srt (sortE_srt h l) ((Keys.perm (sortE_perm l)).2 hk)
theorem sortE_ext (h : LtWk lt) {l m : List α} (hk : Keys lt l) (hp : l.Perm m) : sortE lt l = sortE lt m :=
  ascB_ext h.toLtPre _ _ (sortE_asc h hk) (sortE_asc h ((Keys.perm hp).1 hk)) (fun x => by rw [(sortE_perm l).mem_iff, (sortE_perm m).mem_iff, hp.mem_iff])
theorem sortE_of_asc (h : LtWk lt) {l : List α} (ha : AscB lt l) : sortE lt l = l :=
  ascB_ext h.toLtPre _ _ (sortE_asc h (keys_of_asc ha)) ha (fun _ => (sortE_perm l).mem_iff)
end
end Go.Proofs.YtkodhbkmpnokjaaGreat

end

section
/- Layer 12: blocks, their checking and their normal form, as functions on lists. No program in sight. -/
set_option linter.unusedVariables false
namespace Go.Proofs.YtkodhbkmpnokjaaGreat
open Go Go.RowKit

abbrev Sam := Int × Nat
abbrev Ser := List Lab × List Sam
def samplesB (b : List Ser) : Nat := (b.map fun s => s.2.length).sum
theorem samplesB_cons (s : Ser) (b : List Ser) : samplesB (s :: b) = s.2.length + samplesB b := by simp [samplesB]
theorem samplesB_append (a b : List Ser) : samplesB (a ++ b) = samplesB a + samplesB b := by simp [samplesB]
theorem samplesB_take_le (b : List Ser) (i : Nat) : samplesB (b.take i) ≤ samplesB b := by
  have : samplesB b = samplesB (b.take i) + samplesB (b.drop i) := by rw [← samplesB_append, List.take_append_drop]
  omega
theorem samplesB_mem {b : List Ser} {s : Ser} (h : s ∈ b) : s.2.length ≤ samplesB b := by
  induction b with
  | nil => cases h
  | cons x b ih =>
    rw [samplesB_cons]
    rcases List.mem_cons.1 h with rfl | h
    · omega
    · have := ih h; omega

/-- The error of samples, the time before being t. -/
def timesFrom : Int → List Sam → Nat
  | _, [] => 0
  | t, s :: l => if s.1 = t then 20 else if s.1 < t then 16 else timesFrom s.1 l
def timesL : List Sam → Nat
  | [] => 0
  | s :: l => timesFrom s.1 l
/-- The error of a series. -/
def serErr (s : Ser) : Nat := if checkL s.1 ≠ 0 then checkL s.1 else if s.2 = [] then 21 else timesL s.2
def checkBFrom : Option (List Lab) → List Ser → Nat
  | _, [] => 0
  | p, s :: l => if serErr s ≠ 0 then serErr s else match p with
    | none => checkBFrom (some s.1) l
    | some q => if cmpLabs q s.1 = 0 then 19 else if 0 < cmpLabs q s.1 then 16 else checkBFrom (some s.1) l
/-- What Check gives. -/
def checkB (b : List Ser) : Nat := checkBFrom none b

/-- The order of samples, by times. -/
def ltT (a b : Sam) : Bool := decide (a.1 < b.1)
/-- The order of series, by labels. -/
def ltB (a b : Ser) : Bool := decide (cmpLabs a.1 b.1 = -1)
def nSer (s : Ser) : Ser := ((normL s.1).2, sortE ltT s.2)
/-- The error of a series that is normalized. -/
def nErr (s : Ser) : Nat := if (normL s.1).1 ≠ 0 then (normL s.1).1 else if s.2 = [] then 21 else timesL (sortE ltT s.2)
def firstErrB : List Ser → Nat
  | [] => 0
  | s :: l => if nErr s ≠ 0 then nErr s else firstErrB l
/-- Two neighbours have the same labels. -/
def adjB : List Ser → Bool
  | a :: b :: l => decide (cmpLabs a.1 b.1 = 0) || adjB (b :: l)
  | _ => false
/-- What Normalize gives. -/
def normB (l : List Ser) : Nat × List Ser :=
  if firstErrB l ≠ 0 then (firstErrB l, []) else if adjB (sortE ltB (l.map nSer)) = true then (19, []) else (0, sortE ltB (l.map nSer))

theorem ltT_ok : LtWk ltT := ⟨⟨fun a => by simp [ltT], fun a b c h1 h2 => by simp [ltT] at *; omega⟩, fun a b c h => by simp [ltT] at *; omega⟩
theorem ltB_ok : LtWk ltB := by
  refine ⟨⟨fun a => by simp [ltB, cmpLabs_ok.refl], fun a b c h1 h2 => ?_⟩, fun a b c h => ?_⟩
  · simp only [ltB, decide_eq_true_eq] at *; exact cmpLabs_ok.tr _ _ _ h1 h2
  · simp only [ltB, decide_eq_true_eq] at *
    rcases cmpLabs_ok.dom a.1 b.1 with e | e | e
    · exact Or.inl e
    · right; rw [← (cmpLabs_ok.eq _ _).1 e]; exact h
    · right
      have h1 : cmpLabs b.1 a.1 = -1 := by rw [cmpLabs_ok.flip a.1 b.1, e]
      exact cmpLabs_ok.tr _ _ _ h1 h

theorem timesFrom_zero (l : List Sam) : ∀ (a : Sam), timesFrom a.1 l = 0 ↔ AscB ltT (a :: l) := by
  induction l with
  | nil => intro a; exact ⟨fun _ => List.pairwise_singleton _ _, fun _ => rfl⟩
  | cons s l ih =>
    intro a
    rw [timesFrom]
    constructor
    · intro h
      split at h
      · cases h
      · next h1 =>
        split at h
        · cases h
        · next h2 =>
          have h3 := (ih s).1 h
          have hab : ltT a s = true := by simp [ltT]; omega
          refine List.pairwise_cons.2 ⟨fun y hy => ?_, h3⟩
          rcases List.mem_cons.1 hy with rfl | hy
          · exact hab
          · exact ltT_ok.tr _ _ _ hab ((List.pairwise_cons.1 h3).1 y hy)
    · intro h
      obtain ⟨h1, h2⟩ := List.pairwise_cons.1 h
      have hab := h1 s (by simp)
      simp [ltT] at hab
      rw [if_neg (by omega), if_neg (by omega)]
      exact (ih s).2 h2
theorem timesL_zero (l : List Sam) : timesL l = 0 ↔ AscB ltT l := by
  cases l with
  | nil => exact ⟨fun _ => List.Pairwise.nil, fun _ => rfl⟩
  | cons s l => exact timesFrom_zero l s
theorem times_sort (l : List Sam) : timesL (sortE ltT l) = 0 ↔ Keys ltT l := by
  rw [timesL_zero]
  exact ⟨fun h => (Keys.perm (sortE_perm l)).1 (keys_of_asc h), fun h => sortE_asc ltT_ok h⟩

theorem firstErrB_zero (l : List Ser) : firstErrB l = 0 ↔ ∀ s ∈ l, nErr s = 0 := by
  induction l with
  | nil => simp [firstErrB]
  | cons s l ih =>
    rw [firstErrB]
    split
    · next h => exact ⟨fun e => absurd e h, fun e => absurd (e s (by simp)) h⟩
    · next h => rw [ih]; simp only [List.mem_cons, forall_eq_or_imp]; exact ⟨fun e => ⟨Decidable.not_not.1 h, e⟩, fun e => e.2⟩
theorem nErr_zero (s : Ser) : nErr s = 0 ↔ (normL s.1).1 = 0 ∧ s.2 ≠ [] ∧ Keys ltT s.2 := by
  unfold nErr
  constructor
  · intro h
    split at h
    · next h1 => exact absurd h h1
    · next h1 =>
      split at h
      · cases h
      · next h2 => exact ⟨Decidable.not_not.1 h1, h2, (times_sort _).1 h⟩
  · rintro ⟨h1, h2, h3⟩
    rw [if_neg (not_not_intro h1), if_neg h2]
    exact (times_sort _).2 h3
theorem adjB_false {d : List Ser} (h : SrtE ltB d) : adjB d = false ↔ AscB ltB d := by
  induction d with
  | nil => exact ⟨fun _ => List.Pairwise.nil, fun _ => rfl⟩
  | cons a l ih =>
    obtain ⟨h1, h2⟩ := List.pairwise_cons.1 h
    cases l with
    | nil => exact ⟨fun _ => List.pairwise_singleton _ _, fun _ => rfl⟩
    | cons b l =>
      rw [adjB, Bool.or_eq_false_iff, ih h2]
      have hba := h1 b (by simp)
      constructor
      · rintro ⟨e1, e2⟩
        have hab : ltB a b = true := by
          simp only [ltB, decide_eq_true_eq, decide_eq_false_iff_not] at *
          rw [cmpLabs_ok.flip a.1 b.1] at hba
          rcases cmpLabs_ok.dom a.1 b.1 with e | e | e
          · exact e
          · exact absurd e e1
          · exact absurd (by rw [e]) hba
        refine List.pairwise_cons.2 ⟨fun y hy => ?_, e2⟩
        rcases List.mem_cons.1 hy with rfl | hy
        · exact hab
        · exact ltB_ok.tr _ _ _ hab ((List.pairwise_cons.1 e2).1 y hy)
      · intro e
        obtain ⟨f1, f2⟩ := List.pairwise_cons.1 e
        have := f1 b (by simp)
        simp only [ltB, decide_eq_true_eq] at this
        exact ⟨by rw [this]; rfl, f2⟩
/-- Normalize succeeds. -/
def NormOk (l : List Ser) : Prop := (∀ s ∈ l, nErr s = 0) ∧ Keys ltB (l.map nSer)
theorem adj_sort (l : List Ser) : adjB (sortE ltB l) = false ↔ Keys ltB l := by
  rw [adjB_false (sortE_srt ltB_ok l)]
  exact ⟨fun h => (Keys.perm (sortE_perm l)).1 (keys_of_asc h), fun h => sortE_asc ltB_ok h⟩
theorem normB_zero (l : List Ser) : (normB l).1 = 0 ↔ NormOk l := by
  unfold normB NormOk
  rw [← firstErrB_zero, ← adj_sort]
  constructor
  · intro h
    split at h
    · next h1 => exact absurd h h1
    · next h1 =>
      split at h
      · cases h
      · next h2 => exact ⟨Decidable.not_not.1 h1, by simpa using h2⟩
  · rintro ⟨h1, h2⟩
    rw [if_neg (not_not_intro h1), if_neg (by rw [h2]; decide)]
theorem normB_of {l : List Ser} (h : NormOk l) : normB l = (0, sortE ltB (l.map nSer)) := by
  have h1 := (firstErrB_zero l).2 h.1
  have h2 := (adj_sort _).2 h.2
  unfold normB
  rw [if_neg (not_not_intro h1), if_neg (by rw [h2]; decide)]
theorem normB_err {l : List Ser} (h : ¬ NormOk l) : (normB l).1 ≠ 0 ∧ (normB l).2 = [] := by
  refine ⟨fun e => h ((normB_zero l).1 e), ?_⟩
  have h0 : ¬ (normB l).1 = 0 := fun e => h ((normB_zero l).1 e)
  unfold normB at h0 ⊢
  split
  · rfl
  · next h1 =>
    rw [if_neg h1] at h0
    split
    · rfl
    · next h2 => rw [if_neg h2] at h0; exact absurd rfl h0
/-- The order of the series, and of their samples, does not matter. -/
theorem normB_forget {l m : List Ser} {f : Ser → Ser} (hf : ∀ s, (f s).1 = s.1 ∧ (f s).2.Perm s.2) (hp : m.Perm (l.map f)) : ((normB l).1 = 0 ↔ (normB m).1 = 0) ∧ (normB l).2 = (normB m).2 := by
  have he : ∀ s, nErr (f s) = 0 ↔ nErr s = 0 := fun s => by
    rw [nErr_zero, nErr_zero, (hf s).1, Keys.perm (hf s).2]
    have : (f s).2 ≠ [] ↔ s.2 ≠ [] := by
      rw [← List.length_pos_iff, ← List.length_pos_iff, (hf s).2.length_eq]
    rw [this]
  have hn : (∀ s ∈ l, nErr s = 0) → (l.map f).map nSer = l.map nSer := fun h => by
    rw [List.map_map]
    refine List.map_congr_left fun s hs => ?_
    show nSer (f s) = nSer s
    unfold nSer
    rw [(hf s).1, sortE_ext ltT_ok ((Keys.perm (hf s).2).2 ((nErr_zero s).1 (h s hs)).2.2) (hf s).2]
  have hall : (∀ s ∈ m, nErr s = 0) ↔ (∀ s ∈ l, nErr s = 0) := by
    constructor
    · intro h s hs
      exact (he s).1 (h (f s) (hp.mem_iff.2 (List.mem_map.2 ⟨s, hs, rfl⟩)))
    · intro h s hs
      obtain ⟨t, ht, rfl⟩ := List.mem_map.1 (hp.mem_iff.1 hs)
      exact (he t).2 (h t ht)
  have hok : NormOk l ↔ NormOk m := by
    unfold NormOk
    constructor
    · rintro ⟨h1, h2⟩
      exact ⟨hall.2 h1, (Keys.perm (hp.map nSer)).2 (by rw [hn h1]; exact h2)⟩
    · rintro ⟨h1, h2⟩
      have h1' := hall.1 h1
      exact ⟨h1', by have := (Keys.perm (hp.map nSer)).1 h2; rwa [hn h1'] at this⟩
  refine ⟨by rw [normB_zero, normB_zero]; exact hok, ?_⟩
  by_cases h : NormOk l
  · have hm := hok.1 h
    rw [normB_of h, normB_of hm]
    show sortE _ _ = sortE _ _
    refine (sortE_ext ltB_ok hm.2 ?_).symm
    have := hp.map nSer
    rwa [hn h.1] at this
  · rw [(normB_err h).2, (normB_err (fun e => h (hok.2 e))).2]
/-- A block: what Normalize gives. -/
structure Block (b : List Ser) : Prop where
  lab : ∀ s ∈ b, AscB ltN s.1 ∧ ∀ x ∈ s.1, oneL x = 0
  ne : ∀ s ∈ b, s.2 ≠ []
  asc : ∀ s ∈ b, AscB ltT s.2
  srt : AscB ltB b
theorem block_norm {l : List Ser} (h : (normB l).1 = 0) : Block (normB l).2 := by
  have h0 := (normB_zero l).1 h
  rw [normB_of h0]
  show Block (sortE ltB (l.map nSer))
  have hm : ∀ s, s ∈ sortE ltB (l.map nSer) → ∃ t ∈ l, nSer t = s := fun s hs => List.mem_map.1 ((sortE_perm _).mem_iff.1 hs)
  refine ⟨fun s hs => ?_, fun s hs => ?_, fun s hs => ?_, sortE_asc ltB_ok h0.2⟩
  · obtain ⟨t, ht, rfl⟩ := hm s hs
    have h1 := ((nErr_zero t).1 (h0.1 t ht)).1
    have h2 := normL_res h1
    exact ⟨h2.1, fun x hx => (normL_ok.1 h1).1 x ((h2.2 x).1 hx)⟩
  · obtain ⟨t, ht, rfl⟩ := hm s hs
    have h1 := ((nErr_zero t).1 (h0.1 t ht)).2.1
    exact fun e => h1 (List.eq_nil_of_length_eq_zero (by have := congrArg List.length e; rw [nSer, sortE_len] at this; simpa using this))
  · obtain ⟨t, ht, rfl⟩ := hm s hs
    exact sortE_asc ltT_ok ((nErr_zero t).1 (h0.1 t ht)).2.2
theorem nSer_block {b : List Ser} (h : Block b) {s : Ser} (hs : s ∈ b) : nErr s = 0 ∧ nSer s = s := by
  have h1 := norm_of_asc (h.lab s hs).1 (h.lab s hs).2
  refine ⟨(nErr_zero s).2 ⟨by rw [h1], h.ne s hs, keys_of_asc (h.asc s hs)⟩, ?_⟩
  unfold nSer
  rw [h1, sortE_of_asc ltT_ok (h.asc s hs)]
theorem norm_block {b : List Ser} (h : Block b) : normB b = (0, b) := by
  have hm : b.map nSer = b := by
    conv => rhs; rw [← List.map_id b]
    exact List.map_congr_left fun s hs => (nSer_block h hs).2
  have hok : NormOk b := ⟨fun s hs => (nSer_block h hs).1, by rw [hm]; exact keys_of_asc h.srt⟩
  rw [normB_of hok, hm, sortE_of_asc ltB_ok h.srt]
theorem check_asc0 {s : List Lab} (h : AscB ltN s) (ho : ∀ x ∈ s, oneL x = 0) : checkL s = 0 := check_asc s none h ho (fun n e => by cases e)
theorem checkB_block {b : List Ser} (h : Block b) : checkB b = 0 := by
  have key : ∀ (l : List Ser) (p : Option (List Lab)), Block l → (∀ q, p = some q → ∀ s, l.head? = some s → cmpLabs q s.1 = -1) → checkBFrom p l = 0 := by
    intro l
    induction l with
    | nil => intro p _ _; cases p <;> rfl
    | cons s l ih =>
      intro p hb hp
      obtain ⟨h1, h2⟩ := List.pairwise_cons.1 hb.srt
      have hl : Block l := ⟨fun t ht => hb.lab t (by simp [ht]), fun t ht => hb.ne t (by simp [ht]), fun t ht => hb.asc t (by simp [ht]), h2⟩
      have hs : serErr s = 0 := by
        unfold serErr
        rw [if_neg (not_not_intro (check_asc0 (hb.lab s (by simp)).1 (hb.lab s (by simp)).2)), if_neg (hb.ne s (by simp))]
        exact (timesL_zero _).2 (hb.asc s (by simp))
      have hrec : checkBFrom (some s.1) l = 0 := ih _ hl (fun q hq t ht => by
        cases hq
        have := h1 t (List.mem_of_mem_head? ht)
        simpa [ltB] using this)
      unfold checkBFrom
      rw [if_neg (not_not_intro hs)]
      cases p with
      | none => exact hrec
      | some q =>
        have hc := hp q rfl s rfl
        simp only
        rw [if_neg (by rw [hc]; decide), if_neg (by rw [hc]; decide)]
        exact hrec
  exact key b none h (fun q e => by cases e)
theorem checkB_norm {l : List Ser} (h : (normB l).1 = 0) : checkB (normB l).2 = 0 := checkB_block (block_norm h)
theorem norm_normB {l : List Ser} (h : (normB l).1 = 0) : normB (normB l).2 = (0, (normB l).2) := norm_block (block_norm h)
end Go.Proofs.YtkodhbkmpnokjaaGreat

end

section
/- What a call makes; the tactics. -/
namespace Go.Proofs.YtkodhbkmpnokjaaGreat
open Go Go.RowKit

/-- A slice that the call has made. -/
def Made (w w' : World) (e : TypeId) (sz : Nat) (r : Value) (n : Nat) (vs : List Value) : Prop := w'.ownsRow w.heap.size e sz r n vs ∧ Below w.heap.size w w'
end Go.Proofs.YtkodhbkmpnokjaaGreat

end

section
/- Layer 11: rows of labels: their cells, slices.Equal of two rows of the same labels. -/
set_option linter.unusedVariables false
namespace Go.Proofs.YtkodhbkmpnokjaaGreat
open Go Go.RowKit

def labCells (l : List Lab) : List Value := l.flatMap fun r => [.string r.1, .string r.2]
theorem elemLab : Elem Tryz.prog 34 39 2 32 := Elem.mk' (z := .agg #[.string ⟨#[]⟩, .string ⟨#[]⟩]) Tryz.underlying34 (by kernel_rfl) rfl (by decide)
theorem labCells_one (l : List Lab) : ∀ u ∈ labCells l, u.oneCell' = true := by
  intro u hu
  simp only [labCells, List.mem_flatMap] at hu
  obtain ⟨r, _, hu⟩ := hu
  simp only [List.mem_cons, List.not_mem_nil, or_false] at hu
  rcases hu with rfl | rfl <;> rfl
theorem labCells_length (rs : List Lab) : (labCells rs).length = rs.length * 2 := by
  induction rs with
  | nil => rfl
  | cons r rs ih => rw [labCells, List.flatMap_cons, List.length_append, ← labCells, ih, List.length_cons]; simp; omega
theorem labCells_append (a b : List Lab) : labCells (a ++ b) = labCells a ++ labCells b := by simp [labCells, List.flatMap_append]
theorem labCells_get (rs : List Lab) (j : Nat) (x c : ByteArray) (h : rs[j]? = some (x, c)) : (labCells rs)[j * 2]? = some (.string x) ∧ (labCells rs)[j * 2 + 1]? = some (.string c) := by
  induction rs generalizing j with
  | nil => simp at h
  | cons r rs ih =>
    have e : labCells (r :: rs) = [.string r.1, .string r.2] ++ labCells rs := by simp [labCells]
    cases j with
    | zero =>
      simp at h
      subst h
      rw [e]
      exact ⟨rfl, rfl⟩
    | succ j =>
      obtain ⟨h1, h2⟩ := ih j (by simpa using h)
      rw [e, show (j + 1) * 2 = j * 2 + 2 by omega]
      exact ⟨by simpa using h1, by simpa using h2⟩

end Go.Proofs.YtkodhbkmpnokjaaGreat

end

section
/- Rows of samples: their cells. -/
set_option linter.unusedVariables false
namespace Go.Proofs.YtkodhbkmpnokjaaGreat
open Go Go.RowKit


def samCells (l : List (Int × Nat)) : List Value := l.flatMap fun r => [.int .i64 r.1, .int .u64 (r.2 : Int)]

theorem elemSam : Elem Tryz.prog 35 42 2 16 := Elem.mk' (z := .agg #[.int .i64 0, .int .u64 0]) Tryz.underlying35 (by kernel_rfl) rfl (by decide)

theorem samCells_one (l : List (Int × Nat)) : ∀ u ∈ samCells l, u.oneCell' = true := by
  intro u hu
  simp only [samCells, List.mem_flatMap] at hu
  obtain ⟨r, _, hu⟩ := hu
  simp only [List.mem_cons, List.not_mem_nil, or_false] at hu
  rcases hu with rfl | rfl <;> rfl

theorem samCells_length (rs : List (Int × Nat)) : (samCells rs).length = rs.length * 2 := by
  induction rs with
  | nil => rfl
  | cons r rs ih => rw [samCells, List.flatMap_cons, List.length_append, ← samCells, ih, List.length_cons]; simp; omega

theorem samCells_append (a b : List (Int × Nat)) : samCells (a ++ b) = samCells a ++ samCells b := by simp [samCells, List.flatMap_append]

theorem samCells_get (rs : List (Int × Nat)) (j : Nat) (x : Int) (c : Nat) (h : rs[j]? = some (x, c)) : (samCells rs)[j * 2]? = some (.int .i64 x) ∧ (samCells rs)[j * 2 + 1]? = some (.int .u64 (c : Int)) := by
  induction rs generalizing j with
  | nil => simp at h
  | cons r rs ih =>
    have e : samCells (r :: rs) = [.int .i64 r.1, .int .u64 (r.2 : Int)] ++ samCells rs := by simp [samCells]
    cases j with
    | zero =>
      simp at h
      subst h
      rw [e]
      exact ⟨rfl, rfl⟩
    | succ j =>
      obtain ⟨h1, h2⟩ := ih j (by simpa using h)
      rw [e, show (j + 1) * 2 = j * 2 + 2 by omega]
      exact ⟨by simpa using h1, by simpa using h2⟩
end Go.Proofs.YtkodhbkmpnokjaaGreat

end

section
/- What a sample is. No program in sight. -/
set_option linter.unusedVariables false
set_option linter.unusedSimpArgs false
namespace Go.Proofs.YtkodhbkmpnokjaaGreat

def sampleOk (s : Int × Nat) : Prop := (-9223372036854775808 ≤ s.1 ∧ s.1 < 9223372036854775808) ∧ s.2 < 18446744073709551616
end Go.Proofs.YtkodhbkmpnokjaaGreat

end

section
/- A list in a row of the call's own, two cells an element. No program in sight. -/
set_option linter.unusedVariables false
namespace Go.Proofs.YtkodhbkmpnokjaaGreat
open Go Go.RowKit

section
variable {t : TypeId} {α : Type} {f1 f2 : α → Value}
def two (f1 f2 : α → Value) (d : List α) : List Value := d.flatMap fun x => [f1 x, f2 x]
theorem two_length (d : List α) : (two f1 f2 d).length = d.length * 2 := by
  induction d with
  | nil => rfl
  | cons r d ih => rw [two, List.flatMap_cons, List.length_append, ← two, ih, List.length_cons]; simp; omega
theorem two_append (a b : List α) : two f1 f2 (a ++ b) = two f1 f2 a ++ two f1 f2 b := by simp [two, List.flatMap_append]
theorem two_get (d : List α) (j : Nat) (x : α) (h : d[j]? = some x) : (two f1 f2 d)[j * 2]? = some (f1 x) ∧ (two f1 f2 d)[j * 2 + 1]? = some (f2 x) := by
  induction d generalizing j with
  | nil => simp at h
  | cons r d ih =>
    have e : two f1 f2 (r :: d) = f1 r :: f2 r :: two f1 f2 d := rfl
    cases j with
    | zero =>
      simp at h
      subst h
      rw [e]
      exact ⟨rfl, rfl⟩
    | succ j =>
      obtain ⟨h1, h2⟩ := ih j (by simpa using h)
      rw [e, show (j + 1) * 2 = j * 2 + 2 by omega]
      exact ⟨by simpa using h1, by simpa using h2⟩
theorem two_set (d : List α) (i : Nat) (y : α) : ((two f1 f2 d).set (i * 2) (f1 y)).set (i * 2 + 1) (f2 y) = two f1 f2 (d.set i y) := by
  induction d generalizing i with
  | nil => rfl
  | cons r d ih =>
    have e : two f1 f2 (r :: d) = f1 r :: f2 r :: two f1 f2 d := rfl
    cases i with
    | zero => rw [e]; rfl
    | succ i =>
      rw [e, show (i + 1) * 2 = i * 2 + 1 + 1 by omega]
      simp only [List.set_cons_succ]
      rw [ih i]; rfl

structure Own2 (t : TypeId) (f1 f2 : α → Value) (w wr : World) (d : List α) (v : Value) : Prop where
  row : wr.ownsRow w.heap.size t 2 v d.length (two f1 f2 d)
  bel : Below w.heap.size w wr
theorem Own2.nil (w : World) : Own2 t f1 f2 w w [] (.slice none 0 0) := ⟨World.ownsRow_nil _ _ _ _, Below.refl _ _⟩
theorem Own2.drewN {w wr : World} {d : List α} {v : Value} (h : Own2 t f1 f2 w wr d v) (n : Nat) : Own2 t f1 f2 w (wr.drewN n) d v :=
  ⟨(Mods.drewN (fun _ => False) wr n).owns h.row (fun _ _ e => e), h.bel.trans ((Mods.drewN (fun _ => False) wr n).below h.bel.size (fun _ _ e => e))⟩
theorem Own2.below {w wr w1 : World} {d : List α} {v : Value} (h : Own2 t f1 f2 w wr d v) (hb : Below wr.heap.size wr w1) : Own2 t f1 f2 w w1 d v :=
  ⟨(Mods.of_below hb (fun _ => False)).owns h.row (fun _ _ e => e), h.bel.trans (hb.mono h.bel.size)⟩
theorem Own2.shape {w wr : World} {d : List α} {v : Value} (h : Own2 t f1 f2 w wr d v) : ∃ p c, v = .slice p d.length c := (Rd.of_owns h.row).shape
theorem Own2.rd {w wr : World} {d : List α} {v : Value} (h : Own2 t f1 f2 w wr d v) : Rd wr 2 v d.length (two f1 f2 d) := Rd.of_owns h.row
theorem Own2.base0 {w wr : World} {d : List α} {v : Value} (h : Own2 t f1 f2 w wr d v) : wr.ownsRow 0 t 2 v d.length (two f1 f2 d) := owns_rebase h.row (fun _ _ => Nat.zero_le _)
theorem Own2.pushed {w wr w1 : World} {d : List α} {v v1 : Value} {x : α} (h : Own2 t f1 f2 w wr d v) (k : w1.ownsRow 0 t 2 v1 (d.length + 1) (two f1 f2 d ++ [f1 x, f2 x])) (m : Mods (fun k => v.ownBlock = some k) wr w1) (hf : Fresh wr.heap.size v v1) : Own2 t f1 f2 w w1 (d ++ [x]) v1 := by
  refine ⟨?_, h.bel.trans (m.below h.bel.size (fun k hk e => by have := (h.row.lt k e).1; omega))⟩
  rw [List.length_append, two_append]
  refine owns_rebase k (fun k hk => ?_)
  rcases hf k hk with e | e
  · exact (h.row.lt k e).1
  · have := h.bel.size; omega
theorem Own2.len {w wr : World} {d : List α} {p : Option Addr} {n c : Nat} (h : Own2 t f1 f2 w wr d (.slice p n c)) : n = d.length := by
  obtain ⟨p', c', h'⟩ := h.shape
  simp only [Value.slice.injEq] at h'
  exact h'.2.1
theorem Own2.stored {w wr : World} {d e : List α} {g n c i : Nat} {y : α} (h : Own2 t f1 f2 w wr d (.slice (some ⟨g, 0, none⟩) n c)) (he : d.set i y = e) : Own2 t f1 f2 w ((wr.setCell ⟨g, i * 2, none⟩ (f1 y)).setCell ⟨g, i * 2 + 1, none⟩ (f2 y)) e (.slice (some ⟨g, 0, none⟩) n c) := by
  subst he
  obtain rfl := h.len
  have hm1 : Mods (fun k => k = g) wr (wr.setCell ⟨g, i * 2, none⟩ (f1 y)) := Mods.set _ _ _ _ (fun _ => rfl)
  have hm2 : Mods (fun k => k = g) (wr.setCell ⟨g, i * 2, none⟩ (f1 y)) ((wr.setCell ⟨g, i * 2, none⟩ (f1 y)).setCell ⟨g, i * 2 + 1, none⟩ (f2 y)) := Mods.set _ _ _ _ (fun _ => rfl)
  have hg := (h.row.lt g rfl).1
  refine ⟨?_, h.bel.trans ((hm1.trans hm2 (fun _ _ e => e)).below h.bel.size (fun k hk e => by omega))⟩
  rw [List.length_set, ← two_set]
  exact ((h.row.stored (i * 2) _).1.stored (i * 2 + 1) _).1
theorem Own2.cell {w wr : World} {d : List α} {g n c i : Nat} {x : α} (h : Own2 t f1 f2 w wr d (.slice (some ⟨g, 0, none⟩) n c)) (hi : d[i]? = some x) :
    (wr.cell? ⟨g, i * 2, none⟩ = some (f1 x) ∧ wr.cell? ⟨g, i * 2 + 1, none⟩ = some (f2 x)) ∧ (wr.frozen? ⟨g, i * 2, none⟩ = false ∧ wr.frozen? ⟨g, i * 2 + 1, none⟩ = false) := by
  obtain rfl := h.len
  obtain ⟨h1, h2⟩ := two_get (f1 := f1) (f2 := f2) d i x hi
  have hlt := (List.getElem?_eq_some_iff.1 hi).1
  have hl := two_length (f1 := f1) (f2 := f2) d
  exact ⟨⟨by rw [h.row.cellAt (i * 2) (by omega)]; exact h1, by rw [h.row.cellAt (i * 2 + 1) (by omega)]; exact h2⟩, h.row.frozenAt _, h.row.frozenAt _⟩
/-- The cells of element i of a list that is read. -/
theorem rd2_cell {w : World} {b off c n : Nat} {d : List α} (h : Rd w 2 (.slice (some ⟨b, off, none⟩) n c) n (two f1 f2 d)) {i : Nat} {x : α} (hi : d[i]? = some x) :
    w.cell? ⟨b, off + i * 2, none⟩ = some (f1 x) ∧ w.cell? ⟨b, off + i * 2 + 1, none⟩ = some (f2 x) := by
  obtain ⟨h1, h2⟩ := two_get (f1 := f1) (f2 := f2) d i x hi
  obtain ⟨b2, o2, c2, e, _, _, hc⟩ := h.at (fun e => by rw [e] at h1; cases h1)
  simp only [Value.slice.injEq, Option.some.injEq, Addr.mk.injEq] at e
  obtain ⟨⟨rfl, rfl, _⟩, _, rfl⟩ := e
  exact ⟨hc _ _ h1, hc _ _ h2⟩
/-- A slice of two cells an element that is not empty has an address. -/
theorem rd2_at {w : World} {p : Option Addr} {c n : Nat} {d : List α} (h : Rd w 2 (.slice p n c) n (two f1 f2 d)) {i : Nat} {x : α} (hi : d[i]? = some x) : ∃ b off, p = some ⟨b, off, none⟩ := by
  obtain ⟨h1, _⟩ := two_get (f1 := f1) (f2 := f2) d i x hi
  obtain ⟨b2, o2, c2, e, _, _, _⟩ := h.at (fun e => by rw [e] at h1; cases h1)
  simp only [Value.slice.injEq] at e
  exact ⟨b2, o2, e.1⟩
end
theorem Own2.extended {α : Type} {t : TypeId} {f1 f2 : α → Value} {w wr w1 : World} {d e : List α} {v v1 : Value} (h : Own2 t f1 f2 w wr d v) (k : w1.ownsRow 0 t 2 v1 (d.length + e.length) (two f1 f2 d ++ two f1 f2 e)) (m : Mods (fun k => v.ownBlock = some k) wr w1) (hf : Fresh wr.heap.size v v1) : Own2 t f1 f2 w w1 (d ++ e) v1 := by
  refine ⟨?_, h.bel.trans (m.below h.bel.size (fun k hk e => by have := (h.row.lt k e).1; omega))⟩
  rw [List.length_append, two_append]
  refine owns_rebase k (fun k hk => ?_)
  rcases hf k hk with e | e
  · exact (h.row.lt k e).1
  · have := h.bel.size; omega

end Go.Proofs.YtkodhbkmpnokjaaGreat

end

section
/- Layer 12: lists of series that are read: rows of two slices, each of which leads on. -/
set_option linter.unusedVariables false
namespace Go.Proofs.YtkodhbkmpnokjaaGreat
open Go Go.RowKit

theorem labCells_two' (l : List Lab) : labCells l = two (fun x : Lab => Value.string x.1) (fun x : Lab => Value.string x.2) l := rfl
theorem samCells_two (l : List Sam) : samCells l = two (fun x : Sam => Value.int .i64 x.1) (fun x : Sam => Value.int .u64 (x.2 : Int)) l := rfl

/-- What the two cells of a series hold. -/
def SerAt (w : World) (h : Value × Value) (s : Ser) : Prop := Rd w 2 h.1 s.1.length (labCells s.1) ∧ Rd w 2 h.2 s.2.length (samCells s.2)
theorem SerAt.below {w w' : World} {h : Value × Value} {s : Ser} (k : SerAt w h s) (hb : Below w.heap.size w w') : SerAt w' h s := ⟨k.1.below hb, k.2.below hb⟩
/-- A list of series that is read. -/
structure RdB (w : World) (v : Value) (b : List Ser) : Prop where
  ex : ∃ hs : List (Value × Value), Rd w 2 v hs.length (two Prod.fst Prod.snd hs) ∧ hs.length = b.length ∧ ∀ (i : Nat) (h : Value × Value) (s : Ser), hs[i]? = some h → b[i]? = some s → SerAt w h s
theorem RdB.below {w w' : World} {v : Value} {b : List Ser} (k : RdB w v b) (hb : Below w.heap.size w w') : RdB w' v b := by
  obtain ⟨hs, h1, h2, h3⟩ := k.ex
  exact ⟨hs, h1.below hb, h2, fun i h s hi hj => (h3 i h s hi hj).below hb⟩
theorem RdB.shape {w : World} {v : Value} {b : List Ser} (k : RdB w v b) : ∃ p c, v = .slice p b.length c := by
  obtain ⟨hs, h1, h2, _⟩ := k.ex
  rw [← h2]
  exact h1.shape
theorem RdB.le {w : World} {v : Value} {b : List Ser} (k : RdB w v b) : b.length ≤ maxLen := by
  obtain ⟨hs, h1, h2, _⟩ := k.ex
  rw [← h2]
  exact h1.le
/-- Series i of a list. -/
theorem RdB.at {w : World} {p : Option Addr} {n c : Nat} {b : List Ser} (k : RdB w (.slice p n c) b) {i : Nat} {s : Ser} (hi : b[i]? = some s) :
    ∃ blk off h1 h2, p = some ⟨blk, off, none⟩ ∧ w.cell? ⟨blk, off + i * 2, none⟩ = some h1 ∧ w.cell? ⟨blk, off + i * 2 + 1, none⟩ = some h2 ∧ SerAt w (h1, h2) s := by
  obtain ⟨hs, h1, h2, h3⟩ := k.ex
  have hlt := (List.getElem?_eq_some_iff.1 hi).1
  obtain ⟨h, hh⟩ : ∃ h, hs[i]? = some h := ⟨_, List.getElem?_eq_getElem (by omega)⟩
  obtain ⟨p', c', e⟩ := h1.shape
  simp only [Value.slice.injEq] at e
  obtain ⟨rfl, rfl, rfl⟩ := e
  obtain ⟨blk, off, rfl⟩ := rd2_at h1 hh
  obtain ⟨c1, c2⟩ := rd2_cell h1 hh
  exact ⟨blk, off, h.1, h.2, rfl, c1, c2, h3 i h s hh hi⟩
/-- .. and in every later world. -/
theorem RdB.always {w : World} {p : Option Addr} {n c : Nat} {b : List Ser} (k : RdB w (.slice p n c) b) {i : Nat} {s : Ser} (hi : b[i]? = some s) :
    ∃ blk off h1 h2, p = some ⟨blk, off, none⟩ ∧ (∃ p1 c1, h1 = .slice p1 s.1.length c1) ∧ (∃ p2 c2, h2 = .slice p2 s.2.length c2) ∧
      ∀ w', Below w.heap.size w w' → w'.cell? ⟨blk, off + i * 2, none⟩ = some h1 ∧ w'.cell? ⟨blk, off + i * 2 + 1, none⟩ = some h2 ∧ SerAt w' (h1, h2) s := by
  obtain ⟨blk, off, h1, h2, e, c1, c2, hs⟩ := k.at hi
  exact ⟨blk, off, h1, h2, e, hs.1.shape, hs.2.shape, fun w' hb => ⟨(hb.cell (World.block_lt_of_cell? w _ c1)).trans c1, (hb.cell (World.block_lt_of_cell? w _ c2)).trans c2, hs.below hb⟩⟩
/-- Strings that a machine can hold, numbers that their types can. -/
def SerSized (s : Ser) : Prop := (∀ x ∈ s.1, x.1.size ≤ 9223372036854775807 ∧ x.2.size ≤ 9223372036854775807) ∧ ∀ x ∈ s.2, sampleOk x
def Sized (b : List Ser) : Prop := ∀ s ∈ b, SerSized s
/-- Within the statements' bounds. -/
structure Small (b : List Ser) : Prop where
  len : b.length ≤ 300
  sam : samplesB b ≤ 3000
  lab : ∀ s ∈ b, s.1.length ≤ 200
theorem Small.mem {b : List Ser} (h : Small b) {s : Ser} (hs : s ∈ b) : s.2.length ≤ 3000 := Nat.le_trans (samplesB_mem hs) h.sam
end Go.Proofs.YtkodhbkmpnokjaaGreat

end

section
/- Layer 11: labels in a row of the call's own; an empty string. No program in sight. -/
set_option linter.unusedVariables false
set_option maxRecDepth 20000
namespace Go.Proofs.YtkodhbkmpnokjaaGreat
open Go Go.RowKit

abbrev OwnL := Own2 39 (fun x : Lab => Value.string x.1) (fun x : Lab => Value.string x.2)
theorem labCells_two (l : List Lab) : labCells l = two (fun x : Lab => Value.string x.1) (fun x : Lab => Value.string x.2) l := rfl

theorem empty_size (n : ByteArray) : n.toList.isEmpty = decide (n.size = 0) := by
  rw [ByteArray.toList_eq]
  cases n with
  | mk d => cases d with
    | mk l => cases l <;> simp [ByteArray.size]

end Go.Proofs.YtkodhbkmpnokjaaGreat

end

section
/- Layer 11: the check of labels, one step. No program in sight. -/
set_option linter.unusedVariables false
namespace Go.Proofs.YtkodhbkmpnokjaaGreat
open Go Go.RowKit

/-- What the check of a label beside the one before gives. -/
def checkNext (p : Option ByteArray) (x : Lab) (rest : Nat) : Nat := match p with
  | none => rest
  | some n => if x.1 = n then 18 else if ltS x.1 n then 16 else rest
theorem checkFrom_cons (p : Option ByteArray) (x : Lab) (l : List Lab) : checkFrom p (x :: l) = if oneL x ≠ 0 then oneL x else checkNext p x (checkFrom (some x.1) l) := by cases p <;> rfl
/-- The name before place i. -/
def prevN (l : List Lab) (i : Nat) : Option ByteArray := if i = 0 then none else (l[i - 1]?).map Prod.fst
theorem check_step {l : List Lab} {i : Nat} {x : Lab} (hx : l[i]? = some x) (h : checkL l = checkFrom (prevN l i) (l.drop i)) :
    checkL l = if oneL x ≠ 0 then oneL x else checkNext (prevN l i) x (checkFrom (prevN l (i + 1)) (l.drop (i + 1))) := by
  have hlt := (List.getElem?_eq_some_iff.1 hx).1
  have hd : l.drop i = x :: l.drop (i + 1) := by rw [List.drop_eq_getElem_cons hlt, (List.getElem?_eq_some_iff.1 hx).2]
  have hp : prevN l (i + 1) = some x.1 := by rw [prevN, if_neg (by omega), Nat.add_sub_cancel, hx]; rfl
  rw [h, hd, checkFrom_cons, hp]

end Go.Proofs.YtkodhbkmpnokjaaGreat

end
