/- LabP, Made, LabRw, Own2, RowHd, EntRow, Open, Own1, RdBL, Bytes, OwnB, in one text. -/
import Derived.Test.YtpjfhakmffcolaaMrg1
import Derived.Test.YtpjfhakmffcolaaProg
import Derived.WalkSpells
import Derived.WalkLawsBesides
import Derived.Outline
import Derived.Lib.Hide
import Derived.Deep.QuietTactic
import Derived.BigQuiet
import Derived.StillTailTactics
import Derived.Laws.IdiomStrings
import Derived.Lib.SlBytesConst
import Derived.ProofKit
import Derived.OpenShut
import Derived.Deep.Slices
import Derived.SizedLaws

section
/- Layer 11: labels, their order, normal label sets, as functions on lists. No program in sight. -/
set_option linter.unusedVariables false
namespace Go.Proofs.Ytpjfhakmffcolaa
open Go Go.RowKit

/-! ### Comparing, in general -/
structure CmpOk {α : Type} (cmp : α → α → Int) : Prop where
  dom : ∀ a b, cmp a b = -1 ∨ cmp a b = 0 ∨ cmp a b = 1
  eq : ∀ a b, cmp a b = 0 ↔ a = b
  flip : ∀ a b, cmp b a = - cmp a b
  tr : ∀ a b c, cmp a b = -1 → cmp b c = -1 → cmp a c = -1
theorem CmpOk.refl {α : Type} {cmp : α → α → Int} (h : CmpOk cmp) (a : α) : cmp a a = 0 := (h.eq a a).2 rfl
theorem CmpOk.lt {α : Type} {cmp : α → α → Int} (h : CmpOk cmp) : LtOk (fun a b => decide (cmp a b = -1)) :=
  ⟨⟨fun a => by rw [h.refl]; rfl, fun a b c h1 h2 => by
    simp only [decide_eq_true_eq] at h1 h2 ⊢
    exact h.tr a b c h1 h2⟩, fun a b h1 h2 => by
    simp only [decide_eq_false_iff_not] at h1 h2
    rw [h.flip a b] at h2
    rcases h.dom a b with e | e | e
    · exact absurd e h1
    · exact (h.eq a b).1 e
    · rw [e] at h2; exact absurd rfl h2⟩
/-- From an order. -/
def ordB {α : Type} (lt : α → α → Bool) (a b : α) : Int := if lt a b then -1 else if lt b a then 1 else 0
theorem ordB_ok {α : Type} {lt : α → α → Bool} (h : LtOk lt) : CmpOk (ordB lt) := by
  refine ⟨fun a b => ?_, fun a b => ?_, fun a b => ?_, fun a b c h1 h2 => ?_⟩
  · unfold ordB; split
    · exact Or.inl rfl
    · split
      · exact Or.inr (Or.inr rfl)
      · exact Or.inr (Or.inl rfl)
  · unfold ordB
    constructor
    · intro e
      split at e
      · cases e
      · next h1 =>
        split at e
        · cases e
        · next h2 => exact h.tot a b (by simpa using h1) (by simpa using h2)
    · rintro rfl; simp [h.irr]
  · unfold ordB
    rcases Bool.eq_false_or_eq_true (lt a b) with e | e
    · simp [e, h.asy e]
    · rcases Bool.eq_false_or_eq_true (lt b a) with f | f <;> simp [e, f]
  · have lt1 : ∀ x y, ordB lt x y = -1 → lt x y = true := fun x y e => by
      unfold ordB at e
      split at e
      · assumption
      · split at e <;> cases e
    have := h.tr a b c (lt1 a b h1) (lt1 b c h2)
    unfold ordB; rw [if_pos this]
/-- Pairs, first by the first. -/
def cmpP {α β : Type} (c1 : α → α → Int) (c2 : β → β → Int) (a b : α × β) : Int := if c1 a.1 b.1 = 0 then c2 a.2 b.2 else c1 a.1 b.1
theorem cmpP_ok {α β : Type} {c1 : α → α → Int} {c2 : β → β → Int} (h1 : CmpOk c1) (h2 : CmpOk c2) : CmpOk (cmpP c1 c2) := by
  refine ⟨fun a b => ?_, fun a b => ?_, fun a b => ?_, fun a b c e f => ?_⟩
  · unfold cmpP; split
    · exact h2.dom _ _
    · exact h1.dom _ _
  · obtain ⟨a1, a2⟩ := a; obtain ⟨b1, b2⟩ := b
    unfold cmpP
    split
    · next e => rw [h2.eq]; simp only at e; rw [(h1.eq _ _).1 e]; simp
    · next e =>
      constructor
      · intro h; exact absurd h e
      · rintro h; cases h; exact absurd (h1.refl _) e
  · unfold cmpP
    rw [h1.flip a.1 b.1, h2.flip a.2 b.2]
    by_cases e : c1 a.1 b.1 = 0
    · rw [if_pos e, if_pos (by omega)]
    · rw [if_neg e, if_neg (by omega)]
  · unfold cmpP at e f ⊢
    by_cases e1 : c1 a.1 b.1 = 0
    · rw [if_pos e1] at e
      rw [(h1.eq _ _).1 e1]
      by_cases f1 : c1 b.1 c.1 = 0
      · rw [if_pos f1] at f ⊢; exact h2.tr _ _ _ e f
      · rw [if_neg f1] at f ⊢; exact f
    · rw [if_neg e1] at e
      by_cases f1 : c1 b.1 c.1 = 0
      · rw [if_pos f1] at f
        rw [← (h1.eq _ _).1 f1, if_neg e1]; exact e
      · rw [if_neg f1] at f
        have := h1.tr _ _ _ e f
        rw [this, if_neg (by decide)]
/-- Lists, element by element; a proper prefix is less. -/
def cmpL {α : Type} (c : α → α → Int) : List α → List α → Int
  | [], [] => 0
  | [], _ :: _ => -1
  | _ :: _, [] => 1
  | a :: l, b :: k => if c a b = 0 then cmpL c l k else c a b
theorem cmpL_ok {α : Type} {c : α → α → Int} (h : CmpOk c) : CmpOk (cmpL c) := by
  refine ⟨fun a => ?_, fun a => ?_, fun a => ?_, fun a => ?_⟩
  · induction a with
    | nil => intro b; cases b <;> simp [cmpL]
    | cons x a ih =>
      intro b
      cases b with
      | nil => simp [cmpL]
      | cons y b => rw [cmpL]; split
                    · exact ih b
                    · exact h.dom _ _
  · induction a with
    | nil => intro b; cases b <;> simp [cmpL]
    | cons x a ih =>
      intro b
      cases b with
      | nil => simp [cmpL]
      | cons y b =>
        rw [cmpL]
        split
        · next e => rw [ih b, (h.eq _ _).1 e]; simp
        · next e =>
          constructor
          · intro g; exact absurd g e
          · rintro g; cases g; exact absurd (h.refl _) e
  · induction a with
    | nil => intro b; cases b <;> simp [cmpL]
    | cons x a ih =>
      intro b
      cases b with
      | nil => simp [cmpL]
      | cons y b =>
        rw [cmpL, cmpL, h.flip x y, ih b]
        by_cases e : c x y = 0
        · rw [if_pos e, if_pos (by omega)]
        · rw [if_neg e, if_neg (by omega)]
  · induction a with
    | nil =>
      intro b k e f
      cases k with
      | nil => cases b with
        | nil => simp [cmpL] at e
        | cons y b => simp [cmpL] at f
      | cons z k => rfl
    | cons x a ih =>
      intro b k e f
      cases b with
      | nil => simp [cmpL] at e
      | cons y b =>
        cases k with
        | nil => simp [cmpL] at f
        | cons z k =>
          rw [cmpL] at e f ⊢
          by_cases e1 : c x y = 0
          · rw [if_pos e1] at e
            rw [(h.eq _ _).1 e1]
            by_cases f1 : c y z = 0
            · rw [if_pos f1] at f ⊢; exact ih b k e f
            · rw [if_neg f1] at f ⊢; exact f
          · rw [if_neg e1] at e
            by_cases f1 : c y z = 0
            · rw [← (h.eq _ _).1 f1, if_neg e1]; exact e
            · rw [if_neg f1] at f
              have := h.tr _ _ _ e f
              rw [this, if_neg (by decide)]

/-! ### Labels -/
abbrev Lab := ByteArray × ByteArray
def ordS : ByteArray → ByteArray → Int := ordB ltS
theorem ordS_ok : CmpOk ordS := ordB_ok ltS_ok
def cmpLab : Lab → Lab → Int := cmpP ordS ordS
theorem cmpLab_ok : CmpOk cmpLab := cmpP_ok ordS_ok ordS_ok
def cmpLabs : List Lab → List Lab → Int := cmpL cmpLab
theorem cmpLabs_ok : CmpOk cmpLabs := cmpL_ok cmpLab_ok

/-- ErrName or ErrLimit of a label. -/
def oneL (x : Lab) : Nat := if x.1.size = 0 then 17 else if 65535 < x.1.size ∨ 65535 < x.2.size then 7 else 0
/-- What Check gives, the name before being p. -/
def checkFrom (p : Option ByteArray) : List Lab → Nat
  | [] => 0
  | x :: l =>
    if oneL x ≠ 0 then oneL x else
    match p with
    | none => checkFrom (some x.1) l
    | some n => if x.1 = n then 18 else if ltS x.1 n then 16 else checkFrom (some x.1) l
def checkL (l : List Lab) : Nat := checkFrom none l

/-- The order of labels, by names. -/
def ltN (a b : Lab) : Bool := ltS a.1 b.1
/-- The first error of a label. -/
def firstErr : List Lab → Nat
  | [] => 0
  | x :: l => if oneL x ≠ 0 then oneL x else firstErr l
/-- Labels are put in order, one by one; none if two have one name. -/
def putL : List Lab → List Lab → Option (List Lab)
  | out, [] => some out
  | out, x :: l => if ∃ y ∈ out, y.1 = x.1 then none else putL (insB ltN x out) l
/-- What Normalize gives. -/
def normL (l : List Lab) : Nat × List Lab := if firstErr l ≠ 0 then (firstErr l, []) else match putL [] l with
  | none => (18, [])
  | some out => (0, out)
def getL (l : List Lab) (n : ByteArray) : Option ByteArray := (l.find? fun x => decide (x.1 = n)).map Prod.snd
def stringsL (l : List Lab) : List ByteArray := l.flatMap fun x => [x.1, x.2]

theorem ltN_ok : LtPre ltN := ⟨fun a => ltS_ok.irr _, fun a b c => ltS_ok.tr _ _ _⟩
theorem ltN_ne {a b : Lab} (h : a.1 ≠ b.1) : ltN a b = false → ltN b a = true := fun h1 => by
  rcases Bool.eq_false_or_eq_true (ltN b a) with e | e
  · exact e
  · exact absurd (ltS_ok.tot _ _ h1 e) h
theorem insN_mem (x z : Lab) (d : List Lab) (hd : ∀ y ∈ d, y.1 ≠ x.1) : z ∈ insB ltN x d ↔ z = x ∨ z ∈ d := by
  induction d with
  | nil => simp [insB]
  | cons y l ih =>
    have hy := hd y (by simp)
    rw [insB]
    split
    · rw [List.mem_cons, ih (fun y hy => hd y (by simp [hy])), List.mem_cons]
      constructor
      · rintro (h | h | h)
        · exact Or.inr (Or.inl h)
        · exact Or.inl h
        · exact Or.inr (Or.inr h)
      · rintro (h | h | h)
        · exact Or.inr (Or.inl h)
        · exact Or.inl h
        · exact Or.inr (Or.inr h)
    · next h1 =>
      rw [if_pos (ltN_ne hy (by simpa using h1))]
      simp
theorem insN_asc (x : Lab) (d : List Lab) (hd : ∀ y ∈ d, y.1 ≠ x.1) (ha : AscB ltN d) : AscB ltN (insB ltN x d) := by
  induction d with
  | nil => exact List.pairwise_singleton _ _
  | cons y l ih =>
    obtain ⟨h1, h2⟩ := List.pairwise_cons.1 ha
    have hd' : ∀ y ∈ l, y.1 ≠ x.1 := fun y hy => hd y (by simp [hy])
    rw [insB]
    split
    · next hyx =>
      exact List.pairwise_cons.2 ⟨fun z hz => by
        rcases (insN_mem x z l hd').1 hz with e | e
        · subst e; exact hyx
        · exact h1 z e, ih hd' h2⟩
    · next hyx =>
      have hxy := ltN_ne (hd y (by simp)) (by simpa using hyx)
      rw [if_pos hxy]
      exact List.pairwise_cons.2 ⟨fun z hz => by
        rcases List.mem_cons.1 hz with e | e
        · subst e; exact hxy
        · exact ltN_ok.tr _ _ _ hxy (h1 z e), ha⟩

theorem firstErr_zero (l : List Lab) : firstErr l = 0 ↔ ∀ x ∈ l, oneL x = 0 := by
  induction l with
  | nil => simp [firstErr]
  | cons x l ih =>
    rw [firstErr]
    split
    · next h => constructor
                · intro e; exact absurd e h
                · intro e; exact absurd (e x (by simp)) h
    · next h => rw [ih]; simp only [List.mem_cons, forall_eq_or_imp]
                constructor
                · intro e; exact ⟨Decidable.not_not.1 h, e⟩
                · intro e; exact e.2
/-- The names of labels. -/
def namesL (l : List Lab) : List ByteArray := l.map Prod.fst
theorem putL_some (l : List Lab) : ∀ (out r : List Lab), putL out l = some r → AscB ltN out → AscB ltN r ∧ (∀ z, z ∈ r ↔ z ∈ out ∨ z ∈ l) ∧ (namesL l).Nodup ∧ (∀ y ∈ out, ∀ x ∈ l, y.1 ≠ x.1) := by
  induction l with
  | nil => intro out r h ha; simp [putL] at h; subst h; exact ⟨ha, fun z => by simp, List.nodup_nil, fun _ _ _ h => by cases h⟩
  | cons x l ih =>
    intro out r h ha
    rw [putL] at h
    split at h
    · cases h
    · next hn =>
      have hn' : ∀ y ∈ out, y.1 ≠ x.1 := fun y hy e => hn ⟨y, hy, e⟩
      obtain ⟨h1, h2, h3, h4⟩ := ih _ r h (insN_asc x out hn' ha)
      refine ⟨h1, fun z => ?_, ?_, fun y hy z hz => ?_⟩
      · rw [h2, insN_mem x z out hn', List.mem_cons]
        constructor
        · rintro ((h | h) | h)
          · exact Or.inr (Or.inl h)
          · exact Or.inl h
          · exact Or.inr (Or.inr h)
        · rintro (h | h | h)
          · exact Or.inl (Or.inr h)
          · exact Or.inl (Or.inl h)
          · exact Or.inr h
      · rw [namesL, List.map_cons, List.nodup_cons]
        refine ⟨fun hm => ?_, h3⟩
        obtain ⟨z, hz, he⟩ := List.mem_map.1 hm
        exact h4 x ((insN_mem x x out hn').2 (Or.inl rfl)) z hz he.symm
      · rcases List.mem_cons.1 hz with e | e
        · subst e; exact hn' y hy
        · exact h4 y ((insN_mem x y out hn').2 (Or.inr hy)) z e
theorem putL_of (l : List Lab) : ∀ (out : List Lab), (namesL l).Nodup → (∀ y ∈ out, ∀ x ∈ l, y.1 ≠ x.1) → ∃ r, putL out l = some r := by
  induction l with
  | nil => intro out _ _; exact ⟨out, rfl⟩
  | cons x l ih =>
    intro out hnd hd
    rw [namesL, List.map_cons, List.nodup_cons] at hnd
    have hn' : ∀ y ∈ out, y.1 ≠ x.1 := fun y hy => hd y hy x (by simp)
    rw [putL, if_neg (fun ⟨y, hy, e⟩ => hn' y hy e)]
    refine ih _ hnd.2 (fun y hy z hz => ?_)
    rcases (insN_mem x y out hn').1 hy with e | e
    · subst e; intro he; exact hnd.1 (List.mem_map.2 ⟨z, hz, he.symm⟩)
    · exact hd y e z (by simp [hz])
theorem normL_ok {l : List Lab} : (normL l).1 = 0 ↔ (∀ x ∈ l, oneL x = 0) ∧ (namesL l).Nodup := by
  unfold normL
  constructor
  · intro h
    split at h
    · next h1 => exact absurd h h1
    · next h1 =>
      split at h
      · cases h
      · next r hr => exact ⟨(firstErr_zero l).1 (Decidable.not_not.1 h1), (putL_some l [] r hr List.Pairwise.nil).2.2.1⟩
  · rintro ⟨h1, h2⟩
    rw [if_neg (not_not_intro ((firstErr_zero l).2 h1))]
    obtain ⟨r, hr⟩ := putL_of l [] h2 (fun _ h => by cases h)
    rw [hr]
theorem normL_res {l : List Lab} (h : (normL l).1 = 0) : AscB ltN (normL l).2 ∧ ∀ z, z ∈ (normL l).2 ↔ z ∈ l := by
  have h0 := normL_ok.1 h
  unfold normL
  rw [if_neg (not_not_intro ((firstErr_zero l).2 h0.1))]
  obtain ⟨r, hr⟩ := putL_of l [] h0.2 (fun _ h => by cases h)
  rw [hr]
  obtain ⟨a, b, _⟩ := putL_some l [] r hr List.Pairwise.nil
  exact ⟨a, fun z => by rw [b]; simp⟩
theorem normL_err {l : List Lab} (h : (normL l).1 ≠ 0) : (normL l).2 = [] := by
  unfold normL at h ⊢
  split
  · rfl
  · next h1 =>
    rw [if_neg h1] at h
    split
    · rfl
    · next r hr => rw [hr] at h; exact absurd rfl h
theorem norm_perm {l m : List Lab} (hp : l.Perm m) : ((normL l).1 = 0 ↔ (normL m).1 = 0) ∧ (normL l).2 = (normL m).2 := by
  have hiff : (normL l).1 = 0 ↔ (normL m).1 = 0 := by
    rw [normL_ok, normL_ok]
    have h1 : (namesL l).Nodup ↔ (namesL m).Nodup := (hp.map Prod.fst).nodup_iff
    have h2 : (∀ x ∈ l, oneL x = 0) ↔ (∀ x ∈ m, oneL x = 0) := ⟨fun h x hx => h x (hp.mem_iff.2 hx), fun h x hx => h x (hp.mem_iff.1 hx)⟩
    rw [h1, h2]
  refine ⟨hiff, ?_⟩
  by_cases h : (normL l).1 = 0
  · obtain ⟨a1, a2⟩ := normL_res h
    obtain ⟨b1, b2⟩ := normL_res (hiff.1 h)
    exact ascB_ext ltN_ok _ _ a1 b1 (fun z => by rw [a2, b2]; exact hp.mem_iff)
  · rw [normL_err h, normL_err (fun e => h (hiff.2 e))]
theorem ascN_nodup {l : List Lab} (h : AscB ltN l) : (namesL l).Nodup := by
  rw [namesL, List.Nodup, List.pairwise_map]
  exact List.Pairwise.imp (fun hab e => by unfold ltN at hab; rw [e, ltS_ok.irr] at hab; cases hab) h
theorem norm_of_asc {l : List Lab} (h : AscB ltN l) (ho : ∀ x ∈ l, oneL x = 0) : normL l = (0, l) := by
  have h0 : (normL l).1 = 0 := normL_ok.2 ⟨ho, ascN_nodup h⟩
  obtain ⟨a1, a2⟩ := normL_res h0
  have : (normL l).2 = l := ascB_ext ltN_ok _ _ a1 h a2
  exact Prod.ext h0 this
theorem norm_idem {l : List Lab} (h : (normL l).1 = 0) : normL (normL l).2 = (0, (normL l).2) := by
  obtain ⟨a1, a2⟩ := normL_res h
  exact norm_of_asc a1 (fun x hx => (normL_ok.1 h).1 x ((a2 x).1 hx))
theorem check_asc (l : List Lab) : ∀ (p : Option ByteArray), AscB ltN l → (∀ x ∈ l, oneL x = 0) → (∀ n, p = some n → ∀ x, l.head? = some x → ltS n x.1 = true) → checkFrom p l = 0 := by
  induction l with
  | nil => intro p _ _ _; rfl
  | cons x l ih =>
    intro p ha ho hp
    obtain ⟨h1, h2⟩ := List.pairwise_cons.1 ha
    have hrec : checkFrom (some x.1) l = 0 := ih (some x.1) h2 (fun y hy => ho y (by simp [hy])) (fun n hn y hy => by
      cases hn
      exact h1 y (List.mem_of_mem_head? hy))
    cases p with
    | none => rw [checkFrom, if_neg (not_not_intro (ho x (by simp)))]; exact hrec
    | some n =>
      have hl := hp n rfl x rfl
      rw [checkFrom, if_neg (not_not_intro (ho x (by simp)))]
      rw [if_neg (fun e => by rw [e, ltS_ok.irr] at hl; cases hl), if_neg (by rw [ltS_ok.asy hl]; simp)]
      exact hrec
theorem check_norm {l : List Lab} (h : (normL l).1 = 0) : checkL (normL l).2 = 0 := by
  obtain ⟨a1, a2⟩ := normL_res h
  exact check_asc _ none a1 (fun x hx => (normL_ok.1 h).1 x ((a2 x).1 hx)) (fun _ e => by cases e)
end Go.Proofs.Ytpjfhakmffcolaa

end

section
/- What a call makes; the tactics. -/
namespace Go.Proofs.Ytpjfhakmffcolaa
open Go Go.RowKit

/-- A slice that the call has made. -/
def Made (w w' : World) (e : TypeId) (sz : Nat) (r : Value) (n : Nat) (vs : List Value) : Prop := w'.ownsRow w.heap.size e sz r n vs ∧ Below w.heap.size w w'
end Go.Proofs.Ytpjfhakmffcolaa

end

section
/- Layer 11: rows of labels: their cells, slices.Equal of two rows of the same labels. -/
set_option linter.unusedVariables false
namespace Go.Proofs.Ytpjfhakmffcolaa
open Go Go.RowKit

def labCells (l : List Lab) : List Value := l.flatMap fun r => [.string r.1, .string r.2]
theorem elemLab : Elem Try.prog 36 34 2 32 := Elem.mk' (z := .agg #[.string ⟨#[]⟩, .string ⟨#[]⟩]) Try.underlying36 (by kernel_rfl) rfl (by decide)
theorem labCells_one (l : List Lab) : ∀ u ∈ labCells l, u.oneCell' = true := by
  intro u hu
  simp only [labCells, List.mem_flatMap] at hu
  obtain ⟨r, _, hu⟩ := hu
  simp only [List.mem_cons, List.not_mem_nil, or_false] at hu
  rcases hu with rfl | rfl <;> rfl
theorem labCells_length (rs : List Lab) : (labCells rs).length = rs.length * 2 := by
  induction rs with
  | nil => rfl
  | cons r rs ih => rw [labCells, List.flatMap_cons, List.length_append, ← labCells, ih, List.length_cons]; simp; omega
theorem labCells_append (a b : List Lab) : labCells (a ++ b) = labCells a ++ labCells b := by simp [labCells, List.flatMap_append]
theorem labCells_get (rs : List Lab) (j : Nat) (x c : ByteArray) (h : rs[j]? = some (x, c)) : (labCells rs)[j * 2]? = some (.string x) ∧ (labCells rs)[j * 2 + 1]? = some (.string c) := by
  induction rs generalizing j with
  | nil => simp at h
  | cons r rs ih =>
    have e : labCells (r :: rs) = [.string r.1, .string r.2] ++ labCells rs := by simp [labCells]
    cases j with
    | zero =>
      simp at h
      subst h
      rw [e]
      exact ⟨rfl, rfl⟩
    | succ j =>
      obtain ⟨h1, h2⟩ := ih j (by simpa using h)
      rw [e, show (j + 1) * 2 = j * 2 + 2 by omega]
      exact ⟨by simpa using h1, by simpa using h2⟩

end Go.Proofs.Ytpjfhakmffcolaa

end

section
/- A list in a row of the call's own, two cells an element. No program in sight. -/
set_option linter.unusedVariables false
namespace Go.Proofs.Ytpjfhakmffcolaa
open Go Go.RowKit

section
variable {t : TypeId} {α : Type} {f1 f2 : α → Value}
def two (f1 f2 : α → Value) (d : List α) : List Value := d.flatMap fun x => [f1 x, f2 x]
theorem two_length (d : List α) : (two f1 f2 d).length = d.length * 2 := by
  induction d with
  | nil => rfl
  | cons r d ih => rw [two, List.flatMap_cons, List.length_append, ← two, ih, List.length_cons]; simp; omega
theorem two_append (a b : List α) : two f1 f2 (a ++ b) = two f1 f2 a ++ two f1 f2 b := by simp [two, List.flatMap_append]
theorem two_get (d : List α) (j : Nat) (x : α) (h : d[j]? = some x) : (two f1 f2 d)[j * 2]? = some (f1 x) ∧ (two f1 f2 d)[j * 2 + 1]? = some (f2 x) := by
  induction d generalizing j with
  | nil => simp at h
  | cons r d ih =>
    have e : two f1 f2 (r :: d) = f1 r :: f2 r :: two f1 f2 d := rfl
    cases j with
    | zero =>
      simp at h
      subst h
      rw [e]
      exact ⟨rfl, rfl⟩
    | succ j =>
      obtain ⟨h1, h2⟩ := ih j (by simpa using h)
      rw [e, show (j + 1) * 2 = j * 2 + 2 by omega]
      exact ⟨by simpa using h1, by simpa using h2⟩
theorem two_set (d : List α) (i : Nat) (y : α) : ((two f1 f2 d).set (i * 2) (f1 y)).set (i * 2 + 1) (f2 y) = two f1 f2 (d.set i y) := by
  induction d generalizing i with
  | nil => rfl
  | cons r d ih =>
    have e : two f1 f2 (r :: d) = f1 r :: f2 r :: two f1 f2 d := rfl
    cases i with
    | zero => rw [e]; rfl
    | succ i =>
      rw [e, show (i + 1) * 2 = i * 2 + 1 + 1 by omega]
      simp only [List.set_cons_succ]
      rw [ih i]; rfl

structure Own2 (t : TypeId) (f1 f2 : α → Value) (w wr : World) (d : List α) (v : Value) : Prop where
  row : wr.ownsRow w.heap.size t 2 v d.length (two f1 f2 d)
  bel : Below w.heap.size w wr
theorem Own2.nil (w : World) : Own2 t f1 f2 w w [] (.slice none 0 0) := ⟨World.ownsRow_nil _ _ _ _, Below.refl _ _⟩
theorem Own2.drewN {w wr : World} {d : List α} {v : Value} (h : Own2 t f1 f2 w wr d v) (n : Nat) : Own2 t f1 f2 w (wr.drewN n) d v :=
  ⟨(Mods.drewN (fun _ => False) wr n).owns h.row (fun _ _ e => e), h.bel.trans ((Mods.drewN (fun _ => False) wr n).below h.bel.size (fun _ _ e => e))⟩
theorem Own2.below {w wr w1 : World} {d : List α} {v : Value} (h : Own2 t f1 f2 w wr d v) (hb : Below wr.heap.size wr w1) : Own2 t f1 f2 w w1 d v :=
  ⟨(Mods.of_below hb (fun _ => False)).owns h.row (fun _ _ e => e), h.bel.trans (hb.mono h.bel.size)⟩
theorem Own2.shape {w wr : World} {d : List α} {v : Value} (h : Own2 t f1 f2 w wr d v) : ∃ p c, v = .slice p d.length c := (Rd.of_owns h.row).shape
theorem Own2.rd {w wr : World} {d : List α} {v : Value} (h : Own2 t f1 f2 w wr d v) : Rd wr 2 v d.length (two f1 f2 d) := Rd.of_owns h.row
theorem Own2.base0 {w wr : World} {d : List α} {v : Value} (h : Own2 t f1 f2 w wr d v) : wr.ownsRow 0 t 2 v d.length (two f1 f2 d) := owns_rebase h.row (fun _ _ => Nat.zero_le _)
theorem Own2.pushed {w wr w1 : World} {d : List α} {v v1 : Value} {x : α} (h : Own2 t f1 f2 w wr d v) (k : w1.ownsRow 0 t 2 v1 (d.length + 1) (two f1 f2 d ++ [f1 x, f2 x])) (m : Mods (fun k => v.ownBlock = some k) wr w1) (hf : Fresh wr.heap.size v v1) : Own2 t f1 f2 w w1 (d ++ [x]) v1 := by
  refine ⟨?_, h.bel.trans (m.below h.bel.size (fun k hk e => by have := (h.row.lt k e).1; omega))⟩
  rw [List.length_append, two_append]
  refine owns_rebase k (fun k hk => ?_)
  rcases hf k hk with e | e
  · exact (h.row.lt k e).1
  · have := h.bel.size; omega
theorem Own2.len {w wr : World} {d : List α} {p : Option Addr} {n c : Nat} (h : Own2 t f1 f2 w wr d (.slice p n c)) : n = d.length := by
  obtain ⟨p', c', h'⟩ := h.shape
  simp only [Value.slice.injEq] at h'
  exact h'.2.1
theorem Own2.stored {w wr : World} {d e : List α} {g n c i : Nat} {y : α} (h : Own2 t f1 f2 w wr d (.slice (some ⟨g, 0, none⟩) n c)) (he : d.set i y = e) : Own2 t f1 f2 w ((wr.setCell ⟨g, i * 2, none⟩ (f1 y)).setCell ⟨g, i * 2 + 1, none⟩ (f2 y)) e (.slice (some ⟨g, 0, none⟩) n c) := by
  subst he
  obtain rfl := h.len
  have hm1 : Mods (fun k => k = g) wr (wr.setCell ⟨g, i * 2, none⟩ (f1 y)) := Mods.set _ _ _ _ (fun _ => rfl)
  have hm2 : Mods (fun k => k = g) (wr.setCell ⟨g, i * 2, none⟩ (f1 y)) ((wr.setCell ⟨g, i * 2, none⟩ (f1 y)).setCell ⟨g, i * 2 + 1, none⟩ (f2 y)) := Mods.set _ _ _ _ (fun _ => rfl)
  have hg := (h.row.lt g rfl).1
  refine ⟨?_, h.bel.trans ((hm1.trans hm2 (fun _ _ e => e)).below h.bel.size (fun k hk e => by omega))⟩
  rw [List.length_set, ← two_set]
  exact ((h.row.stored (i * 2) _).1.stored (i * 2 + 1) _).1
theorem Own2.cell {w wr : World} {d : List α} {g n c i : Nat} {x : α} (h : Own2 t f1 f2 w wr d (.slice (some ⟨g, 0, none⟩) n c)) (hi : d[i]? = some x) :
    (wr.cell? ⟨g, i * 2, none⟩ = some (f1 x) ∧ wr.cell? ⟨g, i * 2 + 1, none⟩ = some (f2 x)) ∧ (wr.frozen? ⟨g, i * 2, none⟩ = false ∧ wr.frozen? ⟨g, i * 2 + 1, none⟩ = false) := by
  obtain rfl := h.len
  obtain ⟨h1, h2⟩ := two_get (f1 := f1) (f2 := f2) d i x hi
  have hlt := (List.getElem?_eq_some_iff.1 hi).1
  have hl := two_length (f1 := f1) (f2 := f2) d
  exact ⟨⟨by rw [h.row.cellAt (i * 2) (by omega)]; exact h1, by rw [h.row.cellAt (i * 2 + 1) (by omega)]; exact h2⟩, h.row.frozenAt _, h.row.frozenAt _⟩
/-- The cells of element i of a list that is read. -/
theorem rd2_cell {w : World} {b off c n : Nat} {d : List α} (h : Rd w 2 (.slice (some ⟨b, off, none⟩) n c) n (two f1 f2 d)) {i : Nat} {x : α} (hi : d[i]? = some x) :
    w.cell? ⟨b, off + i * 2, none⟩ = some (f1 x) ∧ w.cell? ⟨b, off + i * 2 + 1, none⟩ = some (f2 x) := by
  obtain ⟨h1, h2⟩ := two_get (f1 := f1) (f2 := f2) d i x hi
  obtain ⟨b2, o2, c2, e, _, _, hc⟩ := h.at (fun e => by rw [e] at h1; cases h1)
  simp only [Value.slice.injEq, Option.some.injEq, Addr.mk.injEq] at e
  obtain ⟨⟨rfl, rfl, _⟩, _, rfl⟩ := e
  exact ⟨hc _ _ h1, hc _ _ h2⟩
/-- A slice of two cells an element that is not empty has an address. -/
theorem rd2_at {w : World} {p : Option Addr} {c n : Nat} {d : List α} (h : Rd w 2 (.slice p n c) n (two f1 f2 d)) {i : Nat} {x : α} (hi : d[i]? = some x) : ∃ b off, p = some ⟨b, off, none⟩ := by
  obtain ⟨h1, _⟩ := two_get (f1 := f1) (f2 := f2) d i x hi
  obtain ⟨b2, o2, c2, e, _, _, _⟩ := h.at (fun e => by rw [e] at h1; cases h1)
  simp only [Value.slice.injEq] at e
  exact ⟨b2, o2, e.1⟩
end
theorem Own2.extended {α : Type} {t : TypeId} {f1 f2 : α → Value} {w wr w1 : World} {d e : List α} {v v1 : Value} (h : Own2 t f1 f2 w wr d v) (k : w1.ownsRow 0 t 2 v1 (d.length + e.length) (two f1 f2 d ++ two f1 f2 e)) (m : Mods (fun k => v.ownBlock = some k) wr w1) (hf : Fresh wr.heap.size v v1) : Own2 t f1 f2 w w1 (d ++ e) v1 := by
  refine ⟨?_, h.bel.trans (m.below h.bel.size (fun k hk e => by have := (h.row.lt k e).1; omega))⟩
  rw [List.length_append, two_append]
  refine owns_rebase k (fun k hk => ?_)
  rcases hf k hk with e | e
  · exact (h.row.lt k e).1
  · have := h.bel.size; omega

end Go.Proofs.Ytpjfhakmffcolaa

end

section
/- Rows of two heads, each of which leads on: what serves series and records alike. No program in sight. -/
set_option linter.unusedVariables false
set_option maxRecDepth 20000
namespace Go.Proofs.Ytpjfhakmffcolaa
open Go Go.RowKit

abbrev Hd := Value × Value
theorem labCells_ne {l : List Lab} (h : labCells l ≠ []) : l ≠ [] := fun e => h (by subst e; rfl)
theorem labCells_ne' {l : List Lab} (h : l ≠ []) : labCells l ≠ [] := fun e => h (List.eq_nil_of_length_eq_zero (by have := congrArg List.length e; rw [labCells_length, List.length_nil] at this; omega))
theorem getElem?_snoc {α : Type} {l : List α} {x y : α} {i : Nat} (h : (l ++ [x])[i]? = some y) : l[i]? = some y ∨ (i = l.length ∧ y = x) := by
  by_cases hi : i < l.length
  · rw [List.getElem?_append_left hi] at h; exact Or.inl h
  · rw [List.getElem?_append_right (by omega)] at h
    have : i - l.length = 0 := by
      rcases Nat.eq_zero_or_pos (i - l.length) with e | e
      · exact e
      · rw [List.getElem?_eq_none (by simp; omega)] at h; cases h
    rw [this] at h
    simp at h
    exact Or.inr ⟨by omega, h.symm⟩
end Go.Proofs.Ytpjfhakmffcolaa

end

section
/- Layer 15: lists of entries that are read, and under way: rows of a label's two strings and a slice, which leads on. No program in sight. -/
set_option linter.unusedVariables false
set_option maxRecDepth 20000
namespace Go.Proofs.Ytpjfhakmffcolaa
open Go Go.RowKit

/-- An entry and the slice that leads to its series. -/
abbrev EntV := (Lab × List Int) × Value
def entC (p : EntV) : List Value := [.string p.1.1.1, .string p.1.1.2, p.2]
def entCells (M : List EntV) : List Value := M.flatMap entC
theorem entCells_length (M : List EntV) : (entCells M).length = M.length * 3 := by
  induction M with
  | nil => rfl
  | cons p M ih => rw [entCells, List.flatMap_cons, List.length_append, ← entCells, ih, List.length_cons]; simp [entC]; omega
theorem entCells_append (a b : List EntV) : entCells (a ++ b) = entCells a ++ entCells b := by simp [entCells, List.flatMap_append]
theorem entCells_get (M : List EntV) (j : Nat) (p : EntV) (h : M[j]? = some p) : (entCells M)[j * 3]? = some (.string p.1.1.1) ∧ (entCells M)[j * 3 + 1]? = some (.string p.1.1.2) ∧ (entCells M)[j * 3 + 2]? = some p.2 := by
  induction M generalizing j with
  | nil => simp at h
  | cons r M ih =>
    have e : entCells (r :: M) = .string r.1.1.1 :: .string r.1.1.2 :: r.2 :: entCells M := rfl
    cases j with
    | zero =>
      simp at h
      subst h
      rw [e]
      exact ⟨rfl, rfl, rfl⟩
    | succ j =>
      obtain ⟨h1, h2, h3⟩ := ih j (by simpa using h)
      rw [e, show (j + 1) * 3 = j * 3 + 3 by omega]
      exact ⟨by simpa using h1, by simpa using h2, by simpa using h3⟩

/-- A list of entries that is read. -/
structure RdE (w : World) (v : Value) (l : List (Lab × List Int)) : Prop where
  ex : ∃ M : List EntV, M.map Prod.fst = l ∧ Rd w 3 v M.length (entCells M) ∧ ∀ p ∈ M, Rd w 1 p.2 p.1.2.length (i64s p.1.2)
theorem RdE.nil (w : World) : RdE w (.slice none 0 0) [] := ⟨[], rfl, Rd.nil w 3, fun p hp => by cases hp⟩
theorem RdE.below {w w' : World} {v : Value} {l : List (Lab × List Int)} (k : RdE w v l) (hb : Below w.heap.size w w') : RdE w' v l := by
  obtain ⟨M, h1, h2, h3⟩ := k.ex
  exact ⟨M, h1, h2.below hb, fun p hp => (h3 p hp).below hb⟩
theorem RdE.shape {w : World} {v : Value} {l : List (Lab × List Int)} (k : RdE w v l) : ∃ p c, v = .slice p l.length c := by
  obtain ⟨M, h1, h2, _⟩ := k.ex
  have : l.length = M.length := by rw [← h1, List.length_map]
  rw [this]
  exact h2.shape
theorem RdE.le {w : World} {v : Value} {l : List (Lab × List Int)} (k : RdE w v l) : l.length ≤ maxLen := by
  obtain ⟨M, h1, h2, _⟩ := k.ex
  have : l.length = M.length := by rw [← h1, List.length_map]
  rw [this]
  exact h2.le
/-- Entry i of a list, in every later world. -/
theorem RdE.always {w : World} {p : Option Addr} {n c : Nat} {l : List (Lab × List Int)} (k : RdE w (.slice p n c) l) {i : Nat} {e : Lab × List Int} (hi : l[i]? = some e) :
    ∃ b off q d, p = some ⟨b, off, none⟩ ∧ ∀ w', Below w.heap.size w w' → (w'.cell? ⟨b, off + i * 3, none⟩ = some (.string e.1.1) ∧ w'.cell? ⟨b, off + i * 3 + 1, none⟩ = some (.string e.1.2) ∧ w'.cell? ⟨b, off + i * 3 + 2, none⟩ = some (.slice q e.2.length d)) ∧ Rd w' 1 (.slice q e.2.length d) e.2.length (i64s e.2) := by
  obtain ⟨M, h1, h2, h3⟩ := k.ex
  subst h1
  rw [List.getElem?_map] at hi
  obtain ⟨x, hx, rfl⟩ := Option.map_eq_some_iff.1 hi
  obtain ⟨g1, g2, g3⟩ := entCells_get M i x hx
  have hr := h3 x (List.mem_of_getElem? hx)
  obtain ⟨q, d, hq⟩ := hr.shape
  obtain ⟨b, off, c', e, _, _, hc⟩ := h2.at (fun e => by rw [e] at g1; cases g1)
  simp only [Value.slice.injEq] at e
  have c1 := hc _ _ g1
  have c2 := hc _ _ g2
  have c3 := hc _ _ g3
  rw [← Nat.add_assoc] at c2 c3
  rw [hq] at hr c3
  exact ⟨b, off, q, d, e.1, fun w' hb => ⟨⟨(hb.cell (World.block_lt_of_cell? w _ c1)).trans c1, (hb.cell (World.block_lt_of_cell? w _ c2)).trans c2, (hb.cell (World.block_lt_of_cell? w _ c3)).trans c3⟩, hr.below hb⟩⟩

def SerOff1 (S : Nat → Prop) (h : Value) (s : List Int) : Prop := s ≠ [] → ∀ k, h.ownBlock = some k → ¬ S k
theorem i64s_ne15 {l : List Int} (h : i64s l ≠ []) : l ≠ [] := fun e => h (by subst e; rfl)
theorem i64s_ne15' {l : List Int} (h : l ≠ []) : i64s l ≠ [] := fun e => h (List.eq_nil_of_length_eq_zero (by have := congrArg List.length e; simpa [i64s] using this))
/-- A list of entries under way, in a row of the call's own, whose series lie elsewhere. -/
structure EnAt (t : TypeId) (w wr : World) (M : List EntV) (v : Value) : Prop where
  row : wr.ownsRow w.heap.size t 3 v M.length (entCells M)
  bel : Below w.heap.size w wr
  ser : ∀ p ∈ M, Rd wr 1 p.2 p.1.2.length (i64s p.1.2) ∧ SerOff1 (fun k => v.ownBlock = some k) p.2 p.1.2
theorem EnAt.nil {t : TypeId} (w : World) : EnAt t w w [] (.slice none 0 0) := ⟨World.ownsRow_nil _ _ _ _, Below.refl _ _, fun p hp => by cases hp⟩
theorem EnAt.below {t : TypeId} {w wr w1 : World} {M : List EntV} {v : Value} (k : EnAt t w wr M v) (hb : Below wr.heap.size wr w1) : EnAt t w w1 M v :=
  ⟨(Mods.of_below hb (fun _ => False)).owns k.row (fun _ _ e => e), k.bel.trans (hb.mono k.bel.size), fun p hp => ⟨(k.ser p hp).1.below hb, (k.ser p hp).2⟩⟩
theorem EnAt.rd {t : TypeId} {w wr : World} {M : List EntV} {v : Value} (k : EnAt t w wr M v) : RdE wr v (M.map Prod.fst) := ⟨M, rfl, Rd.of_owns k.row, fun p hp => (k.ser p hp).1⟩
theorem EnAt.shape {t : TypeId} {w wr : World} {M : List EntV} {v : Value} (k : EnAt t w wr M v) : ∃ p c, v = .slice p M.length c := (Rd.of_owns k.row).shape
theorem EnAt.base0 {t : TypeId} {w wr : World} {M : List EntV} {v : Value} (k : EnAt t w wr M v) : wr.ownsRow 0 t 3 v M.length (entCells M) := owns_rebase k.row (fun _ _ => Nat.zero_le _)
/-- An append. -/
theorem EnAt.pushed {t : TypeId} {w wr w1 : World} {M : List EntV} {v v1 : Value} {p : EntV} (k : EnAt t w wr M v) (hsr : Rd wr 1 p.2 p.1.2.length (i64s p.1.2)) (ho : SerOff1 (fun j => v.ownBlock = some j) p.2 p.1.2)
    (k1 : w1.ownsRow 0 t 3 v1 (M.length + 1) (entCells M ++ entC p)) (m : Mods (fun j => v.ownBlock = some j) wr w1) (hf : Fresh wr.heap.size v v1) : EnAt t w w1 (M ++ [p]) v1 := by
  have hoff : ∀ (h : Value) (s : List Int), Rd wr 1 h s.length (i64s s) → SerOff1 (fun j => v.ownBlock = some j) h s → Rd w1 1 h s.length (i64s s) ∧ SerOff1 (fun j => v1.ownBlock = some j) h s := fun h s a b => by
    refine ⟨a.mods' m (fun e => b (i64s_ne15 e)), fun e j hj hv => ?_⟩
    rcases hf j hv with f | f
    · exact b e j hj f
    · have := a.lt (i64s_ne15' e) j hj; omega
  refine ⟨?_, k.bel.trans (m.below k.bel.size (fun j hj e => by have := (k.row.lt j e).1; omega)), fun q hq => ?_⟩
  · rw [List.length_append, entCells_append]
    refine owns_rebase (by simpa [entCells] using k1) (fun j hj => ?_)
    rcases hf j hj with e | e
    · exact (k.row.lt j e).1
    · have := k.bel.size; omega
  · rcases List.mem_append.1 hq with f | f
    · exact hoff _ _ (k.ser q f).1 (k.ser q f).2
    · rw [List.mem_singleton.1 f]
      exact hoff _ _ hsr ho
end Go.Proofs.Ytpjfhakmffcolaa

end

section
/- Arguments that came in, opened: what the cells of a value of a flat type (numbers, bools, strings, and structs and arrays of these) hold; slices of these. No program in sight. -/
namespace Go.Proofs.Ytpjfhakmffcolaa
open Go Go.RowKit Go.ChangeShapes

/-- Every reading at type e is of the cells 'f a' for an 'a' that is 'ok'. -/
def Flat (P : Program) (e : TypeId) (sz : Nat) {α : Type} (f : α → List Value) (ok : α → Prop) : Prop :=
  P.cellsOf e = sz ∧ ∀ (H : Type) (enc : TypeId × Value → H) (w : World) (base : Nat) (spare : Nat → Bool) (held : Bool) (fuel : Nat) (cs : List Value) (x : DataW H × List MemPlace),
    DataW.trod enc P w base spare held fuel e cs = some x → ∃ a, ok a ∧ cs = f a

theorem Flat.map {P : Program} {e : TypeId} {sz : Nat} {α β : Type} {f : α → List Value} {ok : α → Prop} (h : Flat P e sz f ok) {g : β → List Value} {ok' : β → Prop} (hm : ∀ a, ok a → ∃ b, ok' b ∧ f a = g b) : Flat P e sz g ok' :=
  ⟨h.1, fun H enc w base spare held fuel cs x hx => by
    obtain ⟨a, ha, rfl⟩ := h.2 H enc w base spare held fuel cs x hx
    exact hm a ha⟩
theorem flat_int {P : Program} {e : TypeId} {k : IntKind} (he : P.underlying e = some (.int k)) (hc : P.cellsOf e = 1) : Flat P e 1 (fun z : Int => [Value.int k z]) (fun z => (Lit.int k z).wf = true) :=
  ⟨hc, fun H enc w base spare held fuel cs x hx => by
    obtain ⟨n, rfl, _, hw⟩ := DataW.trod_int he hx
    exact ⟨n, hw, rfl⟩⟩
theorem flat_bool {P : Program} {e : TypeId} (he : P.underlying e = some .bool) (hc : P.cellsOf e = 1) : Flat P e 1 (fun b : Bool => [Value.bool b]) (fun _ => True) :=
  ⟨hc, fun H enc w base spare held fuel cs x hx => by
    obtain ⟨n, rfl, _⟩ := DataW.trod_bool he hx
    exact ⟨n, trivial, rfl⟩⟩
theorem flat_string {P : Program} {e : TypeId} (he : P.underlying e = some .string) (hc : P.cellsOf e = 1) : Flat P e 1 (fun s : ByteArray => [Value.string s]) (fun s => s.size ≤ maxLen) :=
  ⟨hc, fun H enc w base spare held fuel cs x hx => by
    obtain ⟨s, rfl, _, hs⟩ := DataW.trod_string he hx
    exact ⟨s, hs, rfl⟩⟩
theorem flat_struct2 {P : Program} {e : TypeId} {f0 f1 : Field} {s0 s1 : Nat} {α β : Type} {g0 : α → List Value} {g1 : β → List Value} {k0 : α → Prop} {k1 : β → Prop}
    (he : P.underlying e = some (.struct #[f0, f1])) (hc : P.cellsOf e = s0 + s1) (o0 : f0.offset = 0) (o1 : f1.offset = s0) (h0 : Flat P f0.type s0 g0 k0) (h1 : Flat P f1.type s1 g1 k1) :
    Flat P e (s0 + s1) (fun a : α × β => g0 a.1 ++ g1 a.2) (fun a => k0 a.1 ∧ k1 a.2) :=
  ⟨hc, fun H enc w base spare held fuel cs x hx => by
    obtain ⟨y0, y1, n, _, hl, t0, t1⟩ := trod_struct2 he hx
    rw [o0, h0.1] at t0
    rw [o1, h1.1] at t1
    obtain ⟨a, ha, ea⟩ := h0.2 H enc w base spare held n _ _ t0
    obtain ⟨b, hb, eb⟩ := h1.2 H enc w base spare held n _ _ t1
    refine ⟨(a, b), ⟨ha, hb⟩, ?_⟩
    show cs = g0 a ++ g1 b
    rw [← ea, ← eb]
    simp only [List.drop_zero]
    rw [List.take_of_length_le (l := cs.drop s0) (by rw [List.length_drop, hl, hc]; omega), List.take_append_drop]⟩

theorem cells_get {w : World} {base : Nat} {a : Addr} {n : Nat} {cs : List Value} (h : w.cells? base a n = some cs) : cs.length = n ∧ ∀ (j : Nat) (u : Value), cs[j]? = some u → w.cell? (a.add j) = some u := by
  unfold World.cells? at h
  split at h
  · have key : ∀ (l : List Nat) (cs : List Value), l.mapM (fun i => w.cell? (a.add i)) = some cs → cs.length = l.length ∧ ∀ (j : Nat) (u : Value), cs[j]? = some u → ∃ i, l[j]? = some i ∧ w.cell? (a.add i) = some u := by
      intro l
      induction l with
      | nil => intro cs h; simp at h; subst h; simp
      | cons i l ih =>
        intro cs h
        rw [List.mapM_cons] at h
        simp only [Option.bind_eq_bind, Option.bind_eq_some_iff, Option.pure_def, Option.some.injEq] at h
        obtain ⟨x, hx, ys, hys, rfl⟩ := h
        obtain ⟨h1, h2⟩ := ih ys hys
        refine ⟨by simp [h1], fun j u hu => ?_⟩
        cases j with
        | zero => simp at hu; subst hu; exact ⟨i, rfl, hx⟩
        | succ j => simp at hu; obtain ⟨i', hi', hc⟩ := h2 j u hu; exact ⟨i', by simpa using hi', hc⟩
    obtain ⟨h1, h2⟩ := key _ _ h
    refine ⟨by simpa using h1, fun j u hu => ?_⟩
    obtain ⟨i, hi, hc⟩ := h2 j u hu
    rw [List.getElem?_range (by rcases Nat.lt_or_ge j n with hj | hj; exact hj; simp [List.getElem?_eq_none (show cs.length ≤ j by rw [h1]; simpa using hj)] at hu)] at hi
    simp at hi
    subst hi
    exact hc
  · cases h

theorem flatMap_get {α β : Type} {sz : Nat} (f : α → List β) (l : List α) (hf : ∀ a ∈ l, (f a).length = sz) (i k : Nat) (hk : k < sz) (u : β) (h : (l.flatMap f)[i * sz + k]? = some u) : ∃ a, l[i]? = some a ∧ (f a)[k]? = some u := by
  induction l generalizing i with
  | nil => simp at h
  | cons a l ih =>
    have ha := hf a (by simp)
    rw [List.flatMap_cons] at h
    cases i with
    | zero =>
      rw [Nat.zero_mul, Nat.zero_add, List.getElem?_append_left (by omega)] at h
      exact ⟨a, rfl, h⟩
    | succ i =>
      rw [List.getElem?_append_right (by rw [ha, Nat.add_mul]; omega), ha, show (i + 1) * sz + k - sz = i * sz + k by rw [Nat.add_mul]; omega] at h
      obtain ⟨b, hb, hu⟩ := ih (fun a ha => hf a (by simp [ha])) i h
      exact ⟨b, by simpa using hb, hu⟩
theorem flatMap_len {α β : Type} {sz : Nat} (f : α → List β) (l : List α) (hf : ∀ a ∈ l, (f a).length = sz) : (l.flatMap f).length = l.length * sz := by
  induction l with
  | nil => simp
  | cons a l ih => rw [List.flatMap_cons, List.length_append, hf a (by simp), ih (fun a ha => hf a (by simp [ha])), List.length_cons, Nat.add_mul]; omega

theorem flatMap_one {α β : Type} (f : α → β) (l : List α) : l.flatMap (fun a => [f a]) = l.map f := by
  induction l with
  | nil => rfl
  | cons a l ih => rw [List.flatMap_cons, ih]; rfl
theorem rd_cell {α : Type} {f : α → Value} {w : World} {v : Value} {l : List α} (h : Rd w 1 v l.length (l.flatMap fun a => [f a])) (j : Nat) (hj : j < l.length) :
    ∃ b off c, v = .slice (some ⟨b, off, none⟩) l.length c ∧ w.cell? ⟨b, off + j, none⟩ = some (f l[j]) ∧ b < w.heap.size := by
  have hg : (l.flatMap fun a => [f a])[j]? = some (f l[j]) := by rw [flatMap_one]; simp [hj]
  obtain ⟨b, off, c, hv, _, _, hc⟩ := h.at (fun e => by rw [e] at hg; simp at hg)
  have := hc j _ hg
  exact ⟨b, off, c, hv, this, World.block_lt_of_cell? w _ this⟩

/-- A slice of a flat type that came in. -/
theorem open_flat {P : Program} {t e : TypeId} {sz : Nat} (hsz : 0 < sz) {α : Type} [Inhabited α] {f : α → List Value} {ok : α → Prop} (hF : Flat P e sz f ok) (ht : P.underlying t = some (.slice e))
    {H : Type} {enc : TypeId × Value → H} {w : World} {base : Nat} {spare : Nat → Bool} {held : Bool} {v : Value} {d : DataW H} {ps : List MemPlace} {n c : Nat} {p : Option Addr} (hv : v = .slice p n c)
    (h : DataW.Trod enc P w base spare held t v d ps) :
    ∃ l : List α, (∀ a ∈ l, ok a) ∧ l.length = n ∧ Rd w sz v l.length (l.flatMap f) ∧ ((d = .nil ∧ l.length = 0) ∨ ∃ elems rest, d = .slice elems rest ∧ elems.length = l.length) := by
  subst hv
  obtain ⟨fuel, h⟩ := h
  rcases Deep.open_slice ht h with ⟨hcs, hx⟩ | ⟨a, len, cap, m, n', D, Pl, hcs, _, hl, hm, hmm, hx, hel⟩
  · simp [Value.cells] at hcs
    obtain ⟨rfl, rfl, rfl⟩ := hcs
    simp at hx
    exact ⟨[], by simp, rfl, Rd.nil w sz, Or.inl ⟨hx.1, rfl⟩⟩
  · simp [Value.cells] at hcs
    obtain ⟨rfl, rfl, rfl⟩ := hcs
    have hml : n ≤ m := by rw [hmm]; split <;> omega
    have hch : ∀ i, i < n → ∃ b : α, ok b ∧ (f b).length = sz ∧ ∀ (j : Nat) (u : Value), (f b)[j]? = some u → w.cell? (a.add (i * sz + j)) = some u := by
      intro i hi
      obtain ⟨cs', h1, h2⟩ := hel i (by omega)
      rw [hF.1] at h1
      obtain ⟨b, hb, rfl⟩ := hF.2 H enc w base spare held n' _ _ h2
      obtain ⟨h3, h4⟩ := cells_get h1
      exact ⟨b, hb, h3, fun j u hu => by rw [← Deep.add_add]; exact h4 j u hu⟩
    obtain ⟨g, hg⟩ := Deep.choose_lt hch
    have hlen : ∀ b ∈ (List.range n).map g, (f b).length = sz := by
      intro b hb
      obtain ⟨i, hi, rfl⟩ := List.mem_map.1 hb
      exact (hg i (List.mem_range.1 hi)).2.1
    simp at hx
    refine ⟨(List.range n).map g, ?_, by simp, ⟨some a, c, by simp, ?_, by simpa using hl, hm, (fun e => by cases e), ?_⟩, Or.inr ⟨_, _, hx.1, by simp⟩⟩
    · intro b hb
      obtain ⟨i, hi, rfl⟩ := List.mem_map.1 hb
      exact (hg i (List.mem_range.1 hi)).1
    · rw [flatMap_len f _ hlen]
    · intro ad e j u hu
      cases e
      have hj : j = j / sz * sz + j % sz := by rw [Nat.mul_comm]; exact (Nat.div_add_mod j sz).symm
      rw [hj] at hu
      obtain ⟨b, hb, hu'⟩ := flatMap_get f _ hlen (j / sz) (j % sz) (Nat.mod_lt _ hsz) u hu
      have hlt : j / sz < n := by
        rcases Nat.lt_or_ge (j / sz) n with h | h
        · exact h
        · rw [List.getElem?_eq_none (by simpa using h)] at hb; cases hb
      rw [List.getElem?_map, List.getElem?_range hlt] at hb
      simp at hb
      subst hb
      rw [hj]
      exact (hg (j / sz) hlt).2.2 _ u hu'

/-- A struct or an array by value. -/
theorem open_flat_agg {P : Program} {t : TypeId} {sz : Nat} {α : Type} {f : α → List Value} {ok : α → Prop} (hF : Flat P t sz f ok)
    {H : Type} {enc : TypeId × Value → H} {w : World} {base : Nat} {spare : Nat → Bool} {held : Bool} {v : Value} {d : DataW H} {ps : List MemPlace} {cs : Array Value} (hv : v = .agg cs)
    (h : DataW.Trod enc P w base spare held t v d ps) : ∃ a : α, ok a ∧ v = .agg (f a).toArray := by
  subst hv
  obtain ⟨fuel, h⟩ := h
  obtain ⟨a, ha, e⟩ := hF.2 H enc w base spare held fuel _ _ h
  exact ⟨a, ha, by rw [← e]; simp [Value.cells]⟩
theorem flat_array2 {P : Program} {t e : TypeId} {s : Nat} {α : Type} {g : α → List Value} {k : α → Prop} (he : P.underlying t = some (.array 2 e)) (hc : P.cellsOf t = s + s) (h : Flat P e s g k) :
    Flat P t (s + s) (fun a : α × α => g a.1 ++ g a.2) (fun a => k a.1 ∧ k a.2) :=
  ⟨hc, fun H enc w base spare held fuel cs x hx => by
    obtain ⟨xs, m, _, _, hl, hlen, hf⟩ := DataW.trod_array he hx
    match xs, hlen with
    | [y0, y1], _ =>
      have t0 := hf 0 (by decide)
      have t1 := hf 1 (by decide)
      rw [h.1] at t0 t1
      obtain ⟨a, ha, ea⟩ := h.2 H enc w base spare held m _ _ t0
      obtain ⟨b, hb, eb⟩ := h.2 H enc w base spare held m _ _ t1
      refine ⟨(a, b), ⟨ha, hb⟩, ?_⟩
      show cs = g a ++ g b
      rw [← ea, ← eb]
      simp only [Nat.zero_mul, Nat.one_mul, List.drop_zero]
      rw [List.take_of_length_le (l := cs.drop s) (by rw [List.length_drop, hl, hc]; omega), List.take_append_drop]⟩

theorem nat_u8 {z : Int} (h : (Lit.int .u8 z).wf = true) : ∃ n : Nat, n < 256 ∧ z = n := by have := bounds_u8 h; exact ⟨z.toNat, by omega, by omega⟩
theorem nat_u16 {z : Int} (h : (Lit.int .u16 z).wf = true) : ∃ n : Nat, n < 65536 ∧ z = n := by have := bounds_u16 h; exact ⟨z.toNat, by omega, by omega⟩
theorem nat_u32 {z : Int} (h : (Lit.int .u32 z).wf = true) : ∃ n : Nat, n < 4294967296 ∧ z = n := by have := bounds_u32 h; exact ⟨z.toNat, by omega, by omega⟩
theorem nat_u64 {z : Int} (h : (Lit.int .u64 z).wf = true) : ∃ n : Nat, n < 18446744073709551616 ∧ z = n := by have := bounds_u64 h; exact ⟨z.toNat, by omega, by omega⟩
theorem int_i64 {z : Int} (h : (Lit.int .i64 z).wf = true) : ∃ n : Int, (-9223372036854775808 ≤ n ∧ n < 9223372036854775808) ∧ z = n := by have := bounds_i64 h; exact ⟨z, by omega, rfl⟩
theorem okWide_arr {P : Program} {w : World} {r : Reach} {base n : Nat} {t e : TypeId} {v : Value} (ht : P.underlying t = some (.array n e)) (h : Value.okWide P w r base t v) : ∃ cs, v = .agg cs ∧ cs.size = P.cellsOf t := by
  simp only [Value.okWide, ht] at h
  obtain ⟨cs, h1, h2, _⟩ := h
  exact ⟨cs, h1, h2⟩

/-- How much such an argument may weigh. -/
theorem sized_flat {P : Program} {H : Type} {ts : List TypeId} {ds : List (DataW H)} (hw : (DataW.weightsEach P ts ds).all (· ≤ reachBytes) = true) {j : Nat} {t e : TypeId} {d : DataW H} {bytes m : Nat}
    (ht : ts[j]? = some t) (hd : ds[j]? = some d) (hu : P.underlying t = some (.slice e)) (hb : P.bytesOf e = bytes) (h : (d = .nil ∧ m = 0) ∨ ∃ elems rest, d = .slice elems rest ∧ elems.length = m) : m * bytes ≤ 140737488351232 := by
  rcases h with ⟨_, rfl⟩ | ⟨elems, rest, rfl, rfl⟩
  · omega
  · have := sized_slice hw ht hd hu
    rw [hb] at this
    have h2 : elems.length * bytes ≤ (elems.length + rest.length) * bytes := Nat.mul_le_mul_right _ (by omega)
    have h3 : reachBytes = 140737488351232 := by decide
    omega

/-- The bytes of a slice of bytes. -/
theorem flat_u8 {P : Program} {e : TypeId} (he : P.underlying e = some (.int .u8)) (hc : P.cellsOf e = 1) : Flat P e 1 (fun n : Nat => [Value.int .u8 (n : Int)]) (fun n => n < 256) :=
  (flat_int he hc).map fun z hz => by
    have := bounds_u8 hz
    exact ⟨z.toNat, by omega, by rw [Int.toNat_of_nonneg (by omega)]⟩
theorem flat_u64 {P : Program} {e : TypeId} (he : P.underlying e = some (.int .u64)) (hc : P.cellsOf e = 1) : Flat P e 1 (fun n : Nat => [Value.int .u64 (n : Int)]) (fun n => n < 18446744073709551616) :=
  (flat_int he hc).map fun z hz => by
    have := bounds_u64 hz
    exact ⟨z.toNat, by omega, by rw [Int.toNat_of_nonneg (by omega)]⟩
theorem flat_i64 {P : Program} {e : TypeId} (he : P.underlying e = some (.int .i64)) (hc : P.cellsOf e = 1) : Flat P e 1 (fun z : Int => [Value.int .i64 z]) (fun z => -9223372036854775808 ≤ z ∧ z < 9223372036854775808) :=
  (flat_int he hc).map fun z hz => by
    have := bounds_i64 hz
    exact ⟨z, by omega, rfl⟩
theorem flatMap_u8s (l : List Nat) : l.flatMap (fun n : Nat => [Value.int .u8 (n : Int)]) = u8s l := by
  induction l with
  | nil => rfl
  | cons a l ih => rw [List.flatMap_cons, ih]; simp [u8s]
end Go.Proofs.Ytpjfhakmffcolaa

end

section
/- A list in a row of the call's own, one cell an element. No program in sight. -/
set_option linter.unusedVariables false
namespace Go.Proofs.Ytpjfhakmffcolaa
open Go Go.RowKit

structure Own1 (t : TypeId) {α : Type} (f : α → Value) (w wr : World) (d : List α) (v : Value) : Prop where
  row : wr.ownsRow w.heap.size t 1 v d.length (d.map f)
  bel : Below w.heap.size w wr
variable {t : TypeId} {α : Type} {f : α → Value}
theorem Own1.nil (w : World) : Own1 t f w w [] (.slice none 0 0) := ⟨World.ownsRow_nil _ _ _ _, Below.refl _ _⟩
theorem Own1.drewN {w wr : World} {d : List α} {v : Value} (h : Own1 t f w wr d v) (n : Nat) : Own1 t f w (wr.drewN n) d v :=
  ⟨(Mods.drewN (fun _ => False) wr n).owns h.row (fun _ _ e => e), h.bel.trans ((Mods.drewN (fun _ => False) wr n).below h.bel.size (fun _ _ e => e))⟩
theorem Own1.below {w wr w1 : World} {d : List α} {v : Value} (h : Own1 t f w wr d v) (hb : Below wr.heap.size wr w1) : Own1 t f w w1 d v :=
  ⟨(Mods.of_below hb (fun _ => False)).owns h.row (fun _ _ e => e), h.bel.trans (hb.mono h.bel.size)⟩
theorem Own1.pushed {w wr w1 : World} {d : List α} {v v1 : Value} {x : α} (h : Own1 t f w wr d v) (k : w1.ownsRow 0 t 1 v1 (d.length + 1) (d.map f ++ [f x])) (m : Mods (fun k => v.ownBlock = some k) wr w1) (hf : Fresh wr.heap.size v v1) : Own1 t f w w1 (d ++ [x]) v1 := by
  refine ⟨?_, h.bel.trans (m.below h.bel.size (fun k hk e => by have := (h.row.lt k e).1; omega))⟩
  rw [List.length_append, List.map_append]
  refine owns_rebase k (fun k hk => ?_)
  rcases hf k hk with e | e
  · exact (h.row.lt k e).1
  · have := h.bel.size; omega
theorem Own1.extended {w wr w1 : World} {d e : List α} {v v1 : Value} (h : Own1 t f w wr d v) (k : w1.ownsRow 0 t 1 v1 (d.length + e.length) (d.map f ++ e.map f)) (m : Mods (fun k => v.ownBlock = some k) wr w1) (hf : Fresh wr.heap.size v v1) : Own1 t f w w1 (d ++ e) v1 := by
  refine ⟨?_, h.bel.trans (m.below h.bel.size (fun k hk e => by have := (h.row.lt k e).1; omega))⟩
  rw [List.length_append, List.map_append]
  refine owns_rebase k (fun k hk => ?_)
  rcases hf k hk with e | e
  · exact (h.row.lt k e).1
  · have := h.bel.size; omega
theorem Own1.shape {w wr : World} {d : List α} {v : Value} (h : Own1 t f w wr d v) : ∃ p c, v = .slice p d.length c := (Rd.of_owns h.row).shape
theorem Own1.rd {w wr : World} {d : List α} {v : Value} (h : Own1 t f w wr d v) : Rd wr 1 v d.length (d.map f) := Rd.of_owns h.row
theorem Own1.base0 {w wr : World} {d : List α} {v : Value} (h : Own1 t f w wr d v) : wr.ownsRow 0 t 1 v d.length (d.map f) := owns_rebase h.row (fun _ _ => Nat.zero_le _)
theorem Own1.stored {w wr : World} {d e : List α} {g n c i : Nat} {y : α} (h : Own1 t f w wr d (.slice (some ⟨g, 0, none⟩) n c)) (he : d.set i y = e) : Own1 t f w (wr.setCell ⟨g, i, none⟩ (f y)) e (.slice (some ⟨g, 0, none⟩) n c) := by
  subst he
  have hn : n = d.length := by
    obtain ⟨p, c', h'⟩ := (Rd.of_owns h.row).shape
    simp only [Value.slice.injEq] at h'
    exact h'.2.1
  subst hn
  have hm : Mods (fun k => k = g) wr (wr.setCell ⟨g, i, none⟩ (f y)) := Mods.set _ _ _ _ (fun _ => rfl)
  have hg := (h.row.lt g rfl).1
  refine ⟨?_, h.bel.trans (hm.below h.bel.size (fun k hk e => by omega))⟩
  rw [List.length_set, List.map_set]
  exact (h.row.stored i _).1
theorem Own1.cell {w wr : World} {d : List α} {g n c i : Nat} (h : Own1 t f w wr d (.slice (some ⟨g, 0, none⟩) n c)) (hi : i < d.length) : wr.cell? ⟨g, i, none⟩ = some (f d[i]) ∧ wr.frozen? ⟨g, i, none⟩ = false := by
  have hn : n = d.length := by
    obtain ⟨p, c', h'⟩ := (Rd.of_owns h.row).shape
    simp only [Value.slice.injEq] at h'
    exact h'.2.1
  subst hn
  refine ⟨?_, h.row.frozenAt _⟩
  rw [h.row.cellAt i (by omega)]
  simp [hi]
/-- Cell i of a list that is read. -/
theorem rd1_cell {w : World} {b off c n : Nat} {d : List α} (h : Rd w 1 (.slice (some ⟨b, off, none⟩) n c) n (d.map f)) {i : Nat} (hi : i < d.length) : w.cell? ⟨b, off + i, none⟩ = some (f d[i]) := by
  obtain ⟨b2, o2, c2, e, _, _, hc⟩ := h.at (fun e => by have := congrArg List.length e; simp at this; subst this; simp at hi)
  simp only [Value.slice.injEq, Option.some.injEq, Addr.mk.injEq] at e
  obtain ⟨⟨rfl, rfl, _⟩, _, rfl⟩ := e
  exact hc i _ (by simp [hi])

theorem shift_setG (d : List α) (k : Nat) (y z : α) (hk : k ≤ d.length) : (d.take k ++ y :: d.drop k).set k z = d.take k ++ z :: d.drop k := by
  have hl : (d.take k).length = k := by rw [List.length_take]; omega
  rw [List.set_append_right _ _ (by omega), hl, Nat.sub_self, List.set_cons_zero]
theorem shift_eqG (d : List α) (k : Nat) (hk : k < d.length) (z : α) (hz : d[k] = z) : d.take (k + 1) ++ z :: d.drop (k + 1) = d.take k ++ z :: d.drop k := by
  have e : d.drop k = z :: d.drop (k + 1) := by rw [← hz, List.getElem_cons_drop]
  rw [List.take_add_one, List.getElem?_eq_getElem hk, hz, e, List.append_assoc]
  rfl
end Go.Proofs.Ytpjfhakmffcolaa

end

section
/- Layer 15: lists of label sets that are read. No program in sight but the rows of labels. -/
set_option linter.unusedVariables false
namespace Go.Proofs.Ytpjfhakmffcolaa
open Go Go.RowKit

structure RdBL (w : World) (v : Value) (m : List (List Lab)) : Prop where
  ex : ∃ hs : List Value, Rd w 1 v hs.length hs ∧ hs.length = m.length ∧ ∀ (i : Nat) (h : Value) (l : List Lab), hs[i]? = some h → m[i]? = some l → Rd w 2 h l.length (labCells l)
theorem RdBL.below {w w' : World} {v : Value} {m : List (List Lab)} (k : RdBL w v m) (hb : Below w.heap.size w w') : RdBL w' v m := by
  obtain ⟨hs, h1, h2, h3⟩ := k.ex
  exact ⟨hs, h1.below hb, h2, fun i h s hi hj => (h3 i h s hi hj).below hb⟩
theorem RdBL.shape {w : World} {v : Value} {m : List (List Lab)} (k : RdBL w v m) : ∃ p c, v = .slice p m.length c := by
  obtain ⟨hs, h1, h2, _⟩ := k.ex
  rw [← h2]
  exact h1.shape
theorem RdBL.le {w : World} {v : Value} {m : List (List Lab)} (k : RdBL w v m) : m.length ≤ maxLen := by
  obtain ⟨hs, h1, h2, _⟩ := k.ex
  rw [← h2]
  exact h1.le
/-- Label set i of a list, in every later world. -/
theorem RdBL.always {w : World} {p : Option Addr} {n c : Nat} {m : List (List Lab)} (k : RdBL w (.slice p n c) m) {i : Nat} {l : List Lab} (hi : m[i]? = some l) :
    ∃ blk off p1 c1, p = some ⟨blk, off, none⟩ ∧ ∀ w', Below w.heap.size w w' → w'.cell? ⟨blk, off + i, none⟩ = some (.slice p1 l.length c1) ∧ Rd w' 2 (.slice p1 l.length c1) l.length (labCells l) := by
  obtain ⟨hs, h1, h2, h3⟩ := k.ex
  have hlt := (List.getElem?_eq_some_iff.1 hi).1
  obtain ⟨h, hh⟩ : ∃ h, hs[i]? = some h := ⟨_, List.getElem?_eq_getElem (by omega)⟩
  have hr := h3 i h l hh hi
  obtain ⟨p1, c1, rfl⟩ := hr.shape
  obtain ⟨b, off, c', e, _, _, hc⟩ := h1.at (fun e => by rw [e] at hh; simp at hh)
  simp only [Value.slice.injEq] at e
  have hcell := hc i _ hh
  exact ⟨b, off, p1, c1, e.1, fun w' hb => ⟨(hb.cell (World.block_lt_of_cell? w _ hcell)).trans hcell, hr.below hb⟩⟩
/-- Label k of a row, in every later world. -/
theorem rdLab_at {w : World} {p : Option Addr} {n c m : Nat} {l : List Lab} (h : Rd w 2 (.slice p n c) m (labCells l)) {k : Nat} {x : Lab} (hx : l[k]? = some x) :
    ∃ blk off, p = some ⟨blk, off, none⟩ ∧ ∀ w', Below w.heap.size w w' → w'.cell? ⟨blk, off + k * 2, none⟩ = some (.string x.1) ∧ w'.cell? ⟨blk, off + k * 2 + 1, none⟩ = some (.string x.2) := by
  obtain ⟨g0, g1⟩ := labCells_get l k x.1 x.2 hx
  obtain ⟨b, off, c', e, _, _, hc⟩ := h.at (fun e => by rw [e] at g0; cases g0)
  simp only [Value.slice.injEq] at e
  have c0 := hc _ _ g0
  have c1 := hc _ _ g1
  rw [← Nat.add_assoc] at c1
  exact ⟨b, off, e.1, fun w' hb => ⟨(hb.cell (World.block_lt_of_cell? w _ c0)).trans c0, (hb.cell (World.block_lt_of_cell? w _ c1)).trans c1⟩⟩
end Go.Proofs.Ytpjfhakmffcolaa

end

section
/- Slices of bytes: what a call makes; bytes.Equal. -/
namespace Go.Proofs.Ytpjfhakmffcolaa
open Go Go.RowKit

theorem Try.infoU8 : (Try.prog.info? 5).map (fun i => (i.zero, i.size, i.bytes)) = some (some (.int .u8 0), 1, 1) := by kernel_rfl

theorem Try.elemU8 : Elem Try.prog 49 5 1 1 := Elem.mk' Try.underlying49 Try.infoU8 rfl (by decide)

/-- A literal slice of bytes, built in a block of its own. -/
theorem lit_rd (w : World) (cs : Array Value) (l : List Nat) (h : cs.toList = u8s l) (hn : l.length ≤ maxLen) : Rd (w.alloc (.cells cs 5)) 1 (.slice (some ⟨w.heap.size, 0, none⟩) l.length l.length) l.length (u8s l) := by
  have hs : cs.size = l.length * 1 := by rw [← Array.length_toList, h, u8s_length, Nat.mul_one]
  have := Rd.of_owns (World.ownsRow_lit (base := 0) (e := 5) w cs l.length (Nat.zero_le _) (by simpa using hn) hs)
  rwa [h] at this

/-- '[]byte("..")' of a constant: its block bears a mark. -/
theorem lit_rd_mark (w : World) (cs : Array Value) (fr : Nat × Nat) (l : List Nat) (n : Nat) (h : cs.toList = u8s l) (hl : l.length = n) (hn : n ≤ maxLen) : Rd (w.alloc (.cells cs 5 fr)) 1 (.slice (some ⟨w.heap.size, 0, none⟩) n n) l.length (u8s l) := by
  subst hl
  refine ⟨_, _, rfl, by simp [u8s_length], Nat.le_refl _, hn, (fun e => by cases e), fun ad e j u hu => ?_⟩
  cases e
  have e1 : (⟨w.heap.size, 0, none⟩ : Addr).add j = ⟨w.heap.size, j, none⟩ := by unfold Addr.add; split <;> simp_all
  rw [e1, World.cell?_alloc_mark, ← Array.getElem?_toList, h]
  exact hu

/-- bytes.Equal of two slices of bytes. -/
theorem equal_any (a b : Value) (n m : Nat) (l k : List Nat) (w : World) (ha : Rd w 1 a n (u8s l)) (hb : Rd w 1 b m (u8s k)) (hl : ∀ x ∈ l, x < 256) (hk : ∀ x ∈ k, x < 256) :
    Calls Try.prog 27 #[a, b] w fun e w' => e = .returned (.bool (decide (l = k))) ∧ w = w' := by
  have e1 := ha.conv (P := Try.prog) 49 5 9 Try.underlying49 Try.underlying5 Try.underlying9
  have e2 := hb.conv (P := Try.prog) 49 5 9 Try.underlying49 Try.underlying5 Try.underlying9
  have e3 := strOf_inj hl hk
  have E3 := Lib.hid e3
  clear ha hb hl hk e3
  generalize strOf l = sl at *
  generalize strOf k = sk at *
  go_enter Try.func27, Try.ntmps27
  go_wp2
  go_ret
  exact ⟨congrArg (fun b => Ending.returned (.bool b)) E3.out, rfl⟩

theorem calls_flip {P : Program} {f : FuncId} {args : Array Value} {w : World} {r : Ending} (h : Calls P f args w fun e w' => e = r ∧ w = w') : Calls P f args w fun e w' => e = r ∧ w' = w := h.mono fun _ _ h => ⟨h.1, h.2.symm⟩
end Go.Proofs.Ytpjfhakmffcolaa

end

section
/- Rows of bytes of the call's own; a result that is bytes and an error. -/
set_option linter.unusedVariables false
namespace Go.Proofs.Ytpjfhakmffcolaa
open Go Go.RowKit


abbrev OwnB := Own1 5 (fun c : Nat => Value.int .u8 (c : Int))

/-- A result that is bytes and an error. -/
structure GotB (w : World) (o : Nat × List Nat) (e : Ending) (w' : World) : Prop where
  res : ∃ r, e = .returned (.tuple #[r, .int .i64 (o.1 : Int)]) ∧ Rd w' 1 r o.2.length (u8s o.2) ∧ (∀ k, r.ownBlock = some k → w.heap.size ≤ k)
  bel : Below w.heap.size w w'
end Go.Proofs.Ytpjfhakmffcolaa

end
