/- RecP, ParseS, PoE, PoF, PoB, LabE, PoN, PoL, LabSz, GotPo, PoI, Prog15, in one text. -/
import Derived.Test.YtpjfhakmffcolaaMrg4
import Derived.Test.YtpjfhakmffcolaaMrg2

section
/- Layer 13: records, their encoding and its reading, as functions on lists. No program in sight. -/
set_option linter.unusedVariables false
namespace Go.Proofs.Ytpjfhakmffcolaa
open Go Go.RowKit

/-- Labels, and the lengths of chunks. -/
abbrev Rec := List Lab × List Int
def idxT (t : List ByteArray) (s : ByteArray) : Nat := (findS t s).toNat
def labBytes (t : List ByteArray) (x : Lab) : List Nat := groups (idxT t x.1) ++ groups (idxT t x.2)
def lenOk (n : Int) : Prop := 1 ≤ n ∧ n ≤ 2147483647
instance (n : Int) : Decidable (lenOk n) := inferInstanceAs (Decidable (1 ≤ n ∧ n ≤ 2147483647))
def labsBytes (t : List ByteArray) (l : List Lab) : List Nat := groups l.length ++ l.flatMap (labBytes t)
def lensBytes (l : List Int) : List Nat := groups l.length ++ l.flatMap (fun n => groups n.toNat)
def recBytes (t : List ByteArray) (r : Rec) : List Nat := labsBytes t r.1 ++ lensBytes r.2
def encRc (t : List ByteArray) (l : List Rec) : List Nat := groups l.length ++ l.flatMap (recBytes t)

def pSym (t : List ByteArray) : List Nat → Nat → Out ByteArray := pNum (fun n => t[n]?) 14
def pLen : List Nat → Nat → Out Int := pNum (fun n => if 1 ≤ n ∧ n ≤ 2147483647 then some (n : Int) else none) 23
def pLab (t : List ByteArray) : List Nat → Nat → Out Lab := pPair (pSym t) (pSym t)
def pLabs (t : List ByteArray) : List Nat → Nat → Out (List Lab) := pList 0 (pLab t)
def pLens : List Nat → Nat → Out (List Int) := pList 23 pLen
def pRec (t : List ByteArray) : List Nat → Nat → Out Rec := pPair (pLabs t) pLens
def pRecs (t : List ByteArray) : List Nat → Nat → Out (List Rec) := pList 0 (pRec t)
/-- What Decode gives. -/
def decRc (t : List ByteArray) (B : List Nat) : Nat × List Rec := pAll (pRecs t) [] B

def labIn (t : List ByteArray) (x : Lab) : Prop := x.1 ∈ t ∧ x.2 ∈ t
instance memDec (t : List ByteArray) (s : ByteArray) : Decidable (s ∈ t) := decidable_of_iff (∃ y ∈ t, y = s) ⟨fun ⟨y, hy, e⟩ => e ▸ hy, fun h => ⟨s, h, rfl⟩⟩
instance (t : List ByteArray) (x : Lab) : Decidable (labIn t x) := inferInstanceAs (Decidable (x.1 ∈ t ∧ x.2 ∈ t))
/-- The error of a record. -/
def recErr (t : List ByteArray) (r : Rec) : Nat := if ∀ x ∈ r.1, labIn t x then (if r.2 = [] then 23 else if ∀ n ∈ r.2, lenOk n then 0 else 23) else 14
def recsErr (t : List ByteArray) : List Rec → Nat
  | [] => 0
  | r :: l => if recErr t r = 0 then recsErr t l else recErr t r
/-- What Encode gives. -/
def encRcR (t : List ByteArray) (l : List Rec) : Nat × List Nat := if recsErr t l = 0 then (0, encRc t l) else (recsErr t l, [])

theorem asc_nodup {t : List ByteArray} (h : AscB ltS t) : t.Nodup :=
  List.Pairwise.imp (fun hab e => by rw [e, ltS_ok.irr] at hab; cases hab) h

section
variable {t : List ByteArray} (ht : t.Nodup) (hl : t.length < 18446744073709551616)
include ht hl
theorem reads_sym : Reads (pSym t) (fun s => groups (idxT t s)) (fun s => s ∈ t) :=
  reads_num (by decide) (fun s hs => by
    obtain ⟨j, h1, h2⟩ := findS_in hs
    have hj := (List.getElem?_eq_some_iff.1 h2).1
    rw [idxT, h1]
    exact ⟨h2, by simp only [Int.toNat_natCast]; omega⟩) (fun n s h => ⟨List.mem_of_getElem? h, by rw [idxT, findS_at ht h]; rfl⟩)
omit ht hl in
theorem reads_len : Reads pLen (fun n => groups n.toNat) lenOk :=
  reads_num (by decide) (fun n hn => by
    obtain ⟨h1, h2⟩ := hn
    refine ⟨?_, by omega⟩
    rw [if_pos (by omega)]
    congr 1
    omega) (fun n x h => by
    split at h
    · next hn => cases h; exact ⟨⟨by omega, by omega⟩, by simp⟩
    · cases h)
theorem reads_lab : Reads (pLab t) (labBytes t) (fun x => x.1 ∈ t ∧ x.2 ∈ t) := reads_pair (reads_sym ht hl) (reads_sym ht hl)
theorem reads_labs : Reads (pLabs t) (labsBytes t) (fun l => (∀ x ∈ l, x.1 ∈ t ∧ x.2 ∈ t) ∧ l.length < 18446744073709551616 ∧ ((0 : Nat) ≠ 0 → l ≠ [])) := reads_list (reads_lab ht hl)
omit ht hl in
theorem reads_lens : Reads pLens lensBytes (fun l => (∀ n ∈ l, lenOk n) ∧ l.length < 18446744073709551616 ∧ ((23 : Nat) ≠ 0 → l ≠ [])) := reads_list reads_len
def okRec (t : List ByteArray) (r : Rec) : Prop := ((∀ x ∈ r.1, x.1 ∈ t ∧ x.2 ∈ t) ∧ r.1.length < 18446744073709551616 ∧ ((0 : Nat) ≠ 0 → r.1 ≠ [])) ∧ ((∀ n ∈ r.2, lenOk n) ∧ r.2.length < 18446744073709551616 ∧ ((23 : Nat) ≠ 0 → r.2 ≠ []))
theorem reads_rec : Reads (pRec t) (recBytes t) (okRec t) := reads_pair (reads_labs ht hl) reads_lens
def okRecs (t : List ByteArray) (l : List Rec) : Prop := (∀ r ∈ l, okRec t r) ∧ l.length < 18446744073709551616 ∧ ((0 : Nat) ≠ 0 → l ≠ [])
theorem reads_recs : Reads (pRecs t) (encRc t) (okRecs t) := reads_list (reads_rec ht hl)
end

theorem recErr_zero {t : List ByteArray} {r : Rec} : recErr t r = 0 ↔ (∀ x ∈ r.1, labIn t x) ∧ r.2 ≠ [] ∧ ∀ n ∈ r.2, lenOk n := by
  unfold recErr
  constructor
  · intro h
    split at h
    · next h1 =>
      split at h
      · cases h
      · next h2 =>
        split at h
        · next h3 => exact ⟨h1, h2, h3⟩
        · cases h
    · cases h
  · rintro ⟨h1, h2, h3⟩
    rw [if_pos h1, if_neg h2, if_pos h3]
theorem recsErr_zero {t : List ByteArray} {l : List Rec} : recsErr t l = 0 ↔ ∀ r ∈ l, recErr t r = 0 := by
  induction l with
  | nil => simp [recsErr]
  | cons r l ih =>
    rw [recsErr]
    by_cases h : recErr t r = 0
    · rw [if_pos h, ih]; simp [h]
    · rw [if_neg h]; simp [h]
/-- Bounds that a machine keeps. -/
def recLens (l : List Rec) : Prop := l.length < 18446744073709551616 ∧ ∀ r ∈ l, r.1.length < 18446744073709551616 ∧ r.2.length < 18446744073709551616
theorem okRecs_of {t : List ByteArray} {l : List Rec} (h : recsErr t l = 0) (hl : recLens l) : okRecs t l :=
  ⟨fun r hr => by
    obtain ⟨h1, h2, h3⟩ := recErr_zero.1 (recsErr_zero.1 h r hr)
    exact ⟨⟨h1, (hl.2 r hr).1, fun e => absurd rfl e⟩, h3, (hl.2 r hr).2, fun _ => h2⟩, hl.1, fun e => absurd rfl e⟩
theorem okRecs_err {t : List ByteArray} {l : List Rec} (h : okRecs t l) : recsErr t l = 0 :=
  recsErr_zero.2 fun r hr => recErr_zero.2 ⟨(h.1 r hr).1.1, (h.1 r hr).2.2.2 (by decide), (h.1 r hr).2.1⟩
section
variable {t : List ByteArray} (ht : AscB ltS t) (hl : t.length < 18446744073709551616)
include ht hl
theorem decRc_back {l : List Rec} (h : recsErr t l = 0) (hl' : recLens l) : decRc t (encRc t l) = (0, l) := all_back (reads_recs (asc_nodup ht) hl) (okRecs_of h hl')
theorem decRc_inv {B : List Nat} (hB : ∀ c ∈ B, c < 256) (h : (decRc t B).1 = 0) : encRcR t (decRc t B).2 = (0, B) := by
  obtain ⟨h1, h2⟩ := all_inv (z := []) (reads_recs (asc_nodup ht) hl) hB h
  have h3 : recsErr t (decRc t B).2 = 0 := okRecs_err h1
  rw [encRcR, if_pos h3]
  exact Prod.ext rfl h2.symm
theorem decRc_cut {l : List Rec} (h : recsErr t l = 0) (hl' : recLens l) {m : Nat} (hm : m < (encRc t l).length) : decRc t ((encRc t l).take m) = (3, []) := all_cut (reads_recs (asc_nodup ht) hl) (okRecs_of h hl') hm
theorem decRc_more {l : List Rec} (h : recsErr t l = 0) (hl' : recLens l) (c : Nat) : decRc t (encRc t l ++ [c]) = (4, []) := all_more (reads_recs (asc_nodup ht) hl) (okRecs_of h hl') c
theorem encRc_lt {l : List Rec} (h : recsErr t l = 0) (hl' : recLens l) : ∀ c ∈ encRc t l, c < 256 := (reads_recs (asc_nodup ht) hl).lt _ (okRecs_of h hl')
theorem decRc_ok {B : List Nat} (hB : ∀ c ∈ B, c < 256) (h : (decRc t B).1 = 0) : okRecs t (decRc t B).2 := (all_inv (z := []) (reads_recs (asc_nodup ht) hl) hB h).1
end
theorem decRc_err {t : List ByteArray} {B : List Nat} (h : (decRc t B).1 ≠ 0) : (decRc t B).2 = [] := all_err B h
theorem recErr_in {t : List ByteArray} {r : Rec} (h : ∀ x ∈ r.1, labIn t x) : recErr t r = 0 ∨ recErr t r = 23 := by
  unfold recErr
  rw [if_pos h]
  repeat' split
  all_goals simp
theorem recsErr_in {t : List ByteArray} {l : List Rec} (h : ∀ r ∈ l, ∀ x ∈ r.1, labIn t x) : recsErr t l = 0 ∨ recsErr t l = 23 := by
  induction l with
  | nil => exact Or.inl rfl
  | cons r l ih =>
    rw [recsErr]
    split
    · exact ih (fun s hs => h s (by simp [hs]))
    · next hn => exact Or.inr ((recErr_in (h r (by simp))).resolve_left hn)
theorem recErr_le (t : List ByteArray) (r : Rec) : recErr t r ≤ 23 := by
  unfold recErr
  repeat' split
  all_goals omega
theorem recsErr_le (t : List ByteArray) (l : List Rec) : recsErr t l ≤ 23 := by
  induction l with
  | nil => simp [recsErr]
  | cons r l ih => rw [recsErr]; split <;> first | exact ih | exact recErr_le t r
end Go.Proofs.Ytpjfhakmffcolaa

end

section
/- Readings of lists whose elements depend on those before: a state is handed on. Readings of which not all are taken. No program in sight. -/
set_option linter.unusedVariables false
namespace Go.Proofs.Ytpjfhakmffcolaa

/-- A reading of which not all are taken. -/
def pOnly {α : Type} (p : List Nat → Nat → Out α) (q : α → Bool) (z : Nat) (B : List Nat) (a : Nat) : Out α := match p B a with
  | .bad e => .bad e
  | .ok x b => if q x = true then .ok x b else .bad z
theorem reads_only {α : Type} {p : List Nat → Nat → Out α} {f : α → List Nat} {ok : α → Prop} {q : α → Bool} {z : Nat} (hz : z ≠ 0) (h : Reads p f ok) : Reads (pOnly p q z) f (fun x => ok x ∧ q x = true) where
  back := fun pre rest x hx => by rw [pOnly, h.back pre rest x hx.1]; simp only [hx.2, if_true]
  inv := fun {B a x b} hB ha hp => by
    rw [pOnly] at hp
    split at hp
    · cases hp
    · next y b' h1 =>
      split at hp
      · next hq =>
        cases hp
        obtain ⟨a1, a2, a3, a4⟩ := h.inv hB ha h1
        exact ⟨⟨a1, hq⟩, a2, a3, a4⟩
      · cases hp
  bad := fun {B a e} hB ha hp => by
    rw [pOnly] at hp
    split at hp
    · next e' h1 => cases hp; exact h.bad hB ha h1
    · split at hp
      · cases hp
      · cases hp; exact hz
  cut := fun {B a x b m} hB ha hm hp => by
    rw [pOnly] at hp
    split at hp
    · cases hp
    · next y b' h1 =>
      split at hp
      · next hq =>
        cases hp
        rcases h.cut hB ha hm h1 with e1 | ⟨hb, e1⟩
        · exact Or.inl (by rw [pOnly, e1])
        · exact Or.inr ⟨hb, by rw [pOnly, e1]; simp only [hq, if_true]⟩
      · cases hp
  pos := fun x hx => h.pos x hx.1
  lt := fun x hx => h.lt x hx.1

section
variable {α σ : Type} (p : σ → List Nat → Nat → Out α) (f : σ → α → List Nat) (ok : σ → α → Prop) (nx : σ → α → σ)
def pManyS (B : List Nat) : Nat → Nat → σ → List α → Out (List α)
  | 0, a, _, acc => .ok acc a
  | k + 1, a, s, acc => match p s B a with
    | .bad e => .bad e
    | .ok x b => pManyS B k b (nx s x) (acc ++ [x])
def fManyS : σ → List α → List Nat
  | _, [] => []
  | s, x :: l => f s x ++ fManyS (nx s x) l
def okS : σ → List α → Prop
  | _, [] => True
  | s, x :: l => ok s x ∧ okS (nx s x) l
/-- A counted list; z: the error of no elements, where there must be one. -/
def pListS (z : Nat) (s0 : σ) (B : List Nat) (a : Nat) : Out (List α) := match readAt B (a : Int) with
  | (n, to, 0) => if B.length - to.toNat < n then .bad 3 else if z ≠ 0 ∧ n = 0 then .bad z else pManyS p nx B n to.toNat s0 []
  | (_, _, e + 1) => .bad (e + 1)
end
section
variable {α σ : Type} {p : σ → List Nat → Nat → Out α} {f : σ → α → List Nat} {ok : σ → α → Prop} {nx : σ → α → σ}
theorem manyS_back (h : ∀ s, Reads (p s) (f s) (ok s)) (rest : List Nat) (l : List α) : ∀ (s : σ) (pre : List Nat) (acc : List α), okS ok nx s l → pManyS p nx (pre ++ fManyS f nx s l ++ rest) l.length pre.length s acc = .ok (acc ++ l) (pre.length + (fManyS f nx s l).length) := by
  induction l with
  | nil => intro s pre acc _; simp [pManyS, fManyS]
  | cons x l ih =>
    intro s pre acc ho
    have e0 : pre ++ fManyS f nx s (x :: l) ++ rest = pre ++ f s x ++ (fManyS f nx (nx s x) l ++ rest) := by simp [fManyS]
    have e1 := (h s).back pre (fManyS f nx (nx s x) l ++ rest) x ho.1
    have e2 := ih (nx s x) (pre ++ f s x) (acc ++ [x]) ho.2
    rw [List.length_cons, pManyS, e0, e1]
    simp only
    rw [← List.append_assoc, ← List.length_append, e2]
    simp [fManyS, Nat.add_assoc]
theorem manyS_inv (h : ∀ s, Reads (p s) (f s) (ok s)) {B : List Nat} (hB : ∀ c ∈ B, c < 256) : ∀ (k a : Nat) (s : σ) (acc u : List α) (b : Nat), a ≤ B.length → pManyS p nx B k a s acc = .ok u b → ∃ l, u = acc ++ l ∧ l.length = k ∧ okS ok nx s l ∧ B.drop a = fManyS f nx s l ++ B.drop b ∧ a ≤ b ∧ b ≤ B.length := by
  intro k
  induction k with
  | zero => intro a s acc u b ha hp; rw [pManyS] at hp; cases hp; exact ⟨[], by simp, rfl, trivial, rfl, Nat.le_refl _, ha⟩
  | succ k ih =>
    intro a s acc u b ha hp
    rw [pManyS] at hp
    split at hp
    · cases hp
    · next x b1 h1 =>
      obtain ⟨a1, a2, a3, a4⟩ := (h s).inv hB ha h1
      obtain ⟨l, e1, e2, e3, e4, e5, e6⟩ := ih b1 (nx s x) (acc ++ [x]) u b a4 hp
      exact ⟨x :: l, by rw [e1]; simp, by simp [e2], ⟨a1, e3⟩, by rw [a2, e4, fManyS, List.append_assoc], by omega, e6⟩
theorem manyS_bad (h : ∀ s, Reads (p s) (f s) (ok s)) {B : List Nat} (hB : ∀ c ∈ B, c < 256) : ∀ (k a : Nat) (s : σ) (acc : List α) (e : Nat), a ≤ B.length → pManyS p nx B k a s acc = .bad e → e ≠ 0 := by
  intro k
  induction k with
  | zero => intro a s acc e _ hp; rw [pManyS] at hp; cases hp
  | succ k ih =>
    intro a s acc e ha hp
    rw [pManyS] at hp
    split at hp
    · next e' h1 => cases hp; exact (h s).bad hB ha h1
    · next x b1 h1 => exact ih b1 _ _ e ((h s).inv hB ha h1).2.2.2 hp
theorem manyS_cut (h : ∀ s, Reads (p s) (f s) (ok s)) {B : List Nat} (hB : ∀ c ∈ B, c < 256) {m : Nat} (hm : m ≤ B.length) : ∀ (k a : Nat) (s : σ) (acc u : List α) (b : Nat), a ≤ m → pManyS p nx B k a s acc = .ok u b → pManyS p nx (B.take m) k a s acc = .bad 3 ∨ (b ≤ m ∧ pManyS p nx (B.take m) k a s acc = .ok u b) := by
  intro k
  induction k with
  | zero => intro a s acc u b ha hp; rw [pManyS] at hp; cases hp; exact Or.inr ⟨ha, rfl⟩
  | succ k ih =>
    intro a s acc u b ha hp
    rw [pManyS] at hp
    split at hp
    · cases hp
    · next x b1 h1 =>
      rcases (h s).cut hB ha hm h1 with e1 | ⟨hb, e1⟩
      · rw [pManyS, e1]; exact Or.inl rfl
      · rw [pManyS, e1]; exact ih b1 _ _ u b hb hp
theorem flatS_le (h : ∀ s, Reads (p s) (f s) (ok s)) (l : List α) : ∀ s, okS ok nx s l → l.length ≤ (fManyS f nx s l).length := by
  induction l with
  | nil => intro s _; exact Nat.le_refl _
  | cons x l ih => intro s ho; rw [fManyS, List.length_append, List.length_cons]; have := (h s).pos x ho.1; have := ih _ ho.2; omega
theorem flatS_lt (h : ∀ s, Reads (p s) (f s) (ok s)) (l : List α) : ∀ s, okS ok nx s l → ∀ c ∈ fManyS f nx s l, c < 256 := by
  induction l with
  | nil => intro s _ c hc; cases hc
  | cons x l ih =>
    intro s ho c hc
    rw [fManyS] at hc
    rcases List.mem_append.1 hc with e | e
    · exact (h s).lt x ho.1 c e
    · exact ih _ ho.2 c e
theorem reads_listS {z : Nat} (h : ∀ s, Reads (p s) (f s) (ok s)) (s0 : σ) : Reads (pListS p nx z s0) (fun l => groups l.length ++ fManyS f nx s0 l) (fun l => okS ok nx s0 l ∧ l.length < 18446744073709551616 ∧ (z ≠ 0 → l ≠ [])) where
  back := fun pre rest l hl => by
    have e0 : pre ++ (groups l.length ++ fManyS f nx s0 l) ++ rest = pre ++ groups l.length ++ (fManyS f nx s0 l ++ rest) := by simp
    have e3 : pre ++ (groups l.length ++ fManyS f nx s0 l) ++ rest = pre ++ groups l.length ++ fManyS f nx s0 l ++ rest := by simp
    have hr := readAt_groups pre (fManyS f nx s0 l ++ rest) hl.2.1
    rw [pListS, e0, hr]
    simp only [Int.toNat_natCast]
    have hf := flatS_le h l s0 hl.1
    rw [if_neg (by simp only [List.length_append]; omega), if_neg (fun e => hl.2.2 e.1 (List.eq_nil_of_length_eq_zero e.2)), ← e0, e3, ← List.length_append, manyS_back h rest l _ _ _ hl.1]
    simp [Nat.add_assoc]
  inv := fun {B a u b} hB ha hp => by
    rcases readAt_cases hB ha with ⟨e, he, hr⟩ | ⟨y, n, hr, hn, hin, hg, hy⟩
    · obtain ⟨k, rfl⟩ : ∃ k, e = k + 1 := ⟨e - 1, by omega⟩
      rw [pListS, hr] at hp; cases hp
    · obtain ⟨b', hb, h3, h4, h5, h6, h7, _⟩ := readAt_take hB (Nat.le_refl a) ha hr
      have e : b' = a + n := by omega
      rw [pListS, hr] at hp
      simp only [Int.toNat_natCast] at hp
      split at hp
      · cases hp
      · split at hp
        · cases hp
        · next hz =>
          rw [← e] at hp
          obtain ⟨l, e1, e2, e3, e4, e5, e6⟩ := manyS_inv h hB y b' s0 [] u b h4 hp
          rw [List.nil_append] at e1
          subst e1
          refine ⟨⟨e3, by rw [e2]; exact h7, fun hz1 hn1 => hz ⟨hz1, by rw [← e2, hn1]; rfl⟩⟩, by rw [h5, e4, e2, List.append_assoc], by omega, e6⟩
  bad := fun {B a e} hB ha hp => by
    rcases readAt_cases hB ha with ⟨e1, he, hr⟩ | ⟨y, n, hr, hn, hin, hg, hy⟩
    · obtain ⟨k, rfl⟩ : ∃ k, e1 = k + 1 := ⟨e1 - 1, by omega⟩
      rw [pListS, hr] at hp; cases hp; omega
    · rw [pListS, hr] at hp
      simp only [Int.toNat_natCast] at hp
      split at hp
      · cases hp; decide
      · split at hp
        · next hz => cases hp; exact hz.1
        · exact manyS_bad h hB _ _ _ _ _ hin hp
  cut := fun {B a u b m} hB ha hm hp => by
    rcases readAt_cases hB (Nat.le_trans ha hm) with ⟨e1, he, hr⟩ | ⟨y, n, hr, hn, hin, hg, hy⟩
    · obtain ⟨k, rfl⟩ : ∃ k, e1 = k + 1 := ⟨e1 - 1, by omega⟩
      rw [pListS, hr] at hp; cases hp
    · obtain ⟨b', hb, h3, h4, h5, h6, h7, h8⟩ := readAt_take hB ha hm hr
      have e : b' = a + n := by omega
      rw [pListS, hr] at hp
      simp only [Int.toNat_natCast] at hp
      rw [pListS, h8]
      by_cases hle : b' ≤ m
      · rw [if_pos hle]
        simp only [Int.toNat_natCast]
        split
        · exact Or.inl rfl
        · split at hp
          · cases hp
          · split at hp
            · cases hp
            · next hz =>
              rw [if_neg hz]
              rw [← e] at hp
              exact manyS_cut h hB hm _ _ _ _ _ _ hle hp
      · rw [if_neg hle]; exact Or.inl rfl
  pos := fun l _ => by rw [List.length_append]; have := groups_pos l.length; omega
  lt := fun l hl c hc => by
    rcases List.mem_append.1 hc with e | e
    · exact groups_lt _ c e
    · exact flatS_lt h l s0 hl.1 c e
end
end Go.Proofs.Ytpjfhakmffcolaa

end

section
/- Layer 15: the encoding of indexes and its reading, as functions on lists. No program in sight. -/
set_option linter.unusedVariables false
namespace Go.Proofs.Ytpjfhakmffcolaa
open Go Go.RowKit

/-- The first number, or a difference; s: the number before. -/
def serB (s : Option Int) (x : Int) : List Nat := groups (x - s.getD 0).toNat
def serBytes (l : List Int) : List Nat := groups l.length ++ fManyS serB (fun _ x => some x) none l
def entBytes (t : List ByteArray) (e : Ent) : List Nat := labBytes t e.1 ++ serBytes e.2
def entsBytes (t : List ByteArray) (l : List Ent) : List Nat := groups l.length ++ l.flatMap (entBytes t)

def ltOpt (s : Option Lab) (x : Lab) : Bool := match s with
  | none => true
  | some y => ltE y x
def pLabO (t : List ByteArray) (s : Option Lab) : List Nat → Nat → Out Lab := pOnly (pLab t) (ltOpt s) 16
def pSer (n : Int) (s : Option Int) : List Nat → Nat → Out Int := pNum (fun d => if 0 ≤ s.getD 0 ∧ s.getD 0 + (d : Int) < n ∧ (s = none ∨ d ≠ 0) then some (s.getD 0 + (d : Int)) else none) 22
def pSers (n : Int) : List Nat → Nat → Out (List Int) := pListS (pSer n) (fun _ x => some x) 22 none
def pEnt (t : List ByteArray) (n : Int) (s : Option Lab) : List Nat → Nat → Out Ent := pPair (pLabO t s) (pSers n)
def pEnts (t : List ByteArray) (n : Int) : List Nat → Nat → Out (List Ent) := pListS (pEnt t n) (fun _ e => some e.1) 0 none
/-- What Decode gives. -/
def decPo (t : List ByteArray) (n : Int) (B : List Nat) : Nat × List Ent := if n < 0 then (2, []) else pAll (pEnts t n) [] B
/-- What Encode gives. -/
def encPoR (t : List ByteArray) (l : List Ent) : Nat × List Nat := if ∀ e ∈ l, labIn t e.1 then (0, entsBytes t l) else (14, [])

def okSer (n : Int) (s : Option Int) (x : Int) : Prop := 0 ≤ s.getD 0 ∧ x < n ∧ (s = none → 0 ≤ x) ∧ ∀ y, s = some y → y < x
theorem reads_ser {n : Int} (hn : n < 9223372036854775808) (s : Option Int) : Reads (pSer n s) (serB s) (okSer n s) :=
  reads_num (by decide) (fun x hx => by
    obtain ⟨h1, h2, h3, h4⟩ := hx
    cases s with
    | none =>
      have h5 := h3 rfl
      simp only [Option.getD_none] at *
      refine ⟨?_, by omega⟩
      rw [if_pos ⟨by omega, by omega, Or.inl trivial⟩]
      congr 1
      omega
    | some y =>
      have h5 := h4 y rfl
      simp only [Option.getD_some] at *
      refine ⟨?_, by omega⟩
      rw [if_pos ⟨by omega, by omega, Or.inr (by omega)⟩]
      congr 1
      omega) (fun d x h => by
    split at h
    · next hd =>
      cases h
      obtain ⟨h1, h2, h3⟩ := hd
      cases s with
      | none =>
        simp only [Option.getD_none] at *
        exact ⟨⟨by simp, by omega, fun _ => by omega, fun y hy => by cases hy⟩, by omega⟩
      | some y =>
        simp only [Option.getD_some] at *
        have h4 : d ≠ 0 := by rcases h3 with e | e; · cases e
                              · exact e
        exact ⟨⟨by simpa using h1, by omega, (fun hy => by cases hy), fun z hz => by cases hz; omega⟩, by omega⟩
    · cases h)
def okSers (n : Int) (l : List Int) : Prop := okS (okSer n) (fun _ x => some x) none l ∧ l.length < 18446744073709551616 ∧ ((22 : Nat) ≠ 0 → l ≠ [])
theorem reads_sers {n : Int} (hn : n < 9223372036854775808) : Reads (pSers n) serBytes (okSers n) := reads_listS (fun s => reads_ser hn s) none
def okEnt (t : List ByteArray) (n : Int) (s : Option Lab) (e : Ent) : Prop := ((e.1.1 ∈ t ∧ e.1.2 ∈ t) ∧ ltOpt s e.1 = true) ∧ okSers n e.2
def okEnts (t : List ByteArray) (n : Int) (l : List Ent) : Prop := okS (okEnt t n) (fun _ e => some e.1) none l ∧ l.length < 18446744073709551616 ∧ ((0 : Nat) ≠ 0 → l ≠ [])
theorem fMany_const {α σ : Type} (f : α → List Nat) (nx : σ → α → σ) (l : List α) : ∀ s, fManyS (fun _ => f) nx s l = l.flatMap f := by
  induction l with
  | nil => intro s; rfl
  | cons x l ih => intro s; rw [fManyS, ih, List.flatMap_cons]
section
variable {t : List ByteArray} (ht : t.Nodup) (hl : t.length < 18446744073709551616) {n : Int} (hn : n < 9223372036854775808)
include ht hl hn
theorem reads_ent (s : Option Lab) : Reads (pEnt t n s) (entBytes t) (okEnt t n s) := reads_pair (reads_only (by decide) (reads_lab ht hl)) (reads_sers hn)
theorem reads_ents : Reads (pEnts t n) (entsBytes t) (okEnts t n) := by
  have h := reads_listS (p := pEnt t n) (f := fun _ => entBytes t) (ok := okEnt t n) (nx := fun _ e => some e.1) (z := 0) (fun s => reads_ent ht hl hn s) none
  have e : (fun l => groups l.length ++ fManyS (fun (_ : Option Lab) => entBytes t) (fun _ (e : Ent) => some e.1) none l) = entsBytes t := by
    funext l
    rw [fMany_const, entsBytes]
  rw [e] at h
  exact h
end

/-- The reference's test. -/
def isEnt (n : Int) (s : Option Lab) (e : Ent) : Prop := e.2 ≠ [] ∧ AscB ltI e.2 ∧ (∀ x ∈ e.2, 0 ≤ x ∧ x < n) ∧ ltOpt s e.1 = true
theorem sers_ok {n : Int} (l : List Int) : ∀ s, okS (okSer n) (fun _ x => some x) s l ↔ (∀ x ∈ l, x < n) ∧ AscB ltI l ∧ (s = none → ∀ x ∈ l, 0 ≤ x) ∧ (l ≠ [] → 0 ≤ s.getD 0) ∧ ∀ y, s = some y → ∀ x ∈ l, y < x := by
  induction l with
  | nil => intro s; simp [okS, AscB]
  | cons x l ih =>
    intro s
    rw [okS, ih (some x)]
    constructor
    · rintro ⟨⟨h1, h2, h3, h4⟩, k1, k2, _, k4, k5⟩
      have hx : ∀ z ∈ l, x < z := k5 x rfl
      refine ⟨fun z hz => ?_, List.pairwise_cons.2 ⟨fun z hz => by simpa [ltI] using hx z hz, k2⟩, fun e z hz => ?_, fun _ => h1, fun y hy z hz => ?_⟩
      · rcases List.mem_cons.1 hz with rfl | hz
        · exact h2
        · exact k1 z hz
      · rcases List.mem_cons.1 hz with rfl | hz
        · exact h3 e
        · have := h3 e; have := hx z hz; omega
      · rcases List.mem_cons.1 hz with rfl | hz
        · exact h4 y hy
        · have := h4 y hy; have := hx z hz; omega
    · rintro ⟨k1, k2, k3, k4, k5⟩
      obtain ⟨h1, h2⟩ := List.pairwise_cons.1 k2
      refine ⟨⟨k4 (by simp), k1 x (by simp), fun e => k3 e x (by simp), fun y hy => k5 y hy x (by simp)⟩, fun z hz => k1 z (by simp [hz]), h2, (fun e => by cases e), fun _ => ?_, fun y hy z hz => ?_⟩
      · show 0 ≤ x
        cases s with
        | none => exact k3 rfl x (by simp)
        | some y => have h5 := k4 (by simp); have h6 := k5 y rfl x (by simp); simp only [Option.getD_some] at h5; omega
      · cases hy
        simpa [ltI] using h1 z hz
theorem sers_ok0 {n : Int} {l : List Int} : okSers n l ↔ (AscB ltI l ∧ (∀ x ∈ l, 0 ≤ x ∧ x < n) ∧ l ≠ []) ∧ l.length < 18446744073709551616 := by
  rw [okSers, sers_ok]
  constructor
  · rintro ⟨⟨h1, h2, h3, _, _⟩, h5, h6⟩
    exact ⟨⟨h2, fun x hx => ⟨h3 rfl x hx, h1 x hx⟩, h6 (by decide)⟩, h5⟩
  · rintro ⟨⟨h1, h2, h3⟩, h4⟩
    exact ⟨⟨fun x hx => (h2 x hx).2, h1, fun _ x hx => (h2 x hx).1, fun _ => by simp, fun y hy => by cases hy⟩, h4, fun _ => h3⟩
theorem ents_ok {t : List ByteArray} {n : Int} (l : List Ent) : ∀ s, okS (okEnt t n) (fun _ e => some e.1) s l ↔ (∀ e ∈ l, (e.1.1 ∈ t ∧ e.1.2 ∈ t) ∧ okSers n e.2) ∧ AscB ltE (l.map Prod.fst) ∧ ∀ y, s = some y → ∀ e ∈ l, ltE y e.1 = true := by
  induction l with
  | nil => intro s; simp [okS, AscB]
  | cons x l ih =>
    intro s
    rw [okS, ih (some x.1)]
    constructor
    · rintro ⟨⟨⟨h1, h2⟩, h3⟩, k1, k2, k3⟩
      have hx : ∀ e ∈ l, ltE x.1 e.1 = true := k3 x.1 rfl
      refine ⟨fun e he => ?_, ?_, fun y hy e he => ?_⟩
      · rcases List.mem_cons.1 he with rfl | he
        · exact ⟨h1, h3⟩
        · exact k1 e he
      · refine List.pairwise_cons.2 ⟨fun y hy => ?_, k2⟩
        obtain ⟨e, he, rfl⟩ := List.mem_map.1 hy
        exact hx e he
      · subst hy
        rcases List.mem_cons.1 he with rfl | he
        · exact h2
        · exact ltE_ok.tr _ _ _ h2 (hx e he)
    · rintro ⟨k1, k2, k3⟩
      obtain ⟨h1, h2⟩ := List.pairwise_cons.1 k2
      refine ⟨⟨⟨(k1 x (by simp)).1, ?_⟩, (k1 x (by simp)).2⟩, fun e he => k1 e (by simp [he]), h2, fun y hy e he => ?_⟩
      · cases s with
        | none => rfl
        | some y => exact k3 y rfl x (by simp)
      · cases hy
        exact h1 e.1 (List.mem_map.2 ⟨e, he, rfl⟩)
/-- An index of series below n. -/
def IsIdx (n : Int) (l : List Ent) : Prop := AscB ltE (l.map Prod.fst) ∧ ∀ e ∈ l, AscB ltI e.2 ∧ (∀ x ∈ e.2, 0 ≤ x ∧ x < n) ∧ e.2 ≠ []
theorem okEnts_iff {t : List ByteArray} {n : Int} {l : List Ent} : okEnts t n l ↔ IsIdx n l ∧ (∀ e ∈ l, labIn t e.1) ∧ l.length < 18446744073709551616 ∧ ∀ e ∈ l, e.2.length < 18446744073709551616 := by
  rw [okEnts, ents_ok]
  constructor
  · rintro ⟨⟨h1, h2, _⟩, h3, _⟩
    exact ⟨⟨h2, fun e he => (sers_ok0.1 (h1 e he).2).1⟩, fun e he => (h1 e he).1, h3, fun e he => (sers_ok0.1 (h1 e he).2).2⟩
  · rintro ⟨⟨h1, h2⟩, h3, h4, h5⟩
    exact ⟨⟨fun e he => ⟨h3 e he, sers_ok0.2 ⟨h2 e he, h5 e he⟩⟩, h1, fun y hy => by cases hy⟩, h4, fun e => absurd rfl e⟩
section
variable {t : List ByteArray} (ht : AscB ltS t) (hl : t.length < 18446744073709551616) {n : Int} (hn : n < 9223372036854775808) (h0 : 0 ≤ n)
include ht hl hn h0
theorem decPo_back {l : List Ent} (h : okEnts t n l) : decPo t n (entsBytes t l) = (0, l) := by
  rw [decPo, if_neg (by omega)]
  exact all_back (reads_ents (asc_nodup ht) hl hn) h
omit h0 in
theorem decPo_inv {B : List Nat} (hB : ∀ c ∈ B, c < 256) (h : (decPo t n B).1 = 0) : okEnts t n (decPo t n B).2 ∧ encPoR t (decPo t n B).2 = (0, B) := by
  unfold decPo at h ⊢
  split at h
  · cases h
  · next h0 =>
    rw [if_neg h0]
    obtain ⟨h1, h2⟩ := all_inv (z := []) (reads_ents (asc_nodup ht) hl hn) hB h
    refine ⟨h1, ?_⟩
    rw [encPoR, if_pos (okEnts_iff.1 h1).2.1]
    exact Prod.ext rfl h2.symm
omit h0 in
theorem encPo_lt {l : List Ent} (h : okEnts t n l) : ∀ c ∈ entsBytes t l, c < 256 := (reads_ents (asc_nodup ht) hl hn).lt _ h
end
theorem decPo_err {t : List ByteArray} {n : Int} {B : List Nat} (h : (decPo t n B).1 ≠ 0) : (decPo t n B).2 = [] := by
  unfold decPo at h ⊢
  split at h
  · next h0 => rw [if_pos h0]
  · next h0 => rw [if_neg h0]; exact all_err B h
/-- The index of label sets is one, below their number. -/
theorem idx_is (l : List (List Lab)) : IsIdx (l.length : Int) (idxP l) := by
  refine ⟨idx_asc l, fun e he => ?_⟩
  obtain ⟨h1, h2⟩ := idx_mem he
  rw [h2]
  refine ⟨posTo_asc _ _ _, posTo_lt _ _ _, fun hnil => ?_⟩
  obtain ⟨s, hs, hx⟩ := List.mem_flatten.1 h1
  obtain ⟨j, hj, rfl⟩ := List.getElem_of_mem hs
  have : (j : Int) ∈ posTo l l.length e.1 := (posTo_mem _ _ _ _).2 ⟨j, rfl, hj, by rwa [List.getD_eq_getElem?_getD, List.getElem?_eq_getElem hj]⟩
  rw [hnil] at this
  cases this
end Go.Proofs.Ytpjfhakmffcolaa

end

section
/- Layer 15: an index's bytes under way. No program in sight. -/
set_option linter.unusedVariables false
namespace Go.Proofs.Ytpjfhakmffcolaa
open Go Go.RowKit

theorem fManyS_append {α σ : Type} (f : σ → α → List Nat) (nx : σ → α → σ) (a b : List α) : ∀ s, fManyS f nx s (a ++ b) = fManyS f nx s a ++ fManyS f nx (a.foldl nx s) b := by
  induction a with
  | nil => intro s; rfl
  | cons x a ih => intro s; rw [List.cons_append, fManyS, fManyS, ih, List.append_assoc]; rfl
/-- The differences of the first k numbers. -/
def serTo (l : List Int) (k : Nat) : List Nat := fManyS serB (fun _ x => some x) none (l.take k)
/-- The number before. -/
def lastZ (l : List Int) : Nat → Int
  | 0 => 0
  | k + 1 => l.getD k 0
theorem lastZ_succ {l : List Int} {k : Nat} {x : Int} (h : l[k]? = some x) : lastZ l (k + 1) = x := by rw [lastZ, List.getD_eq_getElem?_getD, h]; rfl
theorem lastO (l : List Int) (k : Nat) (h : k ≤ l.length) : ((l.take k).foldl (fun (_ : Option Int) x => some x) none).getD 0 = lastZ l k := by
  cases k with
  | zero => rfl
  | succ k =>
    obtain ⟨x, hx⟩ : ∃ x, l[k]? = some x := ⟨_, List.getElem?_eq_getElem (by omega)⟩
    rw [List.take_add_one, hx, List.foldl_append, lastZ_succ hx]
    rfl
theorem serTo_step {l : List Int} {k : Nat} {x : Int} (h : l[k]? = some x) : serTo l (k + 1) = serTo l k ++ groups (x - lastZ l k).toNat := by
  rw [serTo, List.take_add_one, h, fManyS_append]
  simp only [Option.toList_some, fManyS, List.append_nil, serB]
  rw [lastO l k (Nat.le_of_lt (List.getElem?_eq_some_iff.1 h).1)]
  rfl
theorem serTo_le (l : List Int) (k : Nat) : (serTo l k).length ≤ (fManyS serB (fun _ x => some x) none l).length := by
  have h : fManyS serB (fun (_ : Option Int) x => some x) none l = serTo l k ++ fManyS serB (fun _ x => some x) ((l.take k).foldl (fun (_ : Option Int) x => some x) none) (l.drop k) := by
    rw [serTo, ← fManyS_append, List.take_append_drop]
  rw [h, List.length_append]; omega
theorem serTo_top (l : List Int) (k : Nat) : (serTo l k).length ≤ (serTo l l.length).length := by
  have h := serTo_le l k
  rwa [show fManyS serB (fun (_ : Option Int) x => some x) none l = serTo l l.length by rw [serTo, List.take_length]] at h
theorem serBytes_to (l : List Int) : serBytes l = groups l.length ++ serTo l l.length := by rw [serTo, List.take_length]; rfl
theorem lastZ_le {l : List Int} {k : Nat} {x : Int} (h : l[k]? = some x) (ha : AscB ltI l) (h0 : ∀ y ∈ l, 0 ≤ y) : 0 ≤ lastZ l k ∧ lastZ l k ≤ x := by
  have hx := h0 x (List.mem_of_getElem? h)
  cases k with
  | zero => exact ⟨Int.le_refl _, hx⟩
  | succ k =>
    obtain ⟨hl, e⟩ := List.getElem?_eq_some_iff.1 h
    obtain ⟨y, hy⟩ : ∃ y, l[k]? = some y := ⟨_, List.getElem?_eq_getElem (by omega)⟩
    rw [lastZ_succ hy]
    refine ⟨h0 y (List.mem_of_getElem? hy), ?_⟩
    unfold AscB at ha
    rw [List.pairwise_iff_getElem] at ha
    obtain ⟨hl2, e2⟩ := List.getElem?_eq_some_iff.1 hy
    have := ha k (k + 1) hl2 hl (by omega)
    rw [e, e2] at this
    simp only [ltI, decide_eq_true_eq] at this
    omega
def encE (t : List ByteArray) (l : List Ent) (i : Nat) : List Nat := groups l.length ++ (l.take i).flatMap (entBytes t)
theorem encE_step {t : List ByteArray} {l : List Ent} {i : Nat} {n v : ByteArray} {s : List Int} (h : l[i]? = some ((n, v), s)) : encE t l (i + 1) = encE t l i ++ groups (idxT t n) ++ groups (idxT t v) ++ groups s.length ++ serTo s s.length := by
  rw [encE, List.take_add_one, h, List.flatMap_append, encE]
  simp [entBytes, labBytes, serBytes_to]
theorem encE_all (t : List ByteArray) (l : List Ent) (i : Nat) (h : l.length ≤ i) : encE t l i = entsBytes t l := by rw [encE, List.take_of_length_le h]; rfl
theorem encE_le (t : List ByteArray) (l : List Ent) (i : Nat) : (encE t l i).length ≤ (entsBytes t l).length := by
  have : entsBytes t l = encE t l i ++ (l.drop i).flatMap (entBytes t) := by
    rw [encE, List.append_assoc, ← List.flatMap_append, List.take_append_drop]; rfl
  rw [this, List.length_append]; omega
theorem encE_room {t : List ByteArray} {l : List Ent} {i : Nat} {n v : ByteArray} {s : List Int} (h : l[i]? = some ((n, v), s)) : (encE t l i).length + (groups (idxT t n)).length + (groups (idxT t v)).length + (groups s.length).length + (serTo s s.length).length ≤ (entsBytes t l).length := by
  have h1 := encE_le t l (i + 1)
  rw [encE_step h] at h1
  simp only [List.length_append] at h1
  omega
theorem encPo_bad {t : List ByteArray} {l : List Ent} {e : Ent} (he : e ∈ l) (h : ¬ labIn t e.1) : encPoR t l = (14, []) := by rw [encPoR, if_neg (fun k => h (k e he))]
theorem encPo_ok {t : List ByteArray} {l : List Ent} (h : ∀ e ∈ l, labIn t e.1) : encPoR t l = (0, entsBytes t l) := by rw [encPoR, if_pos h]
end Go.Proofs.Ytpjfhakmffcolaa

end

section
/- Layer 15: bounds of an index under way. No program in sight. -/
set_option linter.unusedVariables false
namespace Go.Proofs.Ytpjfhakmffcolaa
open Go Go.RowKit

/-- Entries in order, c at most, with ascending series, c of them at most. -/
structure EnOk (c : Nat) (l : List Ent) : Prop where
  asc : AscB ltE (l.map Prod.fst)
  len : l.length ≤ c
  ser : ∀ e ∈ l, AscB ltI e.2 ∧ e.2.length ≤ c
theorem EnOk.nil (c : Nat) : EnOk c [] := ⟨List.Pairwise.nil, Nat.zero_le _, fun e h => by cases h⟩
theorem EnOk.mono {c d : Nat} {l : List Ent} (h : EnOk c l) (hcd : c ≤ d) : EnOk d l := ⟨h.asc, Nat.le_trans h.len hcd, fun e he => ⟨(h.ser e he).1, Nat.le_trans (h.ser e he).2 hcd⟩⟩
theorem insP_fst (x : Lab) (n : Int) (l : List Ent) (ha : AscB ltE (l.map Prod.fst)) : (insP x n l).map Prod.fst = insB ltE x (l.map Prod.fst) := by
  induction l with
  | nil => rfl
  | cons e l ih =>
    obtain ⟨h1, h2⟩ := List.pairwise_cons.1 ha
    rw [insP, List.map_cons, insB]
    rcases cmpLab_ok.dom e.1 x with f | f | f
    · have hlt : ltE e.1 x = true := by unfold ltE; rw [f]; rfl
      rw [if_neg (by omega), if_neg (by omega), if_pos hlt, List.map_cons, ih h2]
    · have hx : e.1 = x := (cmpLab_ok.eq _ _).1 f
      have hir : ltE x x = false := ltE_ok.irr x
      rw [if_pos f, hx, if_neg (by rw [hir]; decide), if_neg (by rw [hir]; decide), List.map_cons]
    · have hlt : ltE x e.1 = true := (ltE_gt e.1 x).2 (by omega)
      have hnl : ltE e.1 x = false := ltE_ok.toLtPre.asy hlt
      rw [if_neg (by omega), if_pos (by omega), if_neg (by rw [hnl]; decide), if_pos hlt]
      rfl
theorem insP_ser (x : Lab) (n : Int) {c : Nat} (l : List Ent) (h : ∀ e ∈ l, AscB ltI e.2 ∧ e.2.length ≤ c) : ∀ e ∈ insP x n l, AscB ltI e.2 ∧ e.2.length ≤ c + 1 := by
  have h1 : AscB ltI [n] := List.pairwise_singleton _ _
  induction l with
  | nil =>
    intro e he
    rw [insP, List.mem_singleton] at he
    subst he
    exact ⟨h1, by simp⟩
  | cons a l ih =>
    have h0 := h a (by simp)
    have hl : ∀ e ∈ l, AscB ltI e.2 ∧ e.2.length ≤ c := fun e he => h e (by simp [he])
    have up : ∀ e ∈ a :: l, AscB ltI e.2 ∧ e.2.length ≤ c + 1 := fun e he => ⟨(h e he).1, by have := (h e he).2; omega⟩
    intro e he
    rw [insP] at he
    split at he
    · rcases List.mem_cons.1 he with f | f
      · subst f
        exact ⟨insB_asc ltI_ok _ _ h0.1, by have := insB_le (lt := ltI) n a.2; have := h0.2; simp only; omega⟩
      · exact up e (by simp [f])
    · split at he
      · rcases List.mem_cons.1 he with f | f
        · subst f; exact ⟨h1, by simp⟩
        · exact up e f
      · rcases List.mem_cons.1 he with f | f
        · subst f; exact up e (by simp)
        · exact ih hl e f
theorem EnOk.ins {c : Nat} {l : List Ent} (h : EnOk c l) (x : Lab) (n : Int) : EnOk (c + 1) (insR x n l) := by
  rw [insR_asc h.asc]
  have hf := insP_fst x n l h.asc
  refine ⟨by rw [hf]; exact insB_asc ltE_ok _ _ h.asc, ?_, insP_ser x n l h.ser⟩
  have h1 : (insP x n l).length = (insB ltE x (l.map Prod.fst)).length := by rw [← hf, List.length_map]
  have h2 := insB_le (lt := ltE) x (l.map Prod.fst)
  rw [List.length_map] at h2
  have := h.len
  omega
theorem EnOk.adds {c : Nat} {l : List Ent} (h : EnOk c l) (i : Int) (s : List Lab) : EnOk (c + s.length) (addS i l s) := by
  induction s using snoc_ind with
  | h0 => exact h
  | h1 s y ih =>
    rw [addS_snoc, List.length_append]
    exact ih.ins y i
theorem EnOk.built (l : List (List Lab)) (k : Nat) (hk : k ≤ l.length) : EnOk (l.take k).flatten.length (buildTo l k) := by
  induction k with
  | zero => exact EnOk.nil _
  | succ k ih =>
    rw [buildTo_succ]
    refine (EnOk.adds (ih (by omega)) (k : Int) (l.getD k [])).mono ?_
    have := flatTo_succ (l := l) (k := k) (by omega)
    unfold flatTo at this
    rw [this, List.length_append]
    exact Nat.le_refl _
theorem EnOk.index {c : Nat} {l : List (List Lab)} (h : l.flatten.length ≤ c) : EnOk c (buildP l) := by
  have := EnOk.built l l.length (Nat.le_refl _)
  rw [List.take_length] at this
  exact this.mono h
theorem buildTo_bound {l : List (List Lab)} {i : Nat} {s : List Lab} (h : l[i]? = some s) : (l.take i).flatten.length + s.length ≤ l.flatten.length := by
  obtain ⟨hlt, e⟩ := List.getElem?_eq_some_iff.1 h
  have e2 : l.flatten = (l.take i).flatten ++ (l.drop i).flatten := by rw [← List.flatten_append, List.take_append_drop]
  have e3 : l.drop i = s :: l.drop (i + 1) := by rw [← e, List.getElem_cons_drop]
  rw [e2, e3, List.length_append, List.flatten_cons, List.length_append]; omega
end Go.Proofs.Ytpjfhakmffcolaa

end

section
/- Layer 11: how great the errors are, how long a normal label set is. No program in sight. -/
set_option linter.unusedVariables false
namespace Go.Proofs.Ytpjfhakmffcolaa
open Go Go.RowKit

theorem oneL_le (x : Lab) : oneL x ≤ 18 := by rw [oneL]; (repeat' split) <;> omega
theorem checkFrom_le (l : List Lab) : ∀ p, checkFrom p l ≤ 18 := by
  induction l with
  | nil => intro p; rw [checkFrom]; omega
  | cons x l ih =>
    intro p
    have h1 := oneL_le x
    cases p with
    | none =>
      rw [checkFrom]
      split
      · exact h1
      · exact ih _
    | some n =>
      rw [checkFrom]
      repeat' split
      all_goals first | exact h1 | exact ih _ | omega
theorem checkL_le (l : List Lab) : checkL l ≤ 18 := checkFrom_le l none
theorem firstErr_le (l : List Lab) : firstErr l ≤ 18 := by
  induction l with
  | nil => rw [firstErr]; omega
  | cons x l ih =>
    rw [firstErr]
    split
    · exact oneL_le x
    · exact ih
theorem putL_le (l : List Lab) : ∀ (out r : List Lab), putL out l = some r → r.length ≤ out.length + l.length := by
  induction l with
  | nil => intro out r h; rw [putL] at h; simp at h; subst h; simp
  | cons x l ih =>
    intro out r h
    rw [putL] at h
    split at h
    · cases h
    · have h1 := ih _ _ h
      have h2 := insB_le (lt := ltN) x out
      rw [List.length_cons]; omega
theorem norm_le (l : List Lab) : (normL l).1 ≤ 18 ∧ (normL l).2.length ≤ l.length := by
  have hf := firstErr_le l
  rw [normL]
  split
  · exact ⟨hf, Nat.zero_le _⟩
  · cases hp : putL [] l with
    | none => exact ⟨Nat.le_refl _, Nat.zero_le _⟩
    | some r =>
      have := putL_le l [] r hp
      rw [List.length_nil, Nat.zero_add] at this
      exact ⟨Nat.zero_le _, this⟩
/-- What holds of all labels holds of the normal set's. -/
theorem norm_all {p : Lab → Prop} {l : List Lab} (h : ∀ x ∈ l, p x) : ∀ x ∈ (normL l).2, p x := by
  intro x hx
  by_cases h0 : (normL l).1 = 0
  · exact h x (((normL_res h0).2 x).1 hx)
  · rw [normL_err h0] at hx; cases hx
/-- A normal set is normal. -/
theorem norm_norm (l : List Lab) : normL (normL l).2 = (0, (normL l).2) := by
  by_cases h0 : (normL l).1 = 0
  · exact norm_idem h0
  · rw [normL_err h0]; rfl
theorem cmp_range (a b : List Lab) : -1 ≤ cmpLabs a b ∧ cmpLabs a b ≤ 1 := by rcases cmpLabs_ok.dom a b with e | e | e <;> rw [e] <;> decide
theorem cmp_trans (a b c : List Lab) : (cmpLabs a b ≤ 0 → cmpLabs b c ≤ 0 → cmpLabs a c ≤ 0) ∧ (cmpLabs a b = 0 → cmpLabs b c = 0 → cmpLabs a c = 0) ∧ (cmpLabs a b < 0 → cmpLabs b c ≤ 0 → cmpLabs a c < 0) := by
  have hle : ∀ x y, cmpLabs x y ≤ 0 → cmpLabs x y = -1 ∨ x = y := fun x y h => by
    rcases cmpLabs_ok.dom x y with e | e | e
    · exact Or.inl e
    · exact Or.inr ((cmpLabs_ok.eq x y).1 e)
    · omega
  refine ⟨fun h1 h2 => ?_, fun h1 h2 => ?_, fun h1 h2 => ?_⟩
  · rcases hle a b h1 with e1 | e1
    · rcases hle b c h2 with e2 | e2
      · rw [cmpLabs_ok.tr a b c e1 e2]; decide
      · subst e2; omega
    · subst e1; exact h2
  · rw [(cmpLabs_ok.eq a b).1 h1, (cmpLabs_ok.eq b c).1 h2]; exact cmpLabs_ok.refl c
  · rcases hle a b (by omega) with e1 | e1
    · rcases hle b c h2 with e2 | e2
      · rw [cmpLabs_ok.tr a b c e1 e2]; decide
      · subst e2; exact h1
    · subst e1; rw [cmpLabs_ok.refl] at h1; omega
end Go.Proofs.Ytpjfhakmffcolaa

end

section
/- Layer 15: the normal label sets among lists of labels, and their bounds. No program in sight. -/
set_option linter.unusedVariables false
namespace Go.Proofs.Ytpjfhakmffcolaa
open Go Go.RowKit

def normsP (l : List (List Lab)) : List (List Lab) := (l.filter fun x => decide ((normL x).1 = 0)).map fun x => (normL x).2
theorem normsP_cons (x : List Lab) (l : List (List Lab)) : normsP (x :: l) = (if (normL x).1 = 0 then [(normL x).2] else []) ++ normsP l := by
  unfold normsP
  by_cases h : (normL x).1 = 0
  · rw [List.filter_cons_of_pos (by simpa using h), if_pos h]; rfl
  · rw [List.filter_cons_of_neg (by simpa using h), if_neg h]; rfl
theorem normsP_append (a b : List (List Lab)) : normsP (a ++ b) = normsP a ++ normsP b := by unfold normsP; rw [List.filter_append, List.map_append]
theorem normsP_step {l : List (List Lab)} {i : Nat} {x : List Lab} (h : l[i]? = some x) : normsP (l.take (i + 1)) = normsP (l.take i) ++ if (normL x).1 = 0 then [(normL x).2] else [] := by
  rw [List.take_add_one, h, normsP_append, Option.toList_some, normsP_cons]
  simp [normsP]
def costP (l : List (List Lab)) : Nat := (l.map fun x => 1 + min x.length 300).sum
theorem costP_step {l : List (List Lab)} {i : Nat} {x : List Lab} (h : l[i]? = some x) : costP (l.take (i + 1)) = costP (l.take i) + (1 + min x.length 300) := by
  rw [costP, List.take_add_one, h, List.map_append, List.sum_append]; simp [costP]
theorem norms_cost (l : List (List Lab)) (h : costP l ≤ 300) : (normsP l).length + (normsP l).flatten.length ≤ costP l := by
  induction l with
  | nil => simp [normsP, costP]
  | cons x l ih =>
    have e : costP (x :: l) = 1 + min x.length 300 + costP l := by simp [costP]
    have h1 := (norm_le x).2
    rw [e] at h ⊢
    have h2 := ih (by omega)
    rw [normsP_cons]
    split
    · simp only [List.length_append, List.flatten_append, List.flatten_cons, List.flatten_nil, List.length_cons, List.length_nil, List.append_nil]
      omega
    · simp only [List.nil_append]
      omega
/-- Normal label sets within the statements' bounds. -/
structure SmallP (m : List (List Lab)) : Prop where
  len : m.length ≤ 300
  flat : m.flatten.length ≤ 300
  siz : ∀ s ∈ m, ∀ x ∈ s, x.1.size ≤ 200000 ∧ x.2.size ≤ 200000
  nrm : ∀ s ∈ m, AscB ltN s
  one : ∀ s ∈ m, ∀ x ∈ s, oneL x = 0
theorem small_norms {l : List (List Lab)} (h : costP l ≤ 300) (hs : ∀ s ∈ l, ∀ x ∈ s, x.1.size ≤ 200000 ∧ x.2.size ≤ 200000) : SmallP (normsP l) := by
  have h1 := norms_cost l h
  refine ⟨by omega, by omega, fun s hm => ?_, fun s hm => ?_, fun s hm => ?_⟩
  · obtain ⟨y, hy, rfl⟩ := List.mem_map.1 hm
    exact norm_all (hs y (List.mem_filter.1 hy).1)
  · obtain ⟨y, hy, rfl⟩ := List.mem_map.1 hm
    exact (normL_res (by simpa using (List.mem_filter.1 hy).2)).1
  · obtain ⟨y, hy, rfl⟩ := List.mem_map.1 hm
    exact norm_all (normL_ok.1 (by simpa using (List.mem_filter.1 hy).2)).1
theorem strings_sized {x : List Lab} (h : ∀ s ∈ stringsL x, s.size ≤ 200000) : ∀ y ∈ x, y.1.size ≤ 200000 ∧ y.2.size ≤ 200000 := fun y hy =>
  ⟨h _ (List.mem_flatMap.2 ⟨y, hy, by simp⟩), h _ (List.mem_flatMap.2 ⟨y, hy, by simp⟩)⟩
end Go.Proofs.Ytpjfhakmffcolaa

end

section
/- Layer 15: how long the bytes of an index of few label sets are. No program in sight. -/
set_option linter.unusedVariables false
namespace Go.Proofs.Ytpjfhakmffcolaa
open Go Go.RowKit

theorem ser_len (l : List Int) (h : ∀ x ∈ l, 0 ≤ x ∧ x < 1000000000) : ∀ s : Option Int, 0 ≤ s.getD 0 → (fManyS serB (fun _ x => some x) s l).length ≤ 10 * l.length := by
  induction l with
  | nil => intro s _; simp [fManyS]
  | cons x l ih =>
    intro s hs
    have hx := h x (by simp)
    rw [fManyS, List.length_append, List.length_cons]
    have h1 := ih (fun y hy => h y (by simp [hy])) (some x) hx.1
    have h2 : (serB s x).length ≤ 10 := groups_ten (by omega)
    omega
theorem flat_len {α : Type} (f : α → List Nat) (k : Nat) (l : List α) (h : ∀ x ∈ l, (f x).length ≤ k) : (l.flatMap f).length ≤ l.length * k := by
  induction l with
  | nil => simp
  | cons x l ih =>
    rw [List.flatMap_cons, List.length_append, List.length_cons, Nat.add_mul, Nat.one_mul]
    have h1 := ih (fun y hy => h y (by simp [hy]))
    have h2 := h x (by simp)
    omega
theorem findS_le (t : List ByteArray) (s : ByteArray) : (findS t s).toNat ≤ t.length := by
  by_cases h : s ∈ t
  · obtain ⟨j, hj, hjt⟩ := findS_in h
    have := (List.getElem?_eq_some_iff.1 hjt).1
    omega
  · rw [findS_out h]; simp
/-- What the statements' indexes are. -/
structure SmallI (n : Nat) (l : List Ent) : Prop where
  ok : EnOk 300 l
  idx : IsIdx (n : Int) l
  bnd : n ≤ 300
theorem small_idx {m : List (List Lab)} (h : SmallP m) : SmallI m.length (buildP m) :=
  ⟨EnOk.index h.flat, by rw [build_idx]; exact idx_is m, h.len⟩
theorem SmallI.ser {n : Nat} {l : List Ent} (h : SmallI n l) : ∀ e ∈ l, AscB ltI e.2 ∧ e.2.length ≤ 1000000 ∧ ∀ x ∈ e.2, 0 ≤ x ∧ x < 1000000000 := fun e he =>
  ⟨(h.ok.ser e he).1, by have := (h.ok.ser e he).2; omega, fun x hx => by have := (h.idx.2 e he).2.1 x hx; have := h.bnd; omega⟩
theorem SmallI.bytes8 {n : Nat} {l : List Ent} (h : SmallI n l) {t : List ByteArray} (ht : t.length ≤ 1000000) : (entsBytes t l).length ≤ 100000000 := by
  have h1 : (l.flatMap (entBytes t)).length ≤ l.length * 4000 := flat_len _ _ _ fun e he => by
    have h2 := ser_len e.2 (fun x hx => ((h.ser e he).2.2 x hx)) none (by simp)
    have h3 := (h.ok.ser e he).2
    have h4 := findS_le t e.1.1
    have h5 := findS_le t e.1.2
    have g1 : (groups (findS t e.1.1).toNat).length ≤ 10 := groups_ten (by omega)
    have g2 : (groups (findS t e.1.2).toNat).length ≤ 10 := groups_ten (by omega)
    have g3 : (groups e.2.length).length ≤ 10 := groups_ten (by omega)
    rw [entBytes, serBytes, labBytes, idxT, idxT]
    simp only [List.length_append]
    omega
  have h2 := h.ok.len
  have g : (groups l.length).length ≤ 10 := groups_ten (by omega)
  rw [entsBytes, List.length_append]
  omega
theorem SmallI.bytes {n : Nat} {l : List Ent} (h : SmallI n l) {t : List ByteArray} (ht : t.length ≤ 1000000) : (entsBytes t l).length ≤ 1000000000 := Nat.le_trans (h.bytes8 ht) (by decide)
end Go.Proofs.Ytpjfhakmffcolaa

end

section
/- Layer 11: labels whose strings a machine can hold. No program in sight. -/
namespace Go.Proofs.Ytpjfhakmffcolaa

/-- Labels whose strings a machine can hold. -/
def LabSized (l : List Lab) : Prop := ∀ x ∈ l, x.1.size ≤ 9223372036854775807 ∧ x.2.size ≤ 9223372036854775807
end Go.Proofs.Ytpjfhakmffcolaa

end

section
/- Layer 15: a result that is entries and an error. (Cut from XPoI.) -/
set_option linter.unusedVariables false
namespace Go.Proofs.Ytpjfhakmffcolaa
open Go Go.RowKit

/-- A result that is entries and an error. -/
structure GotPo (w : World) (o : Nat × List Ent) (e : Ending) (w' : World) : Prop where
  res : ∃ r, e = .returned (.tuple #[r, .int .i64 (o.1 : Int)]) ∧ RdE w' r o.2
  bel : Below w.heap.size w w'

end Go.Proofs.Ytpjfhakmffcolaa

end

section
/- Layer 15: what the walks ask of the program's Build, Find, Named, Encode and Decode, whatever they look like inside. -/
set_option linter.unusedVariables false
namespace Go.Proofs.Ytpjfhakmffcolaa
open Go Go.RowKit

/-- T w: what the program's own memory, in the blocks below G, must hold. -/
structure PoIf (G : Nat) (T : World → Prop) : Prop where
  keeps : ∀ {S : Nat → Prop} {w w' : World}, T w → Mods S w w' → (∀ k, k < G → ¬ S k) → T w'
  low : ∀ {w : World}, T w → G ≤ w.heap.size
  build : ∀ (mv : Value) (m : List (List Lab)) (w : World), T w → RdBL w mv m → SmallP m →
    Calls Try.prog 13 #[mv] w fun e w' => ∃ v, e = .returned v ∧ RdE w' v (buildP m) ∧ Below w.heap.size w w'
  find : ∀ (lv : Value) (l : List Ent) (n : Nat) (x : Lab) (w : World), T w → RdE w lv l → SmallI n l → LabSized [x] →
    Calls Try.prog 20 #[lv, .agg #[.string x.1, .string x.2]] w fun e w' => ∃ v, e = .returned v ∧ Rd w' 1 v (findP l x).length (i64s (findP l x)) ∧ Below w.heap.size w w'
  named : ∀ (lv : Value) (l : List Ent) (n : Nat) (x : ByteArray) (w : World), T w → RdE w lv l → SmallI n l → x.size ≤ 9223372036854775807 →
    Calls Try.prog 21 #[lv, .string x] w fun e w' => ∃ v, e = .returned v ∧ Rd w' 1 v (namedP l x).length (i64s (namedP l x)) ∧ Below w.heap.size w w'
  encode : ∀ (tv lv : Value) (t : List ByteArray) (l : List Ent) (n : Int) (w : World), T w → Rd w 1 tv t.length (strs t) → t.length ≤ 1000000 → AscB ltS t → Fits t → RdE w lv l → IsIdx n l → n ≤ 9223372036854775807 → l.length ≤ 1000000 → (∀ e ∈ l, e.2.length ≤ 1000000) → (entsBytes t l).length ≤ 1000000000 →
    Calls Try.prog 25 #[tv, lv] w (GotB w (encPoR t l))
  decode : ∀ (tv bv : Value) (t : List ByteArray) (n : Int) (B : List Nat) (w : World), T w → Rd w 1 tv t.length (strs t) → t.length ≤ 1000000 → AscB ltS t → Fits t → -9223372036854775808 ≤ n ∧ n ≤ 9223372036854775807 → Rd w 1 bv B.length (u8s B) → (∀ c ∈ B, c < 256) → B.length ≤ 100000000 →
    Calls Try.prog 28 #[tv, .int .i64 n, bv] w (GotPo w (decPo t n B))
theorem PoIf.below {G : Nat} {T : World → Prop} (I : PoIf G T) {w w' : World} (h : T w) (hb : Below w.heap.size w w') : T w' := I.keeps h (Mods.of_below hb (fun _ => False)) (fun _ _ h => h)
end Go.Proofs.Ytpjfhakmffcolaa

end

section
/- Layer 15: the statements' copies of indexes: program, reference. -/
set_option linter.unusedVariables false
set_option maxRecDepth 20000
namespace Go.Proofs.Ytpjfhakmffcolaa
open Go Go.RowKit

theorem elemEntP : Elem Try.prog 29 68 3 56 := Elem.mk' (z := .agg #[.string ⟨#[]⟩, .string ⟨#[]⟩, .slice none 0 0]) Try.underlying29 (by kernel_rfl) rfl (by decide)
set_option maxHeartbeats 2000000 in
theorem prog15 (lv : Value) (l : List Ent) (w : World) (hl : RdE w lv l) (hn : l.length ≤ 1000000) :
    Calls Try.prog 16 #[lv] w fun e w' => ∃ r, e = .returned r ∧ ∃ M, EnAt 68 w w' M r ∧ M.map Prod.fst = l := by
  have HL := Lib.hid hl
  obtain ⟨pl, cl, hv⟩ := hl.shape
  subst hv
  have hni : (l.length : Int) ≤ 1000000 := by omega
  clear hl hn
  go_enter Try.func16, Try.ntmps16
  go_wp2_with fail
  go_loopw [3, 8] (fun vv iv wr => ∃ (i : Nat) (M : List EntV), i ≤ l.length ∧ iv = .int .i64 (i : Int) ∧ Hid (EnAt 68 w wr M vv) ∧ Hid (M.map Prod.fst = l.take i)) (fun _ iv _ => l.length - (intOf iv).toNat)
  case atStart => exact ⟨0, [], Nat.zero_le _, rfl, EnAt.nil w, rfl⟩
  case round =>
    obtain ⟨i, M, hi, rfl, HN, HF⟩ := hrel
    have him : (i : Int) ≤ 1000000 := by omega
    obtain ⟨pv, cv, hvv⟩ := HN.out.shape
    subst hvv
    by_cases hlt : i < l.length
    · have hlt' : (i : Int) < (l.length : Int) := by omega
      obtain ⟨⟨⟨e1, e2⟩, es⟩, hx⟩ : ∃ x, l[i]? = some x := ⟨_, List.getElem?_eq_getElem hlt⟩
      obtain ⟨ba, oa, q, d, e, hal⟩ := HL.out.always hx
      subst e
      simp only at hal
      obtain ⟨⟨c0, c1, c2⟩, hr⟩ := hal wr HN.out.bel
      have hat := (hal w (Below.refl _ _)).2
      have hA : Below wr.heap.size wr (wr.alloc (.cells #[.string e1, .string e2, .slice q es.length d] 67)) := (Below.refl _ _).alloc (Nat.le_refl _) _
      have HNa := Lib.hid (HN.out.below hA)
      have HSa : Hid (Rd (wr.alloc (.cells #[.string e1, .string e2, .slice q es.length d] 67)) 1 (.slice q es.length d) es.length (i64s es)) := hr.below hA
      have HOff : Hid (SerOff1 (fun j => (Value.slice pv M.length cv).ownBlock = some j) (.slice q es.length d) es) :=
        fun e j hj hv => by have h5 := hat.lt (i64s_ne15' e) j hj; have h6 := (HN.out.row.lt j hv).1; omega
      have HTk : Hid (l.take (i + 1) = M.map Prod.fst ++ [((e1, e2), es)]) := by show _ = _; rw [List.take_add_one, hx, HF.out]; rfl
      have HLn : Hid (M.length = i) := by show _ = _; have := congrArg List.length HF.out; rw [List.length_map, List.length_take] at this; omega
      have HOz : Hid ((wr.alloc (.cells #[.string e1, .string e2, .slice q es.length d] 67)).ownsRow 0 68 3 (.slice pv M.length cv) M.length (entCells M)) := HNa.out.base0
      have HLz : Hid ((M.length + 1) * 56 ≤ 140737488355328 ∧ M.length + 1 ≤ maxLen) := by show _ ∧ _; have := HLn.out; unfold maxLen; omega
      have HSz : Hid ((wr.alloc (.cells #[.string e1, .string e2, .slice q es.length d] 67)).heap.size = wr.heap.size + 1) := by show _ = _; simp
      clear hal hat hr hA hx HN HF
      go_wp2_with (at_builtin; refine wpList_push elemEntP _ #[.string e1, .string e2, .slice q es.length d] _ _ _ HOz.out rfl (by simp [Value.oneCell']) HLz.out rfl _ _ rfl rfl (by show _ = Value.slice (some ⟨World.heap _ |>.size, 0, none⟩) 1 1; rw [HSz.out]; rfl) ?_)
      intro v3 w3 k3 m3 f3
      have HN3 : Hid (EnAt 68 w w3 (M ++ [(((e1, e2), es), .slice q es.length d)]) v3) :=
        HNa.out.pushed (p := (((e1, e2), es), .slice q es.length d)) HSa.out HOff.out k3 m3 (by rw [HSz.out]; exact f3)
      have HF3 : Hid ((M ++ [(((e1, e2), es), Value.slice q es.length d)]).map Prod.fst = l.take (i + 1)) := by show _ = _; rw [HTk.out, List.map_append]; rfl
      obtain ⟨p3, c3, hv3⟩ := (Rd.of_owns k3).shape
      subst hv3
      clear k3 m3 f3 HOz HNa HSa HOff
      go_wp2_with fail
      go_round
      case rel => exact ⟨i + 1, M ++ [(((e1, e2), es), Value.slice q es.length d)], by omega, by go_num, HN3.out, HF3.out⟩
      case measure => simp [intOf]; omega
    · have hlt' : ¬ (i : Int) < (l.length : Int) := by omega
      have hte : l.take i = l := List.take_of_length_le (by omega)
      rw [hte] at HF
      clear hte
      go_wp2_with fail
      go_ret
      exact ⟨_, rfl, M, HN.out, HF.out⟩

theorem elemEntR : Elem Try.prog 27 67 3 56 := Elem.mk' (z := .agg #[.string ⟨#[]⟩, .string ⟨#[]⟩, .slice none 0 0]) Try.underlying27 (by kernel_rfl) rfl (by decide)
set_option maxHeartbeats 2000000 in
theorem refr15 (lv : Value) (l : List Ent) (w : World) (hl : RdE w lv l) (hn : l.length ≤ 1000000) :
    Calls Try.prog 12 #[lv] w fun e w' => ∃ r, e = .returned r ∧ ∃ M, EnAt 67 w w' M r ∧ M.map Prod.fst = l := by
  have HL := Lib.hid hl
  obtain ⟨pl, cl, hv⟩ := hl.shape
  subst hv
  have hni : (l.length : Int) ≤ 1000000 := by omega
  clear hl hn
  go_enter Try.func12, Try.ntmps12
  go_wp2_with fail
  go_loopw [3, 8] (fun vv iv wr => ∃ (i : Nat) (M : List EntV), i ≤ l.length ∧ iv = .int .i64 (i : Int) ∧ Hid (EnAt 67 w wr M vv) ∧ Hid (M.map Prod.fst = l.take i)) (fun _ iv _ => l.length - (intOf iv).toNat)
  case atStart => exact ⟨0, [], Nat.zero_le _, rfl, EnAt.nil w, rfl⟩
  case round =>
    obtain ⟨i, M, hi, rfl, HN, HF⟩ := hrel
    have him : (i : Int) ≤ 1000000 := by omega
    obtain ⟨pv, cv, hvv⟩ := HN.out.shape
    subst hvv
    by_cases hlt : i < l.length
    · have hlt' : (i : Int) < (l.length : Int) := by omega
      obtain ⟨⟨⟨e1, e2⟩, es⟩, hx⟩ : ∃ x, l[i]? = some x := ⟨_, List.getElem?_eq_getElem hlt⟩
      obtain ⟨ba, oa, q, d, e, hal⟩ := HL.out.always hx
      subst e
      simp only at hal
      obtain ⟨⟨c0, c1, c2⟩, hr⟩ := hal wr HN.out.bel
      have hat := (hal w (Below.refl _ _)).2
      have hA : Below wr.heap.size wr (wr.alloc (.cells #[.string e1, .string e2, .slice q es.length d] 68)) := (Below.refl _ _).alloc (Nat.le_refl _) _
      have HNa := Lib.hid (HN.out.below hA)
      have HSa : Hid (Rd (wr.alloc (.cells #[.string e1, .string e2, .slice q es.length d] 68)) 1 (.slice q es.length d) es.length (i64s es)) := hr.below hA
      have HOff : Hid (SerOff1 (fun j => (Value.slice pv M.length cv).ownBlock = some j) (.slice q es.length d) es) :=
        fun e j hj hv => by have h5 := hat.lt (i64s_ne15' e) j hj; have h6 := (HN.out.row.lt j hv).1; omega
      have HTk : Hid (l.take (i + 1) = M.map Prod.fst ++ [((e1, e2), es)]) := by show _ = _; rw [List.take_add_one, hx, HF.out]; rfl
      have HLn : Hid (M.length = i) := by show _ = _; have := congrArg List.length HF.out; rw [List.length_map, List.length_take] at this; omega
      have HOz : Hid ((wr.alloc (.cells #[.string e1, .string e2, .slice q es.length d] 68)).ownsRow 0 67 3 (.slice pv M.length cv) M.length (entCells M)) := HNa.out.base0
      have HLz : Hid ((M.length + 1) * 56 ≤ 140737488355328 ∧ M.length + 1 ≤ maxLen) := by show _ ∧ _; have := HLn.out; unfold maxLen; omega
      have HSz : Hid ((wr.alloc (.cells #[.string e1, .string e2, .slice q es.length d] 68)).heap.size = wr.heap.size + 1) := by show _ = _; simp
      clear hal hat hr hA hx HN HF
      go_wp2_with (at_builtin; refine wpList_push elemEntR _ #[.string e1, .string e2, .slice q es.length d] _ _ _ HOz.out rfl (by simp [Value.oneCell']) HLz.out rfl _ _ rfl rfl (by show _ = Value.slice (some ⟨World.heap _ |>.size, 0, none⟩) 1 1; rw [HSz.out]; rfl) ?_)
      intro v3 w3 k3 m3 f3
      have HN3 : Hid (EnAt 67 w w3 (M ++ [(((e1, e2), es), .slice q es.length d)]) v3) :=
        HNa.out.pushed (p := (((e1, e2), es), .slice q es.length d)) HSa.out HOff.out k3 m3 (by rw [HSz.out]; exact f3)
      have HF3 : Hid ((M ++ [(((e1, e2), es), Value.slice q es.length d)]).map Prod.fst = l.take (i + 1)) := by show _ = _; rw [HTk.out, List.map_append]; rfl
      obtain ⟨p3, c3, hv3⟩ := (Rd.of_owns k3).shape
      subst hv3
      clear k3 m3 f3 HOz HNa HSa HOff
      go_wp2_with fail
      go_round
      case rel => exact ⟨i + 1, M ++ [(((e1, e2), es), Value.slice q es.length d)], by omega, by go_num, HN3.out, HF3.out⟩
      case measure => simp [intOf]; omega
    · have hlt' : ¬ (i : Int) < (l.length : Int) := by omega
      have hte : l.take i = l := List.take_of_length_le (by omega)
      rw [hte] at HF
      clear hte
      go_wp2_with fail
      go_ret
      exact ⟨_, rfl, M, HN.out, HF.out⟩
end Go.Proofs.Ytpjfhakmffcolaa

end
