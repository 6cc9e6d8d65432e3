/- Run, Dict, DictB, DictP, WidthI, Heap, Slice, Ref01A, in one text. -/
import Derived.Test.YtgpmoimmpbkgfaaGreatDoorMrg1
import Derived.WalkKit
import Derived.BigFrame
import Derived.OneCell
import Derived.Laws.OwnMore
import Derived.Deep.Draws
import Derived.Laws.BytesArg
import Derived.Laws.Strings
import Derived.Lib.Bytes
import Derived.Deep.Quiet
import Derived.Test.YtgpmoimmpbkgfaaGreatDoorProg
import Derived.WalkSpells
import Derived.WalkLawsBesides
import Derived.Outline
import Derived.Lib.Hide
import Derived.Deep.QuietTactic
import Derived.BigQuiet

section
/- Layer 7: runs, their encoding, and its reading, as functions on lists. No program in sight. -/
namespace Go.Proofs.YtgpmoimmpbkgfaaGreatDoor

/-- A value is added to runs. -/
def addR (rs : List (Nat × Nat)) (x : Nat) : List (Nat × Nat) := match rs.getLast? with
  | some (v, c) => if v = x ∧ c < 128 then rs.dropLast ++ [(v, c + 1)] else rs ++ [(x, 1)]
  | none => rs ++ [(x, 1)]
def splitFrom (rs : List (Nat × Nat)) (l : List Nat) : List (Nat × Nat) := l.foldl addR rs
def splitR (l : List Nat) : List (Nat × Nat) := splitFrom [] l
def joinR (rs : List (Nat × Nat)) : List Nat := rs.flatMap fun r => List.replicate r.2 r.1
def encRun (r : Nat × Nat) : List Bool := fieldBits r.1 64 ++ fieldBits (r.2 - 1) 7
def encR (l : List Nat) : List Bool := (splitR l).flatMap encRun

theorem splitFrom_append (rs : List (Nat × Nat)) (a b : List Nat) : splitFrom rs (a ++ b) = splitFrom (splitFrom rs a) b := by simp [splitFrom, List.foldl_append]
theorem splitR_push (l : List Nat) (x : Nat) : splitR (l ++ [x]) = addR (splitR l) x := splitFrom_append [] l [x]
theorem addR_nil (x : Nat) : addR [] x = [(x, 1)] := rfl
theorem addR_last (p : List (Nat × Nat)) (v c x : Nat) : addR (p ++ [(v, c)]) x = if v = x ∧ c < 128 then p ++ [(v, c + 1)] else p ++ [(v, c)] ++ [(x, 1)] := by
  simp [addR]
theorem cases_last (rs : List (Nat × Nat)) : rs = [] ∨ ∃ p v c, rs = p ++ [(v, c)] := by
  rcases List.eq_nil_or_concat rs with h | ⟨p, ⟨v, c⟩, h⟩
  · exact Or.inl h
  · exact Or.inr ⟨p, v, c, by simpa using h⟩
theorem joinR_append (a b : List (Nat × Nat)) : joinR (a ++ b) = joinR a ++ joinR b := by simp [joinR, List.flatMap_append]
theorem joinR_one (v c : Nat) : joinR [(v, c)] = List.replicate c v := by simp [joinR]
theorem joinR_add (rs : List (Nat × Nat)) (x : Nat) : joinR (addR rs x) = joinR rs ++ [x] := by
  rcases cases_last rs with rfl | ⟨p, v, c, rfl⟩
  · rfl
  · rw [addR_last]
    split
    · next h =>
      obtain ⟨rfl, _⟩ := h
      rw [joinR_append, joinR_append, joinR_one, joinR_one, List.replicate_succ', List.append_assoc]
    · rw [joinR_append _ [(x, 1)], joinR_one]; rfl
theorem joinR_splitFrom (rs : List (Nat × Nat)) (l : List Nat) : joinR (splitFrom rs l) = joinR rs ++ l := by
  induction l generalizing rs with
  | nil => simp [splitFrom]
  | cons x l ih =>
    show joinR (splitFrom (addR rs x) l) = _
    rw [ih, joinR_add, List.append_assoc]; rfl
theorem joinR_splitR (l : List Nat) : joinR (splitR l) = l := by rw [splitR, joinR_splitFrom]; rfl

/-- Whether a value begins a new run behind p. -/
def okR (p : Option (Nat × Nat)) (v : Nat) : Prop := ∀ pv pc, p = some (pv, pc) → ¬ (pv = v ∧ pc < 128)
def runOk (r : Nat × Nat) : Prop := 1 ≤ r.2 ∧ r.2 ≤ 128 ∧ r.1 < 18446744073709551616
def Chain : Option (Nat × Nat) → List (Nat × Nat) → Prop
  | _, [] => True
  | p, r :: rs => runOk r ∧ okR p r.1 ∧ Chain (some r) rs
def lastR (p : Option (Nat × Nat)) (rs : List (Nat × Nat)) : Option (Nat × Nat) := match rs.getLast? with
  | some r => some r
  | none => p
theorem lastR_snoc (p : Option (Nat × Nat)) (rs : List (Nat × Nat)) (r : Nat × Nat) : lastR p (rs ++ [r]) = some r := by simp [lastR]
theorem lastR_cons (p : Option (Nat × Nat)) (r : Nat × Nat) (rs : List (Nat × Nat)) : lastR p (r :: rs) = lastR (some r) rs := by
  cases rs with
  | nil => rfl
  | cons s rs => simp [lastR, List.getLast?_cons]
theorem chain_snoc {p : Option (Nat × Nat)} {rs : List (Nat × Nat)} {r : Nat × Nat} : Chain p (rs ++ [r]) ↔ Chain p rs ∧ runOk r ∧ okR (lastR p rs) r.1 := by
  induction rs generalizing p with
  | nil => simp [Chain, lastR]
  | cons s rs ih => rw [List.cons_append, Chain, Chain, ih, lastR_cons, and_assoc, and_assoc]
theorem chain_all {p : Option (Nat × Nat)} {rs : List (Nat × Nat)} (h : Chain p rs) : ∀ r ∈ rs, runOk r := by
  induction rs generalizing p with
  | nil => intro r hr; cases hr
  | cons s rs ih =>
    intro r hr
    rcases List.mem_cons.1 hr with rfl | hr
    · exact h.1
    · exact ih h.2.2 r hr
theorem chain_add {rs : List (Nat × Nat)} (h : Chain none rs) {x : Nat} (hx : x < 18446744073709551616) : Chain none (addR rs x) := by
  rcases cases_last rs with rfl | ⟨p, v, c, rfl⟩
  · exact ⟨⟨Nat.le_refl _, by omega, hx⟩, (fun _ _ e => by cases e), trivial⟩
  · rw [addR_last]
    obtain ⟨h1, h2, h3⟩ := chain_snoc.1 h
    split
    · next hh => exact chain_snoc.2 ⟨h1, ⟨by omega, by show c + 1 ≤ 128; omega, h2.2.2⟩, h3⟩
    · next hh =>
      refine chain_snoc.2 ⟨h, ⟨Nat.le_refl _, by omega, hx⟩, ?_⟩
      rw [lastR_snoc]
      intro pv pc e
      cases e
      exact hh
theorem chain_splitFrom {rs : List (Nat × Nat)} (h : Chain none rs) {l : List Nat} (hl : ∀ x ∈ l, x < 18446744073709551616) : Chain none (splitFrom rs l) := by
  induction l generalizing rs with
  | nil => exact h
  | cons x l ih => exact ih (chain_add h (hl x (by simp))) (fun y hy => hl y (by simp [hy]))
theorem chain_splitR {l : List Nat} (hl : ∀ x ∈ l, x < 18446744073709551616) : Chain none (splitR l) := chain_splitFrom (rs := []) trivial hl

/-- A whole run added to runs that do not end in it. -/
theorem split_run (rs : List (Nat × Nat)) (x k : Nat) (hk : k < 128) (h : okR (lastR none rs) x) : splitFrom rs (List.replicate (k + 1) x) = rs ++ [(x, k + 1)] := by
  induction k with
  | zero =>
    show addR rs x = _
    rcases cases_last rs with rfl | ⟨p, v, c, rfl⟩
    · rfl
    · rw [addR_last, if_neg]
      intro hh
      exact h v c (lastR_snoc _ _ _) hh
  | succ k ih =>
    rw [List.replicate_succ', splitFrom_append, ih (by omega)]
    show addR (rs ++ [(x, k + 1)]) x = _
    rw [addR_last, if_pos ⟨rfl, by omega⟩]

/- Reading. -/
def cntOf (p : Option (Nat × Nat)) : Nat := match p with
  | some (_, c) => c
  | none => 128
/-- The runs that stand for the rest of n values; acc: the values so far; cnt: the count of the run before. -/
def decRF : Nat → Nat → List Nat → Nat → List Bool → Res (List Nat)
  | 0, _, acc, _, bs => ⟨0, acc, bs⟩
  | f + 1, n, acc, cnt, bs =>
    if n ≤ acc.length then ⟨0, acc, bs⟩ else
    let a := field 64 bs
    if a.e ≠ 0 then ⟨a.e, [], a.r⟩ else
    let c := field 7 a.r
    if c.e ≠ 0 then ⟨c.e, [], c.r⟩ else
    if n < acc.length + c.x + 1 ∨ (acc.getLast? = some a.x ∧ cnt < 128) then ⟨8, [], c.r⟩ else
    decRF f n (acc ++ List.replicate (c.x + 1) a.x) (c.x + 1) c.r
def decR (n : Nat) (bs : List Bool) : Res (List Nat) := decRF n n [] 128 bs

theorem decRF_done {f n : Nat} {acc : List Nat} {cnt : Nat} {bs : List Bool} (h : n ≤ acc.length) : decRF f n acc cnt bs = ⟨0, acc, bs⟩ := by
  cases f with
  | zero => rfl
  | succ f => rw [decRF, if_pos h]
/-- The last value so far is that of the last run. -/
def LastOk (acc : List Nat) (cnt : Nat) (rs : List (Nat × Nat)) : Prop := acc = joinR rs ∧ (∀ r, lastR none rs = some r → acc.getLast? = some r.1 ∧ cnt = r.2) ∧ (rs = [] → cnt = 128)
theorem lastOk_nil : LastOk [] 128 [] := ⟨rfl, (fun _ e => by cases e), fun _ => rfl⟩
theorem lastOk_snoc {acc : List Nat} {cnt : Nat} {rs : List (Nat × Nat)} (h : LastOk acc cnt rs) (x k : Nat) : LastOk (acc ++ List.replicate (k + 1) x) (k + 1) (rs ++ [(x, k + 1)]) := by
  refine ⟨by rw [joinR_append, joinR_one, ← h.1], fun r e => ?_, fun e => by simp at e⟩
  rw [lastR_snoc] at e
  cases e
  refine ⟨?_, rfl⟩
  rw [List.replicate_succ', ← List.append_assoc]; simp
theorem ok_of_last {acc : List Nat} {cnt : Nat} {rs : List (Nat × Nat)} (h : LastOk acc cnt rs) {x : Nat} : okR (lastR none rs) x ↔ ¬ (acc.getLast? = some x ∧ cnt < 128) := by
  constructor
  · intro ho ⟨h1, h2⟩
    rcases cases_last rs with rfl | ⟨p, v, c, rfl⟩
    · rw [h.1] at h1; cases h1
    · obtain ⟨e1, e2⟩ := h.2.1 (v, c) (lastR_snoc _ _ _)
      rw [e1] at h1
      exact ho v c (lastR_snoc _ _ _) ⟨Option.some.inj h1, by rw [← show cnt = c from e2]; exact h2⟩
  · intro hn pv pc e hh
    obtain ⟨e1, e2⟩ := h.2.1 (pv, pc) e
    exact hn ⟨by rw [e1, hh.1], by rw [e2]; exact hh.2⟩

theorem decRF_back (rs : List (Nat × Nat)) (rest : List Bool) : ∀ (f n : Nat) (acc : List Nat) (cnt : Nat) (ps : List (Nat × Nat)), LastOk acc cnt ps → Chain (lastR none ps) rs → n = acc.length + (joinR rs).length → n - acc.length ≤ f →
    decRF f n acc cnt (rs.flatMap encRun ++ rest) = ⟨0, acc ++ joinR rs, rest⟩ := by
  induction rs with
  | nil =>
    intro f n acc cnt ps _ _ hn _
    rw [decRF_done (by simp [joinR] at hn; omega)]
    simp [joinR]
  | cons r rs ih =>
    intro f n acc cnt ps hl hc hn hf
    obtain ⟨v, c⟩ := r
    obtain ⟨⟨h1, h2, h3⟩, hok, hch⟩ := hc
    simp only at h1 h2 h3 hok
    obtain ⟨k, rfl⟩ : ∃ k, c = k + 1 := ⟨c - 1, by omega⟩
    have hj : joinR ((v, k + 1) :: rs) = List.replicate (k + 1) v ++ joinR rs := by simp [joinR]
    rw [hj, List.length_append, List.length_replicate] at hn
    obtain ⟨f, rfl⟩ : ∃ g, f = g + 1 := ⟨f - 1, by omega⟩
    have e1 := field_back v 64 (fieldBits k 7 ++ (rs.flatMap encRun ++ rest)) (by simpa using h3)
    have e2 := field_back k 7 (rs.flatMap encRun ++ rest) (by omega)
    rw [List.flatMap_cons, encRun]
    simp only [Nat.add_sub_cancel, List.append_assoc]
    rw [decRF, if_neg (by omega)]
    simp only [e1, e2, ne_eq, not_true_eq_false, if_false]
    rw [if_neg, ih f n _ _ (ps ++ [(v, k + 1)]) (lastOk_snoc hl v k) (by rw [lastR_snoc]; exact hch) (by rw [List.length_append, List.length_replicate]; omega) (by rw [List.length_append, List.length_replicate]; omega), hj, List.append_assoc]
    intro hh
    rcases hh with hh | hh
    · omega
    · exact (ok_of_last hl).1 hok hh
theorem decR_back (l : List Nat) (hl : ∀ x ∈ l, x < 18446744073709551616) (rest : List Bool) : decR l.length (encR l ++ rest) = ⟨0, l, rest⟩ := by
  have h := decRF_back (splitR l) rest l.length l.length [] 128 [] lastOk_nil (chain_splitR hl) (by rw [joinR_splitR]; simp) (by simp)
  rw [joinR_splitR] at h
  simpa [decR, encR] using h

theorem decRF_inv : ∀ (f n : Nat) (acc : List Nat) (cnt : Nat) (ps : List (Nat × Nat)) (bs : List Bool), LastOk acc cnt ps → splitR acc = ps → (∀ x ∈ acc, x < 18446744073709551616) → acc.length ≤ n → n - acc.length ≤ f → (decRF f n acc cnt bs).e = 0 →
    ∃ rs, splitR (decRF f n acc cnt bs).x = ps ++ rs ∧ bs = rs.flatMap encRun ++ (decRF f n acc cnt bs).r ∧ (decRF f n acc cnt bs).x.length = n ∧ ∀ x ∈ (decRF f n acc cnt bs).x, x < 18446744073709551616 := by
  intro f
  induction f with
  | zero =>
    intro n acc cnt ps bs hl hs hi hn hf _
    exact ⟨[], by simp [decRF, hs], by simp [decRF], by show acc.length = n; omega, hi⟩
  | succ f ih =>
    intro n acc cnt ps bs hl hs hi hn hf h
    rw [decRF] at h ⊢
    by_cases hd : n ≤ acc.length
    · rw [if_pos hd]
      exact ⟨[], by simp [hs], by simp, by show acc.length = n; omega, hi⟩
    · rw [if_neg hd] at h ⊢
      simp only at h ⊢
      by_cases h1 : (field 64 bs).e ≠ 0
      · rw [if_pos h1] at h; exact absurd h h1
      · rw [if_neg h1] at h ⊢
        by_cases h2 : (field 7 (field 64 bs).r).e ≠ 0
        · rw [if_pos h2] at h; exact absurd h h2
        · rw [if_neg h2] at h ⊢
          split at h
          · cases h
          · next h3 =>
            rw [if_neg h3]
            obtain ⟨a1, a2⟩ := field_inv (Decidable.not_not.1 h1)
            obtain ⟨b1, b2⟩ := field_inv (Decidable.not_not.1 h2)
            generalize field 64 bs = F1 at *
            generalize field 7 F1.r = F2 at *
            have h3a : acc.length + F2.x + 1 ≤ n := by
              by_cases e : n < acc.length + F2.x + 1
              · exact absurd (Or.inl e) h3
              · omega
            have h3b : ¬ (acc.getLast? = some F1.x ∧ cnt < 128) := fun e => h3 (Or.inr e)
            have hsp : splitR (acc ++ List.replicate (F2.x + 1) F1.x) = ps ++ [(F1.x, F2.x + 1)] := by
              rw [splitR, splitFrom_append, show splitFrom [] acc = ps from hs]
              exact split_run ps F1.x F2.x (by omega) ((ok_of_last hl).2 h3b)
            have hi2 : ∀ x ∈ acc ++ List.replicate (F2.x + 1) F1.x, x < 18446744073709551616 := fun x hx => by
              rcases List.mem_append.1 hx with hx | hx
              · exact hi x hx
              · rw [List.eq_of_mem_replicate hx]; simpa using a2
            obtain ⟨rs, r1, r2, r3, r4⟩ := ih n _ _ (ps ++ [(F1.x, F2.x + 1)]) F2.r (lastOk_snoc hl F1.x F2.x) hsp hi2 (by rw [List.length_append, List.length_replicate]; omega) (by rw [List.length_append, List.length_replicate]; omega) h
            refine ⟨(F1.x, F2.x + 1) :: rs, by rw [r1, List.append_assoc]; rfl, ?_, r3, r4⟩
            rw [List.flatMap_cons, encRun]
            simp only [Nat.add_sub_cancel, List.append_assoc]
            rw [← r2, ← b1, ← a1]
theorem decR_inv (n : Nat) (bs : List Bool) (h : (decR n bs).e = 0) : bs = encR (decR n bs).x ++ (decR n bs).r ∧ (decR n bs).x.length = n ∧ ∀ x ∈ (decR n bs).x, x < 18446744073709551616 := by
  obtain ⟨rs, r1, r2, r3, r4⟩ := decRF_inv n n [] 128 [] bs lastOk_nil rfl (by simp) (Nat.zero_le _) (by simp) h
  refine ⟨?_, r3, r4⟩
  rw [encR, show splitR (decR n bs).x = [] ++ rs from r1]
  exact r2
theorem decRF_nil : ∀ (f n : Nat) (acc : List Nat) (cnt : Nat) (bs : List Bool), (decRF f n acc cnt bs).e ≠ 0 → (decRF f n acc cnt bs).x = [] := by
  intro f
  induction f with
  | zero => intro n acc cnt bs h; exact absurd rfl h
  | succ f ih =>
    intro n acc cnt bs h
    rw [decRF] at h ⊢
    by_cases hd : n ≤ acc.length
    · rw [if_pos hd] at h; exact absurd rfl h
    · rw [if_neg hd] at h ⊢
      simp only at h ⊢
      split
      · rfl
      · next h1 =>
        rw [if_neg h1] at h
        split
        · rfl
        · next h2 =>
          rw [if_neg h2] at h
          split
          · rfl
          · next h3 => rw [if_neg h3] at h; exact ih _ _ _ _ h
theorem decR_nil (n : Nat) (bs : List Bool) (h : (decR n bs).e ≠ 0) : (decR n bs).x = [] := decRF_nil n n [] 128 bs h
theorem suf_decRF : ∀ (f n : Nat) (acc : List Nat) (cnt : Nat) (bs : List Bool), Suf (decRF f n acc cnt bs).r bs := by
  intro f
  induction f with
  | zero => intro n acc cnt bs; exact Suf.refl _
  | succ f ih =>
    intro n acc cnt bs
    have h1 := suf_field 64 bs
    have h2 := (suf_field 7 (field 64 bs).r).trans h1
    rw [decRF]
    split
    · exact Suf.refl _
    · simp only
      split
      · exact h1
      · split
        · exact h2
        · split
          · exact h2
          · exact (ih _ _ _ _).trans h2
theorem suf_decR (n : Nat) (bs : List Bool) : Suf (decR n bs).r bs := suf_decRF n n [] 128 bs

theorem encRun_len (r : Nat × Nat) : (encRun r).length = 71 := by simp [encRun, fieldBits_length]
theorem encRuns_len (rs : List (Nat × Nat)) : (rs.flatMap encRun).length = 71 * rs.length := by
  induction rs with
  | nil => rfl
  | cons r rs ih => rw [List.flatMap_cons, List.length_append, encRun_len, ih, List.length_cons]; omega
theorem addR_len (rs : List (Nat × Nat)) (x : Nat) : (addR rs x).length ≤ rs.length + 1 := by
  rcases cases_last rs with rfl | ⟨p, v, c, rfl⟩
  · simp [addR_nil]
  · rw [addR_last]; split <;> simp
theorem splitFrom_len (rs : List (Nat × Nat)) (l : List Nat) : (splitFrom rs l).length ≤ rs.length + l.length := by
  induction l generalizing rs with
  | nil => simp [splitFrom]
  | cons x l ih =>
    have h := ih (addR rs x)
    have h2 := addR_len rs x
    show (splitFrom (addR rs x) l).length ≤ _
    rw [List.length_cons]; omega
theorem splitR_len (l : List Nat) : (splitR l).length ≤ l.length := by have := splitFrom_len [] l; simpa [splitR] using this
theorem encR_length (l : List Nat) : (encR l).length = 71 * (splitR l).length := encRuns_len _
theorem encR_len (l : List Nat) : (encR l).length ≤ 71 * l.length := by rw [encR_length]; have := splitR_len l; omega
end Go.Proofs.YtgpmoimmpbkgfaaGreatDoor

end

section
/- Layer 8: dictionaries, the encoding by them, and its reading, as functions on lists. No program in sight. -/
namespace Go.Proofs.YtgpmoimmpbkgfaaGreatDoor

/-- A value put in its place, once. -/
def insD (x : Nat) : List Nat → List Nat
  | [] => [x]
  | y :: l => if y = x then y :: l else if x < y then x :: y :: l else y :: insD x l
def dictFrom (d l : List Nat) : List Nat := l.foldl (fun d x => insD x d) d
def dictD (l : List Nat) : List Nat := dictFrom [] l
def Asc (d : List Nat) : Prop := d.Pairwise (· < ·)
def widthD (k : Nat) : Nat := if k ≤ 1 then 0 else Nat.log2 (k - 1) + 1

theorem insD_mem (x z : Nat) (d : List Nat) : z ∈ insD x d ↔ z = x ∨ z ∈ d := by
  induction d with
  | nil => simp [insD]
  | cons y l ih =>
    rw [insD]
    split
    · next h => subst h; simp
    · split
      · simp
      · rw [List.mem_cons, ih, List.mem_cons]
        constructor
        · rintro (h | h | h)
          · exact Or.inr (Or.inl h)
          · exact Or.inl h
          · exact Or.inr (Or.inr h)
        · rintro (h | h | h)
          · exact Or.inr (Or.inl h)
          · exact Or.inl h
          · exact Or.inr (Or.inr h)
theorem insD_asc (x : Nat) (d : List Nat) (h : Asc d) : Asc (insD x d) := by
  induction d with
  | nil => exact List.pairwise_singleton _ _
  | cons y l ih =>
    obtain ⟨h1, h2⟩ := List.pairwise_cons.1 h
    rw [insD]
    split
    · exact h
    · next hne =>
      split
      · next hlt =>
        exact List.pairwise_cons.2 ⟨fun z hz => by
          rcases List.mem_cons.1 hz with e | e
          · omega
          · have := h1 z e; omega, h⟩
      · next hge =>
        exact List.pairwise_cons.2 ⟨fun z hz => by
          rcases (insD_mem x z l).1 hz with e | e
          · omega
          · exact h1 z e, ih h2⟩
theorem insD_in (x : Nat) (d : List Nat) (ha : Asc d) (h : x ∈ d) : insD x d = d := by
  induction d with
  | nil => cases h
  | cons y l ih =>
    obtain ⟨h1, h2⟩ := List.pairwise_cons.1 ha
    rw [insD]
    split
    · rfl
    · next hne =>
      rcases List.mem_cons.1 h with e | e
      · exact absurd e.symm hne
      · rw [if_neg (by have := h1 x e; omega), ih h2 e]
theorem insD_parts (x : Nat) (a b : List Nat) (ha : ∀ z ∈ a, z < x) (hb : ∀ z ∈ b, x < z) : insD x (a ++ b) = a ++ x :: b := by
  induction a with
  | nil =>
    cases b with
    | nil => rfl
    | cons y l =>
      have := hb y (List.mem_cons_self ..)
      rw [List.nil_append, insD, if_neg (by omega), if_pos this, List.nil_append]
  | cons y l ih =>
    have := ha y (List.mem_cons_self ..)
    rw [List.cons_append, insD, if_neg (by omega), if_neg (by omega), ih (fun z hz => ha z (List.mem_cons_of_mem _ hz)), List.cons_append]
theorem insD_new (x : Nat) (d : List Nat) (h : x ∉ d) : (insD x d).length = d.length + 1 := by
  induction d with
  | nil => rfl
  | cons y l ih =>
    rw [List.mem_cons, not_or] at h
    rw [insD, if_neg (fun e => h.1 e.symm)]
    split
    · rfl
    · rw [List.length_cons, ih h.2, List.length_cons]
theorem insD_le (x : Nat) (d : List Nat) : (insD x d).length ≤ d.length + 1 := by
  induction d with
  | nil => exact Nat.le_refl _
  | cons y l ih =>
    rw [insD]
    split
    · exact Nat.le_succ _
    · split
      · exact Nat.le_refl _
      · rw [List.length_cons, List.length_cons]; omega
theorem dictFrom_asc (d l : List Nat) (h : Asc d) : Asc (dictFrom d l) := by
  induction l generalizing d with
  | nil => exact h
  | cons x l ih => exact ih (insD x d) (insD_asc x d h)
theorem dictFrom_mem (d l : List Nat) (z : Nat) : z ∈ dictFrom d l ↔ z ∈ d ∨ z ∈ l := by
  induction l generalizing d with
  | nil => simp [dictFrom]
  | cons x l ih =>
    have := ih (insD x d)
    show z ∈ dictFrom (insD x d) l ↔ _
    rw [this, insD_mem, List.mem_cons]
    constructor
    · rintro ((h | h) | h)
      · exact Or.inr (Or.inl h)
      · exact Or.inl h
      · exact Or.inr (Or.inr h)
    · rintro (h | h | h)
      · exact Or.inl (Or.inr h)
      · exact Or.inl (Or.inl h)
      · exact Or.inr h
theorem dictFrom_len (d l : List Nat) : (dictFrom d l).length ≤ d.length + l.length := by
  induction l generalizing d with
  | nil => exact Nat.le_refl _
  | cons x l ih =>
    have h1 := ih (insD x d); have h2 := insD_le x d
    show (dictFrom (insD x d) l).length ≤ _
    rw [List.length_cons]; omega
theorem dictFrom_snoc (d l : List Nat) (x : Nat) : dictFrom d (l ++ [x]) = insD x (dictFrom d l) := by rw [dictFrom, List.foldl_append]; rfl
theorem dictD_asc (l : List Nat) : Asc (dictD l) := dictFrom_asc [] l List.Pairwise.nil
theorem dictD_mem (l : List Nat) (z : Nat) : z ∈ dictD l ↔ z ∈ l := by rw [dictD, dictFrom_mem]; simp
theorem dictD_len (l : List Nat) : (dictD l).length ≤ l.length := by have := dictFrom_len [] l; rw [List.length_nil] at this; rw [dictD]; omega
theorem dictD_snoc (l : List Nat) (x : Nat) : dictD (l ++ [x]) = insD x (dictD l) := dictFrom_snoc [] l x

theorem asc_ext (a b : List Nat) (ha : Asc a) (hb : Asc b) (h : ∀ x, x ∈ a ↔ x ∈ b) : a = b := by
  induction a generalizing b with
  | nil =>
    cases b with
    | nil => rfl
    | cons y l => exact absurd ((h y).2 (List.mem_cons_self ..)) List.not_mem_nil
  | cons x a ih =>
    cases b with
    | nil => exact absurd ((h x).1 (List.mem_cons_self ..)) List.not_mem_nil
    | cons y b =>
      obtain ⟨a1, a2⟩ := List.pairwise_cons.1 ha
      obtain ⟨b1, b2⟩ := List.pairwise_cons.1 hb
      have hxy : x = y := by
        rcases List.mem_cons.1 ((h x).1 (List.mem_cons_self ..)) with e | e
        · exact e
        · rcases List.mem_cons.1 ((h y).2 (List.mem_cons_self ..)) with f | f
          · exact f.symm
          · have := b1 x e; have := a1 y f; omega
      subst hxy
      rw [ih b a2 b2 (fun z => by
        constructor
        · intro hz
          rcases List.mem_cons.1 ((h z).1 (List.mem_cons_of_mem _ hz)) with e | e
          · have := a1 z hz; omega
          · exact e
        · intro hz
          rcases List.mem_cons.1 ((h z).2 (List.mem_cons_of_mem _ hz)) with e | e
          · have := b1 z hz; omega
          · exact e)]
theorem dictD_unique (l d : List Nat) (hd : Asc d) (h : ∀ x, x ∈ d ↔ x ∈ l) : dictD l = d :=
  asc_ext _ _ (dictD_asc l) hd (fun x => by rw [dictD_mem, h])
theorem dictD_same (l m : List Nat) (h : ∀ x, x ∈ l ↔ x ∈ m) : dictD l = dictD m :=
  asc_ext _ _ (dictD_asc l) (dictD_asc m) (fun x => by rw [dictD_mem, dictD_mem, h])

theorem lt_width {x k : Nat} (h : x < k) : x < 2 ^ widthD k := by
  rw [widthD]
  split
  · have : x = 0 := by omega
    subst this; decide
  · have := @Nat.lt_log2_self (k - 1)
    omega
theorem width_le {k : Nat} (h : k ≤ 128) : widthD k ≤ 7 := by
  rw [widthD]
  split
  · omega
  · have : Nat.log2 (k - 1) < 7 := (Nat.log2_lt (by omega)).2 (by omega)
    omega

/-- The encoding. -/
def wordsBits (d : List Nat) : List Bool := d.flatMap fun x => fieldBits x 64
def indsBits (k : Nat) (is : List Nat) : List Bool := is.flatMap fun i => fieldBits i (widthD k)
def encD (l : List Nat) : List Bool := if l = [] then [] else fieldBits ((dictD l).length - 1) 7 ++ (wordsBits (dictD l) ++ indsBits (dictD l).length (l.map fun x => (dictD l).idxOf x))

/-- The reading. -/
def wordsD : Nat → List Nat → List Bool → Res (List Nat)
  | 0, acc, bs => ⟨0, acc, bs⟩
  | k + 1, acc, bs =>
    if (field 64 bs).e ≠ 0 then ⟨(field 64 bs).e, [], (field 64 bs).r⟩ else
    if acc ≠ [] ∧ (field 64 bs).x ≤ acc.getLastD 0 then ⟨8, [], (field 64 bs).r⟩ else
    wordsD k (acc ++ [(field 64 bs).x]) (field 64 bs).r
def indsD (k : Nat) : Nat → List Nat → List Bool → Res (List Nat)
  | 0, acc, bs => ⟨0, acc, bs⟩
  | n + 1, acc, bs =>
    if (field (widthD k) bs).e ≠ 0 then ⟨(field (widthD k) bs).e, [], (field (widthD k) bs).r⟩ else
    if k ≤ (field (widthD k) bs).x then ⟨8, [], (field (widthD k) bs).r⟩ else
    indsD k n (acc ++ [(field (widthD k) bs).x]) (field (widthD k) bs).r
def usedAll (k : Nat) (is : List Nat) : Bool := (List.range k).all fun j => is.contains j
def valsD (d is : List Nat) : List Nat := is.map fun i => d.getD i 0
def decIx (d : List Nat) (n : Nat) (bs : List Bool) : Res (List Nat) :=
  if (indsD d.length n [] bs).e ≠ 0 then ⟨(indsD d.length n [] bs).e, [], (indsD d.length n [] bs).r⟩ else
  if usedAll d.length (indsD d.length n [] bs).x = false then ⟨8, [], (indsD d.length n [] bs).r⟩ else ⟨0, valsD d (indsD d.length n [] bs).x, (indsD d.length n [] bs).r⟩
def decWords (k n : Nat) (bs : List Bool) : Res (List Nat) :=
  if (wordsD (k + 1) [] bs).e ≠ 0 then ⟨(wordsD (k + 1) [] bs).e, [], (wordsD (k + 1) [] bs).r⟩ else decIx (wordsD (k + 1) [] bs).x n (wordsD (k + 1) [] bs).r
def decD (n : Nat) (bs : List Bool) : Res (List Nat) :=
  if n = 0 then ⟨0, [], bs⟩ else
  if (field 7 bs).e ≠ 0 then ⟨(field 7 bs).e, [], (field 7 bs).r⟩ else decWords (field 7 bs).x n (field 7 bs).r

theorem getLastD_snoc (a : List Nat) (x y : Nat) : (a ++ [x]).getLastD y = x := by simp [List.getLastD_eq_getLast?]
theorem asc_last {a : List Nat} {x : Nat} (h : Asc (a ++ [x])) (hne : a ≠ []) : a.getLastD 0 < x := by
  obtain ⟨b, y, rfl⟩ : ∃ b y, a = b ++ [y] := ⟨a.dropLast, a.getLast hne, (List.dropLast_concat_getLast hne).symm⟩
  rw [getLastD_snoc]
  rw [Asc, List.pairwise_append] at h
  exact h.2.2 y (by simp) x (by simp)
theorem asc_snoc {a : List Nat} {x : Nat} (ha : Asc a) (h : a ≠ [] → a.getLastD 0 < x) : Asc (a ++ [x]) := by
  rcases List.eq_nil_or_concat a with e | ⟨b, y, e⟩
  · subst e; exact List.pairwise_singleton _ _
  · subst e
    have hy : y < x := by have := h (by simp); rwa [List.concat_eq_append, getLastD_snoc] at this
    rw [List.concat_eq_append] at ha ⊢
    refine List.pairwise_append.2 ⟨ha, List.pairwise_singleton _ _, fun z hz u hu => ?_⟩
    rw [List.mem_singleton] at hu
    subst hu
    rcases List.mem_append.1 hz with e | e
    · have := (List.pairwise_append.1 ha).2.2 z e y (by simp); omega
    · rw [List.mem_singleton] at e; omega
theorem asc_left {a b : List Nat} (h : Asc (a ++ b)) : Asc a := (List.pairwise_append.1 h).1

theorem wordsD_back (d acc : List Nat) (rest : List Bool) (ha : Asc (acc ++ d)) (hd : ∀ x ∈ d, x < 18446744073709551616) : wordsD d.length acc (wordsBits d ++ rest) = ⟨0, acc ++ d, rest⟩ := by
  induction d generalizing acc with
  | nil => rw [List.append_nil]; rfl
  | cons x d ih =>
    have hx := hd x (List.mem_cons_self ..)
    have e1 : acc ++ x :: d = (acc ++ [x]) ++ d := by rw [List.append_assoc]; rfl
    rw [e1] at ha ⊢
    have hf := field_back x 64 (wordsBits d ++ rest) (by simpa using hx)
    rw [wordsBits, List.flatMap_cons, List.append_assoc, List.length_cons, wordsD]
    rw [wordsBits] at hf
    rw [hf]
    rw [if_neg (by simp), if_neg (fun h => by have := asc_last (asc_left ha) h.1; have := h.2; simp only at this; omega)]
    exact ih (acc ++ [x]) ha (fun z hz => hd z (List.mem_cons_of_mem _ hz))
theorem wordsD_inv (k : Nat) (acc : List Nat) (bs : List Bool) (h : (wordsD k acc bs).e = 0) : ∃ d, d.length = k ∧ (wordsD k acc bs).x = acc ++ d ∧ bs = wordsBits d ++ (wordsD k acc bs).r ∧ (Asc acc → Asc (acc ++ d)) ∧ ∀ x ∈ d, x < 18446744073709551616 := by
  induction k generalizing acc bs with
  | zero => exact ⟨[], rfl, (List.append_nil _).symm, rfl, fun h => by rwa [List.append_nil], fun x hx => by cases hx⟩
  | succ k ih =>
    rw [wordsD] at h ⊢
    by_cases h1 : (field 64 bs).e = 0
    · rw [if_neg (fun e => e h1)] at h ⊢
      by_cases h2 : acc ≠ [] ∧ (field 64 bs).x ≤ acc.getLastD 0
      · rw [if_pos h2] at h; cases h
      · rw [if_neg h2] at h ⊢
        obtain ⟨d, d1, d2, d3, d4, d5⟩ := ih _ _ h
        obtain ⟨f1, f2⟩ := field_inv h1
        refine ⟨(field 64 bs).x :: d, by rw [List.length_cons, d1], by rw [d2, List.append_assoc]; rfl, ?_, fun ha => ?_, fun x hx => ?_⟩
        · rw [wordsBits, List.flatMap_cons, List.append_assoc]
          rw [wordsBits] at d3
          rw [← d3]
          exact f1
        · have := d4 (asc_snoc ha (fun hne => by
            have := h2
            rw [not_and] at this
            have := this hne
            omega))
          rwa [List.append_assoc] at this
        · rcases List.mem_cons.1 hx with e | e
          · rw [e]; simpa using f2
          · exact d5 x e
    · rw [if_pos h1] at h; exact absurd h h1

theorem indsD_back (k : Nat) (is acc : List Nat) (rest : List Bool) (hi : ∀ i ∈ is, i < k) : indsD k is.length acc (indsBits k is ++ rest) = ⟨0, acc ++ is, rest⟩ := by
  induction is generalizing acc with
  | nil => rw [List.append_nil]; rfl
  | cons x d ih =>
    have hx := hi x (List.mem_cons_self ..)
    have e1 : acc ++ x :: d = (acc ++ [x]) ++ d := by rw [List.append_assoc]; rfl
    rw [e1]
    have hf := field_back x (widthD k) (indsBits k d ++ rest) (lt_width hx)
    rw [indsBits, List.flatMap_cons, List.append_assoc, List.length_cons, indsD]
    rw [indsBits] at hf
    rw [hf]
    rw [if_neg (by simp), if_neg (by simp only; omega)]
    exact ih (acc ++ [x]) (fun z hz => hi z (List.mem_cons_of_mem _ hz))
theorem indsD_inv (k n : Nat) (acc : List Nat) (bs : List Bool) (h : (indsD k n acc bs).e = 0) : ∃ is, is.length = n ∧ (indsD k n acc bs).x = acc ++ is ∧ bs = indsBits k is ++ (indsD k n acc bs).r ∧ ∀ i ∈ is, i < k := by
  induction n generalizing acc bs with
  | zero => exact ⟨[], rfl, (List.append_nil _).symm, rfl, fun x hx => by cases hx⟩
  | succ n ih =>
    rw [indsD] at h ⊢
    by_cases h1 : (field (widthD k) bs).e = 0
    · rw [if_neg (fun e => e h1)] at h ⊢
      by_cases h2 : k ≤ (field (widthD k) bs).x
      · rw [if_pos h2] at h; cases h
      · rw [if_neg h2] at h ⊢
        obtain ⟨d, d1, d2, d3, d5⟩ := ih _ _ h
        obtain ⟨f1, f2⟩ := field_inv h1
        refine ⟨(field (widthD k) bs).x :: d, by rw [List.length_cons, d1], by rw [d2, List.append_assoc]; rfl, ?_, fun x hx => ?_⟩
        · rw [indsBits, List.flatMap_cons, List.append_assoc]
          rw [indsBits] at d3
          rw [← d3]
          exact f1
        · rcases List.mem_cons.1 hx with e | e
          · omega
          · exact d5 x e
    · rw [if_pos h1] at h; exact absurd h h1
theorem usedAll_iff (k : Nat) (is : List Nat) : usedAll k is = true ↔ ∀ j, j < k → j ∈ is := by
  rw [usedAll, List.all_eq_true]
  constructor
  · intro h j hj
    exact List.contains_iff_mem.1 (h j (List.mem_range.2 hj))
  · intro h j hj
    exact List.contains_iff_mem.2 (h j (List.mem_range.1 hj))

theorem getD_idxOf {d : List Nat} {x : Nat} (h : x ∈ d) : d.getD (d.idxOf x) 0 = x := by
  have hl := List.idxOf_lt_length_of_mem h
  rw [List.getD_eq_getElem?_getD, List.getElem?_eq_getElem hl, Option.getD_some]
  exact List.getElem_idxOf hl
theorem asc_nodup {d : List Nat} (h : Asc d) : d.Nodup := h.imp (fun h => Nat.ne_of_lt h)
theorem idxOf_getD {d : List Nat} (hd : Asc d) {i : Nat} (h : i < d.length) : d.idxOf (d.getD i 0) = i := by
  rw [List.getD_eq_getElem?_getD, List.getElem?_eq_getElem h, Option.getD_some]
  exact (asc_nodup hd).idxOf_getElem i h

theorem decD_back (l : List Nat) (rest : List Bool) (hl : ∀ x ∈ l, x < 18446744073709551616) (hk : (dictD l).length ≤ 128) : decD l.length (encD l ++ rest) = ⟨0, l, rest⟩ := by
  by_cases hne : l = []
  · subst hne; rfl
  · have hn : l.length ≠ 0 := fun e => hne (List.eq_nil_of_length_eq_zero e)
    obtain ⟨x0, hx0⟩ := List.exists_mem_of_ne_nil l hne
    have hdp : 0 < (dictD l).length := List.length_pos_of_mem ((dictD_mem l x0).2 hx0)
    have h1 := field_back ((dictD l).length - 1) 7 (wordsBits (dictD l) ++ indsBits (dictD l).length (l.map fun x => (dictD l).idxOf x) ++ rest) (by omega)
    have h2 := wordsD_back (dictD l) [] (indsBits (dictD l).length (l.map fun x => (dictD l).idxOf x) ++ rest) (dictD_asc l) (fun x hx => hl x ((dictD_mem l x).1 hx))
    have hix : ∀ i ∈ l.map (fun x => (dictD l).idxOf x), i < (dictD l).length := fun i hi => by
      obtain ⟨x, hx, rfl⟩ := List.mem_map.1 hi
      exact List.idxOf_lt_length_of_mem ((dictD_mem l x).2 hx)
    have h3 := indsD_back (dictD l).length (l.map fun x => (dictD l).idxOf x) [] rest hix
    have h4 : usedAll (dictD l).length (l.map fun x => (dictD l).idxOf x) = true := (usedAll_iff _ _).2 fun j hj => by
      have hm : (dictD l).getD j 0 ∈ l := (dictD_mem l _).1 (by
        rw [List.getD_eq_getElem?_getD, List.getElem?_eq_getElem hj, Option.getD_some]
        exact List.getElem_mem hj)
      exact List.mem_map.2 ⟨_, hm, idxOf_getD (dictD_asc l) hj⟩
    have h5 : valsD (dictD l) (l.map fun x => (dictD l).idxOf x) = l := by
      rw [valsD, List.map_map]
      conv => rhs; rw [← List.map_id l]
      exact List.map_congr_left fun x hx => getD_idxOf ((dictD_mem l x).2 hx)
    rw [List.length_map] at h3
    rw [List.nil_append] at h2 h3
    rw [encD, if_neg hne, decD, if_neg hn, List.append_assoc, h1]
    simp only [ne_eq, not_true_eq_false, if_false]
    rw [decWords, show (dictD l).length - 1 + 1 = (dictD l).length by omega, List.append_assoc, h2]
    simp only [ne_eq, not_true_eq_false, if_false]
    rw [decIx, h3]
    simp only [ne_eq, not_true_eq_false, if_false, h4, h5, Bool.true_eq_false]
theorem decIx_inv (d : List Nat) (n : Nat) (bs : List Bool) (hd : Asc d) (h : (decIx d n bs).e = 0) : ∃ is, bs = indsBits d.length is ++ (decIx d n bs).r ∧ (decIx d n bs).x.length = n ∧ dictD (decIx d n bs).x = d ∧ is = (decIx d n bs).x.map fun x => d.idxOf x := by
  rw [decIx] at h ⊢
  by_cases h1 : (indsD d.length n [] bs).e = 0
  · rw [if_neg (fun e => e h1)] at h ⊢
    by_cases h2 : usedAll d.length (indsD d.length n [] bs).x = false
    · rw [if_pos h2] at h; cases h
    · rw [if_neg h2]
      obtain ⟨is, i1, i2, i3, i4⟩ := indsD_inv _ _ _ _ h1
      rw [List.nil_append] at i2
      rw [Bool.not_eq_false, i2] at h2
      rw [i2]
      have hu := (usedAll_iff _ _).1 h2
      refine ⟨is, i3, ?_, ?_, ?_⟩
      · show (valsD d is).length = n; rw [valsD, List.length_map, i1]
      · refine dictD_unique _ _ hd (fun x => ?_)
        show x ∈ d ↔ x ∈ valsD d is
        constructor
        · intro hx
          exact List.mem_map.2 ⟨d.idxOf x, hu _ (List.idxOf_lt_length_of_mem hx), getD_idxOf hx⟩
        · intro hx
          obtain ⟨i, hi, rfl⟩ := List.mem_map.1 hx
          have hl := i4 i hi
          rw [List.getD_eq_getElem?_getD, List.getElem?_eq_getElem hl, Option.getD_some]
          exact List.getElem_mem hl
      · show is = (valsD d is).map _
        rw [valsD, List.map_map]
        conv => lhs; rw [← List.map_id is]
        exact List.map_congr_left fun i hi => (idxOf_getD hd (i4 i hi)).symm
  · rw [if_pos h1] at h; exact absurd h h1
theorem decD_inv (n : Nat) (bs : List Bool) (h : (decD n bs).e = 0) : bs = encD (decD n bs).x ++ (decD n bs).r ∧ (decD n bs).x.length = n ∧ (dictD (decD n bs).x).length ≤ 128 ∧ ∀ x ∈ (decD n bs).x, x < 18446744073709551616 := by
  rw [decD] at h ⊢
  by_cases h0 : n = 0
  · rw [if_pos h0]; subst h0; exact ⟨rfl, rfl, Nat.zero_le _, fun x hx => by cases hx⟩
  · rw [if_neg h0] at h ⊢
    by_cases h1 : (field 7 bs).e = 0
    · rw [if_neg (fun e => e h1)] at h ⊢
      obtain ⟨f1, f2⟩ := field_inv h1
      generalize (field 7 bs).x = k at *
      generalize (field 7 bs).r = b1 at *
      rw [decWords] at h ⊢
      by_cases h2 : (wordsD (k + 1) [] b1).e = 0
      · rw [if_neg (fun e => e h2)] at h ⊢
        obtain ⟨d, d1, d2, d3, d4, d5⟩ := wordsD_inv _ _ _ h2
        rw [List.nil_append] at d2 d4
        have hd := d4 List.Pairwise.nil
        rw [d2] at h ⊢
        generalize (wordsD (k + 1) [] b1).r = b2 at *
        obtain ⟨is, i1, i2, i3, i4⟩ := decIx_inv d n b2 hd h
        have hmem : ∀ x, x ∈ (decIx d n b2).x ↔ x ∈ d := fun x => by rw [← dictD_mem, i3]
        refine ⟨?_, i2, by rw [i3, d1]; omega, fun x hx => d5 x ((hmem x).1 hx)⟩
        rw [encD, if_neg (fun e => by rw [e] at i2; exact h0 i2.symm), i3, ← i4, d1, Nat.add_sub_cancel, List.append_assoc, List.append_assoc]
        rw [d1] at i1
        rw [← i1, ← d3]
        exact f1
      · rw [if_pos h2] at h; exact absurd h h2
    · rw [if_pos h1] at h; exact absurd h h1
end Go.Proofs.YtgpmoimmpbkgfaaGreatDoor

end

section
/- Layer 8: the reading, step by step. No program in sight. -/
namespace Go.Proofs.YtgpmoimmpbkgfaaGreatDoor

/-- Where the reading of the dictionary stands. -/
def WAt (k : Nat) (b1 : List Bool) (acc : List Nat) (bits : List Bool) : Prop := ∃ j, acc.length + j = k + 1 ∧ wordsD (k + 1) [] b1 = wordsD j acc bits ∧ Asc acc
/-- Where the reading of the indices stands. -/
def IAt (m n : Nat) (b2 : List Bool) (is : List Nat) (bits : List Bool) : Prop := ∃ j, is.length + j = n ∧ indsD m n [] b2 = indsD m j is bits ∧ ∀ i ∈ is, i < m

theorem getD_none (bs : List Bool) : decD 0 bs = ⟨0, [], bs⟩ := by rw [decD, if_pos rfl]
theorem getD_eof7 {n : Nat} {bs : List Bool} (hn : n ≠ 0) (h : bs.length < 7) : decD n bs = ⟨3, [], bs⟩ := by
  rw [decD, if_neg hn, field_short h]
  simp
theorem getD_words {n k : Nat} {bs b1 : List Bool} (hn : n ≠ 0) (h : field 7 bs = ⟨0, k, b1⟩) : decD n bs = decWords k n b1 := by
  rw [decD, if_neg hn, h]
  simp
theorem wat_start (k : Nat) (b1 : List Bool) : WAt k b1 [] b1 := ⟨k + 1, by simp, rfl, List.Pairwise.nil⟩
theorem wat_step {k : Nat} {b1 : List Bool} {acc : List Nat} {bits : List Bool} (h : WAt k b1 acc bits) (hl : acc.length < k + 1) : ∃ j, acc.length + (j + 1) = k + 1 ∧ wordsD (k + 1) [] b1 = wordsD (j + 1) acc bits ∧ Asc acc := by
  obtain ⟨j, h1, h2, h3⟩ := h
  obtain ⟨i, rfl⟩ : ∃ i, j = i + 1 := ⟨j - 1, by omega⟩
  exact ⟨i, h1, h2, h3⟩
theorem getD_weof {n k : Nat} {b1 bits : List Bool} {acc : List Nat} (h : WAt k b1 acc bits) (hl : acc.length < k + 1) (hs : bits.length < 64) : decWords k n b1 = ⟨3, [], bits⟩ := by
  obtain ⟨j, h1, h2, h3⟩ := wat_step h hl
  rw [decWords, h2, wordsD, field_short hs]
  simp
theorem getD_wbad {n k x : Nat} {b1 bits b2 : List Bool} {acc : List Nat} (h : WAt k b1 acc bits) (hl : acc.length < k + 1) (hf : field 64 bits = ⟨0, x, b2⟩) (hne : acc ≠ []) (hx : x ≤ acc.getLastD 0) : decWords k n b1 = ⟨8, [], b2⟩ := by
  obtain ⟨j, h1, h2, h3⟩ := wat_step h hl
  have e : wordsD (j + 1) acc bits = ⟨8, [], b2⟩ := by rw [wordsD, hf, if_neg (by simp), if_pos ⟨hne, hx⟩]
  rw [decWords, h2, e]
  simp
theorem getD_wnext {k x : Nat} {b1 bits b2 : List Bool} {acc : List Nat} (h : WAt k b1 acc bits) (hl : acc.length < k + 1) (hf : field 64 bits = ⟨0, x, b2⟩) (hx : acc ≠ [] → acc.getLastD 0 < x) : WAt k b1 (acc ++ [x]) b2 := by
  obtain ⟨j, h1, h2, h3⟩ := wat_step h hl
  refine ⟨j, by rw [List.length_append, List.length_singleton]; omega, ?_, asc_snoc h3 hx⟩
  rw [h2, wordsD, hf, if_neg (by simp), if_neg (fun e => by have := hx e.1; have := e.2; simp only at this; omega)]
theorem getD_wdone {n k : Nat} {b1 bits : List Bool} {acc : List Nat} (h : WAt k b1 acc bits) (hl : ¬ acc.length < k + 1) : acc.length = k + 1 ∧ Asc acc ∧ decWords k n b1 = decIx acc n bits := by
  obtain ⟨j, h1, h2, h3⟩ := h
  have hj : j = 0 := by omega
  subst hj
  refine ⟨by omega, h3, ?_⟩
  rw [decWords, h2, wordsD]
  simp
theorem iat_start (m n : Nat) (b2 : List Bool) : IAt m n b2 [] b2 := ⟨n, by simp, rfl, fun i hi => by cases hi⟩
theorem iat_step {m n : Nat} {b2 : List Bool} {is : List Nat} {bits : List Bool} (h : IAt m n b2 is bits) (hl : is.length < n) : ∃ j, is.length + (j + 1) = n ∧ indsD m n [] b2 = indsD m (j + 1) is bits ∧ ∀ i ∈ is, i < m := by
  obtain ⟨j, h1, h2, h3⟩ := h
  obtain ⟨i, rfl⟩ : ∃ i, j = i + 1 := ⟨j - 1, by omega⟩
  exact ⟨i, h1, h2, h3⟩
theorem getD_ieof {n : Nat} {d is : List Nat} {b2 bits : List Bool} (h : IAt d.length n b2 is bits) (hl : is.length < n) (hs : bits.length < widthD d.length) : decIx d n b2 = ⟨3, [], bits⟩ := by
  obtain ⟨j, h1, h2, h3⟩ := iat_step h hl
  have e : indsD d.length (j + 1) is bits = ⟨3, [], bits⟩ := by rw [indsD, field_short hs]; simp
  rw [decIx, h2, e]
  simp
theorem getD_ibad {n x : Nat} {d is : List Nat} {b2 bits b3 : List Bool} (h : IAt d.length n b2 is bits) (hl : is.length < n) (hf : field (widthD d.length) bits = ⟨0, x, b3⟩) (hx : d.length ≤ x) : decIx d n b2 = ⟨8, [], b3⟩ := by
  obtain ⟨j, h1, h2, h3⟩ := iat_step h hl
  have e : indsD d.length (j + 1) is bits = ⟨8, [], b3⟩ := by rw [indsD, hf, if_neg (by simp), if_pos hx]
  rw [decIx, h2, e]
  simp
theorem getD_inext {m n x : Nat} {is : List Nat} {b2 bits b3 : List Bool} (h : IAt m n b2 is bits) (hl : is.length < n) (hf : field (widthD m) bits = ⟨0, x, b3⟩) (hx : x < m) : IAt m n b2 (is ++ [x]) b3 := by
  obtain ⟨j, h1, h2, h3⟩ := iat_step h hl
  refine ⟨j, by rw [List.length_append, List.length_singleton]; omega, ?_, fun i hi => ?_⟩
  · rw [h2, indsD, hf, if_neg (by simp), if_neg (by simp only; omega)]
  · rcases List.mem_append.1 hi with e | e
    · exact h3 i e
    · rw [List.mem_singleton] at e; omega
theorem getD_idone {n : Nat} {d is : List Nat} {b2 bits : List Bool} (h : IAt d.length n b2 is bits) (hl : ¬ is.length < n) : is.length = n ∧ (∀ i ∈ is, i < d.length) ∧ (indsD d.length n [] b2 = ⟨0, is, bits⟩) := by
  obtain ⟨j, h1, h2, h3⟩ := h
  have hj : j = 0 := by omega
  subst hj
  exact ⟨by omega, h3, by rw [h2, indsD]⟩
theorem getD_unused {n j : Nat} {d is : List Nat} {b2 bits : List Bool} (h : IAt d.length n b2 is bits) (hl : ¬ is.length < n) (hj : j < d.length) (hu : j ∉ is) : decIx d n b2 = ⟨8, [], bits⟩ := by
  obtain ⟨_, _, h3⟩ := getD_idone h hl
  have e : usedAll d.length is = false := by
    cases hb : usedAll d.length is with
    | false => rfl
    | true => exact absurd ((usedAll_iff _ _).1 hb j hj) hu
  rw [decIx, h3]
  simp [e]
theorem getD_used {n : Nat} {d is : List Nat} {b2 bits : List Bool} (h : IAt d.length n b2 is bits) (hl : ¬ is.length < n) (hu : ∀ j, j < d.length → j ∈ is) : decIx d n b2 = ⟨0, valsD d is, bits⟩ := by
  obtain ⟨_, _, h3⟩ := getD_idone h hl
  have e := (usedAll_iff _ _).2 hu
  rw [decIx, h3]
  simp [e]
theorem valsD_snoc (d is : List Nat) (x : Nat) : valsD d (is ++ [x]) = valsD d is ++ [d.getD x 0] := by simp [valsD]

theorem suf_wordsD (k : Nat) (acc : List Nat) (bs : List Bool) : Suf (wordsD k acc bs).r bs := by
  induction k generalizing acc bs with
  | zero => exact Suf.refl _
  | succ k ih =>
    have h1 := suf_field 64 bs
    rw [wordsD]
    split
    · exact h1
    · split
      · exact h1
      · exact (ih _ _).trans h1
theorem suf_indsD (k n : Nat) (acc : List Nat) (bs : List Bool) : Suf (indsD k n acc bs).r bs := by
  induction n generalizing acc bs with
  | zero => exact Suf.refl _
  | succ n ih =>
    have h1 := suf_field (widthD k) bs
    rw [indsD]
    split
    · exact h1
    · split
      · exact h1
      · exact (ih _ _).trans h1
theorem suf_decIx (d : List Nat) (n : Nat) (bs : List Bool) : Suf (decIx d n bs).r bs := by
  have h := suf_indsD d.length n [] bs
  rw [decIx]
  split
  · exact h
  · split
    · exact h
    · exact h
theorem suf_decD (n : Nat) (bs : List Bool) : Suf (decD n bs).r bs := by
  have h1 := suf_field 7 bs
  rw [decD]
  split
  · exact Suf.refl _
  · split
    · exact h1
    · have h2 := (suf_wordsD ((field 7 bs).x + 1) [] (field 7 bs).r).trans h1
      rw [decWords]
      split
      · exact h2
      · exact (suf_decIx _ _ _).trans h2
theorem decIx_nil (d : List Nat) (n : Nat) (bs : List Bool) (h : (decIx d n bs).e ≠ 0) : (decIx d n bs).x = [] := by
  revert h
  rw [decIx]
  split
  · intro _; rfl
  · split
    · intro _; rfl
    · intro h; exact absurd rfl h
theorem decD_nil (n : Nat) (bs : List Bool) (h : (decD n bs).e ≠ 0) : (decD n bs).x = [] := by
  revert h
  rw [decD]
  split
  · intro _; rfl
  · split
    · intro _; rfl
    · rw [decWords]
      split
      · intro _; rfl
      · exact decIx_nil _ _ _
end Go.Proofs.YtgpmoimmpbkgfaaGreatDoor

end

section
/- Layer 8: what Put writes, and its length. -/
set_option linter.unusedVariables false
namespace Go.Proofs.YtgpmoimmpbkgfaaGreatDoor
open Go

def okD (l : List Nat) : Bool := decide ((dictD l).length ≤ 128)
def putD (l : List Nat) : List Bool := if okD l then encD l else []
theorem wordsBits_len (d : List Nat) : (wordsBits d).length = 64 * d.length := by
  induction d with
  | nil => rfl
  | cons x d ih => rw [wordsBits, List.flatMap_cons, List.length_append, fieldBits_length]; rw [wordsBits] at ih; rw [ih, List.length_cons]; omega
theorem indsBits_len (k : Nat) (is : List Nat) : (indsBits k is).length = widthD k * is.length := by
  induction is with
  | nil => rfl
  | cons x d ih => rw [indsBits, List.flatMap_cons, List.length_append, fieldBits_length]; rw [indsBits] at ih; rw [ih, List.length_cons, Nat.mul_add]; omega
theorem wordsBits_take (d : List Nat) (i : Nat) (h : i < d.length) (x : Nat) (hx : d[i] = x) : wordsBits (d.take (i + 1)) = wordsBits (d.take i) ++ fieldBits x 64 := by
  rw [List.take_add_one, List.getElem?_eq_getElem h, hx, wordsBits, List.flatMap_append]; simp [wordsBits]
theorem indsBits_take (k : Nat) (is : List Nat) (i : Nat) (h : i < is.length) (x : Nat) (hx : is[i] = x) : indsBits k (is.take (i + 1)) = indsBits k (is.take i) ++ fieldBits x (widthD k) := by
  rw [List.take_add_one, List.getElem?_eq_getElem h, hx, indsBits, List.flatMap_append]; simp [indsBits]
end Go.Proofs.YtgpmoimmpbkgfaaGreatDoor

end

section
/- Layer 8: the width of an index, of whatever number. -/
set_option linter.unusedVariables false
namespace Go.Proofs.YtgpmoimmpbkgfaaGreatDoor
open Go

def widthI (c : Int) : Int := (widthD c.toNat : Int)
end Go.Proofs.YtgpmoimmpbkgfaaGreatDoor

end

section
/- Blocks of cells, what a step may change, and an append whose result is known to be new memory or the old row. No program in sight. -/
namespace Go.Proofs.YtgpmoimmpbkgfaaGreatDoor
open Go Go.RowKit

theorem ret_int {k : IntKind} {a b : Int} (h : a = b) : Ending.returned (.int k a) = .returned (.int k b) := by rw [h]
theorem ret_bool {a b : Bool} (h : a = b) : Ending.returned (.bool a) = .returned (.bool b) := by rw [h]

/-- Block b holds the cells cs; none of them is frozen. -/
def Blk (w : World) (b : Nat) (cs : List Value) : Prop := ∃ t, w.heap[b]? = some (.cells cs.toArray t (0, 0))

theorem Blk.lt {w : World} {b : Nat} {cs : List Value} (h : Blk w b cs) : b < w.heap.size := by obtain ⟨t, h⟩ := h; exact lt_of_block h
theorem Blk.cell {w : World} {b : Nat} {cs : List Value} (h : Blk w b cs) (i : Nat) : w.cell? ⟨b, i, none⟩ = cs[i]? := by
  obtain ⟨t, h⟩ := h; rw [cell_of_row w b i _ t (0, 0) h]; simp
theorem Blk.free {w : World} {b : Nat} {cs : List Value} (h : Blk w b cs) (i : Nat) : w.frozen? ⟨b, i, none⟩ = false := by obtain ⟨t, h⟩ := h; exact frozen_of_row w b i _ t h
theorem Blk.set {w : World} {b : Nat} {cs : List Value} (h : Blk w b cs) (i : Nat) (u : Value) : Blk (w.setCell ⟨b, i, none⟩ u) b (cs.set i u) := by
  obtain ⟨t, h⟩ := h; exact ⟨t, by rw [heap_setCell_same w b i _ t u h]; simp⟩
theorem Blk.of_same {w w' : World} {b : Nat} {cs : List Value} (h : Blk w b cs) (e : w'.heap[b]? = w.heap[b]?) : Blk w' b cs := by obtain ⟨t, h⟩ := h; exact ⟨t, e.trans h⟩
theorem Blk.set_other {w : World} {b : Nat} {cs : List Value} (h : Blk w b cs) {a : Addr} (ha : b ≠ a.block) (u : Value) : Blk (w.setCell a u) b cs := h.of_same (heap_setCell_other w a b u ha)
theorem Blk.alloc {w : World} {b : Nat} {cs : List Value} (h : Blk w b cs) (o : Obj) : Blk (w.alloc o) b cs := h.of_same (Below.heap_alloc w o b h.lt)
theorem Blk.drew {w : World} {b : Nat} {cs : List Value} (h : Blk w b cs) : Blk w.drew b cs := h
theorem Blk.new (w : World) (cs : Array Value) (t : TypeId) : Blk (w.alloc (.cells cs t)) w.heap.size cs.toList := ⟨t, by simpa using heap_alloc_new w (.cells cs t)⟩
theorem Blk.det {w : World} {b : Nat} {cs ds : List Value} (h : Blk w b cs) (k : Blk w b ds) : cs = ds := by
  obtain ⟨t, h⟩ := h; obtain ⟨u, k⟩ := k
  rw [h] at k; simp at k; exact k.1

/-- w' is w, but for the blocks of S and for new blocks. -/
structure Mods (S : Nat → Prop) (w w' : World) : Prop where
  os : w'.os = w.os
  tape : w'.tape = w.tape
  output : w'.output = w.output
  size : w.heap.size ≤ w'.heap.size
  block : ∀ k, k < w.heap.size → ¬ S k → w'.heap[k]? = w.heap[k]?

theorem Mods.refl (S : Nat → Prop) (w : World) : Mods S w w := ⟨rfl, rfl, rfl, Nat.le_refl _, fun _ _ _ => rfl⟩
theorem Mods.trans {S T : Nat → Prop} {a b c : World} (h : Mods S a b) (k : Mods T b c) (ht : ∀ j, j < a.heap.size → T j → S j) : Mods S a c :=
  ⟨k.os.trans h.os, k.tape.trans h.tape, k.output.trans h.output, Nat.le_trans h.size k.size,
    fun j hj hs => (k.block j (Nat.lt_of_lt_of_le hj h.size) (fun e => hs (ht j hj e))).trans (h.block j hj hs)⟩
theorem Mods.mono {S T : Nat → Prop} {a b : World} (h : Mods S a b) (hs : ∀ j, j < a.heap.size → S j → T j) : Mods T a b :=
  ⟨h.os, h.tape, h.output, h.size, fun j hj ht => h.block j hj (fun e => ht (hs j hj e))⟩
theorem Mods.alloc (S : Nat → Prop) (w : World) (o : Obj) : Mods S w (w.alloc o) := ⟨rfl, rfl, rfl, by simp, fun k hk _ => Below.heap_alloc w o k hk⟩
theorem Mods.drew (S : Nat → Prop) (w : World) : Mods S w w.drew := ⟨rfl, rfl, rfl, Nat.le_refl _, fun _ _ _ => rfl⟩
theorem Mods.drewN (S : Nat → Prop) (w : World) (n : Nat) : Mods S w (w.drewN n) := ⟨rfl, rfl, rfl, Nat.le_refl _, fun _ _ _ => rfl⟩
theorem Mods.set (S : Nat → Prop) (w : World) (a : Addr) (u : Value) (h : a.block < w.heap.size → S a.block) : Mods S w (w.setCell a u) :=
  ⟨rfl, rfl, rfl, by simp, fun k hk hs => heap_setCell_other w a k u (fun e => hs (e ▸ h (e ▸ hk)))⟩
theorem Mods.blk {S : Nat → Prop} {w w' : World} {b : Nat} {cs : List Value} (h : Mods S w w') (hb : Blk w b cs) (hs : ¬ S b) : Blk w' b cs := hb.of_same (h.block b hb.lt hs)
theorem Mods.below {S : Nat → Prop} {w w' : World} {B : Nat} (h : Mods S w w') (hB : B ≤ w.heap.size) (hs : ∀ k, k < B → ¬ S k) : Below B w w' := ⟨h.os, h.tape, h.output, h.size, fun k hk => h.block k (by omega) (hs k hk)⟩
theorem Mods.of_below {w w' : World} (h : Below w.heap.size w w') (S : Nat → Prop) : Mods S w w' := ⟨h.os, h.tape, h.output, h.size, fun k hk _ => h.block k hk⟩
theorem Mods.of_grown {w w' : World} {row : Option Nat} (h : w.grownBy w' row) : Mods (fun k => row = some k) w w' := ⟨h.os, h.tape, h.output, h.size, fun k hk hs => h.block k hk (fun e => hs e.symm)⟩
theorem Mods.cell {S : Nat → Prop} {w w' : World} (h : Mods S w w') {a : Addr} {u : Value} (hc : w.cell? a = some u) (hs : ¬ S a.block) : w'.cell? a = some u :=
  (World.cell?_of_block (h.block a.block (World.block_lt_of_cell? w a hc) hs)).trans hc
theorem Mods.owns {S : Nat → Prop} {w w' : World} (h : Mods S w w') {base : Nat} {e : TypeId} {size : Nat} {v : Value} {n : Nat} {xs : List Value} (ho : w.ownsRow base e size v n xs) (hs : ∀ k, v.ownBlock = some k → ¬ S k) : w'.ownsRow base e size v n xs := by
  refine ⟨ho.1, ?_⟩
  rcases ho.2 with hn | ⟨g, cap, cur, rfl, hb, hg, r⟩
  · exact Or.inl hn
  · exact Or.inr ⟨g, cap, cur, rfl, hb, by rw [h.block g (Array.getElem?_eq_some_iff.1 hg).1 (hs g rfl)]; exact hg, r⟩

/-- What an owned row is. -/
theorem owns_cases {w : World} {base : Nat} {e : TypeId} {size : Nat} {v : Value} {n : Nat} {xs : List Value} (h : w.ownsRow base e size v n xs) :
    (v = .slice none 0 0 ∧ n = 0 ∧ xs = []) ∨ ∃ g cap, v = .slice (some ⟨g, 0, none⟩) n cap ∧ g < w.heap.size ∧ n ≤ cap ∧ cap ≤ maxLen := by
  rcases h.2 with ⟨rfl, rfl⟩ | ⟨g, cap, cur, rfl, hb, hg, hn, hm, _⟩
  · exact Or.inl ⟨rfl, rfl, List.eq_nil_of_length_eq_zero (by simpa using h.1)⟩
  · exact Or.inr ⟨g, cap, rfl, lt_of_block hg, hn, hm⟩
theorem owns_lt {w : World} {base : Nat} {e : TypeId} {size : Nat} {v : Value} {n : Nat} {xs : List Value} (h : w.ownsRow base e size v n xs) : ∀ k, v.ownBlock = some k → k < w.heap.size :=
  fun k hk => (h.lt k hk).2
theorem owns_rebase {w : World} {base base' : Nat} {e : TypeId} {size : Nat} {v : Value} {n : Nat} {xs : List Value} (h : w.ownsRow base e size v n xs) (hb : ∀ k, v.ownBlock = some k → base' ≤ k) : w.ownsRow base' e size v n xs := by
  refine ⟨h.1, ?_⟩
  rcases h.2 with hn | ⟨g, cap, cur, rfl, _, r⟩
  · exact Or.inl hn
  · exact Or.inr ⟨g, cap, cur, rfl, hb g rfl, r⟩

/-- The blocks of v' are those of v, or new in a world that was of size B. -/
def Fresh (B : Nat) (v v' : Value) : Prop := ∀ k, v'.ownBlock = some k → v.ownBlock = some k ∨ B ≤ k
theorem Fresh.refl (B : Nat) (v : Value) : Fresh B v v := fun _ h => Or.inl h
theorem Fresh.trans {B C : Nat} {u v x : Value} (h : Fresh B u v) (k : Fresh C v x) (hBC : B ≤ C) : Fresh B u x := fun j hj => by
  rcases k j hj with h1 | h1
  · exact h j h1
  · exact Or.inr (by omega)

section
variable {P : Program} (w : World)
/-- An append to an owned row: where the result lies is known. -/
theorem run_app (t ty e : TypeId) (i : TypeInfo) (z : Value) (size bytes : Nat) (ht : P.underlying t = some (.slice e)) (hi : P.info? e = some i) (hz : i.zero = some z)
    (hsize : i.size = size) (hby : i.bytes = bytes) (hzs : z.cells.size = size) (hsz : 0 < size)
    (v : Value) (n : Nat) (xs : List Value) (hown : w.ownsRow 0 e size v n xs)
    (a : Addr) (m c : Nat) (news : List Value) (hl : news.length = m * size) (hnews : ∀ j u, news[j]? = some u → w.cell? (a.add j) = some u) (h1 : ∀ u ∈ news, u.oneCell' = true)
    (h63 : n + m ≤ maxLen) (hbytes : (n + m) * bytes ≤ 140737488355328) :
    ∃ v' w', (Builtin.append_ #[t, t] ty #[v, .slice (some a) m c]).run P w = .ok v' w' ∧ w'.ownsRow 0 e size v' (n + m) (xs ++ news) ∧ Mods (fun k => v.ownBlock = some k) w w' ∧ Fresh w.heap.size v v' := by
  have hsmall : n + m ≤ 9223372036854775807 := by simp only [maxLen] at h63; omega
  rcases owns_cases hown with ⟨rfl, rfl, rfl⟩ | ⟨g, cap, rfl, hg, hnc, hcm⟩
  · obtain ⟨v', w', hr, h2, h3, _⟩ := run_append_own (P := P) w w.heap.size t ty e i z size bytes ht hi hz hsize hby hzs hsz _ 0 [] (World.ownsRow_nil _ _ _ _) a m c news hl hnews h1 h63 hbytes (Nat.le_refl _)
    exact ⟨v', w', hr, owns_rebase h2 (fun _ _ => Nat.zero_le _), Mods.of_grown h3, fun k hk => Or.inr (h2.lt k hk).1⟩
  · by_cases hroom : n + m ≤ cap
    · obtain ⟨w', hr, h2, h3⟩ := run_append_fits (P := P) w 0 t ty e i size ht hi hsize g n cap xs hown a m c news hl hnews h1 hroom
      exact ⟨_, w', hr, h2, Mods.of_grown h3, fun k hk => Or.inl hk⟩
    · subst hsize
      subst hby
      have holds : ∀ j u, xs[j]? = some u → w.cell? ((⟨g, 0, none⟩ : Addr).add j) = some u := hown.cells (g := g) rfl
      have hr := run_append_grow (P := P) w t ty e i z ht hi hz ⟨g, 0, none⟩ n cap xs hown.1 holds a m c news hl hnews (by omega) (by omega) (growslice_fits (by omega) hbytes)
      have hge := grownCap_ge w (n + m) cap e
      have hlen : (xs ++ news).length = (n + m) * i.size := by rw [List.length_append, hown.1, hl, Nat.add_mul]
      refine ⟨_, _, hr, ⟨hlen, .inr ⟨w.heap.size, _, _, rfl, Nat.zero_le _, heap_alloc_new w.drew _, hge, grownCap_le_maxLen w (n + m) cap e h63, ?_, ?_⟩⟩, ⟨rfl, rfl, rfl, by simp, fun k hk _ => Below.heap_alloc w.drew _ k hk⟩, ?_⟩
      · simp only [Array.size_append, List.size_toArray, size_zeroCells, hzs, hown.1, hl, ← Nat.add_mul]
        congr 1
        omega
      · simp only [Array.toList_append, List.append_assoc]
        rw [← List.append_assoc, ← hlen]
        exact List.take_left
      · intro k hk
        simp only [Value.ownBlock, Option.some.injEq] at hk
        exact Or.inr (by omega)

theorem wpList_app {ops : Array Oper} {rest : List Oper} {o : Oper} {a : Act} {Q : Exit → Act → World → Prop} (hgd : Region.wanted o (yielded ops a.tmps) = true) (s x : Operand) (t : TypeId)
    (ho : o.op = .call { callee := .builtin .append, args := #[s, x], argTypes := #[t, t] })
    (e : TypeId) (i : TypeInfo) (z : Value) (size bytes : Nat) (ht : P.underlying t = some (.slice e)) (hi : P.info? e = some i) (hz : i.zero = some z)
    (hsize : i.size = size) (hby : i.bytes = bytes) (hzs : z.cells.size = size) (hsz : 0 < size)
    (v : Value) (n : Nat) (xs : List Value) (hs : a.eval s = v) (hown : w.ownsRow 0 e size v n xs)
    (ad : Addr) (m c : Nat) (news : List Value) (hx : a.eval x = .slice (some ad) m c) (hl : news.length = m * size) (hnews : ∀ j u, news[j]? = some u → w.cell? (ad.add j) = some u) (h1 : ∀ u ∈ news, u.oneCell' = true)
    (h63 : n + m ≤ maxLen) (hbytes : (n + m) * bytes ≤ 140737488355328)
    (h : ∀ v' w', w'.ownsRow 0 e size v' (n + m) (xs ++ news) → Mods (fun k => v.ownBlock = some k) w w' → Fresh w.heap.size v v' → wpList P ops Q rest (a.put o.dst v') w') : wpList P ops Q (o :: rest) a w := by
  refine BigFrame.wpList_want hgd fun K hK => ?_
  obtain ⟨v', w', hr, h2, h3, h4⟩ := run_app (P := P) w t o.type e i z size bytes ht hi hz hsize hby hzs hsz v n xs hown ad m c news hl hnews h1 h63 hbytes
  unfold Oper.wp execOp
  simp only [ho, resolve, invoke, builtin, Sem.run_bind, Sem.run_pure, Result.andThen_ok, List.map_toArray, List.map_cons, List.map_nil, hs, hx, hr]
  exact hK _ _ (h v' w' h2 h3 h4)

/-- The one cell that 'append(s, x)' lays for x. -/
theorem news_one (x : Value) (t : TypeId) : ∀ (j : Nat) (u : Value), [x][j]? = some u → (w.alloc (.cells #[x] t)).cell? ((⟨w.heap.size, 0, none⟩ : Addr).add j) = some u := by
  intro j u hj
  match j, hj with
  | 0, hj => simp at hj; subst hj; simp [Addr.add]
end
end Go.Proofs.YtgpmoimmpbkgfaaGreatDoor

end

section
/- Slices that can be read: their values, whoever owns them. No program in sight. -/
namespace Go.Proofs.YtgpmoimmpbkgfaaGreatDoor
open Go Go.RowKit

/-- The slice v of n elements, each of sz cells, reads as the cells vs. -/
def Rd (w : World) (sz : Nat) (v : Value) (n : Nat) (vs : List Value) : Prop :=
  ∃ p c, v = .slice p n c ∧ vs.length = n * sz ∧ n ≤ c ∧ c ≤ maxLen ∧ (p = none → n = 0 ∧ c = 0) ∧ ∀ ad, p = some ad → ∀ j u, vs[j]? = some u → w.cell? (ad.add j) = some u

theorem Rd.nil (w : World) (sz : Nat) : Rd w sz (.slice none 0 0) 0 [] := ⟨none, 0, rfl, by simp, Nat.le_refl _, by simp [maxLen], fun _ => ⟨rfl, rfl⟩, fun ad h => by cases h⟩
theorem Rd.of_owns {w : World} {base : Nat} {e : TypeId} {sz : Nat} {v : Value} {n : Nat} {vs : List Value} (h : w.ownsRow base e sz v n vs) : Rd w sz v n vs := by
  rcases owns_cases h with ⟨rfl, rfl, rfl⟩ | ⟨g, cap, rfl, _, h1, h2⟩
  · exact Rd.nil w sz
  · exact ⟨_, _, rfl, h.1, h1, h2, (fun e => by cases e), fun ad e => by cases e; exact h.cells rfl⟩
theorem Rd.of_cells {w w' : World} {sz : Nat} {v : Value} {n : Nat} {vs : List Value} (h : Rd w sz v n vs) (hc : ∀ (a : Addr) (u : Value), w.cell? a = some u → (∃ p, v = .slice (some p) n (match v with | .slice _ _ c => c | _ => 0) ∧ a.block = p.block) → w'.cell? a = some u) : Rd w' sz v n vs := by
  obtain ⟨p, c, rfl, h1, h2, h3, h4, h5⟩ := h
  refine ⟨p, c, rfl, h1, h2, h3, h4, fun ad e j u hu => ?_⟩
  subst e
  refine hc _ _ (h5 ad rfl j u hu) ⟨ad, rfl, ?_⟩
  unfold Addr.add; split <;> rfl
theorem Rd.below {w w' : World} {sz : Nat} {v : Value} {n : Nat} {vs : List Value} (h : Rd w sz v n vs) (hb : Below w.heap.size w w') : Rd w' sz v n vs :=
  h.of_cells fun a _ hc _ => (hb.cell (World.block_lt_of_cell? w a hc)).trans hc
theorem Rd.mods {S : Nat → Prop} {w w' : World} {sz : Nat} {v : Value} {n : Nat} {vs : List Value} (h : Rd w sz v n vs) (hm : Mods S w w') (hs : ∀ k, v.ownBlock = some k → ¬ S k) : Rd w' sz v n vs :=
  h.of_cells fun a _ hc ⟨p, hp, ha⟩ => hm.cell hc (hs _ (by rw [hp, ha]; rfl))
theorem Rd.len {w : World} {sz : Nat} {v : Value} {n : Nat} {vs : List Value} (h : Rd w sz v n vs) : vs.length = n * sz := by obtain ⟨_, _, _, h1, _⟩ := h; exact h1
theorem Rd.le {w : World} {sz : Nat} {v : Value} {n : Nat} {vs : List Value} (h : Rd w sz v n vs) : n ≤ maxLen := by obtain ⟨_, _, _, _, h1, h2, _⟩ := h; omega

/-- A slice that is not empty has an address. -/
theorem Rd.at {w : World} {sz : Nat} {v : Value} {n : Nat} {vs : List Value} (h : Rd w sz v n vs) (hne : vs ≠ []) :
    ∃ b off c, v = .slice (some ⟨b, off, none⟩) n c ∧ n ≤ c ∧ c ≤ maxLen ∧ ∀ (j : Nat) (u : Value), vs[j]? = some u → w.cell? ⟨b, off + j, none⟩ = some u := by
  obtain ⟨p, c, rfl, h1, h2, h3, h4, h5⟩ := h
  cases p with
  | none =>
    obtain ⟨rfl, _⟩ := h4 rfl
    exact absurd (List.eq_nil_of_length_eq_zero (by simpa using h1)) hne
  | some ad =>
    obtain ⟨b, off, spot⟩ := ad
    obtain ⟨x, hx⟩ : ∃ x, vs[0]? = some x := by
      cases vs with
      | nil => exact absurd rfl hne
      | cons x _ => exact ⟨x, rfl⟩
    have hspot : spot = none := by simpa [Addr.add] using World.cell?_spot (h5 _ rfl 0 x hx)
    subst hspot
    refine ⟨b, off, c, rfl, h2, h3, fun j u hu => ?_⟩
    have := h5 _ rfl j u hu
    simp only [Addr.add] at this
    split at this
    · next h0 => subst h0; simpa using this
    · exact this
theorem Rd.lt {w : World} {sz : Nat} {v : Value} {n : Nat} {vs : List Value} (h : Rd w sz v n vs) (hne : vs ≠ []) : ∀ k, v.ownBlock = some k → k < w.heap.size := by
  intro k hk
  obtain ⟨b, off, c, rfl, _, _, hc⟩ := h.at hne
  obtain ⟨x, hx⟩ : ∃ x, vs[0]? = some x := by
    cases vs with
    | nil => exact absurd rfl hne
    | cons x _ => exact ⟨x, rfl⟩
  simp only [Value.ownBlock, Option.some.injEq] at hk
  subst hk
  exact World.block_lt_of_cell? w _ (hc 0 x hx)
theorem Rd.shape {w : World} {sz : Nat} {v : Value} {n : Nat} {vs : List Value} (h : Rd w sz v n vs) : ∃ p c, v = .slice p n c := by obtain ⟨p, c, h, _⟩ := h; exact ⟨p, c, h⟩

/-- A region that draws its order, all of whose operations leave the world in a class C and yield the same value in each world of C. -/
theorem wp_region_class {P : Program} {C : World → Prop} {id : Nat} {Q : Exit → Act → World → Prop} {a : Act} {w : World} {l : List Oper} (hC : C w.drew) (hm : P.follows .mixedOrders = true) (hB : Region.lexB .any l.toArray = true)
    (h : wpQuiet P l.toArray C (fun a' => ∀ w', C w' → Q .normal a' w') l a) : (Code.region id l.toArray true).wp P Q a w :=
  wp_region_quiet (C := C) hm hB hC (by simpa using h)

/-- An element type e of the slice type t: its cells, its bytes. -/
structure Elem (P : Program) (t e : TypeId) (sz bytes : Nat) : Prop where
  ht : P.underlying t = some (.slice e)
  hi : ∃ i z, P.info? e = some i ∧ i.zero = some z ∧ i.size = sz ∧ i.bytes = bytes ∧ z.cells.size = sz
  pos : 0 < sz
theorem Elem.mk' {P : Program} {t e : TypeId} {z : Value} {sz bytes : Nat} (ht : P.underlying t = some (.slice e)) (h : (P.info? e).map (fun i => (i.zero, i.size, i.bytes)) = some (some z, sz, bytes)) (hz : z.cells.size = sz) (hp : 0 < sz) : Elem P t e sz bytes := by
  obtain ⟨i, h1, h2, h3, h4⟩ := info_parts h
  exact ⟨ht, ⟨i, z, h1, h2, h3, h4, hz⟩, hp⟩

section
variable {P : Program}
/-- 'append(s, x)' of one element: x lies in a new block of its own. -/
theorem wpList_push {t e : TypeId} {sz bytes : Nat} (hE : Elem P t e sz bytes) (w : World) (us : Array Value) (v : Value) (n : Nat) (xs : List Value) (hown : w.ownsRow 0 e sz v n xs) (hus : us.size = sz) (h1 : ∀ u ∈ us.toList, u.oneCell' = true) (hb : (n + 1) * bytes ≤ 140737488355328 ∧ n + 1 ≤ maxLen)
    {ops : Array Oper} {rest : List Oper} {o : Oper} {a : Act} {Q : Exit → Act → World → Prop} (hgd : Region.wanted o (yielded ops a.tmps) = true) (s x : Operand) (ho : o.op = .call { callee := .builtin .append, args := #[s, x], argTypes := #[t, t] })
    (hs : a.eval s = v) (hx : a.eval x = .slice (some ⟨w.heap.size, 0, none⟩) 1 1)
    (h : ∀ v' w', w'.ownsRow 0 e sz v' (n + 1) (xs ++ us.toList) → Mods (fun k => v.ownBlock = some k) w w' → Fresh w.heap.size v v' → wpList P ops Q rest (a.put o.dst v') w') : wpList P ops Q (o :: rest) a (w.alloc (.cells us e)) := by
  obtain ⟨i, z, hi, hz, hsize, hby, hzs⟩ := hE.hi
  refine wpList_app (w.alloc (.cells us e)) hgd s x t ho e i z sz bytes hE.ht hi hz hsize hby hzs hE.pos v n xs hs (hown.alloc _) ⟨w.heap.size, 0, none⟩ 1 1 us.toList hx (by simp [hus]) ?_ h1 hb.2 hb.1 ?_
  · intro j u hj
    have e1 : (⟨w.heap.size, 0, none⟩ : Addr).add j = ⟨w.heap.size, j, none⟩ := by unfold Addr.add; split <;> simp_all
    rw [e1, (Blk.new w us e).cell]
    exact hj
  · intro v' w' a1 a2 a3
    refine h v' w' a1 ((Mods.alloc _ _ _).trans a2 (fun _ _ e => e)) (fun k hk => ?_)
    rcases a3 k hk with e | e
    · exact Or.inl e
    · exact Or.inr (by simp at e; omega)

/-- 'append(s, xs...)'. -/
theorem wpList_extend {t e : TypeId} {sz bytes : Nat} (hE : Elem P t e sz bytes) (w : World) (v v2 : Value) (n m : Nat) (xs news : List Value) (hown : w.ownsRow 0 e sz v n xs) (hr : Rd w sz v2 m news) (h1 : ∀ u ∈ news, u.oneCell' = true) (hb : (n + m) * bytes ≤ 140737488355328 ∧ n + m ≤ maxLen)
    {ops : Array Oper} {rest : List Oper} {o : Oper} {a : Act} {Q : Exit → Act → World → Prop} (hgd : Region.wanted o (yielded ops a.tmps) = true) (s x : Operand) (ho : o.op = .call { callee := .builtin .append, args := #[s, x], argTypes := #[t, t] })
    (hs : a.eval s = v) (hx : a.eval x = v2)
    (h : ∀ v' w', w'.ownsRow 0 e sz v' (n + m) (xs ++ news) → Mods (fun k => v.ownBlock = some k) w w' → Fresh w.heap.size v v' → wpList P ops Q rest (a.put o.dst v') w') : wpList P ops Q (o :: rest) a w := by
  obtain ⟨i, z, hi, hz, hsize, hby, hzs⟩ := hE.hi
  obtain ⟨p, c, rfl, hl, hc1, hc2, hnil, hcell⟩ := hr
  cases p with
  | none =>
    obtain ⟨rfl, rfl⟩ := hnil rfl
    obtain rfl : news = [] := List.eq_nil_of_length_eq_zero (by simpa using hl)
    refine BigFrame.wpList_want hgd fun K hK => ?_
    have hr := run_append_owned_none (P := P) w 0 t o.type e i sz hE.ht hi v n xs hown
    unfold Oper.wp execOp
    simp only [ho, resolve, invoke, builtin, Sem.run_bind, Sem.run_pure, Result.andThen_ok, List.map_toArray, List.map_cons, List.map_nil, hs, hx, hr]
    exact hK _ _ (h v w (by simpa using hown) (Mods.refl _ _) (Fresh.refl _ _))
  | some ad => exact wpList_app w hgd s x t ho e i z sz bytes hE.ht hi hz hsize hby hzs hE.pos v n xs hs hown ad m c news hx hl (hcell ad rfl) h1 hb.2 hb.1 h
end

theorem one_cell (u : Value) (h : u.oneCell' = true) : ∀ x ∈ (#[u] : Array Value).toList, x.oneCell' = true := by
  intro x hx; simp at hx; subst hx; exact h

def u8s (l : List Nat) : List Value := l.map (fun n : Nat => Value.int .u8 (n : Int))
theorem u8s_length (l : List Nat) : (u8s l).length = l.length := by simp [u8s]
theorem u8s_append (a b : List Nat) : u8s (a ++ b) = u8s a ++ u8s b := by simp [u8s]
theorem u8s_set (l : List Nat) (i n : Nat) : (u8s l).set i (.int .u8 n) = u8s (l.set i n) := by simp [u8s, List.map_set]
theorem u8s_get (l : List Nat) (i : Nat) (h : i < l.length) : (u8s l)[i]? = some (.int .u8 (l[i] : Nat)) := by simp [u8s, h]

theorem u8s_oneCell (l : List Nat) : ∀ u ∈ u8s l, u.oneCell' = true := by
  intro u hu
  simp only [u8s, List.mem_map] at hu
  obtain ⟨n, _, rfl⟩ := hu
  rfl

/-- The bytes of a list of numbers, as a string. -/
def strOf (l : List Nat) : ByteArray := strOfNums (l.map fun n : Nat => (n : Int))
theorem strOf_inj {l k : List Nat} (hl : ∀ x ∈ l, x < 256) (hk : ∀ x ∈ k, x < 256) : ((strOf l).toList == (strOf k).toList) = decide (l = k) := by
  have e : ∀ l : List Nat, (strOf l).toList = l.map (fun n => UInt8.ofNat n) := fun l => by
    rw [strOf, Lib.strOfNums_toList]; simp [Lib.bytesOf, List.map_map, Function.comp_def]
  rw [e, e]
  by_cases h : l = k
  · simp [h]
  · have : ¬ (l.map (fun n => UInt8.ofNat n) = k.map (fun n => UInt8.ofNat n)) := fun hm => h (by
      have hm' := congrArg (List.map UInt8.toNat) hm
      rw [List.map_map, List.map_map] at hm'
      have key : ∀ l : List Nat, (∀ x ∈ l, x < 256) → l.map (UInt8.toNat ∘ fun n => UInt8.ofNat n) = l := by
        intro l hl
        conv => rhs; rw [← List.map_id l]
        apply List.map_congr_left
        intro x hx
        simp [Nat.mod_eq_of_lt (hl x hx)]
      rw [key l hl, key k hk] at hm'
      exact hm')
    simp [h, this]

theorem Rd.conv {P : Program} {w : World} {v : Value} {n : Nat} {l : List Nat} (h : Rd w 1 v n (u8s l)) (src e dst : TypeId) (hs : P.underlying src = some (.slice e)) (he : P.underlying e = some (.int .u8)) (hd : P.underlying dst = some .string) :
    (convert src dst v).run P w = .ok (.string (strOf l)) w := by
  obtain ⟨p, c, rfl, h1, h2, h3, h4, h5⟩ := h
  rw [u8s_length] at h1
  cases p with
  | none =>
    obtain ⟨rfl, rfl⟩ := h4 rfl
    obtain rfl : l = [] := List.eq_nil_of_length_eq_zero (by simpa using h1)
    exact run_convert_bytes_nil w src e hs he 0 0 dst hd
  | some ad =>
    by_cases hn : n = 0
    · subst hn
      obtain rfl : l = [] := List.eq_nil_of_length_eq_zero (by simpa using h1)
      rw [run_convert_bytes_string w src dst e _ 0 c hs he hd]
      simp [Conv.bytesToString, loadCells, loadCellsFrom, strOf, strOfNums]; rfl
    · obtain ⟨b, off, spot⟩ := ad
      have hcell : ∀ i, i < n → w.cell? ((⟨b, off, spot⟩ : Addr).add i) = some (.int .u8 ((l.map fun n : Nat => (n : Int)).getD i 0)) := fun i hi => by
        rw [h5 _ rfl i _ (u8s_get l i (by omega))]; simp [List.getD, show i < l.length by omega]
      have hspot : spot = none := by simpa [Addr.add] using World.cell?_spot (hcell 0 (by omega))
      subst hspot
      exact run_convert_bytes_arg w src e hs he b off n c _ (by simp; omega) (fun i hi => by
        have := hcell i hi
        simp only [Addr.add] at this
        split at this
        · next h0 => subst h0; simpa using this
        · exact this) dst hd
end Go.Proofs.YtgpmoimmpbkgfaaGreatDoor

end

section
/- Layer 1: the reference's functions on lists of bits. -/
set_option maxRecDepth 20000
namespace Go.Proofs.YtgpmoimmpbkgfaaGreatDoor
open Go Go.RowKit

def bls (l : List Bool) : List Value := l.map Value.bool
theorem bls_length (l : List Bool) : (bls l).length = l.length := by simp [bls]
theorem bls_append (a b : List Bool) : bls (a ++ b) = bls a ++ bls b := by simp [bls]
theorem bls_get (l : List Bool) (i : Nat) (h : i < l.length) : (bls l)[i]? = some (.bool l[i]) := by simp [bls, h]

theorem Tryz.infoBool : (Tryz.prog.info? 4).map (fun i => (i.zero, i.size, i.bytes)) = some (some (.bool false), 1, 1) := by kernel_rfl

/-- A row of bits that the call may write. -/
def BitsIn (w : World) (v : Value) (bs : List Bool) : Prop := w.ownsRow 0 4 1 v bs.length (bls bs)
structure RefWrote (v : Value) (out : List Bool) (w : World) (v' : Value) (w' : World) : Prop where
  own : BitsIn w' v' out
  mods : Mods (fun k => v.ownBlock = some k) w w'
  fresh : Fresh w.heap.size v v'

theorem unit_step (n i : Nat) (h : i < n) : 2 ^ (n - 1) / 2 ^ i = 2 ^ (n - 1 - i) := by
  rw [Nat.pow_div (by omega) (by omega)]

set_option maxHeartbeats 400000 in
theorem ref_write (v : Value) (bs : List Bool) (x n : Nat) (w : World) (h : BitsIn w v bs) (hx : x < 18446744073709551616) (hn : n ≤ 64) (hb : bs.length + 64 ≤ 70368744177664) :
    Calls Tryz.prog 61 #[v, .int .u64 x, .int .i64 n] w fun e w' => ∃ v', e = .returned v' ∧ RefWrote v (bs ++ fieldBits x n) w v' w' := by
  obtain ⟨i0, hi, hz0, hz1, hz2⟩ := info_parts Tryz.infoBool
  have H := Lib.hid h; clear h
  go_enter Tryz.func61, Tryz.ntmps61
  go_wp2
  go_loop [7, 8] (fun u c => ∃ i : Nat, 1 ≤ i ∧ (i ≤ n ∨ i = 1) ∧ c = .int .i64 i ∧ u = .int .u64 ((2 ^ (i - 1) : Nat) : Int)) (fun _ c => n - (intOf c).toNat)
  case atStart => exact ⟨1, by omega, by omega, rfl, rfl⟩
  case round =>
    obtain ⟨i, h1, h2, rfl, rfl⟩ := hrel
    by_cases hlt : i < n
    · have hU : 2 ^ (i + 1 - 1) = 2 ^ (i - 1) * 2 := by rw [show i + 1 - 1 = (i - 1) + 1 from by omega, Nat.pow_succ]
      have hU2 : 2 ^ (i - 1) ≤ 2 ^ 62 := Nat.pow_le_pow_right (by omega) (by omega)
      have HU := Lib.hid hU; clear hU
      generalize 2 ^ (i - 1) = U at *
      have hU3 : (U : Int) ≤ 4611686018427387904 := by omega
      clear hU2
      go_wp2
      go_round
      case rel => exact ⟨i + 1, by omega, by omega, by go_num, by rw [HU.out]; go_num⟩
      case measure => simp [intOf]; omega
    · have hp : 2 ^ (i - 1) = 2 ^ (n - 1) := by congr 1; omega
      rw [hp]
      clear hp
      go_wp2
      go_loopw [0, 7, 9] (fun v2 u c wr => ∃ j : Nat, j ≤ n ∧ c = .int .i64 j ∧ u = .int .u64 ((2 ^ (n - 1) / 2 ^ j : Nat) : Int) ∧ RefWrote v (bs ++ (fieldBits x n).take j) w v2 wr) (fun _ _ c _ => n - (intOf c).toNat)
      case atStart => exact ⟨0, by omega, rfl, by simp, by simpa using H.out, Mods.refl _ _, Fresh.refl _ _⟩
      case round =>
        obtain ⟨j, hj, rfl, rfl, hW⟩ := hrel
        by_cases hjn : j < n
        · have hU : 2 ^ (n - 1) / 2 ^ (j + 1) = 2 ^ (n - 1) / 2 ^ j / 2 := by rw [Nat.pow_succ, Nat.div_div_eq_div_mul]
          have hB : ((x : Int) / ((2 ^ (n - 1) / 2 ^ j : Nat) : Int) % 2 == 1) = x.testBit (n - 1 - j) := by
            rw [unit_step n j hjn, Nat.testBit_eq_decide_div_mod_eq]
            have e : (x : Int) / ((2 ^ (n - 1 - j) : Nat) : Int) % 2 = ((x / 2 ^ (n - 1 - j) % 2 : Nat) : Int) := by simp
            rw [e]
            generalize x / 2 ^ (n - 1 - j) % 2 = m
            by_cases hm : m = 1
            · simp [hm]
            · have : ¬ (m : Int) = 1 := by omega
              simp [hm, this]
          have hU1 : 1 ≤ 2 ^ (n - 1) / 2 ^ j ∧ 2 ^ (n - 1) / 2 ^ j ≤ 9223372036854775808 := by
            rw [unit_step n j hjn]
            have : 2 ^ (n - 1 - j) ≤ 2 ^ 63 := Nat.pow_le_pow_right (by omega) (by omega)
            exact ⟨Nat.two_pow_pos _, by omega⟩
          have hxU : x / (2 ^ (n - 1) / 2 ^ j) ≤ x := Nat.div_le_self _ _
          have HU := Lib.hid hU; have HB := Lib.hid hB; clear hU hB
          generalize 2 ^ (n - 1) / 2 ^ j = U at *
          have hU2 : (1 : Int) ≤ U := by omega
          have hU3 : (U : Int) ≤ 9223372036854775808 := by omega
          have hx0 : (0 : Int) ≤ (x : Int) / (U : Int) := by have := Int.natCast_nonneg (x / U); rwa [Int.natCast_ediv] at this
          have hx1 : (x : Int) / (U : Int) ≤ 18446744073709551615 := by
            have h' : ((x / U : Nat) : Int) ≤ (x : Int) := by exact_mod_cast hxU
            rw [Int.natCast_ediv] at h'
            omega
          clear hU1 hxU
          have HS : Hid (bs ++ (fieldBits x n).take (j + 1) = (bs ++ (fieldBits x n).take j) ++ [x.testBit (n - 1 - j)]) := by
            show _ = _
            rw [fieldBits_take_succ x n j hjn, List.append_assoc]
          have hL0 : (bs ++ (fieldBits x n).take j).length ≤ 70368744177664 := by rw [List.length_append, List.length_take, fieldBits_length]; omega
          generalize bs ++ (fieldBits x n).take j = L at hW HS hL0
          have HL : Hid (L.length + 1 ≤ maxLen ∧ (L.length + 1) * 1 ≤ 140737488355328) := by
            show _ ∧ _
            unfold maxLen; omega
          have HW := Lib.hid hW; clear hW
          go_wp2_with (at_builtin; refine wpList_app _ rfl _ _ 51 rfl 4 i0 (.bool false) 1 1 Tryz.underlying51 hi hz0 hz1 hz2 rfl (by decide) _ _ _ rfl (HW.out.own.alloc _) ⟨wr.heap.size, 0, none⟩ 1 1 [.bool ((x : Int) / (U : Int) % 2 == 1)] rfl rfl ?c1 ?c2 ?c3 ?c4 ?_)
          case c1 => exact news_one _ _ _
          case c2 => intro u hu; simp at hu; subst hu; rfl
          case c3 => exact HL.out.1
          case c4 => exact HL.out.2
          intro v' w1 hown hmods hfresh
          have HR : Hid (RefWrote v (bs ++ (fieldBits x n).take (j + 1)) w v' w1) := by
            rw [HS.out]
            refine ⟨?_, ?_, ?_⟩
            · rw [HB.out] at hown
              rw [BitsIn, bls_append, List.length_append]
              exact hown
            · exact HW.out.mods.trans ((Mods.alloc _ _ _).trans hmods (fun _ _ e => e)) (fun k hk e => by
                rcases HW.out.fresh k e with e | e
                · exact e
                · omega)
            · exact HW.out.fresh.trans hfresh (by have := HW.out.mods.size; simp; omega)
          clear hown hmods hfresh HB HL HS
          go_wp2
          go_roundw
          case rel => exact ⟨j + 1, by omega, by go_num, by rw [HU.out]; go_num, HR.out⟩
          case measure => simp [intOf]; omega
        · obtain rfl : j = n := by omega
          go_wp2
          go_ret
          exact ⟨_, rfl, by rwa [List.take_of_length_le (by rw [fieldBits_length]; omega)] at hW⟩
end Go.Proofs.YtgpmoimmpbkgfaaGreatDoor

end
