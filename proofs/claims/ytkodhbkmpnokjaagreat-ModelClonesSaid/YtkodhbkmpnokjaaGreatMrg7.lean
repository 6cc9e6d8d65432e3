/- Read, SymP, Ref10A, Ref12F, ModI, Large10, LabSz, Large11, in one text. -/
import Derived.Test.YtkodhbkmpnokjaaGreatMrg6
import Derived.Test.YtkodhbkmpnokjaaGreatMrg1
import Derived.Test.YtkodhbkmpnokjaaGreatMrg5
import Derived.Test.YtkodhbkmpnokjaaGreatMrg3
import Derived.Test.YtkodhbkmpnokjaaGreatMrg4
import Derived.Test.YtkodhbkmpnokjaaGreatMrg2

section
/- Layer 4: what a reader reads at an offset, as functions on lists. No program in sight. -/
namespace Go.Proofs.YtkodhbkmpnokjaaGreat

/-- What is read: a value and the offset behind it, or an error. -/
inductive Out (α : Type) where
  | ok (x : α) (to : Nat)
  | bad (e : Nat)

def outByte (B : List Nat) (a : Nat) : Out Nat := match B[a]? with
  | some c => .ok c (a + 1)
  | none => .bad 3
def outUint (B : List Nat) (a most : Nat) : Out Nat := match readAt B (a : Int) with
  | (x, to, 0) => if most < x then .bad 7 else .ok x to.toNat
  | (_, _, e + 1) => .bad (e + 1)
def outTake (B : List Nat) (a : Nat) (n : Int) : Out (List Nat) :=
  if n < 0 then .bad 2 else if ((B.length - a : Nat) : Int) < n then .bad 3 else .ok ((B.drop a).take n.toNat) (a + n.toNat)
def outString (B : List Nat) (a : Nat) (most : Int) : Out (List Nat) := match readAt B (a : Int) with
  | (x, to, 0) => if most < 0 ∨ most < (x : Int) then .bad 7 else if B.length - to.toNat < x then .bad 3 else .ok ((B.drop to.toNat).take x) (to.toNat + x)
  | (_, _, e + 1) => .bad (e + 1)
def outSection (B : List Nat) (a id : Nat) : Out (List Nat) := match B[a]? with
  | none => .bad 3
  | some c => if c ≠ id then .bad 11 else match readAt B ((a + 1 : Nat) : Int) with
    | (x, to, 0) => if B.length - to.toNat < 4 ∨ B.length - to.toNat - 4 < x then .bad 3 else
        if isCrc ((B.take (to.toNat + x + 4)).drop a) then .ok ((B.drop to.toNat).take x) (to.toNat + x + 4) else .bad 12
    | (_, _, e + 1) => .bad (e + 1)

/-- A string with its length; a section's frame. -/
def bytesOf (s : List Nat) : List Nat := groups s.length ++ s
def frameOf (id : Nat) (s : List Nat) : List Nat := withCrc (id :: bytesOf s)

theorem bytesOf_lt {s : List Nat} (h : ∀ c ∈ s, c < 256) : ∀ c ∈ bytesOf s, c < 256 := fun c hc => by
  rcases List.mem_append.1 hc with h1 | h1
  · exact groups_lt _ c h1
  · exact h c h1
theorem frameOf_lt {id : Nat} {s : List Nat} (hi : id < 256) (h : ∀ c ∈ s, c < 256) : ∀ c ∈ frameOf id s, c < 256 := withCrc_lt (fun c hc => by
  rcases List.mem_cons.1 hc with rfl | h1
  · exact hi
  · exact bytesOf_lt h c h1)
theorem bytesOf_length (s : List Nat) : (bytesOf s).length = (groups s.length).length + s.length := by simp [bytesOf]
theorem frameOf_length (id : Nat) (s : List Nat) : (frameOf id s).length = 1 + (groups s.length).length + s.length + 4 := by
  rw [frameOf, withCrc_length, List.length_cons, bytesOf_length]; omega

theorem outUint_cases {B : List Nat} (hB : ∀ c ∈ B, c < 256) {a : Nat} (ha : a ≤ B.length) (most : Nat) :
    (∃ e, e ≠ 0 ∧ readAt B (a : Int) = (0, 0, e) ∧ outUint B a most = .bad e) ∨
    (∃ x to : Nat, readAt B (a : Int) = (x, (to : Int), 0) ∧ a < to ∧ to ≤ B.length ∧ x < 18446744073709551616 ∧ outUint B a most = if most < x then .bad 7 else .ok x to) := by
  rcases readAt_cases hB ha with ⟨e, he, hr⟩ | ⟨x, n, hr, hn, hin, hg, hx⟩
  · refine .inl ⟨e, he, hr, ?_⟩
    obtain ⟨k, rfl⟩ : ∃ k, e = k + 1 := ⟨e - 1, by omega⟩
    rw [outUint, hr]
  · refine .inr ⟨x, a + n, hr, by omega, hin, hx, ?_⟩
    rw [outUint, hr]
    simp only [Int.toNat_natCast]
theorem outString_cases {B : List Nat} (hB : ∀ c ∈ B, c < 256) {a : Nat} (ha : a ≤ B.length) (most : Int) :
    (∃ e, e ≠ 0 ∧ readAt B (a : Int) = (0, 0, e) ∧ outString B a most = .bad e) ∨
    (∃ x to : Nat, readAt B (a : Int) = (x, (to : Int), 0) ∧ a < to ∧ to ≤ B.length ∧ x < 18446744073709551616 ∧
      outString B a most = if most < 0 ∨ most < (x : Int) then .bad 7 else if B.length - to < x then .bad 3 else .ok ((B.drop to).take x) (to + x)) := by
  rcases readAt_cases hB ha with ⟨e, he, hr⟩ | ⟨x, n, hr, hn, hin, hg, hx⟩
  · refine .inl ⟨e, he, hr, ?_⟩
    obtain ⟨k, rfl⟩ : ∃ k, e = k + 1 := ⟨e - 1, by omega⟩
    rw [outString, hr]
  · refine .inr ⟨x, a + n, hr, by omega, hin, hx, ?_⟩
    rw [outString, hr]
    simp only [Int.toNat_natCast]
theorem outSection_none {B : List Nat} {a : Nat} (h : B.length ≤ a) (id : Nat) : outSection B a id = .bad 3 := by rw [outSection, List.getElem?_eq_none h]
theorem outSection_other {B : List Nat} {a c : Nat} (h : B[a]? = some c) {id : Nat} (hi : c ≠ id) : outSection B a id = .bad 11 := by rw [outSection, h]; exact if_pos hi
theorem outSection_cases {B : List Nat} (hB : ∀ c ∈ B, c < 256) {a id : Nat} (h : B[a]? = some id) :
    (∃ e, e ≠ 0 ∧ readAt B ((a + 1 : Nat) : Int) = (0, 0, e) ∧ outSection B a id = .bad e) ∨
    (∃ x to : Nat, readAt B ((a + 1 : Nat) : Int) = (x, (to : Int), 0) ∧ a + 1 < to ∧ to ≤ B.length ∧ x < 18446744073709551616 ∧
      outSection B a id = if B.length - to < 4 ∨ B.length - to - 4 < x then .bad 3 else if isCrc ((B.take (to + x + 4)).drop a) then .ok ((B.drop to).take x) (to + x + 4) else .bad 12) := by
  have ha : a + 1 ≤ B.length := by have := (List.getElem?_eq_some_iff.1 h).1; omega
  rcases readAt_cases hB ha with ⟨e, he, hr⟩ | ⟨x, n, hr, hn, hin, hg, hx⟩
  · refine .inl ⟨e, he, hr, ?_⟩
    obtain ⟨k, rfl⟩ : ∃ k, e = k + 1 := ⟨e - 1, by omega⟩
    rw [outSection, h]
    simp only [hr, ne_eq, not_true_eq_false, if_false]
  · refine .inr ⟨x, a + 1 + n, hr, by omega, hin, hx, ?_⟩
    rw [outSection, h]
    simp only [hr, ne_eq, not_true_eq_false, if_false, Int.toNat_natCast]

/-- What was appended is read back. -/
theorem outString_back (pre s rest : List Nat) (hs : s.length < 18446744073709551616) (most : Int) (hm : (s.length : Int) ≤ most) :
    outString (pre ++ bytesOf s ++ rest) pre.length most = .ok s (pre.length + (bytesOf s).length) := by
  have e : pre ++ bytesOf s ++ rest = pre ++ groups s.length ++ (s ++ rest) := by simp [bytesOf]
  have hd : (pre ++ groups s.length ++ (s ++ rest)).drop (pre.length + (groups s.length).length) = s ++ rest := by rw [← List.length_append]; exact List.drop_left
  rw [e, outString, readAt_groups pre (s ++ rest) hs]
  simp only [Int.toNat_natCast]
  rw [if_neg (by omega), if_neg (by simp; omega), hd, List.take_left, bytesOf_length, Nat.add_assoc]
theorem outSection_back (pre s rest : List Nat) (id : Nat) (hs : s.length < 18446744073709551616) :
    outSection (pre ++ frameOf id s ++ rest) pre.length id = .ok s (pre.length + (frameOf id s).length) := by
  obtain ⟨t, ht⟩ : ∃ t, le4 (crcOf (id :: bytesOf s)) = t := ⟨_, rfl⟩
  have ht4 : t.length = 4 := by rw [← ht]; rfl
  have ef : frameOf id s = id :: bytesOf s ++ t := by rw [frameOf, withCrc, ht]
  have e : pre ++ frameOf id s ++ rest = (pre ++ [id]) ++ groups s.length ++ (s ++ t ++ rest) := by rw [ef]; simp [bytesOf]
  have h0 : (pre ++ frameOf id s ++ rest)[pre.length]? = some id := by rw [ef]; simp
  have hr := readAt_groups (pre ++ [id]) (s ++ t ++ rest) hs
  rw [← e] at hr
  have hpl : ((pre ++ [id]).length : Int) = ((pre.length + 1 : Nat) : Int) := by simp
  rw [hpl] at hr
  have hd : (pre ++ frameOf id s ++ rest).drop (pre.length + 1 + (groups s.length).length) = s ++ t ++ rest := by
    rw [e, show pre.length + 1 + (groups s.length).length = ((pre ++ [id]) ++ groups s.length).length by simp; omega]; exact List.drop_left
  have hlen : (pre ++ frameOf id s ++ rest).length = pre.length + 1 + (groups s.length).length + s.length + 4 + rest.length := by
    rw [List.length_append, List.length_append, frameOf_length]; omega
  have hk : ((pre ++ frameOf id s ++ rest).take (pre.length + 1 + (groups s.length).length + s.length + 4)).drop pre.length = frameOf id s := by
    have h1 : pre.length + 1 + (groups s.length).length + s.length + 4 = (pre ++ frameOf id s).length := by rw [List.length_append, frameOf_length]; omega
    rw [h1, List.take_left, List.drop_left]
  have hpl2 : (pre ++ [id]).length = pre.length + 1 := by simp
  rw [hpl2] at hr
  rw [outSection, h0]
  simp only [hr, ne_eq, not_true_eq_false, if_false, Int.toNat_natCast]
  rw [if_neg (by rw [hlen]; omega), hk, show isCrc (frameOf id s) = true from isCrc_withCrc _, if_pos rfl, hd, List.append_assoc, List.take_left, frameOf_length]
  congr 1
  omega
/-- A section that takes up all of the bytes ends with their checksum. -/
theorem outSection_whole {d : List Nat} (hd : ∀ c ∈ d, c < 256) {id : Nat} {g : List Nat} (h : outSection d 0 id = .ok g d.length) : isCrc d = true := by
  cases h0 : d[0]? with
  | none => rw [outSection, h0] at h; cases h
  | some c =>
    by_cases hc : c = id
    · subst hc
      rcases outSection_cases hd h0 with ⟨e, _, _, hr⟩ | ⟨x, to, _, _, hto, _, hr⟩
      · rw [hr] at h; cases h
      · rw [hr] at h
        split at h
        · cases h
        · split at h
          · next hk =>
            simp only [Out.ok.injEq] at h
            rw [h.2, List.take_length, List.drop_zero] at hk
            exact hk
          · cases h
    · rw [outSection_other h0 hc] at h; cases h
end Go.Proofs.YtkodhbkmpnokjaaGreat

end

section
/- Layer 10: tables of strings, their encoding and its reading, as functions on lists. No program in sight. -/
set_option linter.unusedVariables false
namespace Go.Proofs.YtkodhbkmpnokjaaGreat
open Go Go.RowKit

instance {α : Type} (lt : α → α → Bool) (l : List α) : Decidable (AscB lt l) := inferInstanceAs (Decidable (List.Pairwise _ _))
def tabS (l : List ByteArray) : List ByteArray := tabB ltS l
def Fits (t : List ByteArray) : Prop := ∀ s ∈ t, s.size ≤ 65535
instance (t : List ByteArray) : Decidable (Fits t) := inferInstanceAs (Decidable (∀ s ∈ t, _))
def encSy (t : List ByteArray) : List Nat := groups t.length ++ t.flatMap fun s => bytesOf (numsOf s)
/-- What Encode gives. -/
def encSyR (t : List ByteArray) : Nat × List Nat := if ¬ Fits t then (7, []) else if ¬ AscB ltS t then (16, []) else (0, encSy t)
def lastLt (acc : List ByteArray) (x : ByteArray) : Bool := match acc.getLast? with
  | none => true
  | some y => ltS y x
def decSyF (b : List Nat) : Nat → Nat → List ByteArray → Nat × List ByteArray
  | 0, a, acc => if a < b.length then (4, []) else (0, acc)
  | k + 1, a, acc => match outString b a 65535 with
    | .bad e => (e, [])
    | .ok s to => if lastLt acc (strOf s) then decSyF b k to (acc ++ [strOf s]) else (16, [])
/-- What Decode gives. -/
def decSy (b : List Nat) : Nat × List ByteArray := match readAt b 0 with
  | (n, a, 0) => if b.length - a.toNat < n then (3, []) else decSyF b n a.toNat []
  | (_, _, e + 1) => (e + 1, [])

theorem outString_inv {B : List Nat} (hB : ∀ c ∈ B, c < 256) {a : Nat} (ha : a ≤ B.length) {most : Int} {s : List Nat} {to : Nat} (h : outString B a most = .ok s to) :
    B.drop a = bytesOf s ++ B.drop to ∧ (s.length : Int) ≤ most ∧ to ≤ B.length ∧ (∀ c ∈ s, c < 256) ∧ a < to := by
  rcases outString_cases hB ha most with ⟨e, _, _, hr⟩ | ⟨x, t, hr, hat, htl, hx, ho⟩
  · rw [hr] at h; cases h
  · rw [ho] at h
    split at h
    · cases h
    · next h1 =>
      split at h
      · cases h
      · next h2 =>
        cases h
        rcases readAt_cases hB ha with ⟨e, he, hr'⟩ | ⟨y, n, hr', hn, hin, hg, hy⟩
        · rw [hr] at hr'; simp only [Prod.mk.injEq] at hr'; omega
        · rw [hr] at hr'
          simp only [Prod.mk.injEq] at hr'
          obtain ⟨rfl, e2, _⟩ := hr'
          obtain rfl : t = a + n := by omega
          have hlen : ((B.drop (a + n)).take x).length = x := by rw [List.length_take, List.length_drop]; omega
          refine ⟨?_, by rw [hlen]; omega, by omega, fun c hc => hB c (List.mem_of_mem_drop (List.mem_of_mem_take hc)), by omega⟩
          rw [bytesOf, hlen, List.append_assoc, ← hg]
          have e3 : List.take x (B.drop (a + n)) ++ B.drop (a + n + x) = B.drop (a + n) := by
            rw [show B.drop (a + n + x) = (B.drop (a + n)).drop x from by rw [List.drop_drop]]; exact List.take_append_drop _ _
          have e4 : (B.take (a + n)).drop a ++ B.drop (a + n) = B.drop a := by
            have : B.drop a = (B.take (a + n) ++ B.drop (a + n)).drop a := by rw [List.take_append_drop]
            rw [this, List.drop_append_of_le_length (by rw [List.length_take]; omega)]
          rw [e3, e4]
theorem strOf_size' (l : List Nat) : (strOf l).size = l.length := by simp [strOf, strOfNums, ByteArray.size]

theorem bytesOf_pos (s : List Nat) : 1 ≤ (bytesOf s).length := by rw [bytesOf_length]; have := groups_pos s.length; omega
theorem flat_pos (t : List ByteArray) : t.length ≤ (t.flatMap fun s => bytesOf (numsOf s)).length := by
  induction t with
  | nil => exact Nat.le_refl _
  | cons s t ih => rw [List.flatMap_cons, List.length_append, List.length_cons]; have := bytesOf_pos (numsOf s); omega
theorem lastLt_of {acc : List ByteArray} {x : ByteArray} {t : List ByteArray} (h : AscB ltS (acc ++ x :: t)) : lastLt acc x = true := by
  unfold lastLt
  split
  · rfl
  · next y hy => exact (List.pairwise_append.1 h).2.2 y (List.mem_of_getLast? hy) x (by simp)
theorem ascB_push {acc : List ByteArray} {x : ByteArray} (h : AscB ltS acc) (hl : lastLt acc x = true) : AscB ltS (acc ++ [x]) := by
  refine (ascB_snoc ltS_ok.toLtPre).2 ⟨h, fun y hy => ?_⟩
  unfold lastLt at hl
  rw [hy] at hl
  exact hl

theorem decSyF_back (t : List ByteArray) : ∀ (pre : List Nat) (acc : List ByteArray), AscB ltS (acc ++ t) → Fits t →
    decSyF (pre ++ t.flatMap fun s => bytesOf (numsOf s)) t.length pre.length acc = (0, acc ++ t) := by
  induction t with
  | nil => intro pre acc _ _; simp [decSyF]
  | cons x t ih =>
    intro pre acc ha hf
    have hx : x.size ≤ 65535 := hf x (by simp)
    rw [List.length_cons, decSyF, List.flatMap_cons, ← List.append_assoc]
    rw [outString_back pre (numsOf x) _ (by rw [numsOf_length]; omega) 65535 (by rw [numsOf_length]; omega)]
    simp only [strOf_numsOf]
    rw [if_pos (lastLt_of ha), ← List.length_append]
    have := ih (pre ++ bytesOf (numsOf x)) (acc ++ [x]) (by simpa using ha) (fun s hs => hf s (by simp [hs]))
    rw [this]; simp
theorem decSy_back (t : List ByteArray) (ha : AscB ltS t) (hf : Fits t) (hn : t.length < 18446744073709551616) : decSy (encSy t) = (0, t) := by
  have hr : readAt (encSy t) 0 = (t.length, (((groups t.length).length : Nat) : Int), 0) := by
    have := readAt_groups [] (t.flatMap fun s => bytesOf (numsOf s)) hn
    simpa [encSy] using this
  rw [decSy, hr]
  simp only [Int.toNat_natCast]
  rw [if_neg, encSy, decSyF_back t (groups t.length) [] (by simpa using ha) hf]
  · simp
  · rw [encSy, List.length_append]; have := flat_pos t; omega

theorem decSyF_err (b : List Nat) : ∀ (k a : Nat) (acc : List ByteArray), (decSyF b k a acc).1 ≠ 0 → (decSyF b k a acc).2 = [] := by
  intro k
  induction k with
  | zero => intro a acc h; rw [decSyF] at h ⊢; split at h <;> simp_all
  | succ k ih =>
    intro a acc h
    rw [decSyF] at h ⊢
    split
    · rfl
    · next s to ho =>
      simp only [ho] at h
      split
      · next hl => rw [if_pos hl] at h; exact ih _ _ h
      · rfl
theorem decSy_err (b : List Nat) (h : (decSy b).1 ≠ 0) : (decSy b).2 = [] := by
  rw [decSy] at h ⊢
  split
  · next n a hr =>
    simp only [hr] at h
    split
    · rfl
    · next hl => rw [if_neg hl] at h; exact decSyF_err _ _ _ _ h
  · rfl
theorem decSyF_inv {b : List Nat} (hb : ∀ c ∈ b, c < 256) : ∀ (k a : Nat) (acc u : List ByteArray), a ≤ b.length → decSyF b k a acc = (0, u) →
    ∃ t, u = acc ++ t ∧ b.drop a = (t.flatMap fun s => bytesOf (numsOf s)) ∧ t.length = k ∧ Fits t ∧ (AscB ltS acc → AscB ltS u) := by
  intro k
  induction k with
  | zero =>
    intro a acc u ha h
    rw [decSyF] at h
    split at h
    · cases h
    · next hn =>
      cases h
      exact ⟨[], by simp, by rw [List.drop_eq_nil_of_le (by omega)]; rfl, rfl, (fun _ h => by cases h), fun h => h⟩
  | succ k ih =>
    intro a acc u ha h
    rw [decSyF] at h
    split at h
    · next e ho =>
      obtain ⟨rfl, _⟩ := Prod.mk.inj h
      rcases outString_cases hb ha 65535 with ⟨e, he, _, hr⟩ | ⟨x, t, _, _, _, _, hr⟩
      · rw [hr] at ho; cases ho; exact absurd rfl he
      · rw [hr] at ho
        split at ho
        · cases ho
        · split at ho <;> cases ho
    · next s to ho =>
      obtain ⟨h1, h2, h3, h4, _⟩ := outString_inv hb ha ho
      split at h
      · next hl =>
        obtain ⟨t, e1, e2, e3, e4, e5⟩ := ih to _ u h3 h
        have hn : numsOf (strOf s) = s := numsOf_strOf h4
        refine ⟨strOf s :: t, by rw [e1]; simp, ?_, by rw [List.length_cons, e3], ?_, fun hacc => e5 (ascB_push hacc hl)⟩
        · rw [h1, e2, List.flatMap_cons, hn]
        · intro x hx
          rcases List.mem_cons.1 hx with rfl | hx
          · rw [strOf_size']; omega
          · exact e4 x hx
      · cases h
theorem decSy_inv {b : List Nat} (hb : ∀ c ∈ b, c < 256) {u : List ByteArray} (h : decSy b = (0, u)) : b = encSy u ∧ AscB ltS u ∧ Fits u := by
  rw [decSy] at h
  rcases readAt_cases hb (Nat.zero_le _) with ⟨e, he, hr⟩ | ⟨n, m, hr, hm, hin, hg, hn⟩
  · have hr0 : readAt b 0 = (0, 0, e) := hr
    obtain ⟨k, rfl⟩ : ∃ k, e = k + 1 := ⟨e - 1, by omega⟩
    rw [hr0] at h
    simp at h
  · have hr0 : readAt b 0 = (n, ((0 + m : Nat) : Int), 0) := hr
    rw [hr0] at h
    simp only [Int.toNat_natCast, Nat.zero_add] at h hin hg
    split at h
    · cases h
    · obtain ⟨t, e1, e2, e3, e4, e5⟩ := decSyF_inv hb n m [] u hin h
      rw [List.nil_append] at e1
      subst e1
      refine ⟨?_, e5 List.Pairwise.nil, e4⟩
      rw [encSy, e3, ← e2, ← hg]
      simp
theorem encSyR_ok {t : List ByteArray} (h : (encSyR t).1 = 0) : encSyR t = (0, encSy t) ∧ Fits t ∧ AscB ltS t := by
  unfold encSyR at h ⊢
  split at h
  · cases h
  · next h1 =>
    split at h
    · cases h
    · next h2 =>
      rw [if_neg h1, if_neg h2]
      exact ⟨rfl, Decidable.not_not.1 h1, Decidable.not_not.1 h2⟩
theorem encSyR_of {t : List ByteArray} (h1 : Fits t) (h2 : AscB ltS t) : encSyR t = (0, encSy t) := by
  unfold encSyR
  rw [if_neg (not_not_intro h1), if_neg (not_not_intro h2)]
theorem encSyR_err {t : List ByteArray} (h : (encSyR t).1 ≠ 0) : (encSyR t).2 = [] := by
  unfold encSyR at h ⊢
  split
  · rfl
  · next h1 =>
    split
    · rfl
    · next h2 => rw [if_neg h1, if_neg h2] at h; exact absurd rfl h
theorem encSy_lt (t : List ByteArray) : ∀ c ∈ encSy t, c < 256 := fun c hc => by
  rcases List.mem_append.1 hc with h | h
  · exact groups_lt _ c h
  · obtain ⟨s, _, h⟩ := List.mem_flatMap.1 h
    exact bytesOf_lt (numsOf_lt s) c h
end Go.Proofs.YtkodhbkmpnokjaaGreat

end

section
/- Layer 10: the reference's Table. -/
set_option linter.unusedVariables false
namespace Go.Proofs.YtkodhbkmpnokjaaGreat
open Go Go.RowKit

theorem tabS_snoc (l : List ByteArray) (x : ByteArray) : tabS (l ++ [x]) = insB ltS x (tabS l) := tabB_snoc l x

set_option maxRecDepth 20000 in
set_option maxHeartbeats 4000000 in
theorem ref_table10 (lv : Value) (l : List ByteArray) (w : World) (hl : Rd w 1 lv l.length (strs l)) (hn : l.length ≤ 1000000000) :
    Calls Tryz.prog 49 #[lv] w fun e w' => ∃ v, e = .returned v ∧ OwnS w w' (tabS l) v := by
  have HL := Lib.hid hl; have HNn := Lib.hid hn
  obtain ⟨pl, cl, hv⟩ := hl.shape
  subst hv
  clear hl hn
  go_enter Tryz.func49, Tryz.ntmps49
  go_wp2_with fail
  go_loopw [3, 4] (fun vv iv wr => ∃ (j : Nat), j ≤ l.length ∧ iv = .int .i64 (j : Int) ∧ Hid (OwnS w wr (tabS (l.take j)) vv)) (fun _ iv _ => l.length - (intOf iv).toNat)
  case atStart => exact ⟨0, by omega, rfl, Own1.nil w⟩
  case round =>
    obtain ⟨j, hj, rfl, HO⟩ := hrel
    by_cases hlt : j < l.length
    · have hlt' : (j : Int) < (l.length : Int) := by omega
      have hji : (j : Int) ≤ 1000000000 := by have := HNn.out; omega
      obtain ⟨b, off, c', e, _, _, _⟩ := HL.out.at (fun e => by have := congrArg List.length e; rw [strs_length] at this; simp at this; subst this; simp at hlt)
      simp only [Value.slice.injEq] at e
      obtain ⟨rfl, _, rfl⟩ := e
      obtain ⟨x, hx⟩ : ∃ x, l[j] = x := ⟨_, rfl⟩
      have HCt : Hid (∀ w', Below w.heap.size w w' → w'.cell? ⟨b, off + j, none⟩ = some (.string x)) := fun w' hb => by
        rw [← hx]; exact rd1_cell (HL.out.below hb) hlt
      have HSt : Hid (tabS (l.take (j + 1)) = insB ltS x (tabS (l.take j))) := by show _ = _; rw [List.take_add_one, List.getElem?_eq_getElem hlt, hx]; exact tabS_snoc _ _
      have hDl : (tabS (l.take j)).length ≤ 1000000000 := by have := tabB_len (lt := ltS) (l.take j); rw [List.length_take] at this; have := HNn.out; unfold tabS; omega
      have HA : Hid (AscB ltS (tabS (l.take j))) := tabB_asc ltS_ok (l.take j)
      clear hx
      generalize tabS (l.take j) = d at *
      obtain ⟨pv, cv, hvv⟩ := (Rd.of_owns HO.out.row).shape
      subst hvv
      obtain ⟨N, hN⟩ : ∃ N, d.length = N := ⟨_, rfl⟩
      rw [hN] at hDl HO ⊢
      have HNe : Hid (d.length = N) := hN
      clear hN
      have HD := Lib.hid hDl
      have hNi : (N : Int) ≤ 1000000000 := by omega
      clear hDl
      go_wp2_with fail
      go_loopw [5] (fun kv wr2 => ∃ (k : Nat), k ≤ N ∧ kv = .int .i64 (k : Int) ∧ Hid (∀ z ∈ d.take k, ltS z x = true) ∧ Hid (OwnS w wr2 d (.slice pv N cv))) (fun kv _ => N - (intOf kv).toNat)
      case atStart => exact ⟨0, Nat.zero_le _, rfl, (by intro z hz; simp at hz), HO.out⟩
      case round =>
        obtain ⟨k, hkN, rfl, HLo, HO2⟩ := hrel
        have hki : (k : Int) ≤ 1000000000 := by omega
        have hcx := HCt.out wr HO2.out.bel
        by_cases hk : k < N
        · have hk' : (k : Int) < (N : Int) := by omega
          obtain ⟨g0, cap0, hv0⟩ : ∃ g cap, (Value.slice pv N cv) = .slice (some ⟨g, 0, none⟩) N cap := by
            rcases owns_cases HO2.out.row with ⟨_, h0, _⟩ | ⟨g, cap, hv, _⟩
            · have := HNe.out; omega
            · rw [HNe.out] at hv; exact ⟨g, cap, hv⟩
          simp only [Value.slice.injEq] at hv0
          obtain ⟨rfl, _, rfl⟩ := hv0
          obtain ⟨y, hy⟩ : ∃ y, d[k]'(by have := HNe.out; omega) = y := ⟨_, rfl⟩
          have hcy : wr.cell? ⟨g0, k, none⟩ = some (.string y) := by rw [← hy]; exact (HO2.out.cell (i := k) (by have := HNe.out; omega)).1
          have HY : Hid (d[k]'(by have := HNe.out; omega) = y) := hy
          have HYd : Hid (d.drop k = y :: d.drop (k + 1)) := by show _ = _; rw [← hy, List.getElem_cons_drop]
          have HYt : Hid (d.take (k + 1) = d.take k ++ [y]) := by show _ = _; rw [List.take_add_one, List.getElem?_eq_getElem (by have := HNe.out; omega), hy]; rfl
          clear hy
          by_cases hyx : ltS y x = true
          · have hcmp : Op.bytesLess y.toList x.toList = true := hyx
            have HLo2 : Hid (∀ z ∈ d.take (k + 1), ltS z x = true) := by
              show ∀ z ∈ _, _
              rw [HYt.out]
              intro z hz
              rcases List.mem_append.1 hz with e | e
              · exact HLo.out z e
              · simp only [List.mem_singleton] at e; subst e; exact hyx
            clear hyx
            go_wp2_with fail
            go_quiet (fail)
            have HO3 := Lib.hid (HO2.out.drewN nq)
            clear hcx hcy HO2 HLo
            generalize wr.drewN nq = wn at *
            go_wp2_with fail
            go_round
            case rel => exact ⟨k + 1, by omega, by go_num, HLo2.out, HO3.out⟩
            case measure => simp [intOf]; omega
          · have hcmp0 : ltS y x = false := by simpa using hyx
            have hcmp : Op.bytesLess y.toList x.toList = false := hcmp0
            have HYX := Lib.hid hcmp0
            clear hcmp0
            clear hyx
            by_cases heq : y = x
            · subst heq
              have HS2 : Hid (tabS (l.take (j + 1)) = d) := by
                show _ = _
                rw [HSt.out]
                have e := insB_at ltS_ok.toLtPre y (d.take k) (d.drop (k + 1)) HLo.out
                rw [← HYd.out, List.take_append_drop] at e
                exact e
              have hse : (y.toList == y.toList) = true := by simp
              go_wp2_with fail
              go_quiet (fail)
              have HO3 := Lib.hid (HO2.out.drewN nq)
              have hcx2 : (wr.drewN nq).cell? ⟨b, off + j, none⟩ = some (.string y) := hcx
              have hcy2 : (wr.drewN nq).cell? ⟨g0, k, none⟩ = some (.string y) := hcy
              clear hcx hcy HO2
              generalize wr.drewN nq = wn at *
              go_wp2_with fail
              go_quiet (fail)
              have HO4 := Lib.hid (HO3.out.drewN nq)
              clear hcx2 hcy2 HO3
              generalize wn.drewN nq = wq at *
              go_wp2_with fail
              go_round
              case rel => exact ⟨j + 1, by omega, by go_num, by rw [HS2.out]; exact HO4.out⟩
              case measure => simp [intOf]; omega
            · have hse : (y.toList == x.toList) = false := by rw [eqS]; simpa using heq
              have HHi : Hid (∀ z, (d.drop k).head? = some z → ltS x z = true) := by
                intro z hz
                rw [HYd.out] at hz
                cases hz
                rcases Bool.eq_false_or_eq_true (ltS x y) with e | e
                · exact e
                · exact absurd (ltS_ok.tot y x HYX.out e) heq
              clear heq
              go_wp2_with fail
              go_quiet (fail)
              have HO3 := Lib.hid (HO2.out.drewN nq)
              have hcx2 : (wr.drewN nq).cell? ⟨b, off + j, none⟩ = some (.string x) := hcx
              have hcy2 : (wr.drewN nq).cell? ⟨g0, k, none⟩ = some (.string y) := hcy
              clear hcx hcy HO2
              generalize wr.drewN nq = wn at *
              go_wp2_with fail
              go_quiet (fail)
              have HOb := Lib.hid (HO3.out.drewN nq)
              clear hcx2 hcy2 HO3
              generalize wn.drewN nq = wb at *
              have HP : Hid (insB ltS x d = d.take k ++ x :: d.drop k) := by
                have e := insB_parts ltS_ok.toLtPre x (d.take k) (d.drop k) HLo.out HHi.out
                rwa [List.take_append_drop] at e
              have HLb : Hid ((N + 1) * 16 ≤ 140737488355328 ∧ N + 1 ≤ maxLen) := by show _ ∧ _; have := HD.out; unfold maxLen; omega
              have HOv : Hid (wb.ownsRow 0 9 1 (.slice (some ⟨g0, 0, none⟩) N cv) N (strs d)) := by
                have h := owns_rebase HOb.out.row (base' := 0) (fun _ _ => Nat.zero_le _)
                rw [HNe.out] at h
                exact h
              go_wp2_with (at_builtin; refine wpList_push Tryz.elemStr _ #[.string ⟨#[]⟩] _ _ _ HOv.out rfl (one_cell _ rfl) HLb.out rfl _ _ rfl rfl rfl ?_)
              intro v1 w1 k1 m1 f1
              have HO1 : Hid (OwnS w w1 (d ++ [⟨#[]⟩]) v1) := HOb.out.pushed (by rw [HNe.out]; exact k1) m1 f1
              obtain ⟨g, c1, hv1⟩ : ∃ g cap, v1 = .slice (some ⟨g, 0, none⟩) (N + 1) cap := by
                rcases owns_cases k1 with ⟨_, h0, _⟩ | ⟨g, cap, hv, _⟩
                · omega
                · exact ⟨g, cap, hv⟩
              subst hv1
              clear k1 m1 f1 HOv HOb
              go_wp2_with fail
              go_loopw [6] (fun mv wr2 => ∃ (m : Nat) (y : ByteArray), k ≤ m ∧ m ≤ N ∧ mv = .int .i64 (m : Int) ∧ Hid (OwnS w wr2 (d.take m ++ y :: d.drop m) (.slice (some ⟨g, 0, none⟩) (N + 1) c1))) (fun mv _ => (intOf mv).toNat)
              case atStart => exact ⟨N, ⟨#[]⟩, hkN, Nat.le_refl _, rfl, by
                show OwnS _ _ _ _
                rw [List.drop_of_length_le (by have := HNe.out; omega), List.take_of_length_le (by have := HNe.out; omega)]
                exact HO1.out⟩
              case round =>
                obtain ⟨m, y, hkm, hmN, rfl, HO2⟩ := hrel
                have hlen : (d.take m ++ y :: d.drop m).length = N + 1 := by
                  rw [List.length_append, List.length_cons, List.length_take, List.length_drop]; have := HNe.out; omega
                have HLen := Lib.hid hlen
                have hmi : (m : Int) ≤ 1000000000 := by have := HD.out; omega
                have hmN' : (m : Int) < (N : Int) + 1 := by omega
                have hfm := (HO2.out.cell (i := m) (by have := HLen.out; omega)).2
                have hcm := (HO2.out.cell (i := m) (by have := HLen.out; omega)).1
                have hcx := HCt.out wr HO2.out.bel
                generalize (d.take m ++ y :: d.drop m)[m] = yy at hcm
                clear hlen
                by_cases hmk : k < m
                · have hmk' : (k : Int) < (m : Int) := by omega
                  obtain ⟨q, rfl⟩ : ∃ q, m = q + 1 := ⟨m - 1, by omega⟩
                  obtain ⟨z, hz⟩ : ∃ z, d[q]? = some z := ⟨_, List.getElem?_eq_getElem (by have := HNe.out; omega)⟩
                  have HZe := Lib.hid hz
                  have hcz : wr.cell? ⟨g, q, none⟩ = some (.string z) := by
                    rw [(HO2.out.cell (i := q) (by have := HLen.out; omega)).1, ← (List.getElem?_eq_some_iff.1 hz).2]
                    congr 2
                    rw [List.getElem_append_left (by rw [List.length_take]; have := HNe.out; omega), List.getElem_take]
                  have hqs : ((q + 1 : Nat) : Int) - 1 = (q : Int) := by omega
                  have hq0 : (0 : Int) ≤ (q : Int) := by omega
                  have HKM : Hid (k ≤ q + 1 ∧ k < q + 1 ∧ q + 1 ≤ N) := ⟨hkm, hmk, hmN⟩
                  have hqi : (q : Int) ≤ 999999999 := by omega
                  clear hz hkm hmk hmN hmi
                  have HDn : Hid (OwnS w (wr.setCell ⟨g, q + 1, none⟩ (.string z)) (d.take q ++ z :: d.drop q) (.slice (some ⟨g, 0, none⟩) (N + 1) c1)) := by
                    show OwnS _ _ _ _
                    rw [← shift_eqG d q (by have := HNe.out; have := HKM.out; omega) z (List.getElem?_eq_some_iff.1 HZe.out).2]
                    exact HO2.out.stored (shift_setG d (q + 1) y z (by have := HNe.out; have := HKM.out; omega))
                  clear HO2
                  go_wp2_with fail
                  go_round
                  case rel => exact ⟨q, z, by have := HKM.out; omega, by have := HKM.out; omega, by go_num, HDn.out⟩
                  case measure => simp [intOf]
                · have hmk2 : m = k := by omega
                  have hmk' : ¬ (k : Int) < (m : Int) := by omega
                  have HOk : Hid (OwnS w wr (d.take k ++ y :: d.drop k) (.slice (some ⟨g, 0, none⟩) (N + 1) c1)) := by
                    have h := HO2.out
                    rw [hmk2] at h
                    exact h
                  clear hcm hfm
                  have hlen : (d.take k ++ y :: d.drop k).length = N + 1 := by have h := HLen.out; rw [hmk2] at h; exact h
                  have hfk := (HOk.out.cell (i := k) (by omega)).2
                  have hck := (HOk.out.cell (i := k) (by omega)).1
                  have hkN2 : (k : Int) < (N : Int) + 1 := by omega
                  generalize (d.take k ++ y :: d.drop k)[k] = yk at hck
                  have HDn : Hid (OwnS w (wr.setCell ⟨g, k, none⟩ (.string x)) (insB ltS x d) (.slice (some ⟨g, 0, none⟩) (N + 1) c1)) := by
                    show OwnS _ _ _ _
                    rw [HP.out]
                    exact HOk.out.stored (shift_setG d k y x (by have := HNe.out; omega))
                  clear hmk2 hlen HOk hkm hmk hmN
                  clear HO2
                  go_wp2_with fail
                  go_round
                  case rel => exact ⟨j + 1, by omega, by go_num, by rw [HSt.out]; exact HDn.out⟩
                  case measure => simp [intOf]; omega
        · obtain rfl : N = k := by omega
          have hk' : ¬ (N : Int) < (N : Int) := by omega
          have HHi : Hid (∀ z, (d.drop N).head? = some z → ltS x z = true) := by
            intro z hz
            rw [List.drop_of_length_le (by have := HNe.out; omega)] at hz
            cases hz
          go_wp2_with fail
          go_quiet (fail)
          have HO3 := Lib.hid (HO2.out.drewN nq)
          clear hcx HO2
          generalize wr.drewN nq = wn at *
          go_wp2_with fail
          go_quiet (fail)
          have HOb := Lib.hid (HO3.out.drewN nq)
          clear HO3
          generalize wn.drewN nq = wb at *
          have HP : Hid (insB ltS x d = d.take N ++ x :: d.drop N) := by
            have e := insB_parts ltS_ok.toLtPre x (d.take N) (d.drop N) HLo.out HHi.out
            rwa [List.take_append_drop] at e
          have HLb : Hid ((N + 1) * 16 ≤ 140737488355328 ∧ N + 1 ≤ maxLen) := by show _ ∧ _; have := HD.out; unfold maxLen; omega
          have HOv : Hid (wb.ownsRow 0 9 1 (.slice pv N cv) N (strs d)) := by
            have h := owns_rebase HOb.out.row (base' := 0) (fun _ _ => Nat.zero_le _)
            rw [HNe.out] at h
            exact h
          go_wp2_with (at_builtin; refine wpList_push Tryz.elemStr _ #[.string ⟨#[]⟩] _ _ _ HOv.out rfl (one_cell _ rfl) HLb.out rfl _ _ rfl rfl rfl ?_)
          intro v1 w1 k1 m1 f1
          have HO1 : Hid (OwnS w w1 (d ++ [⟨#[]⟩]) v1) := HOb.out.pushed (by rw [HNe.out]; exact k1) m1 f1
          obtain ⟨g, c1, hv1⟩ : ∃ g cap, v1 = .slice (some ⟨g, 0, none⟩) (N + 1) cap := by
            rcases owns_cases k1 with ⟨_, h0, _⟩ | ⟨g, cap, hv, _⟩
            · omega
            · exact ⟨g, cap, hv⟩
          subst hv1
          clear k1 m1 f1 HOv HOb
          go_wp2_with fail
          go_loopw [6] (fun mv wr2 => ∃ (m : Nat) (y : ByteArray), N ≤ m ∧ m ≤ N ∧ mv = .int .i64 (m : Int) ∧ Hid (OwnS w wr2 (d.take m ++ y :: d.drop m) (.slice (some ⟨g, 0, none⟩) (N + 1) c1))) (fun mv _ => (intOf mv).toNat)
          case atStart => exact ⟨N, ⟨#[]⟩, Nat.le_refl _, Nat.le_refl _, rfl, by
            show OwnS _ _ _ _
            rw [List.drop_of_length_le (by have := HNe.out; omega), List.take_of_length_le (by have := HNe.out; omega)]
            exact HO1.out⟩
          case round =>
            obtain ⟨m, y, hNm, hmN, rfl, HO2⟩ := hrel
            have hlen : (d.take m ++ y :: d.drop m).length = N + 1 := by
              rw [List.length_append, List.length_cons, List.length_take, List.length_drop]; have := HNe.out; omega
            have HLen := Lib.hid hlen
            have hmi : (m : Int) ≤ 1000000000 := by have := HD.out; omega
            have hmN' : (m : Int) < (N : Int) + 1 := by omega
            have hfm := (HO2.out.cell (i := m) (by have := HLen.out; omega)).2
            have hcm := (HO2.out.cell (i := m) (by have := HLen.out; omega)).1
            have hcx := HCt.out wr HO2.out.bel
            generalize (d.take m ++ y :: d.drop m)[m] = yy at hcm
            clear hlen
            by_cases hmk : N < m
            · exfalso; omega
            · have hmk2 : m = N := by omega
              have hmk' : ¬ (N : Int) < (m : Int) := by omega
              have HOk : Hid (OwnS w wr (d.take N ++ y :: d.drop N) (.slice (some ⟨g, 0, none⟩) (N + 1) c1)) := by
                have h := HO2.out
                rw [hmk2] at h
                exact h
              clear hcm hfm
              have hlen : (d.take N ++ y :: d.drop N).length = N + 1 := by have h := HLen.out; rw [hmk2] at h; exact h
              have hfk := (HOk.out.cell (i := N) (by omega)).2
              have hck := (HOk.out.cell (i := N) (by omega)).1
              have hkN2 : (N : Int) < (N : Int) + 1 := by omega
              generalize (d.take N ++ y :: d.drop N)[N] = yk at hck
              have HDn : Hid (OwnS w (wr.setCell ⟨g, N, none⟩ (.string x)) (insB ltS x d) (.slice (some ⟨g, 0, none⟩) (N + 1) c1)) := by
                show OwnS _ _ _ _
                rw [HP.out]
                exact HOk.out.stored (shift_setG d N y x (by have := HNe.out; omega))
              clear hmk2 hlen HOk hNm hmk hmN
              clear HO2
              go_wp2_with fail
              go_round
              case rel => exact ⟨j + 1, by omega, by go_num, by rw [HSt.out]; exact HDn.out⟩
              case measure => simp [intOf]; omega
    · have hlt' : ¬ (j : Int) < (l.length : Int) := by omega
      rw [List.take_of_length_le (by omega)] at HO
      obtain ⟨pv, cv, hvv⟩ := (Rd.of_owns HO.out.row).shape
      subst hvv
      go_wp2_with fail
      go_ret
      exact ⟨_, rfl, HO.out⟩
end Go.Proofs.YtkodhbkmpnokjaaGreat

end

section
/- Layer 12: the reference's Symbols. -/
set_option linter.unusedVariables false
set_option maxRecDepth 20000
namespace Go.Proofs.YtkodhbkmpnokjaaGreat
open Go Go.RowKit

/-- The names and values of all labels. -/
def symsB (b : List Ser) : List ByteArray := b.flatMap fun s => stringsL s.1
theorem symsB_step {b : List Ser} {i : Nat} {s : Ser} (h : b[i]? = some s) : symsB (b.take (i + 1)) = symsB (b.take i) ++ stringsL s.1 := by
  rw [symsB, List.take_add_one, h, List.flatMap_append]; simp [symsB]
theorem symsB_len {b : List Ser} (h : ∀ s ∈ b, s.1.length ≤ 200) (i : Nat) : (symsB (b.take i)).length ≤ 400 * i := by
  have key : ∀ (l : List Ser) (i : Nat), (∀ s ∈ l, s.1.length ≤ 200) → (symsB (l.take i)).length ≤ 400 * i := by
    intro l
    induction l with
    | nil => intro i _; simp [symsB]
    | cons s l ih =>
      intro i h
      cases i with
      | zero => simp [symsB]
      | succ i =>
        have h1 := ih i (fun s hs => h s (by simp [hs]))
        have h2 := h s (by simp)
        have h3 := stringsL_len s.1
        rw [symsB] at h1 ⊢
        rw [List.take_succ_cons, List.flatMap_cons, List.length_append]
        omega
  exact key b i h

set_option maxHeartbeats 2000000 in
theorem ref_symbols12 (bv : Value) (b : List Ser) (w : World) (h : RdB w bv b) (hs : Small b) :
    Calls Tryz.prog 22 #[bv] w fun e w' => ∃ v, e = .returned v ∧ OwnS w w' (tabS (symsB b)) v := by
  have H := Lib.hid h; have HSm := Lib.hid hs
  obtain ⟨p, c, hv⟩ := h.shape
  subst hv
  have hmx : (b.length : Int) ≤ 300 := by have := hs.len; omega
  clear h hs
  go_enter Tryz.func22, Tryz.ntmps22
  go_wp2_with fail
  go_loopw [3, 4] (fun vv iv wr => ∃ (i : Nat), i ≤ b.length ∧ iv = .int .i64 (i : Int) ∧ Hid (OwnS w wr (symsB (b.take i)) vv)) (fun _ iv _ => b.length - (intOf iv).toNat)
  case atStart => exact ⟨0, Nat.zero_le _, rfl, Own1.nil w⟩
  case round =>
    obtain ⟨i, hi, rfl, HO⟩ := hrel
    have him : (i : Int) ≤ 300 := by omega
    obtain ⟨pv, cv, hvv⟩ := HO.out.shape
    subst hvv
    by_cases hlt : i < b.length
    · have hlt' : (i : Int) < (b.length : Int) := by omega
      obtain ⟨⟨ls, ss⟩, hx⟩ : ∃ s, b[i]? = some s := ⟨_, List.getElem?_eq_getElem hlt⟩
      obtain ⟨blk, off, h1, h2, e, ⟨p1, k1, e1⟩, _, hal⟩ := H.out.always hx
      subst e
      simp only at e1
      subst e1
      have hll := HSm.out.lab _ (List.mem_of_getElem? hx)
      have HL1 : Hid (ls.length ≤ 200) := hll
      have HSt := Lib.hid (symsB_step hx)
      have HLn : Hid ((symsB (b.take i)).length ≤ 120000) := by show _ ≤ _; have := symsB_len HSm.out.lab i; omega
      obtain ⟨c1, _, hsr⟩ := hal wr HO.out.bel
      have HStr := Lib.hid (ref_strings11 _ ls wr hsr.1 (by have := HL1.out; omega))
      have HSl := Lib.hid (stringsL_len ls)
      clear hx hal hsr hll
      generalize symsB (b.take i) = D at *
      obtain ⟨dl, hdl⟩ : ∃ dl, D.length = dl := ⟨_, rfl⟩
      have HDl := Lib.hid hdl
      rw [hdl] at HO HLn ⊢
      clear hdl
      go_wp2_with fail
      refine HStr.out.mono ?_
      rintro e w2 ⟨r, rfl, hS⟩
      obtain ⟨p2, c2, hv2⟩ := hS.shape
      subst hv2
      have HO2 := Lib.hid (HO.out.below hS.bel)
      have HS2 := Lib.hid hS.rd
      generalize stringsL ls = E at *
      obtain ⟨el, hel⟩ : ∃ el, E.length = el := ⟨_, rfl⟩
      have HEl := Lib.hid hel
      rw [hel] at HS2 HSl ⊢
      clear hS HO c1 hel
      have HOv : Hid (w2.ownsRow 0 9 1 (.slice pv dl cv) dl (strs D)) := by
        have h := HO2.out.base0
        rw [HDl.out] at h
        exact h
      have HLb : Hid ((dl + el) * 16 ≤ 140737488355328 ∧ dl + el ≤ maxLen) := by show _ ∧ _; have := HSl.out; have := HL1.out; have := HLn.out; unfold maxLen; omega
      go_wp2_with (at_builtin; refine wpList_extend Tryz.elemStr _ _ _ _ _ _ _ HOv.out HS2.out (strs_one E) HLb.out rfl _ _ rfl rfl rfl ?_)
      intro v3 w3 k1 m1 f1
      have HO3 : Hid (OwnS w w3 (symsB (b.take (i + 1))) v3) := by
        show OwnS _ _ _ _
        rw [HSt.out]
        exact HO2.out.extended (by rw [HDl.out, HEl.out]; exact k1) m1 f1
      obtain ⟨p3, c3, hv3⟩ := (Rd.of_owns k1).shape
      subst hv3
      clear k1 m1 f1 HO2 HOv
      go_wp2_with fail
      go_round
      case rel => exact ⟨i + 1, by omega, by go_num, HO3.out⟩
      case measure => simp [intOf]; omega
    · have hlt' : ¬ (i : Int) < (b.length : Int) := by omega
      have HE : Hid (b.take i = b) := List.take_of_length_le (by omega)
      have HLn : Hid ((symsB (b.take i)).length ≤ 120000) := by show _ ≤ _; have := symsB_len HSm.out.lab i; omega
      have HT := Lib.hid (ref_table10 _ (symsB (b.take i)) wr HO.out.rd (by have := HLn.out; omega))
      have HBel := Lib.hid HO.out.bel
      rw [HE.out] at HT HO HLn ⊢
      clear HE HO
      go_wp2_with fail
      refine HT.out.mono ?_
      rintro e w2 ⟨r, rfl, hO⟩
      have HO2 : Hid (OwnS w w2 (tabS (symsB b)) r) := ⟨owns_rebase hO.row (fun k hk => by have := (hO.row.lt k hk).1; have := HBel.out.size; omega), HBel.out.trans (hO.bel.mono HBel.out.size)⟩
      obtain ⟨p2, c2, hv2⟩ := hO.shape
      subst hv2
      clear hO HT
      go_wp2_with fail
      go_ret
      exact ⟨_, rfl, HO2.out⟩
end Go.Proofs.YtkodhbkmpnokjaaGreat

end

section
/- Layer 12: what the walks ask of the program's Check, Normalize, Equal, Samples and Symbols and Clone, whatever they look like inside. -/
set_option linter.unusedVariables false
namespace Go.Proofs.YtkodhbkmpnokjaaGreat
open Go Go.RowKit

/-- A clone: rows of the call's own, the heads' row and all rows of labels and of samples in blocks of their own. -/
structure GotC (w : World) (b : List Ser) (r : Value) (w' : World) : Prop where
  ex : ∃ hs : List Hd, OwnH w w' hs r ∧ hs.length = b.length ∧
    (∀ (i : Nat) (h : Hd) (s : Ser), hs[i]? = some h → b[i]? = some s → w'.ownsRow w.heap.size 39 2 h.1 s.1.length (labCells s.1) ∧ w'.ownsRow w.heap.size 42 2 h.2 s.2.length (samCells s.2)) ∧
    (∀ (i : Nat) (h : Hd) (k : Nat), hs[i]? = some h → r.ownBlock = some k → h.1.ownBlock ≠ some k ∧ h.2.ownBlock ≠ some k) ∧
    (∀ (i : Nat) (h : Hd) (k : Nat), hs[i]? = some h → h.1.ownBlock = some k → h.2.ownBlock ≠ some k) ∧
    (∀ (i j : Nat) (h g : Hd) (k : Nat), i ≠ j → hs[i]? = some h → hs[j]? = some g → h.1.ownBlock = some k ∨ h.2.ownBlock = some k → g.1.ownBlock ≠ some k ∧ g.2.ownBlock ≠ some k)
theorem GotC.rd {w w' : World} {b : List Ser} {r : Value} (h : GotC w b r w') : RdB w' r b := by
  obtain ⟨hs, h1, h2, h3, _⟩ := h.ex
  exact ⟨hs, h1.rd, h2, fun i h s hi hj => ⟨Rd.of_owns (h3 i h s hi hj).1, Rd.of_owns (h3 i h s hi hj).2⟩⟩
theorem GotC.bel {w w' : World} {b : List Ser} {r : Value} (h : GotC w b r w') : Below w.heap.size w w' := by
  obtain ⟨hs, h1, _⟩ := h.ex
  exact h1.bel

/-- T w: what the program's own memory, in the blocks below G, must hold. -/
structure MoIf (G : Nat) (T : World → Prop) : Prop where
  keeps : ∀ {S : Nat → Prop} {w w' : World}, T w → Mods S w w' → (∀ k, k < G → ¬ S k) → T w'
  low : ∀ {w : World}, T w → G ≤ w.heap.size
  check : ∀ (bv : Value) (b : List Ser) (w : World), T w → RdB w bv b → Sized b → Small b →
    Calls Tryz.prog 11 #[bv] w fun e w' => e = .returned (.int .i64 (checkB b : Int)) ∧ Below w.heap.size w w'
  norm : ∀ (bv : Value) (b : List Ser) (w : World), T w → RdB w bv b → Sized b → Small b →
    Calls Tryz.prog 13 #[bv] w (GotN w (normB b))
  equal : ∀ (av bv : Value) (a b : List Ser) (w : World), T w → RdB w av a → RdB w bv b → Sized a → Sized b → Small a → Small b →
    Calls Tryz.prog 16 #[av, bv] w fun e w' => e = .returned (.bool (decide (a = b))) ∧ Below w.heap.size w w'
  samples : ∀ (bv : Value) (b : List Ser) (w : World), T w → RdB w bv b → Sized b → Small b →
    Calls Tryz.prog 18 #[bv] w fun e w' => e = .returned (.int .i64 (samplesB b : Int)) ∧ Below w.heap.size w w'
  symbols : ∀ (bv : Value) (b : List Ser) (w : World), T w → RdB w bv b → Sized b → Small b →
    Calls Tryz.prog 21 #[bv] w fun e w' => ∃ r, e = .returned r ∧ GotL w (tabS (symsB b)) r w'
  clone : ∀ (bv : Value) (b : List Ser) (w : World), T w → RdB w bv b → Sized b → Small b →
    Calls Tryz.prog 17 #[bv] w fun e w' => ∃ r, e = .returned r ∧ GotC w b r w'
theorem MoIf.below {G : Nat} {T : World → Prop} (I : MoIf G T) {w w' : World} (h : T w) (hb : Below w.heap.size w w') : T w' := I.keeps h (Mods.of_below hb (fun _ => False)) (fun _ _ h => h)
end Go.Proofs.YtkodhbkmpnokjaaGreat

end

section
/- Layer 10: the statements' own bounds. -/
set_option linter.unusedVariables false
namespace Go.Proofs.YtkodhbkmpnokjaaGreat
open Go Go.RowKit

set_option maxHeartbeats 2000000 in
theorem large10 (lv : Value) (l : List ByteArray) (w : World) (hl : Rd w 1 lv l.length (strs l)) (hs : ∀ s ∈ l, s.size ≤ 9223372036854775807) :
    Calls Tryz.prog 51 #[lv] w fun e w' => (e = .returned (.int .i64 1) ∨ (e = .returned (.int .i64 0) ∧ l.length ≤ 500 ∧ ∀ s ∈ l, s.size ≤ 200000)) ∧ Below w.heap.size w w' := by
  have HL := Lib.hid hl; have HS := Lib.hid hs
  obtain ⟨pl, cl, hv⟩ := hl.shape
  subst hv
  have hmax : (l.length : Int) ≤ 9223372036854775807 := by have := hl.le; unfold maxLen at this; omega
  clear hl hs
  go_enter Tryz.func51, Tryz.ntmps51
  go_wp2_with fail
  go_loopw [3, 8] (fun nv iv wr => ∃ (j N : Nat), j ≤ l.length ∧ N ≤ 200000 ∧ nv = .int .i64 (N : Int) ∧ iv = .int .i64 (j : Int) ∧ Hid ((j = 0 ∨ l.length ≤ 500) ∧ ∀ s ∈ l.take j, s.size ≤ 200000) ∧ Hid (Below w.heap.size w wr)) (fun _ iv _ => l.length - (intOf iv).toNat)
  case atStart => exact ⟨0, 0, Nat.zero_le _, Nat.zero_le _, rfl, rfl, ⟨Or.inl rfl, by intro s hs; simp at hs⟩, Below.refl _ _⟩
  case round =>
    obtain ⟨j, N, hj, hN, rfl, rfl, HF, HB⟩ := hrel
    have hNi : (N : Int) ≤ 200000 := by omega
    by_cases hlt : j < l.length
    · have hlt' : (j : Int) < (l.length : Int) := by omega
      obtain ⟨b, off, c', e, _, _, _⟩ := HL.out.at (fun e => by have := congrArg List.length e; rw [strs_length] at this; simp at this; subst this; simp at hlt)
      simp only [Value.slice.injEq] at e
      obtain ⟨rfl, _, rfl⟩ := e
      obtain ⟨x, hx⟩ : ∃ x, l[j]? = some x := ⟨_, List.getElem?_eq_getElem hlt⟩
      have hcx : wr.cell? ⟨b, off + j, none⟩ = some (.string x) := by rw [← (List.getElem?_eq_some_iff.1 hx).2]; exact rd1_cell (HL.out.below HB.out) hlt
      have HX := Lib.hid hx
      have hxm : (x.size : Int) ≤ 9223372036854775807 := by have := HS.out x (List.mem_of_getElem? hx); omega
      clear hx
      by_cases hz : (x.size : Int) ≤ 200000
      · by_cases hS : N + (1 + x.size) ≤ 200000
        · have hS' : ¬ (200000 : Int) < (N : Int) + (1 + (x.size : Int)) := by omega
          have hSm : (N : Int) + (1 + (x.size : Int)) ≤ 200000 := by omega
          by_cases h5 : l.length ≤ 500
          · have h5' : ¬ (500 : Int) < (l.length : Int) := by omega
            have HF2 : Hid ((j + 1 = 0 ∨ l.length ≤ 500) ∧ ∀ s ∈ l.take (j + 1), s.size ≤ 200000) := by
              refine ⟨Or.inr h5, fun s hs => ?_⟩
              rw [List.take_add_one, HX.out] at hs
              rcases List.mem_append.1 hs with e | e
              · exact HF.out.2 s e
              · simp at e; subst e; omega
            have hcs : ((N + (1 + x.size) : Nat) : Int) = (N : Int) + (1 + (x.size : Int)) := by omega
            have HCs := Lib.hid hcs
            have HH : Hid (N + (1 + x.size) ≤ 200000) := hS
            clear h5 hS hcs
            go_wp2_with fail
            go_round
            case rel => exact ⟨j + 1, N + (1 + x.size), by omega, HH.out, by rw [HCs.out], by go_num, HF2.out, HB.out⟩
            case measure => simp [intOf]; omega
          · have h5' : (500 : Int) < (l.length : Int) := by omega
            clear h5 hS
            go_wp2_with fail
            go_ret
            exact ⟨Or.inl rfl, HB.out⟩
        · have hS' : (200000 : Int) < (N : Int) + (1 + (x.size : Int)) := by omega
          clear hS
          go_wp2_with fail
          go_ret
          exact ⟨Or.inl rfl, HB.out⟩
      · have hz' : (200000 : Int) ≤ (x.size : Int) := by omega
        have hS' : (200000 : Int) < (N : Int) + 200001 := by omega
        go_wp2_with fail
        go_ret
        exact ⟨Or.inl rfl, HB.out⟩
    · have hlt' : ¬ (j : Int) < (l.length : Int) := by omega
      have HD : Hid (l.length ≤ 500 ∧ ∀ s ∈ l, s.size ≤ 200000) := by
        have h := HF.out
        rw [List.take_of_length_le (by omega)] at h
        refine ⟨?_, h.2⟩
        rcases h.1 with e | e <;> omega
      go_wp2_with fail
      go_ret
      exact ⟨Or.inr ⟨rfl, HD.out⟩, HB.out⟩
end Go.Proofs.YtkodhbkmpnokjaaGreat

end

section
/- Layer 11: labels whose strings a machine can hold. No program in sight. -/
namespace Go.Proofs.YtkodhbkmpnokjaaGreat

/-- Labels whose strings a machine can hold. -/
def LabSized (l : List Lab) : Prop := ∀ x ∈ l, x.1.size ≤ 9223372036854775807 ∧ x.2.size ≤ 9223372036854775807
end Go.Proofs.YtkodhbkmpnokjaaGreat

end

section
/- Layer 11: the statements' own bound. -/
set_option linter.unusedVariables false
namespace Go.Proofs.YtkodhbkmpnokjaaGreat
open Go Go.RowKit

theorem stringsL_mem {l : List Lab} {x : Lab} (h : x ∈ l) : x.1 ∈ stringsL l ∧ x.2 ∈ stringsL l := by
  rw [stringsL]
  exact ⟨List.mem_flatMap.2 ⟨x, h, by simp⟩, List.mem_flatMap.2 ⟨x, h, by simp⟩⟩
set_option maxHeartbeats 1000000 in
theorem large11 (lv : Value) (l : List Lab) (w : World) (hl : Rd w 2 lv l.length (labCells l)) (hs : LabSized l) :
    Calls Tryz.prog 27 #[lv] w fun e w' => (e = .returned (.int .i64 1) ∨ (e = .returned (.int .i64 0) ∧ l.length ≤ 200 ∧ ∀ s ∈ stringsL l, s.size ≤ 200000)) ∧ Below w.heap.size w w' := by
  have HL := Lib.hid hl; have HS := Lib.hid hs
  obtain ⟨pl, cl, hv⟩ := hl.shape
  subst hv
  clear hl hs
  by_cases hlt : (200 : Int) < (l.length : Int)
  · go_enter Tryz.func27, Tryz.ntmps27
    go_wp2_with fail
    go_ret
    exact ⟨Or.inl rfl, Below.refl _ _⟩
  · have HN : Hid (l.length ≤ 200) := by show _ ≤ _; omega
    have HSt := Lib.hid (ref_strings11 _ l w HL.out (by omega))
    have HSs : Hid (∀ s ∈ stringsL l, s.size ≤ 9223372036854775807) := fun s hs => by
      obtain ⟨x, hx, h⟩ := List.mem_flatMap.1 hs
      simp only [List.mem_cons, List.not_mem_nil, or_false] at h
      rcases h with rfl | rfl
      · exact (HS.out x hx).1
      · exact (HS.out x hx).2
    generalize stringsL l = st at *
    go_enter Tryz.func27, Tryz.ntmps27
    go_wp2_with fail
    refine HSt.out.mono ?_
    rintro e w2 ⟨r, rfl, hO⟩
    have HB2 := Lib.hid hO.bel
    have HLg := Lib.hid (large10 _ st w2 hO.rd HSs.out)
    obtain ⟨p2, c2, hv⟩ := hO.shape
    subst hv
    clear hO HSt
    go_wp2_with fail
    refine HLg.out.mono ?_
    rintro e w3 ⟨he, hB⟩
    have HB3 := Lib.hid (HB2.out.trans (hB.mono HB2.out.size))
    rcases he with rfl | ⟨rfl, _, h6⟩
    · go_wp2_with fail
      go_ret
      exact ⟨Or.inl rfl, HB3.out⟩
    · have H6 := Lib.hid h6
      clear h6
      go_wp2_with fail
      go_ret
      exact ⟨Or.inr ⟨rfl, HN.out, H6.out⟩, HB3.out⟩
end Go.Proofs.YtkodhbkmpnokjaaGreat

end
