/- SymP, TabS, PoT, LabSz, AlivP, Alive16, Range, VarintA, Crc03A, Crc03B, in one text. -/
import Derived.Test.YtlgphgipfjlbfaaDoorMrg8
import Derived.Test.YtlgphgipfjlbfaaDoorMrg1
import Derived.Test.YtlgphgipfjlbfaaDoorMrg9
import Derived.Test.YtlgphgipfjlbfaaDoorMrg4
import Derived.Test.YtlgphgipfjlbfaaDoorMrg5
import Derived.Test.YtlgphgipfjlbfaaDoorMrg7
import Derived.RangeFuncNested
import Derived.RangeFuncBound
import Derived.RangeFuncCalls
import Derived.RangeFuncLeaves
import Derived.RangeFuncBox
import Derived.OwnWalkIn
import Derived.Shelf.Abstract
import Derived.TacticsInMore
import Derived.LoopNIn
import Derived.LoopIn
import Derived.Test.YtlgphgipfjlbfaaDoorMrg3
import Derived.OwnWalk

section
/- Layer 10: tables of strings, their encoding and its reading, as functions on lists. No program in sight. -/
set_option linter.unusedVariables false
namespace Go.Proofs.YtlgphgipfjlbfaaDoor
open Go Go.RowKit

instance {α : Type} (lt : α → α → Bool) (l : List α) : Decidable (AscB lt l) := inferInstanceAs (Decidable (List.Pairwise _ _))
def tabS (l : List ByteArray) : List ByteArray := tabB ltS l
def Fits (t : List ByteArray) : Prop := ∀ s ∈ t, s.size ≤ 65535
instance (t : List ByteArray) : Decidable (Fits t) := inferInstanceAs (Decidable (∀ s ∈ t, _))
def encSy (t : List ByteArray) : List Nat := groups t.length ++ t.flatMap fun s => bytesOf (numsOf s)
/-- What Encode gives. -/
def encSyR (t : List ByteArray) : Nat × List Nat := if ¬ Fits t then (7, []) else if ¬ AscB ltS t then (16, []) else (0, encSy t)
def lastLt (acc : List ByteArray) (x : ByteArray) : Bool := match acc.getLast? with
  | none => true
  | some y => ltS y x
def decSyF (b : List Nat) : Nat → Nat → List ByteArray → Nat × List ByteArray
  | 0, a, acc => if a < b.length then (4, []) else (0, acc)
  | k + 1, a, acc => match outString b a 65535 with
    | .bad e => (e, [])
    | .ok s to => if lastLt acc (strOf s) then decSyF b k to (acc ++ [strOf s]) else (16, [])
/-- What Decode gives. -/
def decSy (b : List Nat) : Nat × List ByteArray := match readAt b 0 with
  | (n, a, 0) => if b.length - a.toNat < n then (3, []) else decSyF b n a.toNat []
  | (_, _, e + 1) => (e + 1, [])

theorem outString_inv {B : List Nat} (hB : ∀ c ∈ B, c < 256) {a : Nat} (ha : a ≤ B.length) {most : Int} {s : List Nat} {to : Nat} (h : outString B a most = .ok s to) :
    B.drop a = bytesOf s ++ B.drop to ∧ (s.length : Int) ≤ most ∧ to ≤ B.length ∧ (∀ c ∈ s, c < 256) ∧ a < to := by
  rcases outString_cases hB ha most with ⟨e, _, _, hr⟩ | ⟨x, t, hr, hat, htl, hx, ho⟩
  · rw [hr] at h; cases h
  · rw [ho] at h
    split at h
    · cases h
    · next h1 =>
      split at h
      · cases h
      · next h2 =>
        cases h
        rcases readAt_cases hB ha with ⟨e, he, hr'⟩ | ⟨y, n, hr', hn, hin, hg, hy⟩
        · rw [hr] at hr'; simp only [Prod.mk.injEq] at hr'; omega
        · rw [hr] at hr'
          simp only [Prod.mk.injEq] at hr'
          obtain ⟨rfl, e2, _⟩ := hr'
          obtain rfl : t = a + n := by omega
          have hlen : ((B.drop (a + n)).take x).length = x := by rw [List.length_take, List.length_drop]; omega
          refine ⟨?_, by rw [hlen]; omega, by omega, fun c hc => hB c (List.mem_of_mem_drop (List.mem_of_mem_take hc)), by omega⟩
          rw [bytesOf, hlen, List.append_assoc, ← hg]
          have e3 : List.take x (B.drop (a + n)) ++ B.drop (a + n + x) = B.drop (a + n) := by
            rw [show B.drop (a + n + x) = (B.drop (a + n)).drop x from by rw [List.drop_drop]]; exact List.take_append_drop _ _
          have e4 : (B.take (a + n)).drop a ++ B.drop (a + n) = B.drop a := by
            have : B.drop a = (B.take (a + n) ++ B.drop (a + n)).drop a := by rw [List.take_append_drop]
            rw [this, List.drop_append_of_le_length (by rw [List.length_take]; omega)]
          rw [e3, e4]
theorem strOf_size' (l : List Nat) : (strOf l).size = l.length := by simp [strOf, strOfNums, ByteArray.size]

theorem bytesOf_pos (s : List Nat) : 1 ≤ (bytesOf s).length := by rw [bytesOf_length]; have := groups_pos s.length; omega
theorem flat_pos (t : List ByteArray) : t.length ≤ (t.flatMap fun s => bytesOf (numsOf s)).length := by
  induction t with
  | nil => exact Nat.le_refl _
  | cons s t ih => rw [List.flatMap_cons, List.length_append, List.length_cons]; have := bytesOf_pos (numsOf s); omega
theorem lastLt_of {acc : List ByteArray} {x : ByteArray} {t : List ByteArray} (h : AscB ltS (acc ++ x :: t)) : lastLt acc x = true := by
  unfold lastLt
  split
  · rfl
  · next y hy => exact (List.pairwise_append.1 h).2.2 y (List.mem_of_getLast? hy) x (by simp)
theorem ascB_push {acc : List ByteArray} {x : ByteArray} (h : AscB ltS acc) (hl : lastLt acc x = true) : AscB ltS (acc ++ [x]) := by
  refine (ascB_snoc ltS_ok.toLtPre).2 ⟨h, fun y hy => ?_⟩
  unfold lastLt at hl
  rw [hy] at hl
  exact hl

theorem decSyF_back (t : List ByteArray) : ∀ (pre : List Nat) (acc : List ByteArray), AscB ltS (acc ++ t) → Fits t →
    decSyF (pre ++ t.flatMap fun s => bytesOf (numsOf s)) t.length pre.length acc = (0, acc ++ t) := by
  induction t with
  | nil => intro pre acc _ _; simp [decSyF]
  | cons x t ih =>
    intro pre acc ha hf
    have hx : x.size ≤ 65535 := hf x (by simp)
    rw [List.length_cons, decSyF, List.flatMap_cons, ← List.append_assoc]
    rw [outString_back pre (numsOf x) _ (by rw [numsOf_length]; omega) 65535 (by rw [numsOf_length]; omega)]
    simp only [strOf_numsOf]
    rw [if_pos (lastLt_of ha), ← List.length_append]
    have := ih (pre ++ bytesOf (numsOf x)) (acc ++ [x]) (by simpa using ha) (fun s hs => hf s (by simp [hs]))
    rw [this]; simp
theorem decSy_back (t : List ByteArray) (ha : AscB ltS t) (hf : Fits t) (hn : t.length < 18446744073709551616) : decSy (encSy t) = (0, t) := by
  have hr : readAt (encSy t) 0 = (t.length, (((groups t.length).length : Nat) : Int), 0) := by
    have := readAt_groups [] (t.flatMap fun s => bytesOf (numsOf s)) hn
    simpa [encSy] using this
  rw [decSy, hr]
  simp only [Int.toNat_natCast]
  rw [if_neg, encSy, decSyF_back t (groups t.length) [] (by simpa using ha) hf]
  · simp
  · rw [encSy, List.length_append]; have := flat_pos t; omega

theorem decSyF_err (b : List Nat) : ∀ (k a : Nat) (acc : List ByteArray), (decSyF b k a acc).1 ≠ 0 → (decSyF b k a acc).2 = [] := by
  intro k
  induction k with
  | zero => intro a acc h; rw [decSyF] at h ⊢; split at h <;> simp_all
  | succ k ih =>
    intro a acc h
    rw [decSyF] at h ⊢
    split
    · rfl
    · next s to ho =>
      simp only [ho] at h
      split
      · next hl => rw [if_pos hl] at h; exact ih _ _ h
      · rfl
theorem decSy_err (b : List Nat) (h : (decSy b).1 ≠ 0) : (decSy b).2 = [] := by
  rw [decSy] at h ⊢
  split
  · next n a hr =>
    simp only [hr] at h
    split
    · rfl
    · next hl => rw [if_neg hl] at h; exact decSyF_err _ _ _ _ h
  · rfl
theorem decSyF_inv {b : List Nat} (hb : ∀ c ∈ b, c < 256) : ∀ (k a : Nat) (acc u : List ByteArray), a ≤ b.length → decSyF b k a acc = (0, u) →
    ∃ t, u = acc ++ t ∧ b.drop a = (t.flatMap fun s => bytesOf (numsOf s)) ∧ t.length = k ∧ Fits t ∧ (AscB ltS acc → AscB ltS u) := by
  intro k
  induction k with
  | zero =>
    intro a acc u ha h
    rw [decSyF] at h
    split at h
    · cases h
    · next hn =>
      cases h
      exact ⟨[], by simp, by rw [List.drop_eq_nil_of_le (by omega)]; rfl, rfl, (fun _ h => by cases h), fun h => h⟩
  | succ k ih =>
    intro a acc u ha h
    rw [decSyF] at h
    split at h
    · next e ho =>
      obtain ⟨rfl, _⟩ := Prod.mk.inj h
      rcases outString_cases hb ha 65535 with ⟨e, he, _, hr⟩ | ⟨x, t, _, _, _, _, hr⟩
      · rw [hr] at ho; cases ho; exact absurd rfl he
      · rw [hr] at ho
        split at ho
        · cases ho
        · split at ho <;> cases ho
    · next s to ho =>
      obtain ⟨h1, h2, h3, h4, _⟩ := outString_inv hb ha ho
      split at h
      · next hl =>
        obtain ⟨t, e1, e2, e3, e4, e5⟩ := ih to _ u h3 h
        have hn : numsOf (strOf s) = s := numsOf_strOf h4
        refine ⟨strOf s :: t, by rw [e1]; simp, ?_, by rw [List.length_cons, e3], ?_, fun hacc => e5 (ascB_push hacc hl)⟩
        · rw [h1, e2, List.flatMap_cons, hn]
        · intro x hx
          rcases List.mem_cons.1 hx with rfl | hx
          · rw [strOf_size']; omega
          · exact e4 x hx
      · cases h
theorem decSy_inv {b : List Nat} (hb : ∀ c ∈ b, c < 256) {u : List ByteArray} (h : decSy b = (0, u)) : b = encSy u ∧ AscB ltS u ∧ Fits u := by
  rw [decSy] at h
  rcases readAt_cases hb (Nat.zero_le _) with ⟨e, he, hr⟩ | ⟨n, m, hr, hm, hin, hg, hn⟩
  · have hr0 : readAt b 0 = (0, 0, e) := hr
    obtain ⟨k, rfl⟩ : ∃ k, e = k + 1 := ⟨e - 1, by omega⟩
    rw [hr0] at h
    simp at h
  · have hr0 : readAt b 0 = (n, ((0 + m : Nat) : Int), 0) := hr
    rw [hr0] at h
    simp only [Int.toNat_natCast, Nat.zero_add] at h hin hg
    split at h
    · cases h
    · obtain ⟨t, e1, e2, e3, e4, e5⟩ := decSyF_inv hb n m [] u hin h
      rw [List.nil_append] at e1
      subst e1
      refine ⟨?_, e5 List.Pairwise.nil, e4⟩
      rw [encSy, e3, ← e2, ← hg]
      simp
theorem encSyR_ok {t : List ByteArray} (h : (encSyR t).1 = 0) : encSyR t = (0, encSy t) ∧ Fits t ∧ AscB ltS t := by
  unfold encSyR at h ⊢
  split at h
  · cases h
  · next h1 =>
    split at h
    · cases h
    · next h2 =>
      rw [if_neg h1, if_neg h2]
      exact ⟨rfl, Decidable.not_not.1 h1, Decidable.not_not.1 h2⟩
theorem encSyR_of {t : List ByteArray} (h1 : Fits t) (h2 : AscB ltS t) : encSyR t = (0, encSy t) := by
  unfold encSyR
  rw [if_neg (not_not_intro h1), if_neg (not_not_intro h2)]
theorem encSyR_err {t : List ByteArray} (h : (encSyR t).1 ≠ 0) : (encSyR t).2 = [] := by
  unfold encSyR at h ⊢
  split
  · rfl
  · next h1 =>
    split
    · rfl
    · next h2 => rw [if_neg h1, if_neg h2] at h; exact absurd rfl h
theorem encSy_lt (t : List ByteArray) : ∀ c ∈ encSy t, c < 256 := fun c hc => by
  rcases List.mem_append.1 hc with h | h
  · exact groups_lt _ c h
  · obtain ⟨s, _, h⟩ := List.mem_flatMap.1 h
    exact bytesOf_lt (numsOf_lt s) c h
end Go.Proofs.YtlgphgipfjlbfaaDoor

end

section
/- A table made of strings: its order, its length, its strings. -/
set_option linter.unusedVariables false
set_option maxRecDepth 20000
namespace Go.Proofs.YtlgphgipfjlbfaaDoor
open Go Go.RowKit

theorem tabS_asc (l : List ByteArray) : AscB ltS (tabS l) := tabB_asc ltS_ok l

theorem tabS_mem (l : List ByteArray) (s : ByteArray) : s ∈ tabS l ↔ s ∈ l := tabB_mem ltS_ok l s
theorem tabS_fits {l : List ByteArray} (h : ∀ s ∈ l, s.size ≤ 65535) : Fits (tabS l) := fun s hs => h s ((tabS_mem l s).1 hs)

theorem tabS_len (l : List ByteArray) : (tabS l).length ≤ l.length := tabB_len l
end Go.Proofs.YtlgphgipfjlbfaaDoor

end

section
/- Layer 15: an index and the table of its own strings. No program in sight. -/
set_option linter.unusedVariables false
namespace Go.Proofs.YtlgphgipfjlbfaaDoor
open Go Go.RowKit

theorem one_fits {x : Lab} (h : oneL x = 0) : x.1.size ≤ 65535 ∧ x.2.size ≤ 65535 := by
  rw [oneL] at h
  split at h
  · cases h
  · split at h
    · cases h
    · omega
theorem strings_fit {m : List (List Lab)} (h : SmallP m) : ∀ s ∈ m.flatMap stringsL, s.size ≤ 65535 := by
  intro s hs
  obtain ⟨y, hy, hs⟩ := List.mem_flatMap.1 hs
  obtain ⟨x, hx, hs⟩ := List.mem_flatMap.1 hs
  have h1 := one_fits (h.one y hy x hx)
  simp only [List.mem_cons, List.not_mem_nil, or_false] at hs
  rcases hs with rfl | rfl
  · exact h1.1
  · exact h1.2
theorem labs_in_table (m : List (List Lab)) : ∀ e ∈ buildP m, labIn (tabS (m.flatMap stringsL)) e.1 := by
  intro e he
  rw [build_idx] at he
  obtain ⟨y, hy, hx⟩ := List.mem_flatten.1 (idx_mem he).1
  have h1 : e.1.1 ∈ stringsL y := List.mem_flatMap.2 ⟨e.1, hx, by simp⟩
  have h2 : e.1.2 ∈ stringsL y := List.mem_flatMap.2 ⟨e.1, hx, by simp⟩
  exact ⟨(tabS_mem _ _).2 (List.mem_flatMap.2 ⟨y, hy, h1⟩), (tabS_mem _ _).2 (List.mem_flatMap.2 ⟨y, hy, h2⟩)⟩
theorem SmallI.okE {n : Nat} {l : List Ent} (h : SmallI n l) {t : List ByteArray} (ht : ∀ e ∈ l, labIn t e.1) : okEnts t (n : Int) l :=
  okEnts_iff.2 ⟨h.idx, ht, by have := h.ok.len; omega, fun e he => by have := (h.ok.ser e he).2; omega⟩
end Go.Proofs.YtlgphgipfjlbfaaDoor

end

section
/- Layer 11: labels whose strings a machine can hold. No program in sight. -/
namespace Go.Proofs.YtlgphgipfjlbfaaDoor

/-- Labels whose strings a machine can hold. -/
def LabSized (l : List Lab) : Prop := ∀ x ∈ l, x.1.size ≤ 9223372036854775807 ∧ x.2.size ≤ 9223372036854775807
end Go.Proofs.YtlgphgipfjlbfaaDoor

end

section
/- Layer 15: the example of the chapter, as lists. No program in sight. -/
set_option linter.unusedVariables false
set_option maxRecDepth 20000
namespace Go.Proofs.YtlgphgipfjlbfaaDoor
open Go Go.RowKit

def a15 : Lab := (lA, l1)
def b15 : Lab := (lB, l2)
def mAB : List (List Lab) := [[a15], [a15, b15]]
def iAB : List Ent := [(a15, [0, 1]), (b15, [1])]
def tAB : List ByteArray := [l1, l2, lA, lB]
theorem cmp_ab15 : cmpLab a15 b15 = -1 := by
  have h0 : ordB ltS lA lB = -1 := by rw [ordB, if_pos lAB]
  rw [cmpLab, cmpP]
  show (if ordB ltS lA lB = 0 then _ else ordB ltS lA lB) = -1
  rw [h0]; rfl
theorem cmp_aa15 : cmpLab a15 a15 = 0 := cmpLab_ok.refl _
theorem ins1_15 : insR a15 0 [] = [(a15, [0])] := rfl
theorem ins2_15 : insR a15 1 [(a15, [0])] = [(a15, [0, 1])] := by
  have h : insB ltI 1 [0] = [0, 1] := by decide
  simp [insR, insStep, cmp_aa15, h]
theorem ins3_15 : insR b15 1 [(a15, [0, 1])] = iAB := by
  simp [insR, insStep, cmp_ab15, iAB]
theorem build_ab15 : buildP mAB = iAB := by
  have h : buildP mAB = insR b15 1 (insR a15 1 (insR a15 0 [])) := rfl
  rw [h, ins1_15, ins2_15, ins3_15]
theorem lt_2a : ltS l2 lA = true := by simp [ltS, l2, lA, ByteArray.toList_eq, Op.bytesLess]
theorem asc_t15 : AscB ltS tAB := by
  have h1 := l12; have h2 := lt_2a; have h3 := lAB
  have h4 := ltS_ok.tr _ _ _ h1 h2
  have h5 := ltS_ok.tr _ _ _ h2 h3
  have h6 := ltS_ok.tr _ _ _ h4 h3
  simp [AscB, tAB, h1, h2, h3, h4, h5, h6]
theorem fits_t15 : Fits tAB := by
  intro s hs
  simp only [tAB, List.mem_cons, List.not_mem_nil, or_false] at hs
  rcases hs with rfl | rfl | rfl | rfl <;> decide
theorem ix1 : idxT tAB l1 = 0 := by rw [idxT, findS_at (asc_nodup asc_t15) (n := 0) rfl]; rfl
theorem ix2 : idxT tAB l2 = 1 := by rw [idxT, findS_at (asc_nodup asc_t15) (n := 1) rfl]; rfl
theorem ixA : idxT tAB lA = 2 := by rw [idxT, findS_at (asc_nodup asc_t15) (n := 2) rfl]; rfl
theorem ixB : idxT tAB lB = 3 := by rw [idxT, findS_at (asc_nodup asc_t15) (n := 3) rfl]; rfl
theorem in_t15 : ∀ e ∈ iAB, labIn tAB e.1 := by
  intro e he
  simp only [iAB, List.mem_cons, List.not_mem_nil, or_false] at he
  rcases he with rfl | rfl <;> exact ⟨by simp [tAB, a15, b15], by simp [tAB, a15, b15]⟩
theorem bytes_ab15 : entsBytes tAB iAB = [2, 2, 0, 2, 0, 1, 3, 1, 1, 1] := by
  simp [entsBytes, iAB, entBytes, labBytes, serBytes, fManyS, serB, a15, b15, ix1, ix2, ixA, ixB, groups_small]
theorem one_ab15 : ∀ x ∈ [a15, b15], oneL x = 0 := one_ab11
theorem small_ab15 : SmallP mAB := by
  refine ⟨by decide, by decide, fun s hs x hx => ?_, fun s hs => ?_, fun s hs x hx => ?_⟩
  · have hx2 : x = a15 ∨ x = b15 := by
      simp only [mAB, List.mem_cons, List.not_mem_nil, or_false] at hs
      rcases hs with rfl | rfl
      · simp at hx; exact Or.inl hx
      · simpa using hx
    rcases hx2 with rfl | rfl <;> exact ⟨by decide, by decide⟩
  · simp only [mAB, List.mem_cons, List.not_mem_nil, or_false] at hs
    rcases hs with rfl | rfl
    · exact List.pairwise_singleton _ _
    · exact asc_ab11
  · simp only [mAB, List.mem_cons, List.not_mem_nil, or_false] at hs
    rcases hs with rfl | rfl
    · simp at hx; subst hx; exact one_ab15 _ (by simp)
    · exact one_ab15 x hx
theorem smallI_ab15 : SmallI 2 iAB := by have h := small_idx small_ab15; rw [build_ab15] at h; exact h
theorem enc_ab15 : encPoR tAB iAB = (0, [2, 2, 0, 2, 0, 1, 3, 1, 1, 1]) := by rw [encPo_ok in_t15, bytes_ab15]
theorem dec_ab15 : decPo tAB 2 [2, 2, 0, 2, 0, 1, 3, 1, 1, 1] = (0, iAB) := by
  rw [← bytes_ab15]
  exact decPo_back asc_t15 (by decide) (by decide) (by decide) (smallI_ab15.okE in_t15)
theorem find_ab15 : findP iAB a15 = [0, 1] := by simp [findP, iAB]
theorem named_ab15 : namedP iAB lB = [1] := by
  have h : lA ≠ lB := ltS_ok.ne lAB
  simp [namedP, iAB, a15, b15, h]
  decide
theorem sized_a15 : LabSized [a15] := by
  intro x hx
  simp only [List.mem_singleton] at hx
  subst hx
  exact ⟨by decide, by decide⟩
end Go.Proofs.YtlgphgipfjlbfaaDoor

end

section
/- Layer 16: the example of the chapter, over the interface. -/
set_option linter.unusedVariables false
set_option linter.unusedSimpArgs false
set_option maxRecDepth 20000
namespace Go.Proofs.YtlgphgipfjlbfaaDoor
open Go Go.RowKit
variable {G : Nat} {T : World → Prop}

theorem ok_no : okS4 noSecs := fun d hd => by
  have h : d = [] := by simpa [noSecs] using hd
  subst h
  refine ⟨?_, by decide⟩
  intro c hc
  cases hc
theorem frame_no (id : Nat) : (frameOf id []).length = 6 := by
  rw [frameOf, withCrc_length, bytesOf, show ([] : List Nat).length = 0 from rfl, groups_small (by decide)]; rfl
theorem offs_no : offs 1 5 noSecs = [5, 11, 17, 23] := by simp [offs, noSecs, frame_no]
theorem put_no : (putS 1 noSecs).length = 24 := by simp [putS, noSecs, frame_no]
theorem asm_no_len : (asmL noSecs).length = 47 := by
  rw [asmL, List.length_append, withCrc_length, bodyL, List.length_append, List.length_append, put_no, offs_no, frameOf, withCrc_length, contents]
  simp [bytesOf, groups_small, headL, tailL]
theorem ats_no : atsOf noSecs = [5, 11, 17, 23, 29] := by rw [atsOf, offs_no, put_no]; rfl
theorem lay_no : lay (asmL noSecs) = (noSecs, [5, 11, 17, 23, 29], 0) := by
  rw [lay_back rfl ok_no (by rw [asm_no_len]; decide), ats_no]
theorem cert_x : certE [120] = 10 := by decide
theorem rd_no (w : World) : RdS w nil4 noSecs := rdS_none w

set_option maxHeartbeats 4000000 in
theorem alive_of16 (I : LyIf G T) (w : World) (hT : T w) : Calls Tryd.prog 10 #[] w fun e w' => e = .returned (.bool true) ∧ Below w.heap.size w w' := by
  have HT := Lib.hid hT
  clear hT
  have has := I.assemble nil4 noSecs w HT.out (rd_no w) rfl ok_no (by rw [asm_no_len]; decide)
  have hlen := asm_no_len
  have hlt := asmL_lt (S := noSecs) rfl ok_no
  have hly := lay_no
  obtain ⟨B, hB⟩ : ∃ B, asmL noSecs = B := ⟨_, rfl⟩
  rw [hB] at has hlen hlt hly
  rw [hlen] at has
  have HAs := Lib.hid has; have HLt := Lib.hid hlt; have HLy := Lib.hid hly; have HLn := Lib.hid hlen
  clear has hlt hly hlen hB
  go_enter Tryd.func10, Tryd.ntmps10
  go_wp2_with fail
  refine HAs.out.mono ?_
  rintro e w1 ⟨r, rfl, hr, _, hB⟩
  have HR1 : Hid (Rd w1 1 r B.length (u8s B)) := by show Rd _ _ _ _ _; rw [HLn.out]; exact hr
  obtain ⟨p, c, hv⟩ : ∃ p c, r = .slice p 47 c := hr.shape
  subst hv
  have HB1 := Lib.hid hB
  have HT1 := Lib.hid (I.below HT.out hB)
  clear hr hB HAs HT
  go_wp2_with fail
  have hof := I.offsets _ B w1 HT1.out HR1.out HLt.out (by rw [HLn.out]; decide)
  rw [HLy.out] at hof
  have HOf := Lib.hid hof
  clear hof
  refine HOf.out.mono ?_
  rintro e w2 ⟨rfl, hB⟩
  have HB2 := Lib.hid (HB1.out.trans (hB.mono HB1.out.size))
  have HT2 := Lib.hid (I.below HT1.out hB)
  have HR2 := Lib.hid (HR1.out.below hB)
  clear hB HB1 HT1 HR1 HOf
  go_wp2_with (refine wpList_varA arrI rfl rfl rfl _ _ rfl (natI [5, 11, 17, 23, 29]) rfl rfl rfl (one_natI _) ?_; intro w3 hk3 hb3 hs3)
  have HB3 : Hid (Below w.heap.size w w3) := HB2.out.trans (hb3.mono HB2.out.size)
  have HT3 := Lib.hid (I.below HT2.out hb3)
  have HR3 := Lib.hid (HR2.out.below hb3)
  have hpa := I.parse _ B w3 HT3.out HR3.out HLt.out (by rw [HLn.out]; decide)
  rw [HLy.out] at hpa
  have HPa := Lib.hid hpa
  have HK3 := Lib.hid hk3
  obtain ⟨g2, hg2⟩ : ∃ g2, w2.heap.size = g2 := ⟨_, rfl⟩
  rw [hg2] at HK3 ⊢
  clear hpa hk3 hb3 hs3 HB2 HT2 HR2 hg2
  go_wp2_with fail
  refine HPa.out.mono ?_
  rintro e w4 ⟨vs, rfl, hS, hB⟩
  have HS4 : Hid (RdS w4 vs noSecs) := hS
  have HB4 := Lib.hid (HB3.out.trans (hB.mono HB3.out.size))
  have HT4 := Lib.hid (I.below HT3.out hB)
  have HK4 := Lib.hid (HK3.out.of_same (hB.block _ HK3.out.lt))
  have HV : Hid (vs.length = 4) := HS4.out.len
  obtain ⟨p0, c0, hv0, _⟩ := HS4.out.get (i := 0) (d := []) rfl
  have HV0 := Lib.hid hv0
  clear hS hB HPa HB3 HT3 HR3 HK3 hv0
  have kc := fun (w : World) (C : Array Value) (n c : Nat) => Lib.run_convert_bytes_const (P := Tryd.prog) w 22 5 C n c Tryd.underlying22 Tryd.underlying5
  go_wp2_with (first
    | (refine wpList_varA arrS rfl rfl rfl _ _ rfl vs rfl rfl HV.out HS4.out.one ?_; intro w5 hk5 hb5 hs5; have d0 : w5.cell? ⟨w4.heap.size, 0, none⟩ = some (.slice p0 0 c0) := (by rw [hk5.cell]; exact HV0.out); clear hs5)
    | (refine wpList_loadG arrI rfl _ rfl g2 rfl _ (HK4.out.of_same (hb5.block _ HK4.out.lt)) rfl ?_)
    | (refine wpList_eql5 arrI Tryd.underlying3 (by kernel_rfl) rfl _ _ rfl [5, 11, 17, 23, 29] [5, 11, 17, 23, 29] rfl rfl rfl rfl ?_))
  have HB5 : Hid (Below w.heap.size w w5) := HB4.out.trans (hb5.mono HB4.out.size)
  have HT5 := Lib.hid (I.below HT4.out hb5)
  have hbc : Below w5.heap.size w5 (w5.alloc (.cells #[.int .u8 120] 5 (1, 2))) := (Below.refl _ _).alloc (Nat.le_refl _) _
  have hrd := lit_rd_mark w5 #[.int .u8 120] (1, 2) [120] 1 rfl rfl (by decide)
  have hce := I.certain _ [120] _ (I.below HT5.out hbc) hrd (by decide) (by decide)
  rw [cert_x] at hce
  refine hce.mono ?_
  rintro e w6 ⟨rfl, hB⟩
  have HB6 : Hid (Below w.heap.size w w6) := (HB5.out.trans (hbc.mono HB5.out.size)).trans (hB.mono (HB5.out.trans (hbc.mono HB5.out.size)).size)
  clear hB hce hrd hbc hk5 hb5 d0
  go_wp2_with fail
  go_ret
  exact ⟨rfl, HB6.out⟩
end Go.Proofs.YtlgphgipfjlbfaaDoor

end

section
/- A range over a function, at the widest fence. No program in sight. -/
namespace Go.Proofs.YtlgphgipfjlbfaaDoor
open Go Go.RowKit Go.Shelf

/-- In a round an operation that defers nothing is carried out as everywhere. -/
theorem operIn_round {P : Program} {l n : Nat} {o : Oper} {a : Act} {w : World} {next next' : Act → World → Prop} {Q : Exit → Act → World → Prop} (hd : ∀ c, o.op ≠ .defer c) (hn : ∀ a w, next a w → next' a w) (hQ : ¬ LetsOut Q)
    (h : o.wp P a w next Q) : o.wpIn (Fence.wide.inRound l) n P a w next' Q := by
  refine ⟨fun _ _ => trivial, ?_⟩
  show o.uponIn _ n P a next' Q ((o.semAt (some l) a.eval).run P w)
  rw [Oper.semAt_some l a.eval o hd]
  unfold Oper.wp at h
  have hdep : (Fence.wide.inRound l).depth.isSome = true → 1 ≤ n := fun h => by cases h
  revert h
  generalize (execOp a.eval o).run P w = r
  intro h
  cases r with
  | ok v w1 =>
    cases v with
    | value v => exact hn _ _ h
    | skip => exact hn _ _ h
    | defer d => exact hn _ _ h
    | enter f args =>
      refine ⟨hdep, CallsIn.inRound l (callsIn_wide.2 (Calls.mono h ?_))⟩
      intro e w2 h2
      cases e with
      | returned v => exact hn _ _ h2
      | panicked ch => exact h2
      | outgrown => exact absurd h2 hQ
    | row row args =>
      refine ⟨hdep, fun c cs _ => ?_⟩
      obtain ⟨v, w2, h2, s⟩ := h c cs
      exact ⟨v, w2, hn _ _ h2, stepsIn_wide.2 s⟩
    | _ => exact h.elim
  | halt hh w1 =>
    cases hh with
    | panic v => exact h
    | _ => exact h.elim

theorem wpListIn_round {P : Program} {l n : Nat} {ops : Array Oper} {Q : Exit → Act → World → Prop} (hQ : ¬ LetsOut Q) : ∀ (os : List Oper) (a : Act) (w : World), (∀ o ∈ os, ∀ c, o.op ≠ .defer c) →
    wpList P ops Q os a w → wpListIn (Fence.wide.inRound l) n P ops Q os a w
  | [], _, _, _, h => h
  | o :: os, a, w, hd, h => by
    unfold wpListIn
    unfold wpList at h
    split
    · next hw =>
      rw [if_pos hw] at h
      rcases h with h | h
      · exact operIn_round (hd o (by simp)) (fun a w => wpListIn_round hQ os a w (fun o h => hd o (by simp [h]))) hQ h
      · exact absurd h.2 hQ
    · next hw =>
      rw [if_neg hw] at h
      exact ⟨fun _ _ => trivial, wpListIn_round hQ os _ _ (fun o h => hd o (by simp [h])) h⟩

/-! ### What the caller says of its own memory abides the loop's own steps -/
theorem row_other {W : World} {row : Option Nat} {b : Nat} {cs : Array Value} {t : TypeId} {fz : Nat × Nat} (h : W.heap[b]? = some (.cells cs t fz)) (hr : ∀ r, row = some r → ∃ o : Obj, W.heap[r]? = some o ∧ o.isCells = false) : some b ≠ row := fun e => by
  obtain ⟨o, ho, hc⟩ := hr b e.symm
  rw [h] at ho; cases ho; cases hc
theorem own_blk {β : Type} (b : Nat) (f : β → List Value) : Own (fun s W => Blk W b (f s)) := by
  rintro s W W' row ⟨t, h⟩ hg hr
  exact ⟨t, (hg.block b (Array.getElem?_eq_some_iff.1 h).1 (row_other h hr)).trans h⟩
theorem owns_abides {W W' : World} {row : Option Nat} {base : Nat} {e : TypeId} {sz : Nat} {v : Value} {n : Nat} {xs : List Value} (h : W.ownsRow base e sz v n xs) (hg : W.grownBy W' row) (hr : ∀ r, row = some r → ∃ o : Obj, W.heap[r]? = some o ∧ o.isCells = false) : W'.ownsRow base e sz v n xs := by
  refine h.kept hg ?_
  rcases h.2 with ⟨rfl, _⟩ | ⟨g, cap, cur, rfl, _, hgb, _⟩
  · exact .inl rfl
  · exact .inr (fun e => row_other hgb hr e)
theorem ownFrom_mods {β : Type} {B : Nat} {S : Nat → Prop} {w : World} (hB : w.heap.size ≤ B) : OwnFrom B (fun (_ : β) W => Mods S w W) := by
  intro s W W' row h hg hr
  refine ⟨hg.os.trans h.os, hg.tape.trans h.tape, hg.output.trans h.output, Nat.le_trans h.size hg.size, fun k hk hs => ?_⟩
  refine (hg.block k (by have := h.size; omega) (fun e => ?_)).trans (h.block k hk hs)
  have := (hr k e.symm).1
  omega
theorem ownFrom_pure {β : Type} {B : Nat} (p : β → Prop) : OwnFrom B (fun s (_ : World) => p s) := fun _ _ _ _ h _ _ => h
/-- The box holds a row that the call may write, which has come of v. -/
def Holds (e : TypeId) (sz b : Nat) (v : Value) (n : Nat) (xs : List Value) (w W : World) : Prop :=
  ∃ v', Blk W b [v'] ∧ W.ownsRow 0 e sz v' n xs ∧ Fresh w.heap.size v v' ∧ (v'.ownBlock ≠ some b) ∧ Mods (fun k => v.ownBlock = some k) w W
theorem ownFrom_holds {β : Type} {B : Nat} {w : World} (hB : w.heap.size ≤ B) (e : TypeId) (sz b : Nat) (v : Value) (n : β → Nat) (xs : β → List Value) : OwnFrom B (fun s W => Holds e sz b v (n s) (xs s) w W) := by
  rintro s W W' row ⟨v', h1, h2, h3, h4, h5⟩ hg hr
  have hr' : ∀ r, row = some r → ∃ o : Obj, W.heap[r]? = some o ∧ o.isCells = false := fun r e => (hr r e).2
  exact ⟨v', own_blk b (fun _ : Unit => [v']) () W W' row h1 hg hr', owns_abides h2 hg hr', h3, h4, ownFrom_mods hB () W W' row h5 hg hr⟩
theorem KeepsOthers.of_mods {S : Nat → Prop} {W W' : World} (h : Mods S W W') (hS : ∀ k o, S k → W.heap[k]? = some o → o.isCells = true) : KeepsOthers W W' :=
  ⟨h.size, fun k o hk ho => (h.block k (Array.getElem?_eq_some_iff.1 hk).1 (fun e => by rw [hS k o e hk] at ho; cases ho)).trans hk⟩
theorem owns_isCells {W : World} {base : Nat} {e : TypeId} {sz : Nat} {v : Value} {n : Nat} {xs : List Value} (h : W.ownsRow base e sz v n xs) : ∀ k o, v.ownBlock = some k → W.heap[k]? = some o → o.isCells = true := by
  intro k o hk ho
  rcases h.2 with ⟨rfl, _⟩ | ⟨g, cap, cur, rfl, _, hgb, _⟩
  · simp [Value.ownBlock] at hk
  · obtain rfl : g = k := by simpa [Value.ownBlock] using hk
    rw [hgb] at ho; cases ho; rfl
/-- An append in the body of a round: the box holds the longer row. -/
theorem Holds.pushed {e : TypeId} {sz b : Nat} {v v1 v2 : Value} {n m : Nat} {xs ys : List Value} {w W w1 : World} (hb : w.heap.size ≤ b) (h1 : Blk W b [v1]) (h2 : W.ownsRow 0 e sz v1 n xs) (h3 : Fresh w.heap.size v v1) (h4 : v1.ownBlock ≠ some b) (h5 : Mods (fun k => v.ownBlock = some k) w W)
    (k1 : w1.ownsRow 0 e sz v2 m ys) (k2 : Mods (fun k => v1.ownBlock = some k) W w1) (k3 : Fresh W.heap.size v1 v2) :
    Holds e sz b v m ys w (w1.setCell ⟨b, 0, none⟩ v2) ∧ KeepsOthers W (w1.setCell ⟨b, 0, none⟩ v2) := by
  have hne : v2.ownBlock ≠ some b := fun e => by
    rcases k3 b e with e | e
    · exact h4 e
    · have := h1.lt; omega
  refine ⟨⟨v2, ?_, ?_, ?_, hne, ?_⟩, (KeepsOthers.of_mods k2 (owns_isCells h2)).trans (KeepsOthers.setCell _ _ _)⟩
  · simpa using (k2.blk h1 h4).set 0 v2
  · exact (Mods.set (fun k => k = b) w1 ⟨b, 0, none⟩ v2 (fun _ => rfl)).owns k1 (fun k hk e => hne (by rw [hk, e]))
  · exact h3.trans k3 h5.size
  · refine (h5.trans k2 (fun j hj e => ?_)).trans (Mods.set (fun k => k = b) w1 ⟨b, 0, none⟩ v2 (fun _ => rfl)) (fun j hj e => by omega)
    rcases h3 j e with e | e
    · exact e
    · omega
theorem not_letsOut_body {α : Type} {id B : Nat} {Kp : World → World → Prop} {I : List α → World → Prop} {Ix : Code → List α → World → Prop} {xs : List α} {W : World} : ¬ LetsOut (Exit.inBlock id (ownPostG B Kp I Ix xs W)) := by
  rintro ⟨_, _, h⟩; exact h
theorem Mods.putObj {S : Nat → Prop} {w W : World} (h : Mods S w W) {D : Nat} (hD : w.heap.size ≤ D) (o : Obj) : Mods S w (W.putObj D o) := by
  have hg := grownBy_putObj' W D o
  exact ⟨hg.os.trans h.os, hg.tape.trans h.tape, hg.output.trans h.output, Nat.le_trans h.size hg.size, fun k hk hs => (hg.block k (by have := h.size; omega) (fun e => by cases e; omega)).trans (h.block k hk hs)⟩
end Go.Proofs.YtlgphgipfjlbfaaDoor

end

section
/- Layer 2: the function that yields groups; Append. -/
set_option linter.unusedVariables false
namespace Go.Proofs.YtlgphgipfjlbfaaDoor
open Go Go.RowKit Go.Shelf
attribute [local go_sem] Oper.semAt_some

theorem new_groups (x : Nat) (w : World) (n : Nat) :
    CallsIn Fence.wide n Tryd.prog 47 #[.int .u64 x] w fun e w' => e = .returned (.func (.func 58) #[] #[.pointer (some ⟨w.heap.size, 0, none⟩)]) ∧ w' = w.alloc (.cells #[.int .u64 x] 68) := by
  refine callsIn_wide.2 ?_
  go_enter Tryd.func47, Tryd.ntmps47
  go_wp2
  go_ret
  exact ⟨rfl, rfl⟩

set_option maxRecDepth 100000 in
set_option maxHeartbeats 1000000 in
theorem groups_gives (n : Nat) (hn : 1 ≤ n) (b x : Nat) (hx : x < 18446744073709551616) (w : World) (hb : b < w.heap.size) (hc : w.cell? ⟨b, 0, none⟩ = some (.int .u64 x)) :
    SeqStopsK Fence.wide n Tryd.prog 58 #[.pointer (some ⟨b, 0, none⟩)] (fun c : Nat => #[.int .u8 (c : Int)]) KeepsWalks (fun ys => ys = groups x) (fun _ => True) (groups x).length w := by
  intro l J Jx W hW hJ hJx hY h0
  have hc' : W.cell? ⟨b, 0, none⟩ = some (.int .u64 x) := (hW.cell (p := ⟨b, 0, none⟩) hb).trans hc
  refine callsIn_of_wp Tryd.func58 rfl trivial ?_ rfl
  simp only [Tryd.ntmps58, List.size_toArray, List.length_cons, List.length_nil, Nat.reduceAdd, Nat.reduceSub, Array.replicate_succ, Array.replicate_zero, List.push_toArray, List.append_toArray, List.nil_append, List.cons_append]
  gi_wp2
  gi_loopw [3] (fun r wr => ∃ (pre : List Nat) (y : Nat), y < 18446744073709551616 ∧ r = .int .u64 y ∧ groups x = pre ++ groups y ∧ J pre wr) (fun r _ => (intOf r).toNat)
  case atStart => exact ⟨[], x, hx, rfl, rfl, h0⟩
  case round =>
    obtain ⟨pre, y, hy, rfl, hg, hJs⟩ := hrel
    by_cases h : y < 128
    · have hlt : (y : Int) < 128 := by omega
      obtain ⟨fn, tmps, assign, body, hyl, hR⟩ := hY pre y wr hJs (by rw [hg, groups_small h]; simp)
      rw [groups_small h] at hg
      gi_wp2
      refine hR.mono ?_
      rintro e W3 (⟨rfl, hJ3, hk3⟩ | ⟨rfl, hJx3⟩)
      · gi_wp2
        go_end0
        exact ⟨⟨_, rfl⟩, .inl ⟨_, hg.symm, hJ3⟩⟩
      · gi_wp2
        go_end0
        exact ⟨⟨_, rfl⟩, .inr ⟨_, trivial, hJx3⟩⟩
    · have hlt : ¬ (y : Int) < 128 := by omega
      obtain ⟨fn, tmps, assign, body, hyl, hR⟩ := hY pre (y % 128 + 128) wr hJs (by rw [hg, groups_big h]; simp)
      rw [show ((y % 128 + 128 : Nat) : Int) = (y : Int) % 128 + 128 from by omega] at hyl
      rw [groups_big h] at hg
      gi_wp2
      refine hR.mono ?_
      rintro e W3 (⟨rfl, hJ3, hk3⟩ | ⟨rfl, hJx3⟩)
      · gi_wp2
        go_roundw
        case rel => exact ⟨pre ++ [y % 128 + 128], y / 128, by omega, by go_num, by rw [hg]; simp, hJ3⟩
        case measure => simp [intOf]; omega
      · gi_wp2
        refine bodyPost_ret (results_none rfl _ _ _) rfl ?_
        exact ⟨⟨_, rfl⟩, .inr ⟨_, trivial, hJx3⟩⟩

/-- What an append to a row of bytes leaves behind. -/
structure AppPost (v : Value) (n : Nat) (out : List Nat) (w : World) (v' : Value) (w' : World) : Prop where
  own : w'.ownsRow 0 5 1 v' n (u8s out)
  mods : Mods (fun k => v.ownBlock = some k) w w'
  fresh : Fresh w.heap.size v v'

/-- What an append to a row that the call has made leaves behind. -/
theorem AppPost.below {v : Value} {n : Nat} {out : List Nat} {w : World} {v' : Value} {w' : World} (h : AppPost v n out w v' w') {B : Nat} (hB : B ≤ w.heap.size) (hv : ∀ k, v.ownBlock = some k → B ≤ k) : Below B w w' :=
  h.mods.below hB (fun k hk e => by have := hv k e; omega)
theorem AppPost.made {v : Value} {n : Nat} {out : List Nat} {w : World} {v' : Value} {w' : World} (h : AppPost v n out w v' w') {B : Nat} (hB : B ≤ w.heap.size) (hv : ∀ k, v.ownBlock = some k → B ≤ k) : w'.ownsRow B 5 1 v' n (u8s out) :=
  owns_rebase h.own (fun k hk => by
    rcases h.fresh k hk with e | e
    · exact hv k e
    · omega)
theorem nil_block {B : Nat} : ∀ k, (Value.slice none 0 0).ownBlock = some k → B ≤ k := fun k e => by simp [Value.ownBlock] at e

set_option maxRecDepth 100000 in
set_option maxHeartbeats 1000000 in
theorem append_any (v : Value) (n : Nat) (l : List Nat) (x : Nat) (hx : x < 18446744073709551616) (w : World) (h : w.ownsRow 0 5 1 v n (u8s l)) (hn : n + 10 ≤ 140737488355328) :
    Calls Tryd.prog 33 #[v, .int .u64 x] w fun e w' => ∃ v', e = .returned v' ∧ AppPost v (n + (groups x).length) (l ++ groups x) w v' w' := by
  have hten := groups_ten hx
  obtain ⟨p, c, hv⟩ := (Rd.of_owns h).shape
  subst hv
  refine (callsIn_wide (n := 9)).1 ?_
  refine callsIn_of_wp_marks Tryd.func33 rfl trivial ?_ rfl
  simp only [Tryd.ntmps33, List.size_toArray, List.length_cons, List.length_nil, Nat.reduceAdd, Nat.reduceSub, Array.replicate_succ, Array.replicate_zero, List.push_toArray, List.append_toArray, List.nil_append, List.cons_append]
  have H := Lib.hid h; clear h
  gi_wp2_with (refine ⟨trivial, ?_⟩; gi_at_call 47; refine (new_groups x _ _).mono ?_; rintro e w' ⟨rfl, rfl⟩)
  obtain ⟨W0, hW0⟩ : ∃ W0, (w.alloc (.cells #[.slice p n c] 22)).alloc (.cells #[.int .u64 x] 68) = W0 := ⟨_, rfl⟩
  have hs0 : W0.heap.size = w.heap.size + 2 := by rw [← hW0]; simp
  have hx0 : W0.cell? ⟨w.heap.size + 1, 0, none⟩ = some (.int .u64 x) := by
    have := (Blk.new (w.alloc (.cells #[.slice p n c] 22)) #[.int .u64 x] 68).cell 0
    rw [hW0] at this
    simpa using this
  have hI0 : Holds 5 1 w.heap.size (.slice p n c) (n + 0) (u8s (l ++ [])) w W0 := by
    have hm : Mods (fun k => (Value.slice p n c).ownBlock = some k) w W0 := by rw [← hW0]; exact (Mods.alloc _ _ _).trans (Mods.alloc (fun _ => False) _ _) (fun _ _ e => e.elim)
    refine ⟨_, ?_, ?_, Fresh.refl _ _, fun e => by have := owns_lt H.out _ e; omega, hm⟩
    · rw [← hW0]; exact (Blk.new w _ _).alloc _
    · rw [← hW0, List.append_nil]; exact (H.out.alloc _).alloc _
  rw [hW0]
  clear hW0
  refine wpIn_rangeFunc_ownG rfl (by omega) (gf := 58) (lb := #[.pointer (some ⟨w.heap.size + 1, 0, none⟩)]) rfl trivial (enters_of Tryd.func58 (by kernel_rfl) rfl)
    (groups_gives _ (by omega) (w.heap.size + 1) x hx W0 (by omega) hx0) walksK_t walksK_b (Below.refl _ _) (fun _ => rfl)
    (fun pre W => Holds 5 1 w.heap.size (.slice p n c) (n + pre.length) (u8s (l ++ pre)) w W)
    (fun _ _ _ => False)
    (ownFrom_holds (by omega) _ _ _ _ _ _)
    (fun _ _ _ _ _ hs _ _ => hs)
    hI0
    (fun k => { tmps := #[.slice p n c, .int .u64 x, .pointer (some ⟨w.heap.size, 0, none⟩), undef, .slice none 0 0, .int .u8 (k : Int), .int .u64 x, .func (.func 58) #[] #[.pointer (some ⟨w.heap.size + 1, 0, none⟩)], .int .u8 (k : Int), undef, undef, undef, undef, undef], defers := [] }) ?assign ?body ?done ?stop
  case assign =>
    intro l k W K hK
    simp only [List.zip_toArray, List.zip_cons_cons, List.zip_nil_right, List.foldl_toArray, List.foldl_cons, List.foldl_nil, List.setIfInBounds_toArray, List.set_cons_zero, List.set_cons_succ]
    gi_wp2
    exact hK
  case body =>
    rintro r pre k W ⟨v1, h1, h2, h3, h4, h5⟩ hlen
    have c0 : W.cell? ⟨w.heap.size, 0, none⟩ = some v1 := by rw [h1.cell]; rfl
    have f0 := h1.free 0
    have hb : (n + pre.length + 1) * 1 ≤ 140737488355328 ∧ n + pre.length + 1 ≤ maxLen := by unfold maxLen; omega
    have H2 := Lib.hid h2; have HB := Lib.hid hb
    obtain ⟨p1, c1, hv1⟩ := (Rd.of_owns h2).shape
    subst hv1
    clear h2 hb
    refine wpIn_block ?_
    refine wpIn_region_list ?_
    refine wpListIn_round not_letsOut_body _ _ _ (by simp) ?_
    go_wp2_with (at_builtin; refine wpList_push Tryd.elemU8 W #[.int .u8 (k : Int)] _ _ _ H2.out rfl (one_cell _ rfl) HB.out rfl _ _ rfl rfl rfl ?_)
    intro v2 w1 k1 k2 k3
    obtain ⟨q1, q2⟩ := Holds.pushed (Nat.le_refl _) h1 H2.out h3 h4 h5 k1 k2 k3
    have b1 := k2.blk h1 h4
    have c1' : w1.cell? ⟨w.heap.size, 0, none⟩ = some (.slice p1 (n + pre.length) c1) := by rw [b1.cell]; rfl
    have f1' := b1.free 0
    obtain ⟨p2, c2, hv2⟩ := (Rd.of_owns k1).shape
    subst hv2
    have Q1 := Lib.hid q1; have Q2 := Lib.hid q2
    clear k1 k2 k3 q1 q2
    go_wp2
    refine ⟨Q2.out.from _, Q2.out.walks, ?_⟩
    have q := Q1.out
    simpa [u8s, Nat.add_assoc] using q
  case done =>
    rintro D ys W hD rfl ⟨v1, h1, h2, h3, h4, h5⟩ hK
    have c0 : W.cell? ⟨w.heap.size, 0, none⟩ = some v1 := by rw [h1.cell]; rfl
    obtain ⟨p1, c1, hv1⟩ := (Rd.of_owns h2).shape
    subst hv1
    have H2 := Lib.hid h2; clear h2
    gi_wp2
    refine ⟨by simp, .inl ⟨_, _, rfl, run_takeDeferred hK, ?_⟩⟩
    refine ⟨_, results_tmp rfl _ _ _, ?_⟩
    exact ⟨.slice p1 (n + (groups x).length) c1, rfl, ⟨ownsRow_putObj H2.out _ hK rfl, h5.putObj (by omega) _, h3⟩⟩
  case stop =>
    rintro D c pre W _ _ h _
    exact h.elim
end Go.Proofs.YtlgphgipfjlbfaaDoor

end

section
/- Layer 3: states and checksums, as the program takes them, four bits at a time. -/
set_option linter.unusedVariables false
namespace Go.Proofs.YtlgphgipfjlbfaaDoor
open Go Go.RowKit

/-- The program's table of 16 words. -/
def Tab (w : World) : Prop := ∀ i : Nat, i < 16 → w.cell? ⟨0, i, none⟩ = some (.int .u32 ((fours.getD i 0 : Nat) : Int))
theorem Tab.below {w w' : World} {B : Nat} (h : Tab w) (hb : Below B w w') (hB : w.heap.size ≤ B) : Tab w' := fun i hi => (hb.cell (Nat.lt_of_lt_of_le (World.block_lt_of_cell? w _ (h i hi)) hB)).trans (h i hi)

theorem upd_step (s c : Nat) (hs : s < 4294967296) (hc : c < 256) : ∃ X Y : Nat, X = s ^^^ c ∧ X < 4294967296 ∧ Y = X / 16 ^^^ fours.getD (X % 16) 0 ∧ Y < 4294967296 ∧ step8 s c = Y / 16 ^^^ fours.getD (Y % 16) 0 := by
  have hX : s ^^^ c < 4294967296 := xor_lt32 hs (by omega)
  have e : ∀ Z, Z / 16 ^^^ fours.getD (Z % 16) 0 = shrN 4 Z := fun Z => by rw [fours_eq _ (Nat.mod_lt _ (by decide)), ← shr4]
  refine ⟨_, _, rfl, hX, rfl, ?_, ?_⟩
  · rw [e]; exact shrN_lt hX
  · rw [e, e, step8_fours]
theorem fours_lt (i : Nat) : fours.getD (i % 16) 0 < 4294967296 := by
  rw [fours_eq _ (Nat.mod_lt _ (by decide))]; exact shrN_lt (by have := Nat.mod_lt i (show 0 < 16 by decide); omega)

set_option maxHeartbeats 1000000 in
theorem crc_update (s : Nat) (v : Value) (l : List Nat) (w : World) (hT : Tab w) (hs : s < 4294967296) (h : Rd w 1 v l.length (u8s l)) (hl : ∀ c ∈ l, c < 256) :
    Calls Tryd.prog 59 #[.int .u32 (s : Int), v] w fun e w' => e = .returned (.int .u32 (upd s l : Int)) ∧ w = w' := by
  have hmax : (l.length : Int) ≤ 9223372036854775807 := by have := h.le; unfold maxLen at this; omega
  obtain ⟨p, c, hv⟩ := h.shape
  subst hv
  have H2 := Lib.hid h; clear h
  have HM := Lib.hid hl; clear hl
  have HT := Lib.hid hT; clear hT
  have HX : Hid (∀ k, upd s (l.take k) < 4294967296) := fun k => upd_lt hs _ (fun c hc => HM.out c (List.mem_of_mem_take hc))
  go_enter Tryd.func59, Tryd.ntmps59
  go_wp2_with fail
  go_loop [0, 9] (fun x i => ∃ k : Nat, k ≤ l.length ∧ i = .int .i64 (k : Int) ∧ x = .int .u32 (upd s (l.take k) : Int)) (fun _ i => l.length - (intOf i).toNat)
  case atStart => exact ⟨0, by omega, rfl, rfl⟩
  case round =>
    obtain ⟨k, hk, rfl, rfl⟩ := hrel
    by_cases hlt : k < l.length
    · have hlt' : (k : Int) < (l.length : Int) := by omega
      obtain ⟨b, off, c', e, _, _, hc⟩ := H2.out.at (fun e => by have := congrArg List.length e; rw [u8s_length] at this; simp at this; subst this; simp at hlt)
      simp only [Value.slice.injEq] at e
      obtain ⟨rfl, _, rfl⟩ := e
      have hcell := hc k _ (u8s_get _ _ hlt)
      have hu := HM.out _ (List.getElem_mem hlt)
      have HS := Lib.hid (upd_take_succ s l k hlt)
      have hZ := HX.out k
      clear hc
      generalize upd s (l.take k) = Z at *
      generalize l[k] = u at *
      obtain ⟨X, Y, hX, hX32, hY, hY32, hE⟩ := upd_step Z u hZ hu
      have t1 := HT.out (X % 16) (Nat.mod_lt _ (by decide))
      have t2 := HT.out (Y % 16) (Nat.mod_lt _ (by decide))
      have e1 := u32_xor_nat Z u hZ (by omega)
      have e2 := u32_xor_nat (X / 16) _ (by omega) (fours_lt X)
      have e3 := u32_xor_nat (Y / 16) _ (by omega) (fours_lt Y)
      rw [← hX] at e1
      rw [← hY] at e2
      rw [← hE] at e3
      have HS2 : Hid (upd s (l.take (k + 1)) = step8 Z u) := HS
      clear HS hX hY hE
      generalize step8 Z u = V at *
      generalize fours.getD (X % 16) 0 = F1 at *
      generalize fours.getD (Y % 16) 0 = F2 at *
      have e2' : bits .xor .u32 ((X : Int) / 16) (F1 : Int) = (Y : Int) := e2
      have e3' : bits .xor .u32 ((Y : Int) / 16) (F2 : Int) = (V : Int) := e3
      clear e2 e3
      go_wp2_with fail
      go_round
      case rel => exact ⟨k + 1, by omega, by go_num, by rw [HS2.out]⟩
      case measure => simp [intOf]; omega
    · have hlt' : ¬ (k : Int) < (l.length : Int) := by omega
      have HK : Hid (upd s (l.take k) = upd s l) := by show _ = _; rw [show k = l.length by omega, upd_take_all]
      rw [HK.out]
      clear hk hlt
      go_wp2_with fail
      go_ret
      exact ⟨rfl, rfl⟩

theorem crc_sum (v : Value) (l : List Nat) (w : World) (hT : Tab w) (h : Rd w 1 v l.length (u8s l)) (hl : ∀ c ∈ l, c < 256) :
    Calls Tryd.prog 48 #[v] w fun e w' => e = .returned (.int .u32 (crcOf l : Int)) ∧ w = w' := by
  have hU := upd_lt (show 4294967295 < 4294967296 by decide) l hl
  have HE := Lib.hid (crcOf_xor l hl)
  have HB : Hid (bits .xor .u32 4294967295 ((upd 4294967295 l : Nat) : Int) = ((4294967295 ^^^ upd 4294967295 l : Nat) : Int)) := u32_xor_nat 4294967295 _ (by decide) hU
  have HT := Lib.hid hT
  have H2 := Lib.hid h; clear h
  have HM := Lib.hid hl; clear hl hT hU
  go_enter Tryd.func48, Tryd.ntmps48
  go_wp2_with fail
  refine (crc_update 4294967295 v l _ HT.out (by decide) H2.out HM.out).mono ?_
  rintro e w2 ⟨rfl, rfl⟩
  generalize upd 4294967295 l = X at *
  go_wp2_with fail
  go_ret
  exact ⟨ret_int (by rw [HE.out, ← HB.out]; rfl), rfl⟩

theorem crc_sumOf (v : Value) (l : List Nat) (w : World) (hT : Tab w) (h : Rd w 1 v l.length (u8s l)) (hl : ∀ c ∈ l, c < 256) :
    Calls Tryd.prog 34 #[v] w fun e w' => ∃ r, e = .returned r ∧ Made w w' 5 1 r 4 (u8s (le4 (crcOf l))) := by
  have HT := Lib.hid hT
  have H2 := Lib.hid h; clear h
  have HM := Lib.hid hl; clear hl hT
  go_enter Tryd.func34, Tryd.ntmps34
  go_wp2_with fail
  refine (crc_sum v l _ HT.out H2.out HM.out).mono ?_
  rintro e w2 ⟨rfl, rfl⟩
  have hS := crcOf_lt l
  obtain ⟨S, hSe⟩ : ∃ S, crcOf l = S := ⟨_, rfl⟩
  have HE := Lib.hid (u8s_le4 _ (hSe ▸ hS))
  rw [hSe] at hS ⊢
  have HSe := Lib.hid hSe
  clear hSe
  go_wp2_with fail
  go_ret
  rw [HSe.out]
  refine ⟨_, rfl, ?_, (Below.refl _ _).alloc (Nat.le_refl _) _⟩
  rw [HE.out]
  exact World.ownsRow_lit (base := w.heap.size) w #[.int .u8 ((S : Int) % 256), .int .u8 ((S : Int) / 256 % 256), .int .u8 ((S : Int) / 65536 % 256), .int .u8 ((S : Int) / 16777216)] 4 (Nat.le_refl _) (by simp [maxLen]) (by simp)
end Go.Proofs.YtlgphgipfjlbfaaDoor

end

section
/- Layer 3: the program's Append and Check. -/
set_option linter.unusedVariables false
namespace Go.Proofs.YtlgphgipfjlbfaaDoor
open Go Go.RowKit

set_option maxHeartbeats 2000000 in
theorem crc_append (v : Value) (l : List Nat) (w : World) (hT : Tab w) (h : Rd w 1 v l.length (u8s l)) (hl : ∀ c ∈ l, c < 256) (hn : l.length ≤ 140737488355000) :
    Calls Tryd.prog 24 #[v] w fun e w' => ∃ r, e = .returned r ∧ Made w w' 5 1 r (withCrc l).length (u8s (withCrc l)) := by
  have HT := Lib.hid hT
  have H2 := Lib.hid h
  have HM := Lib.hid hl
  obtain ⟨q, c, hv⟩ := h.shape
  subst hv
  clear h hl hT
  obtain ⟨i, z, hi, hz, hsize, hby, hzs⟩ := Tryd.elemU8.hi
  have HI := Lib.hid hi; have HZ := Lib.hid hz; have HSz := Lib.hid hsize
  have HC : Hid ((l.length : Int) + 4 = ((l.length + 4 : Nat) : Int)) := by show _ = _; omega
  have HBy : Hid (i.bytes * (l.length + 4) ≤ 281474976710656) := by show _ ≤ _; rw [hby]; omega
  have HMx : Hid (l.length + 4 ≤ maxLen) := by show _ ≤ _; unfold maxLen; omega
  have HL : Hid ((0 + l.length) * 1 ≤ 140737488355328 ∧ 0 + l.length ≤ maxLen) := by show _ ∧ _; unfold maxLen; omega
  have HL2 : Hid ((l.length + 4) * 1 ≤ 140737488355328 ∧ l.length + 4 ≤ maxLen) := by show _ ∧ _; unfold maxLen; omega
  clear hi hz hsize hby hzs
  have hmax : (l.length : Int) + 4 ≤ 140737488355328 := by omega
  go_enter Tryd.func24, Tryd.ntmps24
  go_wp2_with (refine wpList_make_own _ rfl _ _ _ rfl 0 5 i z 1 Tryd.underlying22 HI.out HZ.out HSz.out _ _ _ (l.length + 4) rfl rfl HC.out HBy.out HMx.out (Nat.zero_le _) ?_)
  intro w1 hown hgr
  have HB : Hid (Below w.heap.size w w1) := (Mods.of_grown hgr).below (Nat.le_refl _) (fun k hk e => by cases e)
  have HO := Lib.hid hown
  have HR := Lib.hid (H2.out.below HB.out)
  clear hown hgr
  go_wp2_with (at_builtin; refine wpList_extend Tryd.elemU8 _ _ _ _ _ _ _ HO.out HR.out (u8s_oneCell _) HL.out rfl _ _ rfl rfl rfl ?_)
  intro v' w2 hown hmods hfr
  obtain ⟨q1, c1, hv1⟩ := (Rd.of_owns hown).shape
  subst hv1
  have HO1 := Lib.hid hown
  have HF1 : Hid (∀ k, (Value.slice q1 l.length c1).ownBlock = some k → w.heap.size ≤ k) := fun k hk => by
    rcases hfr k hk with e | e
    · simp [Value.ownBlock] at e; omega
    · have := HB.out.size; omega
  have HB1 := Lib.hid (HB.out.trans (hmods.below HB.out.size (fun k hk e => by simp [Value.ownBlock] at e; omega)))
  have HR1 := Lib.hid (H2.out.below HB1.out)
  have HT1 := Lib.hid (HT.out.below HB1.out (Nat.le_refl _))
  clear hown hmods hfr HO HR HB
  go_wp2_with fail
  refine (crc_sumOf _ l _ HT1.out HR1.out HM.out).mono ?_
  rintro e w3 ⟨r, rfl, hM⟩
  obtain ⟨q3, c3, hr⟩ := (Rd.of_owns hM.1).shape
  subst hr
  have HR3 := Lib.hid (Rd.of_owns hM.1)
  have HO3 := Lib.hid ((Mods.of_below hM.2 (fun _ => False)).owns HO1.out (fun _ _ e => e))
  have HB3 := Lib.hid (HB1.out.trans (hM.2.mono HB1.out.size))
  have HW : Hid (withCrc l = l ++ le4 (crcOf l)) := rfl
  clear hM
  go_wp2_with (at_builtin; refine wpList_extend Tryd.elemU8 _ _ _ _ _ _ _ HO3.out HR3.out (u8s_oneCell _) HL2.out rfl _ _ rfl rfl rfl ?_)
  intro v2 w4 hown hmods hfr
  have HM2 : Hid (Made w w4 5 1 v2 (withCrc l).length (u8s (withCrc l))) := by
    refine ⟨?_, HB3.out.trans (hmods.below HB3.out.size (fun k hk e => by have := HF1.out k e; omega))⟩
    have h2 := owns_rebase hown (base' := w.heap.size) (fun k hk => by
      rcases hfr k hk with e | e
      · exact HF1.out k e
      · have := HB3.out.size; omega)
    rw [← u8s_append, ← HW.out, ← le4_length (crcOf l), ← List.length_append, ← HW.out] at h2
    exact h2
  clear hown hmods hfr
  go_wp2_with fail
  go_ret
  exact ⟨_, rfl, HM2.out⟩

theorem isCrc_drop (l : List Nat) (h : 4 ≤ l.length) : isCrc l = decide (l.drop (l.length - 4) = le4 (crcOf (l.take (l.length - 4)))) := by
  unfold isCrc
  rw [decide_eq_decide]
  have e : l.take (l.length - 4) ++ l.drop (l.length - 4) = l := List.take_append_drop _ _
  constructor
  · rintro ⟨_, h2⟩
    rw [withCrc] at h2
    conv at h2 => rhs; rw [← e]
    exact (List.append_cancel_left h2).symm
  · intro h2
    refine ⟨h, ?_⟩
    rw [withCrc, ← h2, e]

set_option maxHeartbeats 4000000 in
theorem crc_check (v : Value) (l : List Nat) (w : World) (hT : Tab w) (h : Rd w 1 v l.length (u8s l)) (hl : ∀ c ∈ l, c < 256) :
    Calls Tryd.prog 56 #[v] w fun e w' => e = .returned (.bool (isCrc l)) ∧ Below w.heap.size w w' := by
  have HT := Lib.hid hT
  have H2 := Lib.hid h
  have HM := Lib.hid hl
  obtain ⟨q, c, hv⟩ := h.shape
  subst hv
  have hnc : l.length ≤ c := by obtain ⟨_, _, e, _, h, _⟩ := h; cases e; exact h
  have hmax : (c : Int) ≤ 9223372036854775807 := by obtain ⟨_, _, e, _, _, h, _⟩ := h; cases e; unfold maxLen at h; omega
  clear h hl hT
  have HB0 : Hid (Below w.heap.size w w) := Below.refl _ _
  by_cases hlt : 4 ≤ l.length
  · have hge : (0 : Int) ≤ (l.length : Int) - 4 := by omega
    have hcast : (l.length : Int) - 4 = ((l.length - 4 : Nat) : Int) := by omega
    have HE := Lib.hid (isCrc_drop l hlt)
    obtain ⟨n, hn4⟩ : ∃ n, l.length - 4 = n := ⟨_, rfl⟩
    rw [hn4] at HE
    have hnl : n ≤ l.length := by omega
    have HT1 : Hid (Rd w 1 (.slice q n c) (l.take n).length (u8s (l.take n))) := by
      show Rd _ _ _ _ _
      have := H2.out.upto n hnl
      rw [List.length_take, Nat.min_eq_left hnl]
      simpa [u8s, List.map_take] using this
    have HT8 : Hid (∀ a ∈ l.take n, a < 256) := fun a ha => HM.out a (List.mem_of_mem_take ha)
    have hcn : ¬ c = n := by omega
    have HD : Hid (Rd w 1 (.slice (Option.map (fun x => x.add n) q) (l.length - n) (c - n)) (l.length - n) (u8s (l.drop n))) := by
      show Rd _ _ _ _ _
      have h2 := H2.out.from n hnl
      unfold sliced at h2
      rw [if_neg hcn] at h2
      simpa [u8s, List.map_drop] using h2
    have HD8 : Hid (∀ a ∈ l.drop n, a < 256) := fun a ha => HM.out a (List.mem_of_mem_drop ha)
    go_enter Tryd.func56, Tryd.ntmps56
    go_wp2_with fail
    refine wp_region_takeH (fun w' => Below w.heap.size w w') [9, 10] [0, 1, 2, 3, 4, 5, 6, 7, 8, 9, 10, 11, 12] (by kernel_rfl) (by kernel_rfl) (by kernel_rfl) ?_ ?_ ?_
    · intro c a a' w hd h; exact ⟨hd ▸ h.1, h.2⟩
    · exact ⟨HB0.out.os, HB0.out.tape, HB0.out.output, HB0.out.size, HB0.out.block⟩
    simp only [taken, List.map_cons, List.map_nil, List.getElem?_cons_succ, List.getElem?_cons_zero, Option.getD_some]
    repeat (first
        | (refine takeH_skip rfl ?_; simp only [Act.put, List.setIfInBounds_toArray, List.set_cons_succ, List.set_cons_zero])
        | (refine takeH_blind rfl rfl ?_; apply Exists.intro; refine ⟨fun w => ?_, ?_⟩; (go_simp; try with_reducible rfl); simp only [Act.put, List.setIfInBounds_toArray, List.set_cons_succ, List.set_cons_zero]))
    refine takeH_read rfl rfl (.slice q n c) (fun w' _ => exec_upto Tryd.elemU8 w' q l.length c n hnl hnc _ _ rfl rfl rfl) ?_
    simp only [Act.put, List.setIfInBounds_toArray, List.set_cons_succ, List.set_cons_zero]
    refine takeH_call rfl rfl (fun K hK => ?_)
    go_wp2_with fail
    refine (crc_sumOf _ (l.take n) w.drew HT.out HT1.out HT8.out).mono ?_
    rintro e w1 ⟨r, rfl, hM⟩
    have hB : Below w.heap.size w w1 := ⟨hM.2.os, hM.2.tape, hM.2.output, hM.2.size, hM.2.block⟩
    obtain ⟨q3, c3, hr⟩ := (Rd.of_owns hM.1).shape
    subst hr
    have HR3 := Lib.hid (Rd.of_owns hM.1)
    have HD1 := Lib.hid (HD.out.below hB)
    have HB1 := Lib.hid hB
    refine hK _ _ hB ?_
    clear hK K hM hB
    repeat (first
        | (refine takeH_skip rfl ?_; simp only [Act.put, List.setIfInBounds_toArray, List.set_cons_succ, List.set_cons_zero])
        | (refine takeH_blind rfl rfl ?_; apply Exists.intro; refine ⟨fun w => ?_, ?_⟩; (go_simp; try with_reducible rfl); simp only [Act.put, List.setIfInBounds_toArray, List.set_cons_succ, List.set_cons_zero]))
    refine takeH_call rfl rfl (fun K hK => ?_)
    go_wp2_with fail
    refine (equal_any _ _ _ _ _ _ _ HD1.out HR3.out HD8.out (le4_lt _)).mono ?_
    rintro e w4 ⟨rfl, rfl⟩
    rw [← HE.out]
    refine hK _ _ HB1.out ?_
    clear hK K
    have HB2 := HB1
    clear HE HD HD8 HR3 HT1 HT8 HD1
    obtain ⟨b, hb⟩ : ∃ b, isCrc l = b := ⟨_, rfl⟩
    rw [hb]
    have HBb := Lib.hid hb
    clear hb
    cases b
    · repeat (first
        | (refine takeH_skip rfl ?_; simp only [Act.put, List.setIfInBounds_toArray, List.set_cons_succ, List.set_cons_zero])
        | (refine takeH_blind rfl rfl ?_; apply Exists.intro; refine ⟨fun w => ?_, ?_⟩; (go_simp; try with_reducible rfl); simp only [Act.put, List.setIfInBounds_toArray, List.set_cons_succ, List.set_cons_zero]))
      refine takeH_nil ?_
      go_wp2_with fail
      go_ret
      exact ⟨ret_bool HBb.out.symm, HB2.out⟩
    · repeat (first
        | (refine takeH_skip rfl ?_; simp only [Act.put, List.setIfInBounds_toArray, List.set_cons_succ, List.set_cons_zero])
        | (refine takeH_blind rfl rfl ?_; apply Exists.intro; refine ⟨fun w => ?_, ?_⟩; (go_simp; try with_reducible rfl); simp only [Act.put, List.setIfInBounds_toArray, List.set_cons_succ, List.set_cons_zero]))
      refine takeH_nil ?_
      go_wp2_with fail
      go_ret
      exact ⟨ret_bool HBb.out.symm, HB2.out⟩
  · obtain ⟨m, hm⟩ : ∃ m : Int, (l.length : Int) - 4 = m := ⟨_, rfl⟩
    have hm1 : m < 0 := by omega
    have HE : Hid (isCrc l = false) := by show _ = _; unfold isCrc; rw [decide_eq_false]; exact fun h => hlt h.1
    go_enter Tryd.func56, Tryd.ntmps56
    go_wp2_with fail
    refine wp_region_takeH (fun w' => Below w.heap.size w w') [9, 10] [0, 1, 2, 3, 4, 5, 6, 7, 8, 9, 10, 11, 12] (by kernel_rfl) (by kernel_rfl) (by kernel_rfl) ?_ ?_ ?_
    · intro c a a' w hd h; exact ⟨hd ▸ h.1, h.2⟩
    · exact ⟨HB0.out.os, HB0.out.tape, HB0.out.output, HB0.out.size, HB0.out.block⟩
    simp only [taken, List.map_cons, List.map_nil, List.getElem?_cons_succ, List.getElem?_cons_zero, Option.getD_some]
    have hmF : (0 ≤ m) = False := eq_false (by omega)
    clear hm hlt hnc hmax
    repeat (first
        | (refine takeH_skip rfl ?_; simp only [Act.put, List.setIfInBounds_toArray, List.set_cons_succ, List.set_cons_zero])
        | (refine takeH_blind rfl rfl ?_; apply Exists.intro; refine ⟨fun w => ?_, ?_⟩; (go_simp; try with_reducible rfl); simp only [Act.put, List.setIfInBounds_toArray, List.set_cons_succ, List.set_cons_zero]))
    refine takeH_nil ?_
    go_wp2_with fail
    go_ret
    exact ⟨ret_bool HE.out.symm, HB0.out.os, HB0.out.tape, HB0.out.output, HB0.out.size, HB0.out.block⟩
end Go.Proofs.YtlgphgipfjlbfaaDoor

end
