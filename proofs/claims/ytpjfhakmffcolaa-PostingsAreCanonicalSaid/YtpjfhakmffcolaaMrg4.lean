/- SymP, ListP, InsE, PoP, Parse, FindS, in one text. -/
import Derived.Test.YtpjfhakmffcolaaMrg1
import Derived.Test.YtpjfhakmffcolaaMrg3
import Derived.Test.YtpjfhakmffcolaaMrg2

section
/- Layer 10: tables of strings, their encoding and its reading, as functions on lists. No program in sight. -/
set_option linter.unusedVariables false
namespace Go.Proofs.Ytpjfhakmffcolaa
open Go Go.RowKit

instance {α : Type} (lt : α → α → Bool) (l : List α) : Decidable (AscB lt l) := inferInstanceAs (Decidable (List.Pairwise _ _))
def tabS (l : List ByteArray) : List ByteArray := tabB ltS l
def Fits (t : List ByteArray) : Prop := ∀ s ∈ t, s.size ≤ 65535
instance (t : List ByteArray) : Decidable (Fits t) := inferInstanceAs (Decidable (∀ s ∈ t, _))
def encSy (t : List ByteArray) : List Nat := groups t.length ++ t.flatMap fun s => bytesOf (numsOf s)
/-- What Encode gives. -/
def encSyR (t : List ByteArray) : Nat × List Nat := if ¬ Fits t then (7, []) else if ¬ AscB ltS t then (16, []) else (0, encSy t)
def lastLt (acc : List ByteArray) (x : ByteArray) : Bool := match acc.getLast? with
  | none => true
  | some y => ltS y x
def decSyF (b : List Nat) : Nat → Nat → List ByteArray → Nat × List ByteArray
  | 0, a, acc => if a < b.length then (4, []) else (0, acc)
  | k + 1, a, acc => match outString b a 65535 with
    | .bad e => (e, [])
    | .ok s to => if lastLt acc (strOf s) then decSyF b k to (acc ++ [strOf s]) else (16, [])
/-- What Decode gives. -/
def decSy (b : List Nat) : Nat × List ByteArray := match readAt b 0 with
  | (n, a, 0) => if b.length - a.toNat < n then (3, []) else decSyF b n a.toNat []
  | (_, _, e + 1) => (e + 1, [])

theorem outString_inv {B : List Nat} (hB : ∀ c ∈ B, c < 256) {a : Nat} (ha : a ≤ B.length) {most : Int} {s : List Nat} {to : Nat} (h : outString B a most = .ok s to) :
    B.drop a = bytesOf s ++ B.drop to ∧ (s.length : Int) ≤ most ∧ to ≤ B.length ∧ (∀ c ∈ s, c < 256) ∧ a < to := by
  rcases outString_cases hB ha most with ⟨e, _, _, hr⟩ | ⟨x, t, hr, hat, htl, hx, ho⟩
  · rw [hr] at h; cases h
  · rw [ho] at h
    split at h
    · cases h
    · next h1 =>
      split at h
      · cases h
      · next h2 =>
        cases h
        rcases readAt_cases hB ha with ⟨e, he, hr'⟩ | ⟨y, n, hr', hn, hin, hg, hy⟩
        · rw [hr] at hr'; simp only [Prod.mk.injEq] at hr'; omega
        · rw [hr] at hr'
          simp only [Prod.mk.injEq] at hr'
          obtain ⟨rfl, e2, _⟩ := hr'
          obtain rfl : t = a + n := by omega
          have hlen : ((B.drop (a + n)).take x).length = x := by rw [List.length_take, List.length_drop]; omega
          refine ⟨?_, by rw [hlen]; omega, by omega, fun c hc => hB c (List.mem_of_mem_drop (List.mem_of_mem_take hc)), by omega⟩
          rw [bytesOf, hlen, List.append_assoc, ← hg]
          have e3 : List.take x (B.drop (a + n)) ++ B.drop (a + n + x) = B.drop (a + n) := by
            rw [show B.drop (a + n + x) = (B.drop (a + n)).drop x from by rw [List.drop_drop]]; exact List.take_append_drop _ _
          have e4 : (B.take (a + n)).drop a ++ B.drop (a + n) = B.drop a := by
            have : B.drop a = (B.take (a + n) ++ B.drop (a + n)).drop a := by rw [List.take_append_drop]
            rw [this, List.drop_append_of_le_length (by rw [List.length_take]; omega)]
          rw [e3, e4]
theorem strOf_size' (l : List Nat) : (strOf l).size = l.length := by simp [strOf, strOfNums, ByteArray.size]

theorem bytesOf_pos (s : List Nat) : 1 ≤ (bytesOf s).length := by rw [bytesOf_length]; have := groups_pos s.length; omega
theorem flat_pos (t : List ByteArray) : t.length ≤ (t.flatMap fun s => bytesOf (numsOf s)).length := by
  induction t with
  | nil => exact Nat.le_refl _
  | cons s t ih => rw [List.flatMap_cons, List.length_append, List.length_cons]; have := bytesOf_pos (numsOf s); omega
theorem lastLt_of {acc : List ByteArray} {x : ByteArray} {t : List ByteArray} (h : AscB ltS (acc ++ x :: t)) : lastLt acc x = true := by
  unfold lastLt
  split
  · rfl
  · next y hy => exact (List.pairwise_append.1 h).2.2 y (List.mem_of_getLast? hy) x (by simp)
theorem ascB_push {acc : List ByteArray} {x : ByteArray} (h : AscB ltS acc) (hl : lastLt acc x = true) : AscB ltS (acc ++ [x]) := by
  refine (ascB_snoc ltS_ok.toLtPre).2 ⟨h, fun y hy => ?_⟩
  unfold lastLt at hl
  rw [hy] at hl
  exact hl

theorem decSyF_back (t : List ByteArray) : ∀ (pre : List Nat) (acc : List ByteArray), AscB ltS (acc ++ t) → Fits t →
    decSyF (pre ++ t.flatMap fun s => bytesOf (numsOf s)) t.length pre.length acc = (0, acc ++ t) := by
  induction t with
  | nil => intro pre acc _ _; simp [decSyF]
  | cons x t ih =>
    intro pre acc ha hf
    have hx : x.size ≤ 65535 := hf x (by simp)
    rw [List.length_cons, decSyF, List.flatMap_cons, ← List.append_assoc]
    rw [outString_back pre (numsOf x) _ (by rw [numsOf_length]; omega) 65535 (by rw [numsOf_length]; omega)]
    simp only [strOf_numsOf]
    rw [if_pos (lastLt_of ha), ← List.length_append]
    have := ih (pre ++ bytesOf (numsOf x)) (acc ++ [x]) (by simpa using ha) (fun s hs => hf s (by simp [hs]))
    rw [this]; simp
theorem decSy_back (t : List ByteArray) (ha : AscB ltS t) (hf : Fits t) (hn : t.length < 18446744073709551616) : decSy (encSy t) = (0, t) := by
  have hr : readAt (encSy t) 0 = (t.length, (((groups t.length).length : Nat) : Int), 0) := by
    have := readAt_groups [] (t.flatMap fun s => bytesOf (numsOf s)) hn
    simpa [encSy] using this
  rw [decSy, hr]
  simp only [Int.toNat_natCast]
  rw [if_neg, encSy, decSyF_back t (groups t.length) [] (by simpa using ha) hf]
  · simp
  · rw [encSy, List.length_append]; have := flat_pos t; omega

theorem decSyF_err (b : List Nat) : ∀ (k a : Nat) (acc : List ByteArray), (decSyF b k a acc).1 ≠ 0 → (decSyF b k a acc).2 = [] := by
  intro k
  induction k with
  | zero => intro a acc h; rw [decSyF] at h ⊢; split at h <;> simp_all
  | succ k ih =>
    intro a acc h
    rw [decSyF] at h ⊢
    split
    · rfl
    · next s to ho =>
      simp only [ho] at h
      split
      · next hl => rw [if_pos hl] at h; exact ih _ _ h
      · rfl
theorem decSy_err (b : List Nat) (h : (decSy b).1 ≠ 0) : (decSy b).2 = [] := by
  rw [decSy] at h ⊢
  split
  · next n a hr =>
    simp only [hr] at h
    split
    · rfl
    · next hl => rw [if_neg hl] at h; exact decSyF_err _ _ _ _ h
  · rfl
theorem decSyF_inv {b : List Nat} (hb : ∀ c ∈ b, c < 256) : ∀ (k a : Nat) (acc u : List ByteArray), a ≤ b.length → decSyF b k a acc = (0, u) →
    ∃ t, u = acc ++ t ∧ b.drop a = (t.flatMap fun s => bytesOf (numsOf s)) ∧ t.length = k ∧ Fits t ∧ (AscB ltS acc → AscB ltS u) := by
  intro k
  induction k with
  | zero =>
    intro a acc u ha h
    rw [decSyF] at h
    split at h
    · cases h
    · next hn =>
      cases h
      exact ⟨[], by simp, by rw [List.drop_eq_nil_of_le (by omega)]; rfl, rfl, (fun _ h => by cases h), fun h => h⟩
  | succ k ih =>
    intro a acc u ha h
    rw [decSyF] at h
    split at h
    · next e ho =>
      obtain ⟨rfl, _⟩ := Prod.mk.inj h
      rcases outString_cases hb ha 65535 with ⟨e, he, _, hr⟩ | ⟨x, t, _, _, _, _, hr⟩
      · rw [hr] at ho; cases ho; exact absurd rfl he
      · rw [hr] at ho
        split at ho
        · cases ho
        · split at ho <;> cases ho
    · next s to ho =>
      obtain ⟨h1, h2, h3, h4, _⟩ := outString_inv hb ha ho
      split at h
      · next hl =>
        obtain ⟨t, e1, e2, e3, e4, e5⟩ := ih to _ u h3 h
        have hn : numsOf (strOf s) = s := numsOf_strOf h4
        refine ⟨strOf s :: t, by rw [e1]; simp, ?_, by rw [List.length_cons, e3], ?_, fun hacc => e5 (ascB_push hacc hl)⟩
        · rw [h1, e2, List.flatMap_cons, hn]
        · intro x hx
          rcases List.mem_cons.1 hx with rfl | hx
          · rw [strOf_size']; omega
          · exact e4 x hx
      · cases h
theorem decSy_inv {b : List Nat} (hb : ∀ c ∈ b, c < 256) {u : List ByteArray} (h : decSy b = (0, u)) : b = encSy u ∧ AscB ltS u ∧ Fits u := by
  rw [decSy] at h
  rcases readAt_cases hb (Nat.zero_le _) with ⟨e, he, hr⟩ | ⟨n, m, hr, hm, hin, hg, hn⟩
  · have hr0 : readAt b 0 = (0, 0, e) := hr
    obtain ⟨k, rfl⟩ : ∃ k, e = k + 1 := ⟨e - 1, by omega⟩
    rw [hr0] at h
    simp at h
  · have hr0 : readAt b 0 = (n, ((0 + m : Nat) : Int), 0) := hr
    rw [hr0] at h
    simp only [Int.toNat_natCast, Nat.zero_add] at h hin hg
    split at h
    · cases h
    · obtain ⟨t, e1, e2, e3, e4, e5⟩ := decSyF_inv hb n m [] u hin h
      rw [List.nil_append] at e1
      subst e1
      refine ⟨?_, e5 List.Pairwise.nil, e4⟩
      rw [encSy, e3, ← e2, ← hg]
      simp
theorem encSyR_ok {t : List ByteArray} (h : (encSyR t).1 = 0) : encSyR t = (0, encSy t) ∧ Fits t ∧ AscB ltS t := by
  unfold encSyR at h ⊢
  split at h
  · cases h
  · next h1 =>
    split at h
    · cases h
    · next h2 =>
      rw [if_neg h1, if_neg h2]
      exact ⟨rfl, Decidable.not_not.1 h1, Decidable.not_not.1 h2⟩
theorem encSyR_of {t : List ByteArray} (h1 : Fits t) (h2 : AscB ltS t) : encSyR t = (0, encSy t) := by
  unfold encSyR
  rw [if_neg (not_not_intro h1), if_neg (not_not_intro h2)]
theorem encSyR_err {t : List ByteArray} (h : (encSyR t).1 ≠ 0) : (encSyR t).2 = [] := by
  unfold encSyR at h ⊢
  split
  · rfl
  · next h1 =>
    split
    · rfl
    · next h2 => rw [if_neg h1, if_neg h2] at h; exact absurd rfl h
theorem encSy_lt (t : List ByteArray) : ∀ c ∈ encSy t, c < 256 := fun c hc => by
  rcases List.mem_append.1 hc with h | h
  · exact groups_lt _ c h
  · obtain ⟨s, _, h⟩ := List.mem_flatMap.1 h
    exact bytesOf_lt (numsOf_lt s) c h
end Go.Proofs.Ytpjfhakmffcolaa

end

section
/- Layer 14: sorted lists of numbers, as functions on lists. No program in sight. -/
set_option linter.unusedVariables false
namespace Go.Proofs.Ytpjfhakmffcolaa

def ltI (a b : Int) : Bool := decide (a < b)
theorem ltI_ok : LtOk ltI := ⟨⟨fun a => by simp [ltI], fun a b c h k => by simp only [ltI, decide_eq_true_eq] at *; omega⟩, fun a b h k => by simp only [ltI, decide_eq_false_iff_not] at *; omega⟩
instance decAscI (l : List Int) : Decidable (AscB ltI l) := inferInstanceAs (Decidable (List.Pairwise _ _))
def interZ : List (List Int) → List Int
  | [] => []
  | a :: m => a.filter fun x => decide (∀ y ∈ m, x ∈ y)
def unionZ (m : List (List Int)) : List Int := tabB ltI m.flatten
def diffZ (a b : List Int) : List Int := a.filter fun x => decide (x ∉ b)
def uptoZ (n : Int) : List Int := (List.range n.toNat).map fun k : Nat => (k : Int)
def complZ (l : List Int) (n : Int) : List Int := (uptoZ n).filter fun x => decide (x ∉ l)
def sortZ (l : List Int) : List Int := tabB ltI l
theorem unionZ_one (l : List Int) : unionZ [l] = sortZ l := by simp [unionZ, sortZ]

theorem asc_filter {l : List Int} (p : Int → Bool) (h : AscB ltI l) : AscB ltI (l.filter p) := List.Pairwise.filter p h
theorem upto_asc (n : Int) : AscB ltI (uptoZ n) := by
  unfold uptoZ AscB
  rw [List.pairwise_map]
  refine List.Pairwise.imp (fun h => ?_) List.pairwise_lt_range
  simp only [ltI, decide_eq_true_eq]; omega
theorem upto_mem (n x : Int) : x ∈ uptoZ n ↔ 0 ≤ x ∧ x < n := by
  simp only [uptoZ, List.mem_map, List.mem_range]
  constructor
  · rintro ⟨k, hk, rfl⟩; omega
  · intro h; exact ⟨x.toNat, by omega, by omega⟩
theorem inter_asc {m : List (List Int)} (h : ∀ l ∈ m, AscB ltI l) : AscB ltI (interZ m) := by
  cases m with
  | nil => exact List.Pairwise.nil
  | cons a m => exact asc_filter _ (h a (by simp))
theorem inter_mem {m : List (List Int)} (hm : m ≠ []) (x : Int) : x ∈ interZ m ↔ ∀ l ∈ m, x ∈ l := by
  cases m with
  | nil => exact absurd rfl hm
  | cons a m => simp [interZ]
theorem union_asc (m : List (List Int)) : AscB ltI (unionZ m) := tabB_asc ltI_ok _
theorem union_mem (m : List (List Int)) (x : Int) : x ∈ unionZ m ↔ ∃ l ∈ m, x ∈ l := by rw [unionZ, tabB_mem ltI_ok, List.mem_flatten]
theorem diff_mem (a b : List Int) (x : Int) : x ∈ diffZ a b ↔ x ∈ a ∧ x ∉ b := by simp [diffZ]
theorem diff_asc {a : List Int} (b : List Int) (h : AscB ltI a) : AscB ltI (diffZ a b) := asc_filter _ h
theorem compl_mem (l : List Int) (n x : Int) : x ∈ complZ l n ↔ (0 ≤ x ∧ x < n) ∧ x ∉ l := by simp [complZ, upto_mem]
theorem compl_asc (l : List Int) (n : Int) : AscB ltI (complZ l n) := asc_filter _ (upto_asc n)
theorem sort_asc (l : List Int) : AscB ltI (sortZ l) := tabB_asc ltI_ok l
theorem sort_mem (l : List Int) (x : Int) : x ∈ sortZ l ↔ x ∈ l := tabB_mem ltI_ok l x
theorem sort_len (l : List Int) : (sortZ l).length ≤ l.length := tabB_len l
theorem ext_asc {a b : List Int} (ha : AscB ltI a) (hb : AscB ltI b) (h : ∀ x, x ∈ a ↔ x ∈ b) : a = b := ascB_ext ltI_ok.toLtPre a b ha hb h

/-- Neither depends on the order of the lists. -/
theorem inter_perm {m k : List (List Int)} (hp : m.Perm k) (hm : ∀ l ∈ m, AscB ltI l) : interZ m = interZ k := by
  by_cases h : m = []
  · subst h; rw [List.nil_perm.1 hp]
  · have hk : k ≠ [] := fun e => h (by subst e; exact List.perm_nil.1 hp)
    refine ext_asc (inter_asc hm) (inter_asc (fun l hl => hm l (hp.mem_iff.2 hl))) (fun x => ?_)
    rw [inter_mem h, inter_mem hk]
    exact ⟨fun g l hl => g l (hp.mem_iff.2 hl), fun g l hl => g l (hp.mem_iff.1 hl)⟩
theorem union_perm {m k : List (List Int)} (hp : m.Perm k) : unionZ m = unionZ k := by
  refine ext_asc (union_asc m) (union_asc k) (fun x => ?_)
  rw [union_mem, union_mem]
  exact ⟨fun ⟨l, h1, h2⟩ => ⟨l, hp.mem_iff.1 h1, h2⟩, fun ⟨l, h1, h2⟩ => ⟨l, hp.mem_iff.2 h1, h2⟩⟩
/-- The complement of a union; differences. -/
theorem morgan (a b : List Int) (n : Int) : complZ (unionZ [a, b]) n = interZ [complZ a n, complZ b n] := by
  refine ext_asc (compl_asc _ _) (inter_asc (fun l hl => ?_)) (fun x => ?_)
  · simp only [List.mem_cons, List.not_mem_nil, or_false] at hl
    rcases hl with rfl | rfl <;> exact compl_asc _ _
  · rw [compl_mem, inter_mem (by simp), union_mem]
    constructor
    · rintro ⟨h1, h2⟩ l hl
      simp only [List.mem_cons, List.not_mem_nil, or_false] at hl
      rcases hl with rfl | rfl
      · exact (compl_mem _ _ _).2 ⟨h1, fun h => h2 ⟨a, by simp, h⟩⟩
      · exact (compl_mem _ _ _).2 ⟨h1, fun h => h2 ⟨b, by simp, h⟩⟩
    · intro h
      have h1 := (compl_mem _ _ _).1 (h _ (List.mem_cons_self ..))
      have h2 := (compl_mem _ _ _).1 (h (complZ b n) (by simp))
      refine ⟨h1.1, ?_⟩
      rintro ⟨l, hl, hx⟩
      simp only [List.mem_cons, List.not_mem_nil, or_false] at hl
      rcases hl with rfl | rfl
      · exact h1.2 hx
      · exact h2.2 hx
theorem diff_all (a : List Int) (n : Int) : diffZ (complZ [] n) a = complZ a n := by
  refine ext_asc (diff_asc _ (compl_asc _ _)) (compl_asc _ _) (fun x => ?_)
  rw [diff_mem, compl_mem, compl_mem]; simp
theorem diff_compl (a b : List Int) (n : Int) : diffZ (complZ a n) b = interZ [complZ a n, complZ b n] := by
  refine ext_asc (diff_asc _ (compl_asc _ _)) (inter_asc (fun l hl => ?_)) (fun x => ?_)
  · simp only [List.mem_cons, List.not_mem_nil, or_false] at hl
    rcases hl with rfl | rfl <;> exact compl_asc _ _
  · rw [diff_mem, inter_mem (by simp)]
    constructor
    · rintro ⟨h1, h2⟩ l hl
      simp only [List.mem_cons, List.not_mem_nil, or_false] at hl
      rcases hl with rfl | rfl
      · exact h1
      · exact (compl_mem _ _ _).2 ⟨((compl_mem _ _ _).1 h1).1, h2⟩
    · intro h
      exact ⟨h _ (List.mem_cons_self ..), ((compl_mem _ _ _).1 (h (complZ b n) (by simp))).2⟩
theorem diff_self (a : List Int) : diffZ a a = [] := by
  unfold diffZ
  rw [List.filter_eq_nil_iff]
  intro x hx; simpa using hx
theorem compl_nil_len (n : Nat) : (complZ [] (n : Int)).length = n := by
  have h : complZ [] (n : Int) = uptoZ n := by unfold complZ; rw [List.filter_eq_self.2 (fun x _ => by simp)]
  rw [h]; simp [uptoZ]
end Go.Proofs.Ytpjfhakmffcolaa

end

section
/- Sorting by insertion from the end, whatever the order: elements of one key keep theirs. No program in sight. -/
namespace Go.Proofs.Ytpjfhakmffcolaa

theorem snoc_ind {α : Type} {p : List α → Prop} (h0 : p []) (h1 : ∀ l x, p l → p (l ++ [x])) (l : List α) : p l := by
  have h : ∀ l : List α, p l.reverse := fun l => by
    induction l with
    | nil => exact h0
    | cons x l ih => rw [List.reverse_cons]; exact h1 _ _ ih
  have := h l.reverse
  rwa [List.reverse_reverse] at this
section
variable {α : Type}
/-- A strict weak order. -/
structure LtWk (lt : α → α → Bool) : Prop extends LtPre lt where
  co : ∀ a b c, lt a c = true → lt a b = true ∨ lt b c = true
variable {lt : α → α → Bool}

/-- Where x is put: ahead of what is greater, from the end on. -/
def posE (lt : α → α → Bool) (x : α) (d : List α) : Nat := d.length - (d.reverse.takeWhile (fun y => lt x y)).length
def insE (lt : α → α → Bool) (x : α) (d : List α) : List α := d.take (posE lt x d) ++ x :: d.drop (posE lt x d)
def sortE (lt : α → α → Bool) (l : List α) : List α := l.foldl (fun d x => insE lt x d) []
theorem posE_of {x : α} {d : List α} {k : Nat} (hk : k ≤ d.length) (h1 : ∀ y ∈ d.drop k, lt x y = true) (h2 : ∀ y, 0 < k → d[k - 1]? = some y → lt x y = false) : posE lt x d = k := by
  have hs : d.reverse = (d.drop k).reverse ++ (d.take k).reverse := by rw [← List.reverse_append, List.take_append_drop]
  have ht : d.reverse.takeWhile (fun y => lt x y) = (d.drop k).reverse := by
    rw [hs, List.takeWhile_append_of_pos (fun y hy => h1 y (List.mem_reverse.1 hy))]
    have : (d.take k).reverse.takeWhile (fun y => lt x y) = [] := by
      rcases Nat.eq_zero_or_pos k with rfl | hp
      · simp
      · have hlt : k - 1 < d.length := by omega
        have hl : d.take k = d.take (k - 1) ++ [d[k - 1]] := by
          conv => lhs; rw [show k = (k - 1) + 1 by omega]
          rw [List.take_add_one, List.getElem?_eq_getElem hlt]; rfl
        rw [hl, List.reverse_append, List.reverse_singleton, List.singleton_append, List.takeWhile_cons, h2 _ hp (List.getElem?_eq_getElem hlt)]
        rfl
    rw [this, List.append_nil]
  rw [posE, ht, List.length_reverse, List.length_drop]; omega
theorem posE_spec (x : α) (d : List α) : posE lt x d ≤ d.length ∧ (∀ y ∈ d.drop (posE lt x d), lt x y = true) ∧ (∀ y, 0 < posE lt x d → d[posE lt x d - 1]? = some y → lt x y = false) := by
  induction d using snoc_ind with
  | h0 => exact ⟨Nat.le_refl _, fun y hy => by simp at hy, fun y h _ => by simp [posE] at h⟩
  | h1 d z ih =>
    by_cases hz : lt x z = true
    · have hp : posE lt x (d ++ [z]) = posE lt x d := by
        refine posE_of (by rw [List.length_append]; have := ih.1; omega) (fun y hy => ?_) (fun y h0 hy => ?_)
        · rw [List.drop_append_of_le_length ih.1] at hy
          rcases List.mem_append.1 hy with e | e
          · exact ih.2.1 y e
          · rw [List.mem_singleton.1 e]; exact hz
        · rw [List.getElem?_append_left (by have := ih.1; omega)] at hy
          exact ih.2.2 y h0 hy
      rw [hp]
      refine ⟨by rw [List.length_append]; have := ih.1; omega, fun y hy => ?_, fun y h0 hy => ?_⟩
      · rw [List.drop_append_of_le_length ih.1] at hy
        rcases List.mem_append.1 hy with e | e
        · exact ih.2.1 y e
        · rw [List.mem_singleton.1 e]; exact hz
      · rw [List.getElem?_append_left (by have := ih.1; omega)] at hy
        exact ih.2.2 y h0 hy
    · have hp : posE lt x (d ++ [z]) = d.length + 1 := by
        refine posE_of (by simp) (fun y hy => ?_) (fun y h0 hy => ?_)
        · rw [List.drop_of_length_le (by simp)] at hy; cases hy
        · rw [Nat.add_sub_cancel, List.getElem?_append_right (Nat.le_refl _), Nat.sub_self] at hy
          simp at hy; subst hy; simpa using hz
      rw [hp]
      refine ⟨by simp, fun y hy => ?_, fun y h0 hy => ?_⟩
      · rw [List.drop_of_length_le (by simp)] at hy; cases hy
      · rw [Nat.add_sub_cancel, List.getElem?_append_right (Nat.le_refl _), Nat.sub_self] at hy
        simp at hy; subst hy; simpa using hz
theorem insE_perm (x : α) (d : List α) : (insE lt x d).Perm (x :: d) := by
  unfold insE
  refine (List.perm_middle).trans ?_
  rw [List.take_append_drop]
theorem insE_len (x : α) (d : List α) : (insE lt x d).length = d.length + 1 := by rw [(insE_perm x d).length_eq, List.length_cons]

/-- Ascending, equals allowed. -/
def SrtE (lt : α → α → Bool) (d : List α) : Prop := d.Pairwise (fun a b => lt b a = false)
theorem insE_srt (h : LtWk lt) (x : α) (d : List α) (hd : SrtE lt d) : SrtE lt (insE lt x d) := by
  obtain ⟨h1, h2, h3⟩ := posE_spec (lt := lt) x d
  generalize posE lt x d = k at *
  have hk : insE lt x d = d.take (posE lt x d) ++ x :: d.drop (posE lt x d) := rfl
  have hp : posE lt x d = k := posE_of h1 h2 h3
  rw [hk, hp]
  have hsp : SrtE lt (d.take k ++ d.drop k) := by rw [List.take_append_drop]; exact hd
  obtain ⟨a1, a2, a3⟩ := List.pairwise_append.1 hsp
  refine List.pairwise_append.2 ⟨a1, List.pairwise_cons.2 ⟨fun b hb => h.asy (h2 b hb), a2⟩, fun a ha b hb => ?_⟩
  rcases List.mem_cons.1 hb with rfl | hb
  · have hp : 0 < k := by rcases Nat.eq_zero_or_pos k with rfl | hp; · simp at ha
                          · exact hp
    have hlt : k - 1 < d.length := by omega
    have hy := h3 d[k - 1] hp (List.getElem?_eq_getElem hlt)
    obtain ⟨i, hi, rfl⟩ := List.getElem_of_mem ha
    rw [List.length_take] at hi
    rw [List.getElem_take]
    rcases Bool.eq_false_or_eq_true (lt b d[i]) with e | e
    · rcases h.co b d[k - 1] d[i] e with f | f
      · rw [hy] at f; cases f
      · rcases Nat.lt_or_eq_of_le (show i ≤ k - 1 by omega) with g | g
        · have := List.pairwise_iff_getElem.1 hd i (k - 1) (by omega) hlt g
          rw [this] at f; cases f
        · simp only [g] at f; rw [h.irr] at f; cases f
    · exact e
  · exact a3 a ha b hb
theorem sortE_snoc (l : List α) (x : α) : sortE lt (l ++ [x]) = insE lt x (sortE lt l) := by rw [sortE, List.foldl_append]; rfl
theorem sortE_perm (l : List α) : (sortE lt l).Perm l := by
  induction l using snoc_ind with
  | h0 => exact List.Perm.refl _
  | h1 l x ih =>
    rw [sortE_snoc]
    exact (insE_perm x _).trans ((List.Perm.cons x ih).trans (List.perm_append_singleton x l).symm)
theorem sortE_srt (h : LtWk lt) (l : List α) : SrtE lt (sortE lt l) := by
  induction l using snoc_ind with
  | h0 => exact List.Pairwise.nil
  | h1 l x ih => rw [sortE_snoc]; exact insE_srt h x _ ih
theorem sortE_len (l : List α) : (sortE lt l).length = l.length := (sortE_perm l).length_eq
/-- No two have one key. -/
def Keys (lt : α → α → Bool) (l : List α) : Prop := l.Pairwise (fun a b => lt a b = true ∨ lt b a = true)
theorem Keys.perm {l m : List α} (h : l.Perm m) : Keys lt l ↔ Keys lt m := h.pairwise_iff (fun {_ _} e => e.symm)
theorem asc_of_srt {d : List α} (h : SrtE lt d) (hk : Keys lt d) : AscB lt d := by
  refine (List.pairwise_and_iff.2 ⟨h, hk⟩).imp (fun {_ _} e => ?_)
  rcases e.2 with f | f
  · exact f
  · rw [e.1] at f; cases f
theorem keys_of_asc {d : List α} (h : AscB lt d) : Keys lt d := h.imp (fun {_ _} e => Or.inl e)
theorem sortE_asc (h : LtWk lt) {l : List α} (hk : Keys lt l) : AscB lt (sortE lt l) := asc_of_srt (sortE_srt h l) ((Keys.perm (sortE_perm l)).2 hk)
theorem sortE_ext (h : LtWk lt) {l m : List α} (hk : Keys lt l) (hp : l.Perm m) : sortE lt l = sortE lt m :=
  ascB_ext h.toLtPre _ _ (sortE_asc h hk) (sortE_asc h ((Keys.perm hp).1 hk)) (fun x => by rw [(sortE_perm l).mem_iff, (sortE_perm m).mem_iff, hp.mem_iff])
theorem sortE_of_asc (h : LtWk lt) {l : List α} (ha : AscB lt l) : sortE lt l = l :=
  ascB_ext h.toLtPre _ _ (sortE_asc h (keys_of_asc ha)) ha (fun _ => (sortE_perm l).mem_iff)
end
end Go.Proofs.Ytpjfhakmffcolaa

end

section
/- Layer 15: indexes and their making, as functions on lists. No program in sight. -/
set_option linter.unusedVariables false
namespace Go.Proofs.Ytpjfhakmffcolaa
open Go Go.RowKit

instance labMemDec (l : List Lab) (x : Lab) : Decidable (x ∈ l) := decidable_of_iff (∃ y ∈ l, y = x) ⟨fun ⟨y, hy, e⟩ => e ▸ hy, fun h => ⟨x, h, rfl⟩⟩
/-- A label and the numbers of the series that have it. -/
abbrev Ent := Lab × List Int
def ltE (a b : Lab) : Bool := decide (cmpLab a b = -1)
theorem ltE_ok : LtOk ltE := cmpLab_ok.lt
theorem ltE_gt (a b : Lab) : ltE b a = true ↔ 0 < cmpLab a b := by
  unfold ltE
  rw [decide_eq_true_eq, cmpLab_ok.flip a b]
  rcases cmpLab_ok.dom a b with e | e | e <;> rw [e] <;> decide
/-- One round of the reference's insertion. -/
def insStep (x : Lab) (n : Int) (s : List Ent × Bool) (e : Ent) : List Ent × Bool :=
  let s1 := if 0 < cmpLab e.1 x ∧ s.2 = false then (s.1 ++ [(x, [n])], true) else s
  if cmpLab e.1 x = 0 then (s1.1 ++ [(x, insB ltI n e.2)], true) else (s1.1 ++ [e], s1.2)
def insR (x : Lab) (n : Int) (l : List Ent) : List Ent :=
  let s := l.foldl (insStep x n) ([], false)
  if s.2 = true then s.1 else s.1 ++ [(x, [n])]
def insP (x : Lab) (n : Int) : List Ent → List Ent
  | [] => [(x, [n])]
  | e :: l => if cmpLab e.1 x = 0 then (x, insB ltI n e.2) :: l else if 0 < cmpLab e.1 x then (x, [n]) :: e :: l else e :: insP x n l
theorem fold_done {x : Lab} {n : Int} (l : List Ent) (h : ∀ e ∈ l, 0 < cmpLab e.1 x) : ∀ acc, l.foldl (insStep x n) (acc, true) = (acc ++ l, true) := by
  induction l with
  | nil => intro acc; simp
  | cons e l ih =>
    intro acc
    have h0 := h e (by simp)
    have hs : insStep x n (acc, true) e = (acc ++ [e], true) := by
      unfold insStep
      simp only [Bool.true_eq_false, and_false, if_false]
      rw [if_neg (by omega)]
    rw [List.foldl_cons, hs, ih (fun y hy => h y (by simp [hy]))]
    simp
theorem fold_asc {x : Lab} {n : Int} (l : List Ent) (ha : AscB ltE (l.map Prod.fst)) : ∀ acc, (if (l.foldl (insStep x n) (acc, false)).2 = true then (l.foldl (insStep x n) (acc, false)).1 else (l.foldl (insStep x n) (acc, false)).1 ++ [(x, [n])]) = acc ++ insP x n l := by
  induction l with
  | nil => intro acc; simp [insP]
  | cons e l ih =>
    intro acc
    obtain ⟨h1, h2⟩ := List.pairwise_cons.1 ha
    have hgt : 0 ≤ cmpLab e.1 x → ∀ d ∈ l, 0 < cmpLab d.1 x := fun h0 d hd => by
      rw [← ltE_gt]
      have h3 := h1 d.1 (List.mem_map.2 ⟨d, hd, rfl⟩)
      rcases cmpLab_ok.dom e.1 x with f | f | f
      · omega
      · rw [← (cmpLab_ok.eq _ _).1 f]; exact h3
      · exact ltE_ok.tr _ _ _ ((ltE_gt e.1 x).2 (by omega)) h3
    rw [List.foldl_cons, insP]
    by_cases h0 : cmpLab e.1 x = 0
    · have hs : insStep x n (acc, false) e = (acc ++ [(x, insB ltI n e.2)], true) := by
        simp [insStep, h0]
      rw [hs, fold_done l (hgt (by omega)), if_pos h0]
      simp
    · by_cases hp : 0 < cmpLab e.1 x
      · have hs : insStep x n (acc, false) e = (acc ++ [(x, [n])] ++ [e], true) := by
          simp [insStep, h0, hp]
        rw [hs, fold_done l (hgt (by omega)), if_neg h0, if_pos hp]
        simp
      · have hs : insStep x n (acc, false) e = (acc ++ [e], false) := by
          simp [insStep, h0, hp]
        rw [hs, ih h2, if_neg h0, if_neg hp]
        simp
theorem insR_asc {x : Lab} {n : Int} {l : List Ent} (ha : AscB ltE (l.map Prod.fst)) : insR x n l = insP x n l := by
  have h := fold_asc (x := x) (n := n) l ha []
  rw [List.nil_append] at h
  exact h
theorem insP_map {y : Lab} {i : Int} (F : Lab → List Int) (T : List Lab) (ha : AscB ltE T) :
    insP y i (T.map fun x => (x, F x)) = (insB ltE y T).map fun x => (x, if x = y then (if y ∈ T then insB ltI i (F y) else [i]) else F x) := by
  induction T with
  | nil => simp [insP, insB]
  | cons t T ih =>
    obtain ⟨h1, h2⟩ := List.pairwise_cons.1 ha
    rw [List.map_cons, insP]
    simp only
    rcases cmpLab_ok.dom t y with e | e | e
    · have hlt : ltE t y = true := by unfold ltE; rw [e]; rfl
      have hne : t ≠ y := ltE_ok.toLtPre.ne hlt
      have hi : insB ltE y (t :: T) = t :: insB ltE y T := by rw [insB, if_pos hlt]
      rw [if_neg (by omega), if_neg (by omega), hi, List.map_cons, if_neg hne, ih h2]
      congr 1
      refine List.map_congr_left fun x _ => ?_
      have : y ∈ t :: T ↔ y ∈ T := ⟨fun h => (List.mem_cons.1 h).resolve_left (fun e => hne e.symm), fun h => List.mem_cons_of_mem _ h⟩
      simp only [this]
    · obtain rfl : t = y := (cmpLab_ok.eq _ _).1 e
      have hir : ltE t t = false := ltE_ok.irr t
      have hi : insB ltE t (t :: T) = t :: T := by rw [insB, if_neg (by rw [hir]; decide), if_neg (by rw [hir]; decide)]
      rw [if_pos e, hi, List.map_cons, if_pos rfl, if_pos (by simp)]
      congr 1
      refine List.map_congr_left fun x hx => ?_
      rw [if_neg (fun e : x = t => by subst e; have := h1 x hx; rw [hir] at this; cases this)]
    · have hlt : ltE y t = true := (ltE_gt t y).2 (by omega)
      have hnl : ltE t y = false := ltE_ok.toLtPre.asy hlt
      have hnm : y ∉ t :: T := fun hm => by
        rcases List.mem_cons.1 hm with f | f
        · subst f; rw [ltE_ok.irr] at hlt; cases hlt
        · have := h1 y f; rw [hnl] at this; cases this
      have hi : insB ltE y (t :: T) = y :: t :: T := by rw [insB, if_neg (by rw [hnl]; decide), if_pos hlt]
      rw [if_neg (by omega), if_pos (by omega), hi, List.map_cons, if_pos rfl, if_neg hnm]
      congr 1
      rw [List.map_cons, if_neg (fun e : t = y => hnm (by rw [e]; simp))]
      congr 1
      refine List.map_congr_left fun x hx => ?_
      rw [if_neg (fun e : x = y => hnm (by rw [← e]; simp [hx]))]

def addS (i : Int) (l : List Ent) (s : List Lab) : List Ent := s.foldl (fun l x => insR x i l) l
theorem addS_snoc (i : Int) (l : List Ent) (s : List Lab) (x : Lab) : addS i l (s ++ [x]) = insR x i (addS i l s) := by rw [addS, List.foldl_append]; rfl
def buildTo (l : List (List Lab)) (k : Nat) : List Ent := (List.range k).foldl (fun acc (i : Nat) => addS (i : Int) acc (l.getD i [])) []
theorem buildTo_succ (l : List (List Lab)) (k : Nat) : buildTo l (k + 1) = addS (k : Int) (buildTo l k) (l.getD k []) := by
  rw [buildTo, List.range_succ, List.foldl_append]; rfl
/-- What Build gives. -/
def buildP (l : List (List Lab)) : List Ent := buildTo l l.length
/-- Where x is. -/
def posTo (l : List (List Lab)) (k : Nat) (x : Lab) : List Int := ((List.range k).filter fun i => decide (x ∈ l.getD i [])).map fun i : Nat => (i : Int)
theorem posTo_succ (l : List (List Lab)) (k : Nat) (x : Lab) : posTo l (k + 1) x = posTo l k x ++ if x ∈ l.getD k [] then [(k : Int)] else [] := by
  rw [posTo, List.range_succ, List.filter_append, List.map_append]
  by_cases h : x ∈ l.getD k []
  · rw [if_pos h, List.filter_cons_of_pos (by simpa using h)]; rfl
  · rw [if_neg h, List.filter_cons_of_neg (by simpa using h)]; rfl
theorem posTo_lt (l : List (List Lab)) (k : Nat) (x : Lab) : ∀ y ∈ posTo l k x, 0 ≤ y ∧ y < (k : Int) := by
  intro y hy
  obtain ⟨i, hi, rfl⟩ := List.mem_map.1 hy
  have := List.mem_range.1 (List.mem_filter.1 hi).1
  omega
theorem posTo_asc (l : List (List Lab)) (k : Nat) (x : Lab) : AscB ltI (posTo l k x) := by
  unfold posTo AscB
  rw [List.pairwise_map]
  refine List.Pairwise.imp (fun h => ?_) (List.Pairwise.filter _ List.pairwise_lt_range)
  simp only [ltI, decide_eq_true_eq]; omega
theorem posTo_mem (l : List (List Lab)) (k : Nat) (x : Lab) (i : Int) : i ∈ posTo l k x ↔ ∃ j : Nat, i = (j : Int) ∧ j < k ∧ x ∈ l.getD j [] := by
  simp only [posTo, List.mem_map, List.mem_filter, List.mem_range, decide_eq_true_eq]
  constructor
  · rintro ⟨j, ⟨h1, h2⟩, rfl⟩; exact ⟨j, rfl, h1, h2⟩
  · rintro ⟨j, rfl, h1, h2⟩; exact ⟨j, ⟨h1, h2⟩, rfl⟩
def flatTo (l : List (List Lab)) (k : Nat) : List Lab := (l.take k).flatten
theorem flatTo_succ {l : List (List Lab)} {k : Nat} (h : k < l.length) : flatTo l (k + 1) = flatTo l k ++ l.getD k [] := by
  rw [flatTo, List.take_add_one, List.getElem?_eq_getElem h, List.flatten_append, List.getD_eq_getElem?_getD, List.getElem?_eq_getElem h]
  simp [flatTo]
def idxTo (l : List (List Lab)) (k : Nat) : List Ent := (tabB ltE (flatTo l k)).map fun x => (x, posTo l k x)
/-- The index, as the chapter says. -/
def idxP (l : List (List Lab)) : List Ent := idxTo l l.length
theorem posTo_none {l : List (List Lab)} {k : Nat} {x : Lab} (h : x ∉ flatTo l k) : posTo l k x = [] := by
  rw [posTo, List.filter_eq_nil_iff.2]
  · rfl
  · intro i hi
    simp only [decide_eq_true_eq]
    intro hx
    apply h
    rw [flatTo, List.mem_flatten]
    have hik := List.mem_range.1 hi
    by_cases hl : i < l.length
    · refine ⟨l[i], ?_, by rwa [List.getD_eq_getElem?_getD, List.getElem?_eq_getElem hl] at hx⟩
      exact List.mem_of_getElem? (i := i) (by rw [List.getElem?_take, if_pos hik, List.getElem?_eq_getElem hl])
    · rw [List.getD_eq_getElem?_getD, List.getElem?_eq_none (by omega)] at hx
      cases hx
theorem addS_idx {l : List (List Lab)} {k : Nat} (h : k < l.length) (s : List Lab) : addS (k : Int) (idxTo l k) s = (tabB ltE (flatTo l k ++ s)).map fun x => (x, posTo l k x ++ if x ∈ s then [(k : Int)] else []) := by
  induction s using snoc_ind with
  | h0 => simp [addS, idxTo]
  | h1 s y ih =>
    rw [addS_snoc, ih]
    have hT : AscB ltE (tabB ltE (flatTo l k ++ s)) := tabB_asc ltE_ok _
    have hfst : ((tabB ltE (flatTo l k ++ s)).map fun x => (x, posTo l k x ++ if x ∈ s then [(k : Int)] else [])).map Prod.fst = tabB ltE (flatTo l k ++ s) := by
      rw [List.map_map]
      exact (List.map_congr_left (fun x _ => rfl)).trans (List.map_id _)
    rw [insR_asc (by rw [hfst]; exact hT), insP_map (fun x => posTo l k x ++ if x ∈ s then [(k : Int)] else []) _ hT, ← List.append_assoc, tabB_snoc]
    refine List.map_congr_left fun x _ => ?_
    by_cases e : x = y
    · subst e
      have hy : x ∈ s ++ [x] := by simp
      rw [if_pos rfl, if_pos hy]
      by_cases hm : x ∈ tabB ltE (flatTo l k ++ s)
      · rw [if_pos hm]
        by_cases hs : x ∈ s
        · rw [if_pos hs, insB_at ltI_ok.toLtPre _ _ [] (fun z hz => by have := posTo_lt l k x z hz; simp only [ltI, decide_eq_true_eq]; omega)]
        · rw [if_neg hs, List.append_nil, insB_last ltI_ok.toLtPre _ _ (fun z hz => by have := posTo_lt l k x z hz; simp only [ltI, decide_eq_true_eq]; omega)]
      · rw [if_neg hm, posTo_none (fun h => hm ((tabB_mem ltE_ok _ _).2 (by simp [h])))]
        rfl
    · rw [if_neg e]
      have : x ∈ s ++ [y] ↔ x ∈ s := by simp [e]
      simp only [this]
theorem build_idxTo (l : List (List Lab)) (k : Nat) (h : k ≤ l.length) : buildTo l k = idxTo l k := by
  induction k with
  | zero => simp [buildTo, idxTo, flatTo, tabB, tabFrom]
  | succ k ih =>
    rw [buildTo_succ, ih (by omega), addS_idx (by omega), idxTo, flatTo_succ (by omega)]
    refine List.map_congr_left fun x _ => ?_
    rw [posTo_succ]
theorem build_idx (l : List (List Lab)) : buildP l = idxP l := build_idxTo l _ (Nat.le_refl _)
theorem idx_asc (l : List (List Lab)) : AscB ltE ((idxP l).map Prod.fst) := by
  have : (idxP l).map Prod.fst = tabB ltE (flatTo l l.length) := by
    rw [idxP, idxTo, List.map_map]
    exact (List.map_congr_left (fun x _ => rfl)).trans (List.map_id _)
  rw [this]
  exact tabB_asc ltE_ok _
theorem idx_mem {l : List (List Lab)} {e : Ent} (h : e ∈ idxP l) : e.1 ∈ l.flatten ∧ e.2 = posTo l l.length e.1 := by
  obtain ⟨x, hx, rfl⟩ := List.mem_map.1 h
  refine ⟨?_, rfl⟩
  have := (tabB_mem ltE_ok _ _).1 hx
  rwa [flatTo, List.take_length] at this

/-- What Find and Named give. -/
def findP (l : List Ent) (x : Lab) : List Int := ((l.find? fun e => decide (e.1 = x)).map Prod.snd).getD []
def namedP (l : List Ent) (n : ByteArray) : List Int := unionZ ((l.filter fun e => decide (e.1.1 = n)).map Prod.snd)
theorem find_idx (l : List (List Lab)) (x : Lab) : findP (idxP l) x = posTo l l.length x := by
  by_cases h : x ∈ tabB ltE (flatTo l l.length)
  · have hf : ∃ e, (idxP l).find? (fun e => decide (e.1 = x)) = some e := by
      cases hq : (idxP l).find? (fun e => decide (e.1 = x)) with
      | some e => exact ⟨e, rfl⟩
      | none =>
        have := List.find?_eq_none.1 hq (x, posTo l l.length x) (List.mem_map.2 ⟨x, h, rfl⟩)
        simp at this
    obtain ⟨e, he⟩ := hf
    have h1 := List.find?_some he
    simp only [decide_eq_true_eq] at h1
    have h2 := (idx_mem (List.mem_of_find?_eq_some he)).2
    rw [findP, he]
    simp only [Option.map_some, Option.getD_some]
    rw [h2, h1]
  · have hq : (idxP l).find? (fun e => decide (e.1 = x)) = none := List.find?_eq_none.2 fun e he => by
      simp only [decide_eq_true_eq]
      intro hx
      apply h
      obtain ⟨y, hy, rfl⟩ := List.mem_map.1 he
      simp only at hx
      rwa [← hx]
    rw [findP, hq, posTo_none (fun hm => h ((tabB_mem ltE_ok _ _).2 hm))]
    rfl
/-- The label sets that have a label of a name. -/
def posN (l : List (List Lab)) (k : Nat) (n : ByteArray) : List Int := ((List.range k).filter fun i => (getL (l.getD i []) n).isSome).map fun i : Nat => (i : Int)
theorem getL_some {s : List Lab} {n : ByteArray} : (getL s n).isSome = true ↔ ∃ y ∈ s, y.1 = n := by
  unfold getL
  cases h : s.find? (fun x => decide (x.1 = n)) with
  | none =>
    simp only [Option.map_none, Option.isSome_none, Bool.false_eq_true, false_iff, not_exists, not_and]
    intro y hy
    simpa using List.find?_eq_none.1 h y hy
  | some y =>
    have h1 := List.find?_some h
    simp only [decide_eq_true_eq] at h1
    simp only [Option.map_some, Option.isSome_some, true_iff]
    exact ⟨y, List.mem_of_find?_eq_some h, h1⟩
theorem named_idx (l : List (List Lab)) (n : ByteArray) : namedP (idxP l) n = posN l l.length n := by
  refine ext_asc (union_asc _) ?_ (fun i => ?_)
  · unfold posN AscB
    rw [List.pairwise_map]
    refine List.Pairwise.imp (fun h => ?_) (List.Pairwise.filter _ List.pairwise_lt_range)
    simp only [ltI, decide_eq_true_eq]; omega
  · rw [namedP, union_mem]
    simp only [posN, List.mem_map, List.mem_filter, List.mem_range, decide_eq_true_eq]
    constructor
    · rintro ⟨s, ⟨e, ⟨he, hn⟩, rfl⟩, hi⟩
      rw [(idx_mem he).2] at hi
      obtain ⟨j, rfl, h1, h2⟩ := (posTo_mem _ _ _ _).1 hi
      exact ⟨j, ⟨h1, getL_some.2 ⟨e.1, h2, hn⟩⟩, rfl⟩
    · rintro ⟨j, ⟨h1, h2⟩, rfl⟩
      obtain ⟨y, hy, hn⟩ := getL_some.1 h2
      refine ⟨posTo l l.length y, ⟨(y, posTo l l.length y), ⟨List.mem_map.2 ⟨y, (tabB_mem ltE_ok _ _).2 ?_, rfl⟩, hn⟩, rfl⟩, (posTo_mem _ _ _ _).2 ⟨j, rfl, h1, hy⟩⟩
      rw [flatTo, List.take_length, List.mem_flatten]
      refine ⟨l[j], List.getElem_mem h1, ?_⟩
      rwa [List.getD_eq_getElem?_getD, List.getElem?_eq_getElem h1] at hy
end Go.Proofs.Ytpjfhakmffcolaa

end

section
/- Readings that invert writings: numbers, symbols, pairs, counted lists; what is read of a proper prefix. No program in sight. -/
set_option linter.unusedVariables false
namespace Go.Proofs.Ytpjfhakmffcolaa

/-- What a number read at a gives when fewer bytes are there. -/
theorem readAt_take {B : List Nat} (hB : ∀ c ∈ B, c < 256) {a m x : Nat} {to : Int} (ham : a ≤ m) (hm : m ≤ B.length) (h : readAt B (a : Int) = (x, to, 0)) :
    ∃ b : Nat, to = (b : Int) ∧ a < b ∧ b ≤ B.length ∧ B.drop a = groups x ++ B.drop b ∧ b = a + (groups x).length ∧ x < 18446744073709551616 ∧ readAt (B.take m) (a : Int) = if b ≤ m then (x, (b : Int), 0) else (0, 0, 3) := by
  rcases readAt_cases hB (Nat.le_trans ham hm) with ⟨e, he, hr⟩ | ⟨y, n, hr, hn, hin, hg, hy⟩
  · rw [h] at hr; simp only [Prod.mk.injEq] at hr; exact absurd hr.2.2.symm he
  · rw [h] at hr
    simp only [Prod.mk.injEq] at hr
    obtain ⟨rfl, rfl, _⟩ := hr
    have hl : (groups x).length = n := by rw [← hg, List.length_drop, List.length_take]; omega
    have hd : B.drop a = groups x ++ B.drop (a + n) := by
      have : B.drop a = (B.take (a + n) ++ B.drop (a + n)).drop a := by rw [List.take_append_drop]
      rw [this, List.drop_append_of_le_length (by rw [List.length_take]; omega), hg]
    have hta : (B.take a).length = a := by rw [List.length_take]; omega
    have hBs : B = B.take a ++ (groups x ++ B.drop (a + n)) := by rw [← hd, List.take_append_drop]
    have htm : B.take m = B.take a ++ (groups x ++ B.drop (a + n)).take (m - a) := by
      have h0 : B.take m = (B.take a ++ (groups x ++ B.drop (a + n))).take m := by rw [← hBs]
      rw [h0, List.take_append, hta, List.take_of_length_le (l := B.take a) (by omega)]
    refine ⟨a + n, rfl, by omega, hin, hd, by rw [hl], hy, ?_⟩
    by_cases hle : a + n ≤ m
    · rw [if_pos hle, htm]
      have h1 : (groups x ++ B.drop (a + n)).take (m - a) = groups x ++ (B.drop (a + n)).take (m - a - n) := by
        rw [List.take_append, hl, List.take_of_length_le (l := groups x) (by omega)]
      rw [h1, ← List.append_assoc]
      have := readAt_groups (B.take a) ((B.drop (a + n)).take (m - a - n)) hy
      rw [hta, hl] at this
      exact this
    · rw [if_neg hle, htm]
      have h1 : (groups x ++ B.drop (a + n)).take (m - a) = (groups x).take (m - a) := by
        rw [List.take_append_of_le_length (by omega)]
      rw [h1]
      have hp := readFrom_prefix x 0 0 (m - a) (by decide) (by simpa using hy) (by omega)
      have h2 : readFrom ((B.take a ++ (groups x).take (m - a)).drop a) 0 0 = (0, 0, 3) := by
        rw [List.drop_append_of_le_length (by omega), List.drop_of_length_le (by omega), List.nil_append]; exact hp
      rw [readAt_in (by rw [List.length_append]; omega) h2]; rfl

/-- p reads what f writes, of what is ok: any bytes may follow; what is read was written; of fewer bytes the same is read, or too few are found. -/
structure Reads {α : Type} (p : List Nat → Nat → Out α) (f : α → List Nat) (ok : α → Prop) : Prop where
  back : ∀ (pre rest : List Nat) (x : α), ok x → p (pre ++ f x ++ rest) pre.length = .ok x (pre.length + (f x).length)
  inv : ∀ {B : List Nat} {a : Nat} {x : α} {b : Nat}, (∀ c ∈ B, c < 256) → a ≤ B.length → p B a = .ok x b → ok x ∧ B.drop a = f x ++ B.drop b ∧ a < b ∧ b ≤ B.length
  bad : ∀ {B : List Nat} {a e : Nat}, (∀ c ∈ B, c < 256) → a ≤ B.length → p B a = .bad e → e ≠ 0
  cut : ∀ {B : List Nat} {a : Nat} {x : α} {b m : Nat}, (∀ c ∈ B, c < 256) → a ≤ m → m ≤ B.length → p B a = .ok x b → p (B.take m) a = .bad 3 ∨ (b ≤ m ∧ p (B.take m) a = .ok x b)
  pos : ∀ x, ok x → 0 < (f x).length
  lt : ∀ x, ok x → ∀ c ∈ f x, c < 256

/-- A number of which not all are taken. -/
def pNum {α : Type} (g : Nat → Option α) (z : Nat) (B : List Nat) (a : Nat) : Out α := match readAt B (a : Int) with
  | (n, to, 0) => match g n with
    | some x => .ok x to.toNat
    | none => .bad z
  | (_, _, e + 1) => .bad (e + 1)
theorem reads_num {α : Type} {g : Nat → Option α} {h : α → Nat} {ok : α → Prop} {z : Nat} (hz : z ≠ 0) (h1 : ∀ x, ok x → g (h x) = some x ∧ h x < 18446744073709551616) (h2 : ∀ n x, g n = some x → ok x ∧ h x = n) : Reads (pNum g z) (fun x => groups (h x)) ok where
  back := fun pre rest x hx => by
    obtain ⟨e1, e2⟩ := h1 x hx
    rw [pNum, readAt_groups pre rest e2]
    simp only [e1, Int.toNat_natCast]
  inv := fun {B a x b} hB ha hp => by
    rcases readAt_cases hB ha with ⟨e, he, hr⟩ | ⟨y, n, hr, hn, hin, hg, hy⟩
    · obtain ⟨k, rfl⟩ : ∃ k, e = k + 1 := ⟨e - 1, by omega⟩
      rw [pNum, hr] at hp; cases hp
    · obtain ⟨b', hb, h3, h4, h5, h6, h7, _⟩ := readAt_take hB (Nat.le_refl a) ha hr
      rw [pNum, hr] at hp
      simp only at hp
      split at hp
      · next x' hx' =>
        cases hp
        obtain ⟨k1, k2⟩ := h2 _ _ hx'
        rw [Int.toNat_natCast]
        have : b' = a + n := by omega
        subst this
        exact ⟨k1, by rw [k2]; exact h5, by omega, h4⟩
      · cases hp
  bad := fun {B a e} hB ha hp => by
    rw [pNum] at hp
    split at hp
    · split at hp
      · cases hp
      · cases hp; exact hz
    · cases hp; omega
  cut := fun {B a x b m} hB ha hm hp => by
    rcases readAt_cases hB (Nat.le_trans ha hm) with ⟨e, he, hr⟩ | ⟨y, n, hr, hn, hin, hg, hy⟩
    · obtain ⟨k, rfl⟩ : ∃ k, e = k + 1 := ⟨e - 1, by omega⟩
      rw [pNum, hr] at hp; cases hp
    · obtain ⟨b', hb, h3, h4, h5, h6, h7, h8⟩ := readAt_take hB ha hm hr
      rw [pNum, hr] at hp
      simp only at hp
      split at hp
      · next x' hx' =>
        cases hp
        have e : b' = a + n := by omega
        rw [pNum, h8]
        by_cases hle : b' ≤ m
        · rw [if_pos hle]
          refine Or.inr ⟨by rw [Int.toNat_natCast]; omega, ?_⟩
          simp only [hx']
          rw [← hb]
        · rw [if_neg hle]; exact Or.inl rfl
      · cases hp
  pos := fun x _ => groups_pos _
  lt := fun x _ => groups_lt _

def pPair {α β : Type} (p : List Nat → Nat → Out α) (q : List Nat → Nat → Out β) (B : List Nat) (a : Nat) : Out (α × β) := match p B a with
  | .bad e => .bad e
  | .ok x b => match q B b with
    | .bad e => .bad e
    | .ok y c => .ok (x, y) c
theorem reads_pair {α β : Type} {p : List Nat → Nat → Out α} {q : List Nat → Nat → Out β} {f : α → List Nat} {g : β → List Nat} {ok1 : α → Prop} {ok2 : β → Prop} (hp : Reads p f ok1) (hq : Reads q g ok2) :
    Reads (pPair p q) (fun x => f x.1 ++ g x.2) (fun x => ok1 x.1 ∧ ok2 x.2) where
  back := fun pre rest x hx => by
    have e1 := hp.back pre (g x.2 ++ rest) x.1 hx.1
    have e2 := hq.back (pre ++ f x.1) rest x.2 hx.2
    have e0 : pre ++ (f x.1 ++ g x.2) ++ rest = pre ++ f x.1 ++ (g x.2 ++ rest) := by simp
    have e3 : pre ++ (f x.1 ++ g x.2) ++ rest = pre ++ f x.1 ++ g x.2 ++ rest := by simp
    rw [pPair, e0, e1]
    simp only
    rw [← e0, e3, ← List.length_append, e2]
    simp only [List.length_append, Nat.add_assoc]
  inv := fun {B a x c} hB ha h => by
    rw [pPair] at h
    split at h
    · cases h
    · next y b h1 =>
      split at h
      · cases h
      · next z c' h2 =>
        cases h
        obtain ⟨a1, a2, a3, a4⟩ := hp.inv hB ha h1
        obtain ⟨b1, b2, b3, b4⟩ := hq.inv hB a4 h2
        exact ⟨⟨a1, b1⟩, by rw [a2, b2, List.append_assoc], by omega, b4⟩
  bad := fun {B a e} hB ha h => by
    rw [pPair] at h
    split at h
    · next e' h1 => cases h; exact hp.bad hB ha h1
    · next y b h1 =>
      split at h
      · next e' h2 => cases h; exact hq.bad hB (hp.inv hB ha h1).2.2.2 h2
      · cases h
  cut := fun {B a x c m} hB ha hm h => by
    rw [pPair] at h
    split at h
    · cases h
    · next y b h1 =>
      split at h
      · cases h
      · next z c' h2 =>
        cases h
        rcases hp.cut hB ha hm h1 with e1 | ⟨hb, e1⟩
        · rw [pPair, e1]; exact Or.inl rfl
        · rcases hq.cut hB hb hm h2 with e2 | ⟨hc, e2⟩
          · exact Or.inl (by rw [pPair, e1]; simp only [e2])
          · exact Or.inr ⟨hc, by rw [pPair, e1]; simp only [e2]⟩
  pos := fun x hx => by rw [List.length_append]; have := hp.pos _ hx.1; omega
  lt := fun x hx c hc => by
    rcases List.mem_append.1 hc with h | h
    · exact hp.lt _ hx.1 c h
    · exact hq.lt _ hx.2 c h

def pMany {α : Type} (p : List Nat → Nat → Out α) (B : List Nat) : Nat → Nat → List α → Out (List α)
  | 0, a, acc => .ok acc a
  | k + 1, a, acc => match p B a with
    | .bad e => .bad e
    | .ok x b => pMany p B k b (acc ++ [x])
/-- A counted list, whose elements take a byte or more; z: the error of no elements, where there must be one. -/
def pList {α : Type} (z : Nat) (p : List Nat → Nat → Out α) (B : List Nat) (a : Nat) : Out (List α) := match readAt B (a : Int) with
  | (n, to, 0) => if B.length - to.toNat < n then .bad 3 else if z ≠ 0 ∧ n = 0 then .bad z else pMany p B n to.toNat []
  | (_, _, e + 1) => .bad (e + 1)
section
variable {α : Type} {p : List Nat → Nat → Out α} {f : α → List Nat} {ok : α → Prop}
theorem many_back (h : Reads p f ok) (rest : List Nat) (l : List α) : ∀ (pre : List Nat) (acc : List α), (∀ x ∈ l, ok x) → pMany p (pre ++ l.flatMap f ++ rest) l.length pre.length acc = .ok (acc ++ l) (pre.length + (l.flatMap f).length) := by
  induction l with
  | nil => intro pre acc _; simp [pMany]
  | cons x l ih =>
    intro pre acc ho
    have e0 : pre ++ (x :: l).flatMap f ++ rest = pre ++ f x ++ (l.flatMap f ++ rest) := by simp
    have e1 := h.back pre (l.flatMap f ++ rest) x (ho x (by simp))
    have e2 := ih (pre ++ f x) (acc ++ [x]) (fun y hy => ho y (by simp [hy]))
    rw [List.length_cons, pMany, e0, e1]
    simp only
    rw [← List.append_assoc, ← List.length_append, e2]
    simp [Nat.add_assoc]
theorem many_inv (h : Reads p f ok) {B : List Nat} (hB : ∀ c ∈ B, c < 256) : ∀ (k a : Nat) (acc u : List α) (b : Nat), a ≤ B.length → pMany p B k a acc = .ok u b → ∃ l, u = acc ++ l ∧ l.length = k ∧ (∀ x ∈ l, ok x) ∧ B.drop a = l.flatMap f ++ B.drop b ∧ a ≤ b ∧ b ≤ B.length := by
  intro k
  induction k with
  | zero => intro a acc u b ha hp; rw [pMany] at hp; cases hp; exact ⟨[], by simp, rfl, (fun _ h => by cases h), rfl, Nat.le_refl _, ha⟩
  | succ k ih =>
    intro a acc u b ha hp
    rw [pMany] at hp
    split at hp
    · cases hp
    · next x b1 h1 =>
      obtain ⟨a1, a2, a3, a4⟩ := h.inv hB ha h1
      obtain ⟨l, e1, e2, e3, e4, e5, e6⟩ := ih b1 (acc ++ [x]) u b a4 hp
      refine ⟨x :: l, by rw [e1]; simp, by simp [e2], ?_, by rw [a2, e4]; simp, by omega, e6⟩
      intro y hy
      rcases List.mem_cons.1 hy with rfl | hy
      · exact a1
      · exact e3 y hy
theorem many_bad (h : Reads p f ok) {B : List Nat} (hB : ∀ c ∈ B, c < 256) : ∀ (k a : Nat) (acc : List α) (e : Nat), a ≤ B.length → pMany p B k a acc = .bad e → e ≠ 0 := by
  intro k
  induction k with
  | zero => intro a acc e _ hp; rw [pMany] at hp; cases hp
  | succ k ih =>
    intro a acc e ha hp
    rw [pMany] at hp
    split at hp
    · next e' h1 => cases hp; exact h.bad hB ha h1
    · next x b1 h1 => exact ih b1 _ e (h.inv hB ha h1).2.2.2 hp
theorem many_cut (h : Reads p f ok) {B : List Nat} (hB : ∀ c ∈ B, c < 256) {m : Nat} (hm : m ≤ B.length) : ∀ (k a : Nat) (acc u : List α) (b : Nat), a ≤ m → pMany p B k a acc = .ok u b → pMany p (B.take m) k a acc = .bad 3 ∨ (b ≤ m ∧ pMany p (B.take m) k a acc = .ok u b) := by
  intro k
  induction k with
  | zero => intro a acc u b ha hp; rw [pMany] at hp; cases hp; exact Or.inr ⟨ha, rfl⟩
  | succ k ih =>
    intro a acc u b ha hp
    rw [pMany] at hp
    split at hp
    · cases hp
    · next x b1 h1 =>
      rcases h.cut hB ha hm h1 with e1 | ⟨hb, e1⟩
      · rw [pMany, e1]; exact Or.inl rfl
      · rw [pMany, e1]; exact ih b1 _ u b hb hp
theorem flat_le (h : Reads p f ok) (l : List α) (ho : ∀ x ∈ l, ok x) : l.length ≤ (l.flatMap f).length := by
  induction l with
  | nil => exact Nat.le_refl _
  | cons x l ih => rw [List.flatMap_cons, List.length_append, List.length_cons]; have := h.pos x (ho x (by simp)); have := ih (fun y hy => ho y (by simp [hy])); omega
theorem reads_list {z : Nat} (h : Reads p f ok) : Reads (pList z p) (fun l => groups l.length ++ l.flatMap f) (fun l => (∀ x ∈ l, ok x) ∧ l.length < 18446744073709551616 ∧ (z ≠ 0 → l ≠ [])) where
  back := fun pre rest l hl => by
    have e0 : pre ++ (groups l.length ++ l.flatMap f) ++ rest = pre ++ groups l.length ++ (l.flatMap f ++ rest) := by simp
    have e3 : pre ++ (groups l.length ++ l.flatMap f) ++ rest = pre ++ groups l.length ++ l.flatMap f ++ rest := by simp
    have hr := readAt_groups pre (l.flatMap f ++ rest) hl.2.1
    rw [pList, e0, hr]
    simp only [Int.toNat_natCast]
    have hf := flat_le h l hl.1
    rw [if_neg (by simp only [List.length_append]; omega), if_neg (fun e => hl.2.2 e.1 (List.eq_nil_of_length_eq_zero e.2)), ← e0, e3, ← List.length_append, many_back h rest l _ _ hl.1]
    simp [Nat.add_assoc]
  inv := fun {B a u b} hB ha hp => by
    rcases readAt_cases hB ha with ⟨e, he, hr⟩ | ⟨y, n, hr, hn, hin, hg, hy⟩
    · obtain ⟨k, rfl⟩ : ∃ k, e = k + 1 := ⟨e - 1, by omega⟩
      rw [pList, hr] at hp; cases hp
    · obtain ⟨b', hb, h3, h4, h5, h6, h7, _⟩ := readAt_take hB (Nat.le_refl a) ha hr
      have e : b' = a + n := by omega
      rw [pList, hr] at hp
      simp only [Int.toNat_natCast] at hp
      split at hp
      · cases hp
      · split at hp
        · cases hp
        · next hz =>
          rw [← e] at hp
          obtain ⟨l, e1, e2, e3, e4, e5, e6⟩ := many_inv h hB y b' [] u b h4 hp
          rw [List.nil_append] at e1
          subst e1
          refine ⟨⟨e3, by rw [e2]; exact h7, fun hz1 hn1 => hz ⟨hz1, by rw [← e2, hn1]; rfl⟩⟩, by rw [h5, e4, e2, List.append_assoc], by omega, e6⟩
  bad := fun {B a e} hB ha hp => by
    rcases readAt_cases hB ha with ⟨e1, he, hr⟩ | ⟨y, n, hr, hn, hin, hg, hy⟩
    · obtain ⟨k, rfl⟩ : ∃ k, e1 = k + 1 := ⟨e1 - 1, by omega⟩
      rw [pList, hr] at hp; cases hp; omega
    · rw [pList, hr] at hp
      simp only [Int.toNat_natCast] at hp
      split at hp
      · cases hp; decide
      · split at hp
        · next hz => cases hp; exact hz.1
        · exact many_bad h hB _ _ _ _ hin hp
  cut := fun {B a u b m} hB ha hm hp => by
    rcases readAt_cases hB (Nat.le_trans ha hm) with ⟨e1, he, hr⟩ | ⟨y, n, hr, hn, hin, hg, hy⟩
    · obtain ⟨k, rfl⟩ : ∃ k, e1 = k + 1 := ⟨e1 - 1, by omega⟩
      rw [pList, hr] at hp; cases hp
    · obtain ⟨b', hb, h3, h4, h5, h6, h7, h8⟩ := readAt_take hB ha hm hr
      have e : b' = a + n := by omega
      rw [pList, hr] at hp
      simp only [Int.toNat_natCast] at hp
      rw [pList, h8]
      by_cases hle : b' ≤ m
      · rw [if_pos hle]
        simp only [Int.toNat_natCast]
        split
        · exact Or.inl rfl
        · split at hp
          · cases hp
          · split at hp
            · cases hp
            · next hz =>
              rw [if_neg hz]
              rw [← e] at hp
              exact many_cut h hB hm _ _ _ _ _ hle hp
      · rw [if_neg hle]; exact Or.inl rfl
  pos := fun l _ => by rw [List.length_append]; have := groups_pos l.length; omega
  lt := fun l hl c hc => by
    rcases List.mem_append.1 hc with e | e
    · exact groups_lt _ c e
    · obtain ⟨x, hx, e⟩ := List.mem_flatMap.1 e
      exact h.lt x (hl.1 x hx) c e
end

/-- All bytes are one reading. -/
def pAll {α : Type} (p : List Nat → Nat → Out α) (z : α) (B : List Nat) : Nat × α := match p B 0 with
  | .bad e => (e, z)
  | .ok x b => if b < B.length then (4, z) else (0, x)
section
variable {α : Type} {p : List Nat → Nat → Out α} {f : α → List Nat} {ok : α → Prop} {z : α}
theorem all_back (h : Reads p f ok) {x : α} (hx : ok x) : pAll p z (f x) = (0, x) := by
  have := h.back [] [] x hx
  simp only [List.nil_append, List.append_nil, List.length_nil, Nat.zero_add] at this
  rw [pAll, this]; simp
theorem all_inv (h : Reads p f ok) {B : List Nat} (hB : ∀ c ∈ B, c < 256) (he : (pAll p z B).1 = 0) : ok (pAll p z B).2 ∧ B = f (pAll p z B).2 := by
  cases hp : p B 0 with
  | bad e => rw [pAll, hp] at he; exact absurd he (h.bad hB (Nat.zero_le _) hp)
  | ok x b =>
    obtain ⟨a1, a2, a3, a4⟩ := h.inv hB (Nat.zero_le _) hp
    rw [pAll, hp] at he ⊢
    simp only at he ⊢
    split at he
    · cases he
    · next hb =>
      rw [if_neg hb]
      refine ⟨a1, ?_⟩
      rw [List.drop_zero, List.drop_of_length_le (by omega), List.append_nil] at a2
      exact a2
theorem all_err (B : List Nat) (he : (pAll p z B).1 ≠ 0) : (pAll p z B).2 = z := by
  rw [pAll] at he ⊢
  split
  · rfl
  · next x b hp =>
    rw [hp] at he
    simp only at he
    split
    · rfl
    · next hb => rw [if_neg hb] at he; exact absurd rfl he
theorem all_cut (h : Reads p f ok) {x : α} (hx : ok x) {m : Nat} (hm : m < (f x).length) : pAll p z ((f x).take m) = (3, z) := by
  have hb := h.back [] [] x hx
  simp only [List.nil_append, List.append_nil, List.length_nil, Nat.zero_add] at hb
  rcases h.cut (h.lt x hx) (Nat.zero_le m) (Nat.le_of_lt hm) hb with e | ⟨e, _⟩
  · rw [pAll, e]
  · omega
theorem all_more (h : Reads p f ok) {x : α} (hx : ok x) (c : Nat) : pAll p z (f x ++ [c]) = (4, z) := by
  have hb := h.back [] [c] x hx
  simp only [List.nil_append, List.length_nil, Nat.zero_add] at hb
  rw [pAll, hb]; simp
end
end Go.Proofs.Ytpjfhakmffcolaa

end

section
/- The place of a string in a list of strings. No program in sight. -/
set_option linter.unusedVariables false
namespace Go.Proofs.Ytpjfhakmffcolaa
open Go Go.RowKit

def findS (l : List ByteArray) (x : ByteArray) : Int := firstI (fun y => decide (y = x)) l
theorem findS_in {t : List ByteArray} {s : ByteArray} (h : s ∈ t) : ∃ j : Nat, findS t s = (j : Int) ∧ t[j]? = some s := by
  rcases firstI_cases (fun y => decide (y = s)) t with ⟨_, h2⟩ | ⟨j, x, h1, h2, h3, _⟩
  · have := h2 s h; simp at this
  · have : x = s := by simpa using h3
    subst this
    exact ⟨j, h1, h2⟩
theorem findS_out {t : List ByteArray} {s : ByteArray} (h : s ∉ t) : findS t s = -1 :=
  firstI_none fun y hy => by simp only [decide_eq_false_iff_not]; rintro rfl; exact h hy
theorem findS_at {t : List ByteArray} (ht : t.Nodup) {n : Nat} {s : ByteArray} (h : t[n]? = some s) : findS t s = (n : Int) := by
  obtain ⟨j, h1, h2⟩ := findS_in (List.mem_of_getElem? h)
  rw [h1]
  have hj := (List.getElem?_eq_some_iff.1 h2).1
  have := (List.getElem?_inj hj ht).1 (h2.trans h.symm)
  omega
end Go.Proofs.Ytpjfhakmffcolaa

end
