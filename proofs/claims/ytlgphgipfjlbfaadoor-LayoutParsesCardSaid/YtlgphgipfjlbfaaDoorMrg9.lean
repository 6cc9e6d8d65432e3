/- PoP, FindS, RecP, PoE, PoF, PoB, LabE, PoN, PoL, in one text. -/
import Derived.Test.YtlgphgipfjlbfaaDoorMrg8
import Derived.Test.YtlgphgipfjlbfaaDoorMrg2

section
/- Layer 15: indexes and their making, as functions on lists. No program in sight. -/
set_option linter.unusedVariables false
namespace Go.Proofs.YtlgphgipfjlbfaaDoor
open Go Go.RowKit

instance labMemDec (l : List Lab) (x : Lab) : Decidable (x ∈ l) := decidable_of_iff (∃ y ∈ l, y = x) ⟨fun ⟨y, hy, e⟩ => e ▸ hy, fun h => ⟨x, h, rfl⟩⟩
/-- A label and the numbers of the series that have it. -/
abbrev Ent := Lab × List Int
def ltE (a b : Lab) : Bool := decide (cmpLab a b = -1)
theorem ltE_ok : LtOk ltE := cmpLab_ok.lt
theorem ltE_gt (a b : Lab) : ltE b a = true ↔ 0 < cmpLab a b := by
  unfold ltE
  rw [decide_eq_true_eq, cmpLab_ok.flip a b]
  rcases cmpLab_ok.dom a b with e | e | e <;> rw [e] <;> decide
/-- One round of the reference's insertion. -/
def insStep (x : Lab) (n : Int) (s : List Ent × Bool) (e : Ent) : List Ent × Bool :=
  let s1 := if 0 < cmpLab e.1 x ∧ s.2 = false then (s.1 ++ [(x, [n])], true) else s
  if cmpLab e.1 x = 0 then (s1.1 ++ [(x, insB ltI n e.2)], true) else (s1.1 ++ [e], s1.2)
def insR (x : Lab) (n : Int) (l : List Ent) : List Ent :=
  let s := l.foldl (insStep x n) ([], false)
  if s.2 = true then s.1 else s.1 ++ [(x, [n])]
def insP (x : Lab) (n : Int) : List Ent → List Ent
  | [] => [(x, [n])]
  | e :: l => if cmpLab e.1 x = 0 then (x, insB ltI n e.2) :: l else if 0 < cmpLab e.1 x then (x, [n]) :: e :: l else e :: insP x n l
theorem fold_done {x : Lab} {n : Int} (l : List Ent) (h : ∀ e ∈ l, 0 < cmpLab e.1 x) : ∀ acc, l.foldl (insStep x n) (acc, true) = (acc ++ l, true) := by
  induction l with
  | nil => intro acc; simp
  | cons e l ih =>
    intro acc
    have h0 := h e (by simp)
    have hs : insStep x n (acc, true) e = (acc ++ [e], true) := by
      unfold insStep
      simp only [Bool.true_eq_false, and_false, if_false]
      rw [if_neg (by omega)]
    rw [List.foldl_cons, hs, ih (fun y hy => h y (by simp [hy]))]
    simp
theorem fold_asc {x : Lab} {n : Int} (l : List Ent) (ha : AscB ltE (l.map Prod.fst)) : ∀ acc, (if (l.foldl (insStep x n) (acc, false)).2 = true then (l.foldl (insStep x n) (acc, false)).1 else (l.foldl (insStep x n) (acc, false)).1 ++ [(x, [n])]) = acc ++ insP x n l := by
  induction l with
  | nil => intro acc; simp [insP]
  | cons e l ih =>
    intro acc
    obtain ⟨h1, h2⟩ := List.pairwise_cons.1 ha
    have hgt : 0 ≤ cmpLab e.1 x → ∀ d ∈ l, 0 < cmpLab d.1 x := fun h0 d hd => by
      rw [← ltE_gt]
      have h3 := h1 d.1 (List.mem_map.2 ⟨d, hd, rfl⟩)
      rcases cmpLab_ok.dom e.1 x with f | f | f
      · omega
      · rw [← (cmpLab_ok.eq _ _).1 f]; exact h3
      · exact ltE_ok.tr _ _ _ ((ltE_gt e.1 x).2 (by omega)) h3
    rw [List.foldl_cons, insP]
    by_cases h0 : cmpLab e.1 x = 0
    · have hs : insStep x n (acc, false) e = (acc ++ [(x, insB ltI n e.2)], true) := by
        simp [insStep, h0]
      rw [hs, fold_done l (hgt (by omega)), if_pos h0]
      simp
    · by_cases hp : 0 < cmpLab e.1 x
      · have hs : insStep x n (acc, false) e = (acc ++ [(x, [n])] ++ [e], true) := by
          simp [insStep, h0, hp]
        rw [hs, fold_done l (hgt (by omega)), if_neg h0, if_pos hp]
        simp
      · have hs : insStep x n (acc, false) e = (acc ++ [e], false) := by
          simp [insStep, h0, hp]
        rw [hs, ih h2, if_neg h0, if_neg hp]
        simp
theorem insR_asc {x : Lab} {n : Int} {l : List Ent} (ha : AscB ltE (l.map Prod.fst)) : insR x n l = insP x n l := by
  have h := fold_asc (x := x) (n := n) l ha []
  rw [List.nil_append] at h
  exact h
theorem insP_map {y : Lab} {i : Int} (F : Lab → List Int) (T : List Lab) (ha : AscB ltE T) :
    insP y i (T.map fun x => (x, F x)) = (insB ltE y T).map fun x => (x, if x = y then (if y ∈ T then insB ltI i (F y) else [i]) else F x) := by
  induction T with
  | nil => simp [insP, insB]
  | cons t T ih =>
    obtain ⟨h1, h2⟩ := List.pairwise_cons.1 ha
    rw [List.map_cons, insP]
    simp only
    rcases cmpLab_ok.dom t y with e | e | e
    · have hlt : ltE t y = true := by unfold ltE; rw [e]; rfl
      have hne : t ≠ y := ltE_ok.toLtPre.ne hlt
      have hi : insB ltE y (t :: T) = t :: insB ltE y T := by rw [insB, if_pos hlt]
      rw [if_neg (by omega), if_neg (by omega), hi, List.map_cons, if_neg hne, ih h2]
      congr 1
      refine List.map_congr_left fun x _ => ?_
      have : y ∈ t :: T ↔ y ∈ T := ⟨fun h => (List.mem_cons.1 h).resolve_left (fun e => hne e.symm), fun h => List.mem_cons_of_mem _ h⟩
      simp only [this]
    · obtain rfl : t = y := (cmpLab_ok.eq _ _).1 e
      have hir : ltE t t = false := ltE_ok.irr t
      have hi : insB ltE t (t :: T) = t :: T := by rw [insB, if_neg (by rw [hir]; decide), if_neg (by rw [hir]; decide)]
      rw [if_pos e, hi, List.map_cons, if_pos rfl, if_pos (by simp)]
      congr 1
      refine List.map_congr_left fun x hx => ?_
      rw [if_neg (fun e : x = t => by subst e; have := h1 x hx; rw [hir] at this; cases this)]
    · have hlt : ltE y t = true := (ltE_gt t y).2 (by omega)
      have hnl : ltE t y = false := ltE_ok.toLtPre.asy hlt
      have hnm : y ∉ t :: T := fun hm => by
        rcases List.mem_cons.1 hm with f | f
        · subst f; rw [ltE_ok.irr] at hlt; cases hlt
        · have := h1 y f; rw [hnl] at this; cases this
      have hi : insB ltE y (t :: T) = y :: t :: T := by rw [insB, if_neg (by rw [hnl]; decide), if_pos hlt]
      rw [if_neg (by omega), if_pos (by omega), hi, List.map_cons, if_pos rfl, if_neg hnm]
      congr 1
      rw [List.map_cons, if_neg (fun e : t = y => hnm (by rw [e]; simp))]
      congr 1
      refine List.map_congr_left fun x hx => ?_
      rw [if_neg (fun e : x = y => hnm (by rw [← e]; simp [hx]))]

def addS (i : Int) (l : List Ent) (s : List Lab) : List Ent := s.foldl (fun l x => insR x i l) l
theorem addS_snoc (i : Int) (l : List Ent) (s : List Lab) (x : Lab) : addS i l (s ++ [x]) = insR x i (addS i l s) := by rw [addS, List.foldl_append]; rfl
def buildTo (l : List (List Lab)) (k : Nat) : List Ent := (List.range k).foldl (fun acc (i : Nat) => addS (i : Int) acc (l.getD i [])) []
theorem buildTo_succ (l : List (List Lab)) (k : Nat) : buildTo l (k + 1) = addS (k : Int) (buildTo l k) (l.getD k []) := by
  rw [buildTo, List.range_succ, List.foldl_append]; rfl
/-- What Build gives. -/
def buildP (l : List (List Lab)) : List Ent := buildTo l l.length
/-- Where x is. -/
def posTo (l : List (List Lab)) (k : Nat) (x : Lab) : List Int := ((List.range k).filter fun i => decide (x ∈ l.getD i [])).map fun i : Nat => (i : Int)
theorem posTo_succ (l : List (List Lab)) (k : Nat) (x : Lab) : posTo l (k + 1) x = posTo l k x ++ if x ∈ l.getD k [] then [(k : Int)] else [] := by
  rw [posTo, List.range_succ, List.filter_append, List.map_append]
  by_cases h : x ∈ l.getD k []
  · rw [if_pos h, List.filter_cons_of_pos (by simpa using h)]; rfl
  · rw [if_neg h, List.filter_cons_of_neg (by simpa using h)]; rfl
theorem posTo_lt (l : List (List Lab)) (k : Nat) (x : Lab) : ∀ y ∈ posTo l k x, 0 ≤ y ∧ y < (k : Int) := by
  intro y hy
  obtain ⟨i, hi, rfl⟩ := List.mem_map.1 hy
  have := List.mem_range.1 (List.mem_filter.1 hi).1
  omega
theorem posTo_asc (l : List (List Lab)) (k : Nat) (x : Lab) : AscB ltI (posTo l k x) := by
  unfold posTo AscB
  rw [List.pairwise_map]
  refine List.Pairwise.imp (fun h => ?_) (List.Pairwise.filter _ List.pairwise_lt_range)
  simp only [ltI, decide_eq_true_eq]; omega
theorem posTo_mem (l : List (List Lab)) (k : Nat) (x : Lab) (i : Int) : i ∈ posTo l k x ↔ ∃ j : Nat, i = (j : Int) ∧ j < k ∧ x ∈ l.getD j [] := by
  simp only [posTo, List.mem_map, List.mem_filter, List.mem_range, decide_eq_true_eq]
  constructor
  · rintro ⟨j, ⟨h1, h2⟩, rfl⟩; exact ⟨j, rfl, h1, h2⟩
  · rintro ⟨j, rfl, h1, h2⟩; exact ⟨j, ⟨h1, h2⟩, rfl⟩
def flatTo (l : List (List Lab)) (k : Nat) : List Lab := (l.take k).flatten
theorem flatTo_succ {l : List (List Lab)} {k : Nat} (h : k < l.length) : flatTo l (k + 1) = flatTo l k ++ l.getD k [] := by
  rw [flatTo, List.take_add_one, List.getElem?_eq_getElem h, List.flatten_append, List.getD_eq_getElem?_getD, List.getElem?_eq_getElem h]
  simp [flatTo]
def idxTo (l : List (List Lab)) (k : Nat) : List Ent := (tabB ltE (flatTo l k)).map fun x => (x, posTo l k x)
/-- The index, as the chapter says. -/
def idxP (l : List (List Lab)) : List Ent := idxTo l l.length
theorem posTo_none {l : List (List Lab)} {k : Nat} {x : Lab} (h : x ∉ flatTo l k) : posTo l k x = [] := by
  rw [posTo, List.filter_eq_nil_iff.2]
  · rfl
  · intro i hi
    simp only [decide_eq_true_eq]
    intro hx
    apply h
    rw [flatTo, List.mem_flatten]
    have hik := List.mem_range.1 hi
    by_cases hl : i < l.length
    · refine ⟨l[i], ?_, by rwa [List.getD_eq_getElem?_getD, List.getElem?_eq_getElem hl] at hx⟩
      exact List.mem_of_getElem? (i := i) (by rw [List.getElem?_take, if_pos hik, List.getElem?_eq_getElem hl])
    · rw [List.getD_eq_getElem?_getD, List.getElem?_eq_none (by omega)] at hx
      cases hx
theorem addS_idx {l : List (List Lab)} {k : Nat} (h : k < l.length) (s : List Lab) : addS (k : Int) (idxTo l k) s = (tabB ltE (flatTo l k ++ s)).map fun x => (x, posTo l k x ++ if x ∈ s then [(k : Int)] else []) := by
  induction s using snoc_ind with
  | h0 => simp [addS, idxTo]
  | h1 s y ih =>
    rw [addS_snoc, ih]
    have hT : AscB ltE (tabB ltE (flatTo l k ++ s)) := tabB_asc ltE_ok _
    have hfst : ((tabB ltE (flatTo l k ++ s)).map fun x => (x, posTo l k x ++ if x ∈ s then [(k : Int)] else [])).map Prod.fst = tabB ltE (flatTo l k ++ s) := by
      rw [List.map_map]
      exact (List.map_congr_left (fun x _ => rfl)).trans (List.map_id _)
    rw [insR_asc (by rw [hfst]; exact hT), insP_map (fun x => posTo l k x ++ if x ∈ s then [(k : Int)] else []) _ hT, ← List.append_assoc, tabB_snoc]
    refine List.map_congr_left fun x _ => ?_
    by_cases e : x = y
    · subst e
      have hy : x ∈ s ++ [x] := by simp
      rw [if_pos rfl, if_pos hy]
      by_cases hm : x ∈ tabB ltE (flatTo l k ++ s)
      · rw [if_pos hm]
        by_cases hs : x ∈ s
        · rw [if_pos hs, insB_at ltI_ok.toLtPre _ _ [] (fun z hz => by have := posTo_lt l k x z hz; simp only [ltI, decide_eq_true_eq]; omega)]
        · rw [if_neg hs, List.append_nil, insB_last ltI_ok.toLtPre _ _ (fun z hz => by have := posTo_lt l k x z hz; simp only [ltI, decide_eq_true_eq]; omega)]
      · rw [if_neg hm, posTo_none (fun h => hm ((tabB_mem ltE_ok _ _).2 (by simp [h])))]
        rfl
    · rw [if_neg e]
      have : x ∈ s ++ [y] ↔ x ∈ s := by simp [e]
      simp only [this]
theorem build_idxTo (l : List (List Lab)) (k : Nat) (h : k ≤ l.length) : buildTo l k = idxTo l k := by
  induction k with
  | zero => simp [buildTo, idxTo, flatTo, tabB, tabFrom]
  | succ k ih =>
    rw [buildTo_succ, ih (by omega), addS_idx (by omega), idxTo, flatTo_succ (by omega)]
    refine List.map_congr_left fun x _ => ?_
    rw [posTo_succ]
theorem build_idx (l : List (List Lab)) : buildP l = idxP l := build_idxTo l _ (Nat.le_refl _)
theorem idx_asc (l : List (List Lab)) : AscB ltE ((idxP l).map Prod.fst) := by
  have : (idxP l).map Prod.fst = tabB ltE (flatTo l l.length) := by
    rw [idxP, idxTo, List.map_map]
    exact (List.map_congr_left (fun x _ => rfl)).trans (List.map_id _)
  rw [this]
  exact tabB_asc ltE_ok _
theorem idx_mem {l : List (List Lab)} {e : Ent} (h : e ∈ idxP l) : e.1 ∈ l.flatten ∧ e.2 = posTo l l.length e.1 := by
  obtain ⟨x, hx, rfl⟩ := List.mem_map.1 h
  refine ⟨?_, rfl⟩
  have := (tabB_mem ltE_ok _ _).1 hx
  rwa [flatTo, List.take_length] at this

/-- What Find and Named give. -/
def findP (l : List Ent) (x : Lab) : List Int := ((l.find? fun e => decide (e.1 = x)).map Prod.snd).getD []
def namedP (l : List Ent) (n : ByteArray) : List Int := unionZ ((l.filter fun e => decide (e.1.1 = n)).map Prod.snd)
theorem find_idx (l : List (List Lab)) (x : Lab) : findP (idxP l) x = posTo l l.length x := by
  by_cases h : x ∈ tabB ltE (flatTo l l.length)
  · have hf : ∃ e, (idxP l).find? (fun e => decide (e.1 = x)) = some e := by
      cases hq : (idxP l).find? (fun e => decide (e.1 = x)) with
      | some e => exact ⟨e, rfl⟩
      | none =>
        have := List.find?_eq_none.1 hq (x, posTo l l.length x) (List.mem_map.2 ⟨x, h, rfl⟩)
        simp at this
    obtain ⟨e, he⟩ := hf
    have h1 := List.find?_some he
    simp only [decide_eq_true_eq] at h1
    have h2 := (idx_mem (List.mem_of_find?_eq_some he)).2
    rw [findP, he]
    simp only [Option.map_some, Option.getD_some]
    rw [h2, h1]
  · have hq : (idxP l).find? (fun e => decide (e.1 = x)) = none := List.find?_eq_none.2 fun e he => by
      simp only [decide_eq_true_eq]
      intro hx
      apply h
      obtain ⟨y, hy, rfl⟩ := List.mem_map.1 he
      simp only at hx
      rwa [← hx]
    rw [findP, hq, posTo_none (fun hm => h ((tabB_mem ltE_ok _ _).2 hm))]
    rfl
/-- The label sets that have a label of a name. -/
def posN (l : List (List Lab)) (k : Nat) (n : ByteArray) : List Int := ((List.range k).filter fun i => (getL (l.getD i []) n).isSome).map fun i : Nat => (i : Int)
theorem getL_some {s : List Lab} {n : ByteArray} : (getL s n).isSome = true ↔ ∃ y ∈ s, y.1 = n := by
  unfold getL
  cases h : s.find? (fun x => decide (x.1 = n)) with
  | none =>
    simp only [Option.map_none, Option.isSome_none, Bool.false_eq_true, false_iff, not_exists, not_and]
    intro y hy
    simpa using List.find?_eq_none.1 h y hy
  | some y =>
    have h1 := List.find?_some h
    simp only [decide_eq_true_eq] at h1
    simp only [Option.map_some, Option.isSome_some, true_iff]
    exact ⟨y, List.mem_of_find?_eq_some h, h1⟩
theorem named_idx (l : List (List Lab)) (n : ByteArray) : namedP (idxP l) n = posN l l.length n := by
  refine ext_asc (union_asc _) ?_ (fun i => ?_)
  · unfold posN AscB
    rw [List.pairwise_map]
    refine List.Pairwise.imp (fun h => ?_) (List.Pairwise.filter _ List.pairwise_lt_range)
    simp only [ltI, decide_eq_true_eq]; omega
  · rw [namedP, union_mem]
    simp only [posN, List.mem_map, List.mem_filter, List.mem_range, decide_eq_true_eq]
    constructor
    · rintro ⟨s, ⟨e, ⟨he, hn⟩, rfl⟩, hi⟩
      rw [(idx_mem he).2] at hi
      obtain ⟨j, rfl, h1, h2⟩ := (posTo_mem _ _ _ _).1 hi
      exact ⟨j, ⟨h1, getL_some.2 ⟨e.1, h2, hn⟩⟩, rfl⟩
    · rintro ⟨j, ⟨h1, h2⟩, rfl⟩
      obtain ⟨y, hy, hn⟩ := getL_some.1 h2
      refine ⟨posTo l l.length y, ⟨(y, posTo l l.length y), ⟨List.mem_map.2 ⟨y, (tabB_mem ltE_ok _ _).2 ?_, rfl⟩, hn⟩, rfl⟩, (posTo_mem _ _ _ _).2 ⟨j, rfl, h1, hy⟩⟩
      rw [flatTo, List.take_length, List.mem_flatten]
      refine ⟨l[j], List.getElem_mem h1, ?_⟩
      rwa [List.getD_eq_getElem?_getD, List.getElem?_eq_getElem h1] at hy
end Go.Proofs.YtlgphgipfjlbfaaDoor

end

section
/- The place of a string in a list of strings. No program in sight. -/
set_option linter.unusedVariables false
namespace Go.Proofs.YtlgphgipfjlbfaaDoor
open Go Go.RowKit

def findS (l : List ByteArray) (x : ByteArray) : Int := firstI (fun y => decide (y = x)) l
theorem findS_in {t : List ByteArray} {s : ByteArray} (h : s ∈ t) : ∃ j : Nat, findS t s = (j : Int) ∧ t[j]? = some s := by
  rcases firstI_cases (fun y => decide (y = s)) t with ⟨_, h2⟩ | ⟨j, x, h1, h2, h3, _⟩
  · have := h2 s h; simp at this
  · have : x = s := by simpa using h3
    subst this
    exact ⟨j, h1, h2⟩
theorem findS_out {t : List ByteArray} {s : ByteArray} (h : s ∉ t) : findS t s = -1 :=
  firstI_none fun y hy => by simp only [decide_eq_false_iff_not]; rintro rfl; exact h hy
theorem findS_at {t : List ByteArray} (ht : t.Nodup) {n : Nat} {s : ByteArray} (h : t[n]? = some s) : findS t s = (n : Int) := by
  obtain ⟨j, h1, h2⟩ := findS_in (List.mem_of_getElem? h)
  rw [h1]
  have hj := (List.getElem?_eq_some_iff.1 h2).1
  have := (List.getElem?_inj hj ht).1 (h2.trans h.symm)
  omega
end Go.Proofs.YtlgphgipfjlbfaaDoor

end

section
/- Layer 13: records, their encoding and its reading, as functions on lists. No program in sight. -/
set_option linter.unusedVariables false
namespace Go.Proofs.YtlgphgipfjlbfaaDoor
open Go Go.RowKit

/-- Labels, and the lengths of chunks. -/
abbrev Rec := List Lab × List Int
def idxT (t : List ByteArray) (s : ByteArray) : Nat := (findS t s).toNat
def labBytes (t : List ByteArray) (x : Lab) : List Nat := groups (idxT t x.1) ++ groups (idxT t x.2)
def lenOk (n : Int) : Prop := 1 ≤ n ∧ n ≤ 2147483647
instance (n : Int) : Decidable (lenOk n) := inferInstanceAs (Decidable (1 ≤ n ∧ n ≤ 2147483647))
def labsBytes (t : List ByteArray) (l : List Lab) : List Nat := groups l.length ++ l.flatMap (labBytes t)
def lensBytes (l : List Int) : List Nat := groups l.length ++ l.flatMap (fun n => groups n.toNat)
def recBytes (t : List ByteArray) (r : Rec) : List Nat := labsBytes t r.1 ++ lensBytes r.2
def encRc (t : List ByteArray) (l : List Rec) : List Nat := groups l.length ++ l.flatMap (recBytes t)

def pSym (t : List ByteArray) : List Nat → Nat → Out ByteArray := pNum (fun n => t[n]?) 14
def pLen : List Nat → Nat → Out Int := pNum (fun n => if 1 ≤ n ∧ n ≤ 2147483647 then some (n : Int) else none) 23
def pLab (t : List ByteArray) : List Nat → Nat → Out Lab := pPair (pSym t) (pSym t)
def pLabs (t : List ByteArray) : List Nat → Nat → Out (List Lab) := pList 0 (pLab t)
def pLens : List Nat → Nat → Out (List Int) := pList 23 pLen
def pRec (t : List ByteArray) : List Nat → Nat → Out Rec := pPair (pLabs t) pLens
def pRecs (t : List ByteArray) : List Nat → Nat → Out (List Rec) := pList 0 (pRec t)
/-- What Decode gives. -/
def decRc (t : List ByteArray) (B : List Nat) : Nat × List Rec := pAll (pRecs t) [] B

def labIn (t : List ByteArray) (x : Lab) : Prop := x.1 ∈ t ∧ x.2 ∈ t
instance memDec (t : List ByteArray) (s : ByteArray) : Decidable (s ∈ t) := decidable_of_iff (∃ y ∈ t, y = s) ⟨fun ⟨y, hy, e⟩ => e ▸ hy, fun h => ⟨s, h, rfl⟩⟩
instance (t : List ByteArray) (x : Lab) : Decidable (labIn t x) := inferInstanceAs (Decidable (x.1 ∈ t ∧ x.2 ∈ t))
/-- The error of a record. -/
def recErr (t : List ByteArray) (r : Rec) : Nat := if ∀ x ∈ r.1, labIn t x then (if r.2 = [] then 23 else if ∀ n ∈ r.2, lenOk n then 0 else 23) else 14
def recsErr (t : List ByteArray) : List Rec → Nat
  | [] => 0
  | r :: l => if recErr t r = 0 then recsErr t l else recErr t r
/-- What Encode gives. -/
def encRcR (t : List ByteArray) (l : List Rec) : Nat × List Nat := if recsErr t l = 0 then (0, encRc t l) else (recsErr t l, [])

theorem asc_nodup {t : List ByteArray} (h : AscB ltS t) : t.Nodup :=
  List.Pairwise.imp (fun hab e => by rw [e, ltS_ok.irr] at hab; cases hab) h

section
variable {t : List ByteArray} (ht : t.Nodup) (hl : t.length < 18446744073709551616)
include ht hl
theorem reads_sym : Reads (pSym t) (fun s => groups (idxT t s)) (fun s => s ∈ t) :=
  reads_num (by decide) (fun s hs => by
    obtain ⟨j, h1, h2⟩ := findS_in hs
    have hj := (List.getElem?_eq_some_iff.1 h2).1
    rw [idxT, h1]
    exact ⟨h2, by simp only [Int.toNat_natCast]; omega⟩) (fun n s h => ⟨List.mem_of_getElem? h, by rw [idxT, findS_at ht h]; rfl⟩)
omit ht hl in
theorem reads_len : Reads pLen (fun n => groups n.toNat) lenOk :=
  reads_num (by decide) (fun n hn => by
    obtain ⟨h1, h2⟩ := hn
    refine ⟨?_, by omega⟩
    rw [if_pos (by omega)]
    congr 1
    omega) (fun n x h => by
    split at h
    · next hn => cases h; exact ⟨⟨by omega, by omega⟩, by simp⟩
    · cases h)
theorem reads_lab : Reads (pLab t) (labBytes t) (fun x => x.1 ∈ t ∧ x.2 ∈ t) := reads_pair (reads_sym ht hl) (reads_sym ht hl)
theorem reads_labs : Reads (pLabs t) (labsBytes t) (fun l => (∀ x ∈ l, x.1 ∈ t ∧ x.2 ∈ t) ∧ l.length < 18446744073709551616 ∧ ((0 : Nat) ≠ 0 → l ≠ [])) := reads_list (reads_lab ht hl)
omit ht hl in
theorem reads_lens : Reads pLens lensBytes (fun l => (∀ n ∈ l, lenOk n) ∧ l.length < 18446744073709551616 ∧ ((23 : Nat) ≠ 0 → l ≠ [])) := reads_list reads_len
def okRec (t : List ByteArray) (r : Rec) : Prop := ((∀ x ∈ r.1, x.1 ∈ t ∧ x.2 ∈ t) ∧ r.1.length < 18446744073709551616 ∧ ((0 : Nat) ≠ 0 → r.1 ≠ [])) ∧ ((∀ n ∈ r.2, lenOk n) ∧ r.2.length < 18446744073709551616 ∧ ((23 : Nat) ≠ 0 → r.2 ≠ []))
theorem reads_rec : Reads (pRec t) (recBytes t) (okRec t) := reads_pair (reads_labs ht hl) reads_lens
def okRecs (t : List ByteArray) (l : List Rec) : Prop := (∀ r ∈ l, okRec t r) ∧ l.length < 18446744073709551616 ∧ ((0 : Nat) ≠ 0 → l ≠ [])
theorem reads_recs : Reads (pRecs t) (encRc t) (okRecs t) := reads_list (reads_rec ht hl)
end

theorem recErr_zero {t : List ByteArray} {r : Rec} : recErr t r = 0 ↔ (∀ x ∈ r.1, labIn t x) ∧ r.2 ≠ [] ∧ ∀ n ∈ r.2, lenOk n := by
  unfold recErr
  constructor
  · intro h
    split at h
    · next h1 =>
      split at h
      · cases h
      · next h2 =>
        split at h
        · next h3 => exact ⟨h1, h2, h3⟩
        · cases h
    · cases h
  · rintro ⟨h1, h2, h3⟩
    rw [if_pos h1, if_neg h2, if_pos h3]
theorem recsErr_zero {t : List ByteArray} {l : List Rec} : recsErr t l = 0 ↔ ∀ r ∈ l, recErr t r = 0 := by
  induction l with
  | nil => simp [recsErr]
  | cons r l ih =>
    rw [recsErr]
    by_cases h : recErr t r = 0
    · rw [if_pos h, ih]; simp [h]
    · rw [if_neg h]; simp [h]
/-- Bounds that a machine keeps. -/
def recLens (l : List Rec) : Prop := l.length < 18446744073709551616 ∧ ∀ r ∈ l, r.1.length < 18446744073709551616 ∧ r.2.length < 18446744073709551616
theorem okRecs_of {t : List ByteArray} {l : List Rec} (h : recsErr t l = 0) (hl : recLens l) : okRecs t l :=
  ⟨fun r hr => by
    obtain ⟨h1, h2, h3⟩ := recErr_zero.1 (recsErr_zero.1 h r hr)
    exact ⟨⟨h1, (hl.2 r hr).1, fun e => absurd rfl e⟩, h3, (hl.2 r hr).2, fun _ => h2⟩, hl.1, fun e => absurd rfl e⟩
theorem okRecs_err {t : List ByteArray} {l : List Rec} (h : okRecs t l) : recsErr t l = 0 :=
  recsErr_zero.2 fun r hr => recErr_zero.2 ⟨(h.1 r hr).1.1, (h.1 r hr).2.2.2 (by decide), (h.1 r hr).2.1⟩
section
variable {t : List ByteArray} (ht : AscB ltS t) (hl : t.length < 18446744073709551616)
include ht hl
theorem decRc_back {l : List Rec} (h : recsErr t l = 0) (hl' : recLens l) : decRc t (encRc t l) = (0, l) := all_back (reads_recs (asc_nodup ht) hl) (okRecs_of h hl')
theorem decRc_inv {B : List Nat} (hB : ∀ c ∈ B, c < 256) (h : (decRc t B).1 = 0) : encRcR t (decRc t B).2 = (0, B) := by
  obtain ⟨h1, h2⟩ := all_inv (z := []) (reads_recs (asc_nodup ht) hl) hB h
  have h3 : recsErr t (decRc t B).2 = 0 := okRecs_err h1
  rw [encRcR, if_pos h3]
  exact Prod.ext rfl h2.symm
theorem decRc_cut {l : List Rec} (h : recsErr t l = 0) (hl' : recLens l) {m : Nat} (hm : m < (encRc t l).length) : decRc t ((encRc t l).take m) = (3, []) := all_cut (reads_recs (asc_nodup ht) hl) (okRecs_of h hl') hm
theorem decRc_more {l : List Rec} (h : recsErr t l = 0) (hl' : recLens l) (c : Nat) : decRc t (encRc t l ++ [c]) = (4, []) := all_more (reads_recs (asc_nodup ht) hl) (okRecs_of h hl') c
theorem encRc_lt {l : List Rec} (h : recsErr t l = 0) (hl' : recLens l) : ∀ c ∈ encRc t l, c < 256 := (reads_recs (asc_nodup ht) hl).lt _ (okRecs_of h hl')
theorem decRc_ok {B : List Nat} (hB : ∀ c ∈ B, c < 256) (h : (decRc t B).1 = 0) : okRecs t (decRc t B).2 := (all_inv (z := []) (reads_recs (asc_nodup ht) hl) hB h).1
end
theorem decRc_err {t : List ByteArray} {B : List Nat} (h : (decRc t B).1 ≠ 0) : (decRc t B).2 = [] := all_err B h
theorem recErr_in {t : List ByteArray} {r : Rec} (h : ∀ x ∈ r.1, labIn t x) : recErr t r = 0 ∨ recErr t r = 23 := by
  unfold recErr
  rw [if_pos h]
  repeat' split
  all_goals simp
theorem recsErr_in {t : List ByteArray} {l : List Rec} (h : ∀ r ∈ l, ∀ x ∈ r.1, labIn t x) : recsErr t l = 0 ∨ recsErr t l = 23 := by
  induction l with
  | nil => exact Or.inl rfl
  | cons r l ih =>
    rw [recsErr]
    split
    · exact ih (fun s hs => h s (by simp [hs]))
    · next hn => exact Or.inr ((recErr_in (h r (by simp))).resolve_left hn)
theorem recErr_le (t : List ByteArray) (r : Rec) : recErr t r ≤ 23 := by
  unfold recErr
  repeat' split
  all_goals omega
theorem recsErr_le (t : List ByteArray) (l : List Rec) : recsErr t l ≤ 23 := by
  induction l with
  | nil => simp [recsErr]
  | cons r l ih => rw [recsErr]; split <;> first | exact ih | exact recErr_le t r
end Go.Proofs.YtlgphgipfjlbfaaDoor

end

section
/- Layer 15: the encoding of indexes and its reading, as functions on lists. No program in sight. -/
set_option linter.unusedVariables false
namespace Go.Proofs.YtlgphgipfjlbfaaDoor
open Go Go.RowKit

/-- The first number, or a difference; s: the number before. -/
def serB (s : Option Int) (x : Int) : List Nat := groups (x - s.getD 0).toNat
def serBytes (l : List Int) : List Nat := groups l.length ++ fManyS serB (fun _ x => some x) none l
def entBytes (t : List ByteArray) (e : Ent) : List Nat := labBytes t e.1 ++ serBytes e.2
def entsBytes (t : List ByteArray) (l : List Ent) : List Nat := groups l.length ++ l.flatMap (entBytes t)

def ltOpt (s : Option Lab) (x : Lab) : Bool := match s with
  | none => true
  | some y => ltE y x
def pLabO (t : List ByteArray) (s : Option Lab) : List Nat → Nat → Out Lab := pOnly (pLab t) (ltOpt s) 16
def pSer (n : Int) (s : Option Int) : List Nat → Nat → Out Int := pNum (fun d => if 0 ≤ s.getD 0 ∧ s.getD 0 + (d : Int) < n ∧ (s = none ∨ d ≠ 0) then some (s.getD 0 + (d : Int)) else none) 22
def pSers (n : Int) : List Nat → Nat → Out (List Int) := pListS (pSer n) (fun _ x => some x) 22 none
def pEnt (t : List ByteArray) (n : Int) (s : Option Lab) : List Nat → Nat → Out Ent := pPair (pLabO t s) (pSers n)
def pEnts (t : List ByteArray) (n : Int) : List Nat → Nat → Out (List Ent) := pListS (pEnt t n) (fun _ e => some e.1) 0 none
/-- What Decode gives. -/
def decPo (t : List ByteArray) (n : Int) (B : List Nat) : Nat × List Ent := if n < 0 then (2, []) else pAll (pEnts t n) [] B
/-- What Encode gives. -/
def encPoR (t : List ByteArray) (l : List Ent) : Nat × List Nat := if ∀ e ∈ l, labIn t e.1 then (0, entsBytes t l) else (14, [])

def okSer (n : Int) (s : Option Int) (x : Int) : Prop := 0 ≤ s.getD 0 ∧ x < n ∧ (s = none → 0 ≤ x) ∧ ∀ y, s = some y → y < x
theorem reads_ser {n : Int} (hn : n < 9223372036854775808) (s : Option Int) : Reads (pSer n s) (serB s) (okSer n s) :=
  reads_num (by decide) (fun x hx => by
    obtain ⟨h1, h2, h3, h4⟩ := hx
    cases s with
    | none =>
      have h5 := h3 rfl
      simp only [Option.getD_none] at *
      refine ⟨?_, by omega⟩
      rw [if_pos ⟨by omega, by omega, Or.inl trivial⟩]
      congr 1
      omega
    | some y =>
      have h5 := h4 y rfl
      simp only [Option.getD_some] at *
      refine ⟨?_, by omega⟩
      rw [if_pos ⟨by omega, by omega, Or.inr (by omega)⟩]
      congr 1
      omega) (fun d x h => by
    split at h
    · next hd =>
      cases h
      obtain ⟨h1, h2, h3⟩ := hd
      cases s with
      | none =>
        simp only [Option.getD_none] at *
        exact ⟨⟨by simp, by omega, fun _ => by omega, fun y hy => by cases hy⟩, by omega⟩
      | some y =>
        simp only [Option.getD_some] at *
        have h4 : d ≠ 0 := by rcases h3 with e | e; · cases e
                              · exact e
        exact ⟨⟨by simpa using h1, by omega, (fun hy => by cases hy), fun z hz => by cases hz; omega⟩, by omega⟩
    · cases h)
def okSers (n : Int) (l : List Int) : Prop := okS (okSer n) (fun _ x => some x) none l ∧ l.length < 18446744073709551616 ∧ ((22 : Nat) ≠ 0 → l ≠ [])
theorem reads_sers {n : Int} (hn : n < 9223372036854775808) : Reads (pSers n) serBytes (okSers n) := reads_listS (fun s => reads_ser hn s) none
def okEnt (t : List ByteArray) (n : Int) (s : Option Lab) (e : Ent) : Prop := ((e.1.1 ∈ t ∧ e.1.2 ∈ t) ∧ ltOpt s e.1 = true) ∧ okSers n e.2
def okEnts (t : List ByteArray) (n : Int) (l : List Ent) : Prop := okS (okEnt t n) (fun _ e => some e.1) none l ∧ l.length < 18446744073709551616 ∧ ((0 : Nat) ≠ 0 → l ≠ [])
theorem fMany_const {α σ : Type} (f : α → List Nat) (nx : σ → α → σ) (l : List α) : ∀ s, fManyS (fun _ => f) nx s l = l.flatMap f := by
  induction l with
  | nil => intro s; rfl
  | cons x l ih => intro s; rw [fManyS, ih, List.flatMap_cons]
section
variable {t : List ByteArray} (ht : t.Nodup) (hl : t.length < 18446744073709551616) {n : Int} (hn : n < 9223372036854775808)
include ht hl hn
theorem reads_ent (s : Option Lab) : Reads (pEnt t n s) (entBytes t) (okEnt t n s) := reads_pair (reads_only (by decide) (reads_lab ht hl)) (reads_sers hn)
theorem reads_ents : Reads (pEnts t n) (entsBytes t) (okEnts t n) := by
  have h := reads_listS (p := pEnt t n) (f := fun _ => entBytes t) (ok := okEnt t n) (nx := fun _ e => some e.1) (z := 0) (fun s => reads_ent ht hl hn s) none
  have e : (fun l => groups l.length ++ fManyS (fun (_ : Option Lab) => entBytes t) (fun _ (e : Ent) => some e.1) none l) = entsBytes t := by
    funext l
    rw [fMany_const, entsBytes]
  rw [e] at h
  exact h
end

/-- The reference's test. -/
def isEnt (n : Int) (s : Option Lab) (e : Ent) : Prop := e.2 ≠ [] ∧ AscB ltI e.2 ∧ (∀ x ∈ e.2, 0 ≤ x ∧ x < n) ∧ ltOpt s e.1 = true
theorem sers_ok {n : Int} (l : List Int) : ∀ s, okS (okSer n) (fun _ x => some x) s l ↔ (∀ x ∈ l, x < n) ∧ AscB ltI l ∧ (s = none → ∀ x ∈ l, 0 ≤ x) ∧ (l ≠ [] → 0 ≤ s.getD 0) ∧ ∀ y, s = some y → ∀ x ∈ l, y < x := by
  induction l with
  | nil => intro s; simp [okS, AscB]
  | cons x l ih =>
    intro s
    rw [okS, ih (some x)]
    constructor
    · rintro ⟨⟨h1, h2, h3, h4⟩, k1, k2, _, k4, k5⟩
      have hx : ∀ z ∈ l, x < z := k5 x rfl
      refine ⟨fun z hz => ?_, List.pairwise_cons.2 ⟨fun z hz => by simpa [ltI] using hx z hz, k2⟩, fun e z hz => ?_, fun _ => h1, fun y hy z hz => ?_⟩
      · rcases List.mem_cons.1 hz with rfl | hz
        · exact h2
        · exact k1 z hz
      · rcases List.mem_cons.1 hz with rfl | hz
        · exact h3 e
        · have := h3 e; have := hx z hz; omega
      · rcases List.mem_cons.1 hz with rfl | hz
        · exact h4 y hy
        · have := h4 y hy; have := hx z hz; omega
    · rintro ⟨k1, k2, k3, k4, k5⟩
      obtain ⟨h1, h2⟩ := List.pairwise_cons.1 k2
      refine ⟨⟨k4 (by simp), k1 x (by simp), fun e => k3 e x (by simp), fun y hy => k5 y hy x (by simp)⟩, fun z hz => k1 z (by simp [hz]), h2, (fun e => by cases e), fun _ => ?_, fun y hy z hz => ?_⟩
      · show 0 ≤ x
        cases s with
        | none => exact k3 rfl x (by simp)
        | some y => have h5 := k4 (by simp); have h6 := k5 y rfl x (by simp); simp only [Option.getD_some] at h5; omega
      · cases hy
        simpa [ltI] using h1 z hz
theorem sers_ok0 {n : Int} {l : List Int} : okSers n l ↔ (AscB ltI l ∧ (∀ x ∈ l, 0 ≤ x ∧ x < n) ∧ l ≠ []) ∧ l.length < 18446744073709551616 := by
  rw [okSers, sers_ok]
  constructor
  · rintro ⟨⟨h1, h2, h3, _, _⟩, h5, h6⟩
    exact ⟨⟨h2, fun x hx => ⟨h3 rfl x hx, h1 x hx⟩, h6 (by decide)⟩, h5⟩
  · rintro ⟨⟨h1, h2, h3⟩, h4⟩
    exact ⟨⟨fun x hx => (h2 x hx).2, h1, fun _ x hx => (h2 x hx).1, fun _ => by simp, fun y hy => by cases hy⟩, h4, fun _ => h3⟩
theorem ents_ok {t : List ByteArray} {n : Int} (l : List Ent) : ∀ s, okS (okEnt t n) (fun _ e => some e.1) s l ↔ (∀ e ∈ l, (e.1.1 ∈ t ∧ e.1.2 ∈ t) ∧ okSers n e.2) ∧ AscB ltE (l.map Prod.fst) ∧ ∀ y, s = some y → ∀ e ∈ l, ltE y e.1 = true := by
  induction l with
  | nil => intro s; simp [okS, AscB]
  | cons x l ih =>
    intro s
    rw [okS, ih (some x.1)]
    constructor
    · rintro ⟨⟨⟨h1, h2⟩, h3⟩, k1, k2, k3⟩
      have hx : ∀ e ∈ l, ltE x.1 e.1 = true := k3 x.1 rfl
      refine ⟨fun e he => ?_, ?_, fun y hy e he => ?_⟩
      · rcases List.mem_cons.1 he with rfl | he
        · exact ⟨h1, h3⟩
        · exact k1 e he
      · refine List.pairwise_cons.2 ⟨fun y hy => ?_, k2⟩
        obtain ⟨e, he, rfl⟩ := List.mem_map.1 hy
        exact hx e he
      · subst hy
        rcases List.mem_cons.1 he with rfl | he
        · exact h2
        · exact ltE_ok.tr _ _ _ h2 (hx e he)
    · rintro ⟨k1, k2, k3⟩
      obtain ⟨h1, h2⟩ := List.pairwise_cons.1 k2
      refine ⟨⟨⟨(k1 x (by simp)).1, ?_⟩, (k1 x (by simp)).2⟩, fun e he => k1 e (by simp [he]), h2, fun y hy e he => ?_⟩
      · cases s with
        | none => rfl
        | some y => exact k3 y rfl x (by simp)
      · cases hy
        exact h1 e.1 (List.mem_map.2 ⟨e, he, rfl⟩)
/-- An index of series below n. -/
def IsIdx (n : Int) (l : List Ent) : Prop := AscB ltE (l.map Prod.fst) ∧ ∀ e ∈ l, AscB ltI e.2 ∧ (∀ x ∈ e.2, 0 ≤ x ∧ x < n) ∧ e.2 ≠ []
theorem okEnts_iff {t : List ByteArray} {n : Int} {l : List Ent} : okEnts t n l ↔ IsIdx n l ∧ (∀ e ∈ l, labIn t e.1) ∧ l.length < 18446744073709551616 ∧ ∀ e ∈ l, e.2.length < 18446744073709551616 := by
  rw [okEnts, ents_ok]
  constructor
  · rintro ⟨⟨h1, h2, _⟩, h3, _⟩
    exact ⟨⟨h2, fun e he => (sers_ok0.1 (h1 e he).2).1⟩, fun e he => (h1 e he).1, h3, fun e he => (sers_ok0.1 (h1 e he).2).2⟩
  · rintro ⟨⟨h1, h2⟩, h3, h4, h5⟩
    exact ⟨⟨fun e he => ⟨h3 e he, sers_ok0.2 ⟨h2 e he, h5 e he⟩⟩, h1, fun y hy => by cases hy⟩, h4, fun e => absurd rfl e⟩
section
variable {t : List ByteArray} (ht : AscB ltS t) (hl : t.length < 18446744073709551616) {n : Int} (hn : n < 9223372036854775808) (h0 : 0 ≤ n)
include ht hl hn h0
theorem decPo_back {l : List Ent} (h : okEnts t n l) : decPo t n (entsBytes t l) = (0, l) := by
  rw [decPo, if_neg (by omega)]
  exact all_back (reads_ents (asc_nodup ht) hl hn) h
omit h0 in
theorem decPo_inv {B : List Nat} (hB : ∀ c ∈ B, c < 256) (h : (decPo t n B).1 = 0) : okEnts t n (decPo t n B).2 ∧ encPoR t (decPo t n B).2 = (0, B) := by
  unfold decPo at h ⊢
  split at h
  · cases h
  · next h0 =>
    rw [if_neg h0]
    obtain ⟨h1, h2⟩ := all_inv (z := []) (reads_ents (asc_nodup ht) hl hn) hB h
    refine ⟨h1, ?_⟩
    rw [encPoR, if_pos (okEnts_iff.1 h1).2.1]
    exact Prod.ext rfl h2.symm
omit h0 in
theorem encPo_lt {l : List Ent} (h : okEnts t n l) : ∀ c ∈ entsBytes t l, c < 256 := (reads_ents (asc_nodup ht) hl hn).lt _ h
end
theorem decPo_err {t : List ByteArray} {n : Int} {B : List Nat} (h : (decPo t n B).1 ≠ 0) : (decPo t n B).2 = [] := by
  unfold decPo at h ⊢
  split at h
  · next h0 => rw [if_pos h0]
  · next h0 => rw [if_neg h0]; exact all_err B h
/-- The index of label sets is one, below their number. -/
theorem idx_is (l : List (List Lab)) : IsIdx (l.length : Int) (idxP l) := by
  refine ⟨idx_asc l, fun e he => ?_⟩
  obtain ⟨h1, h2⟩ := idx_mem he
  rw [h2]
  refine ⟨posTo_asc _ _ _, posTo_lt _ _ _, fun hnil => ?_⟩
  obtain ⟨s, hs, hx⟩ := List.mem_flatten.1 h1
  obtain ⟨j, hj, rfl⟩ := List.getElem_of_mem hs
  have : (j : Int) ∈ posTo l l.length e.1 := (posTo_mem _ _ _ _).2 ⟨j, rfl, hj, by rwa [List.getD_eq_getElem?_getD, List.getElem?_eq_getElem hj]⟩
  rw [hnil] at this
  cases this
end Go.Proofs.YtlgphgipfjlbfaaDoor

end

section
/- Layer 15: an index's bytes under way. No program in sight. -/
set_option linter.unusedVariables false
namespace Go.Proofs.YtlgphgipfjlbfaaDoor
open Go Go.RowKit

theorem fManyS_append {α σ : Type} (f : σ → α → List Nat) (nx : σ → α → σ) (a b : List α) : ∀ s, fManyS f nx s (a ++ b) = fManyS f nx s a ++ fManyS f nx (a.foldl nx s) b := by
  induction a with
  | nil => intro s; rfl
  | cons x a ih => intro s; rw [List.cons_append, fManyS, fManyS, ih, List.append_assoc]; rfl
/-- The differences of the first k numbers. -/
def serTo (l : List Int) (k : Nat) : List Nat := fManyS serB (fun _ x => some x) none (l.take k)
/-- The number before. -/
def lastZ (l : List Int) : Nat → Int
  | 0 => 0
  | k + 1 => l.getD k 0
theorem lastZ_succ {l : List Int} {k : Nat} {x : Int} (h : l[k]? = some x) : lastZ l (k + 1) = x := by rw [lastZ, List.getD_eq_getElem?_getD, h]; rfl
theorem lastO (l : List Int) (k : Nat) (h : k ≤ l.length) : ((l.take k).foldl (fun (_ : Option Int) x => some x) none).getD 0 = lastZ l k := by
  cases k with
  | zero => rfl
  | succ k =>
    obtain ⟨x, hx⟩ : ∃ x, l[k]? = some x := ⟨_, List.getElem?_eq_getElem (by omega)⟩
    rw [List.take_add_one, hx, List.foldl_append, lastZ_succ hx]
    rfl
theorem serTo_step {l : List Int} {k : Nat} {x : Int} (h : l[k]? = some x) : serTo l (k + 1) = serTo l k ++ groups (x - lastZ l k).toNat := by
  rw [serTo, List.take_add_one, h, fManyS_append]
  simp only [Option.toList_some, fManyS, List.append_nil, serB]
  rw [lastO l k (Nat.le_of_lt (List.getElem?_eq_some_iff.1 h).1)]
  rfl
theorem serTo_le (l : List Int) (k : Nat) : (serTo l k).length ≤ (fManyS serB (fun _ x => some x) none l).length := by
  have h : fManyS serB (fun (_ : Option Int) x => some x) none l = serTo l k ++ fManyS serB (fun _ x => some x) ((l.take k).foldl (fun (_ : Option Int) x => some x) none) (l.drop k) := by
    rw [serTo, ← fManyS_append, List.take_append_drop]
  rw [h, List.length_append]; omega
theorem serTo_top (l : List Int) (k : Nat) : (serTo l k).length ≤ (serTo l l.length).length := by
  have h := serTo_le l k
  rwa [show fManyS serB (fun (_ : Option Int) x => some x) none l = serTo l l.length by rw [serTo, List.take_length]] at h
theorem serBytes_to (l : List Int) : serBytes l = groups l.length ++ serTo l l.length := by rw [serTo, List.take_length]; rfl
theorem lastZ_le {l : List Int} {k : Nat} {x : Int} (h : l[k]? = some x) (ha : AscB ltI l) (h0 : ∀ y ∈ l, 0 ≤ y) : 0 ≤ lastZ l k ∧ lastZ l k ≤ x := by
  have hx := h0 x (List.mem_of_getElem? h)
  cases k with
  | zero => exact ⟨Int.le_refl _, hx⟩
  | succ k =>
    obtain ⟨hl, e⟩ := List.getElem?_eq_some_iff.1 h
    obtain ⟨y, hy⟩ : ∃ y, l[k]? = some y := ⟨_, List.getElem?_eq_getElem (by omega)⟩
    rw [lastZ_succ hy]
    refine ⟨h0 y (List.mem_of_getElem? hy), ?_⟩
    unfold AscB at ha
    rw [List.pairwise_iff_getElem] at ha
    obtain ⟨hl2, e2⟩ := List.getElem?_eq_some_iff.1 hy
    have := ha k (k + 1) hl2 hl (by omega)
    rw [e, e2] at this
    simp only [ltI, decide_eq_true_eq] at this
    omega
def encE (t : List ByteArray) (l : List Ent) (i : Nat) : List Nat := groups l.length ++ (l.take i).flatMap (entBytes t)
theorem encE_step {t : List ByteArray} {l : List Ent} {i : Nat} {n v : ByteArray} {s : List Int} (h : l[i]? = some ((n, v), s)) : encE t l (i + 1) = encE t l i ++ groups (idxT t n) ++ groups (idxT t v) ++ groups s.length ++ serTo s s.length := by
  rw [encE, List.take_add_one, h, List.flatMap_append, encE]
  simp [entBytes, labBytes, serBytes_to]
theorem encE_all (t : List ByteArray) (l : List Ent) (i : Nat) (h : l.length ≤ i) : encE t l i = entsBytes t l := by rw [encE, List.take_of_length_le h]; rfl
theorem encE_le (t : List ByteArray) (l : List Ent) (i : Nat) : (encE t l i).length ≤ (entsBytes t l).length := by
  have : entsBytes t l = encE t l i ++ (l.drop i).flatMap (entBytes t) := by
    rw [encE, List.append_assoc, ← List.flatMap_append, List.take_append_drop]; rfl
  rw [this, List.length_append]; omega
theorem encE_room {t : List ByteArray} {l : List Ent} {i : Nat} {n v : ByteArray} {s : List Int} (h : l[i]? = some ((n, v), s)) : (encE t l i).length + (groups (idxT t n)).length + (groups (idxT t v)).length + (groups s.length).length + (serTo s s.length).length ≤ (entsBytes t l).length := by
  have h1 := encE_le t l (i + 1)
  rw [encE_step h] at h1
  simp only [List.length_append] at h1
  omega
theorem encPo_bad {t : List ByteArray} {l : List Ent} {e : Ent} (he : e ∈ l) (h : ¬ labIn t e.1) : encPoR t l = (14, []) := by rw [encPoR, if_neg (fun k => h (k e he))]
theorem encPo_ok {t : List ByteArray} {l : List Ent} (h : ∀ e ∈ l, labIn t e.1) : encPoR t l = (0, entsBytes t l) := by rw [encPoR, if_pos h]
end Go.Proofs.YtlgphgipfjlbfaaDoor

end

section
/- Layer 15: bounds of an index under way. No program in sight. -/
set_option linter.unusedVariables false
namespace Go.Proofs.YtlgphgipfjlbfaaDoor
open Go Go.RowKit

/-- Entries in order, c at most, with ascending series, c of them at most. -/
structure EnOk (c : Nat) (l : List Ent) : Prop where
  asc : AscB ltE (l.map Prod.fst)
  len : l.length ≤ c
  ser : ∀ e ∈ l, AscB ltI e.2 ∧ e.2.length ≤ c
theorem EnOk.nil (c : Nat) : EnOk c [] := ⟨List.Pairwise.nil, Nat.zero_le _, fun e h => by cases h⟩
theorem EnOk.mono {c d : Nat} {l : List Ent} (h : EnOk c l) (hcd : c ≤ d) : EnOk d l := ⟨h.asc, Nat.le_trans h.len hcd, fun e he => ⟨(h.ser e he).1, Nat.le_trans (h.ser e he).2 hcd⟩⟩
theorem insP_fst (x : Lab) (n : Int) (l : List Ent) (ha : AscB ltE (l.map Prod.fst)) : (insP x n l).map Prod.fst = insB ltE x (l.map Prod.fst) := by
  induction l with
  | nil => rfl
  | cons e l ih =>
    obtain ⟨h1, h2⟩ := List.pairwise_cons.1 ha
    rw [insP, List.map_cons, insB]
    rcases cmpLab_ok.dom e.1 x with f | f | f
    · have hlt : ltE e.1 x = true := by unfold ltE; rw [f]; rfl
      rw [if_neg (by omega), if_neg (by omega), if_pos hlt, List.map_cons, ih h2]
    · have hx : e.1 = x := (cmpLab_ok.eq _ _).1 f
      have hir : ltE x x = false := ltE_ok.irr x
      rw [if_pos f, hx, if_neg (by rw [hir]; decide), if_neg (by rw [hir]; decide), List.map_cons]
    · have hlt : ltE x e.1 = true := (ltE_gt e.1 x).2 (by omega)
      have hnl : ltE e.1 x = false := ltE_ok.toLtPre.asy hlt
      rw [if_neg (by omega), if_pos (by omega), if_neg (by rw [hnl]; decide), if_pos hlt]
      rfl
theorem insP_ser (x : Lab) (n : Int) {c : Nat} (l : List Ent) (h : ∀ e ∈ l, AscB ltI e.2 ∧ e.2.length ≤ c) : ∀ e ∈ insP x n l, AscB ltI e.2 ∧ e.2.length ≤ c + 1 := by
  have h1 : AscB ltI [n] := List.pairwise_singleton _ _
  induction l with
  | nil =>
    intro e he
    rw [insP, List.mem_singleton] at he
    subst he
    exact ⟨h1, by simp⟩
  | cons a l ih =>
    have h0 := h a (by simp)
    have hl : ∀ e ∈ l, AscB ltI e.2 ∧ e.2.length ≤ c := fun e he => h e (by simp [he])
    have up : ∀ e ∈ a :: l, AscB ltI e.2 ∧ e.2.length ≤ c + 1 := fun e he => ⟨(h e he).1, by have := (h e he).2; omega⟩
    intro e he
    rw [insP] at he
    split at he
    · rcases List.mem_cons.1 he with f | f
      · subst f
        exact ⟨insB_asc ltI_ok _ _ h0.1, by have := insB_le (lt := ltI) n a.2; have := h0.2; simp only; omega⟩
      · exact up e (by simp [f])
    · split at he
      · rcases List.mem_cons.1 he with f | f
        · subst f; exact ⟨h1, by simp⟩
        · exact up e f
      · rcases List.mem_cons.1 he with f | f
        · subst f; exact up e (by simp)
        · exact ih hl e f
theorem EnOk.ins {c : Nat} {l : List Ent} (h : EnOk c l) (x : Lab) (n : Int) : EnOk (c + 1) (insR x n l) := by
  rw [insR_asc h.asc]
  have hf := insP_fst x n l h.asc
  refine ⟨by rw [hf]; exact insB_asc ltE_ok _ _ h.asc, ?_, insP_ser x n l h.ser⟩
  have h1 : (insP x n l).length = (insB ltE x (l.map Prod.fst)).length := by rw [← hf, List.length_map]
  have h2 := insB_le (lt := ltE) x (l.map Prod.fst)
  rw [List.length_map] at h2
  have := h.len
  omega
theorem EnOk.adds {c : Nat} {l : List Ent} (h : EnOk c l) (i : Int) (s : List Lab) : EnOk (c + s.length) (addS i l s) := by
  induction s using snoc_ind with
  | h0 => exact h
  | h1 s y ih =>
    rw [addS_snoc, List.length_append]
    exact ih.ins y i
theorem EnOk.built (l : List (List Lab)) (k : Nat) (hk : k ≤ l.length) : EnOk (l.take k).flatten.length (buildTo l k) := by
  induction k with
  | zero => exact EnOk.nil _
  | succ k ih =>
    rw [buildTo_succ]
    refine (EnOk.adds (ih (by omega)) (k : Int) (l.getD k [])).mono ?_
    have := flatTo_succ (l := l) (k := k) (by omega)
    unfold flatTo at this
    rw [this, List.length_append]
    exact Nat.le_refl _
theorem EnOk.index {c : Nat} {l : List (List Lab)} (h : l.flatten.length ≤ c) : EnOk c (buildP l) := by
  have := EnOk.built l l.length (Nat.le_refl _)
  rw [List.take_length] at this
  exact this.mono h
theorem buildTo_bound {l : List (List Lab)} {i : Nat} {s : List Lab} (h : l[i]? = some s) : (l.take i).flatten.length + s.length ≤ l.flatten.length := by
  obtain ⟨hlt, e⟩ := List.getElem?_eq_some_iff.1 h
  have e2 : l.flatten = (l.take i).flatten ++ (l.drop i).flatten := by rw [← List.flatten_append, List.take_append_drop]
  have e3 : l.drop i = s :: l.drop (i + 1) := by rw [← e, List.getElem_cons_drop]
  rw [e2, e3, List.length_append, List.flatten_cons, List.length_append]; omega
end Go.Proofs.YtlgphgipfjlbfaaDoor

end

section
/- Layer 11: how great the errors are, how long a normal label set is. No program in sight. -/
set_option linter.unusedVariables false
namespace Go.Proofs.YtlgphgipfjlbfaaDoor
open Go Go.RowKit

theorem oneL_le (x : Lab) : oneL x ≤ 18 := by rw [oneL]; (repeat' split) <;> omega
theorem checkFrom_le (l : List Lab) : ∀ p, checkFrom p l ≤ 18 := by
  induction l with
  | nil => intro p; rw [checkFrom]; omega
  | cons x l ih =>
    intro p
    have h1 := oneL_le x
    cases p with
    | none =>
      rw [checkFrom]
      split
      · exact h1
      · exact ih _
    | some n =>
      rw [checkFrom]
      repeat' split
      all_goals first | exact h1 | exact ih _ | omega
theorem checkL_le (l : List Lab) : checkL l ≤ 18 := checkFrom_le l none
theorem firstErr_le (l : List Lab) : firstErr l ≤ 18 := by
  induction l with
  | nil => rw [firstErr]; omega
  | cons x l ih =>
    rw [firstErr]
    split
    · exact oneL_le x
    · exact ih
theorem putL_le (l : List Lab) : ∀ (out r : List Lab), putL out l = some r → r.length ≤ out.length + l.length := by
  induction l with
  | nil => intro out r h; rw [putL] at h; simp at h; subst h; simp
  | cons x l ih =>
    intro out r h
    rw [putL] at h
    split at h
    · cases h
    · have h1 := ih _ _ h
      have h2 := insB_le (lt := ltN) x out
      rw [List.length_cons]; omega
theorem norm_le (l : List Lab) : (normL l).1 ≤ 18 ∧ (normL l).2.length ≤ l.length := by
  have hf := firstErr_le l
  rw [normL]
  split
  · exact ⟨hf, Nat.zero_le _⟩
  · cases hp : putL [] l with
    | none => exact ⟨Nat.le_refl _, Nat.zero_le _⟩
    | some r =>
      have := putL_le l [] r hp
      rw [List.length_nil, Nat.zero_add] at this
      exact ⟨Nat.zero_le _, this⟩
/-- What holds of all labels holds of the normal set's. -/
theorem norm_all {p : Lab → Prop} {l : List Lab} (h : ∀ x ∈ l, p x) : ∀ x ∈ (normL l).2, p x := by
  intro x hx
  by_cases h0 : (normL l).1 = 0
  · exact h x (((normL_res h0).2 x).1 hx)
  · rw [normL_err h0] at hx; cases hx
/-- A normal set is normal. -/
theorem norm_norm (l : List Lab) : normL (normL l).2 = (0, (normL l).2) := by
  by_cases h0 : (normL l).1 = 0
  · exact norm_idem h0
  · rw [normL_err h0]; rfl
theorem cmp_range (a b : List Lab) : -1 ≤ cmpLabs a b ∧ cmpLabs a b ≤ 1 := by rcases cmpLabs_ok.dom a b with e | e | e <;> rw [e] <;> decide
theorem cmp_trans (a b c : List Lab) : (cmpLabs a b ≤ 0 → cmpLabs b c ≤ 0 → cmpLabs a c ≤ 0) ∧ (cmpLabs a b = 0 → cmpLabs b c = 0 → cmpLabs a c = 0) ∧ (cmpLabs a b < 0 → cmpLabs b c ≤ 0 → cmpLabs a c < 0) := by
  have hle : ∀ x y, cmpLabs x y ≤ 0 → cmpLabs x y = -1 ∨ x = y := fun x y h => by
    rcases cmpLabs_ok.dom x y with e | e | e
    · exact Or.inl e
    · exact Or.inr ((cmpLabs_ok.eq x y).1 e)
    · omega
  refine ⟨fun h1 h2 => ?_, fun h1 h2 => ?_, fun h1 h2 => ?_⟩
  · rcases hle a b h1 with e1 | e1
    · rcases hle b c h2 with e2 | e2
      · rw [cmpLabs_ok.tr a b c e1 e2]; decide
      · subst e2; omega
    · subst e1; exact h2
  · rw [(cmpLabs_ok.eq a b).1 h1, (cmpLabs_ok.eq b c).1 h2]; exact cmpLabs_ok.refl c
  · rcases hle a b (by omega) with e1 | e1
    · rcases hle b c h2 with e2 | e2
      · rw [cmpLabs_ok.tr a b c e1 e2]; decide
      · subst e2; exact h1
    · subst e1; rw [cmpLabs_ok.refl] at h1; omega
end Go.Proofs.YtlgphgipfjlbfaaDoor

end

section
/- Layer 15: the normal label sets among lists of labels, and their bounds. No program in sight. -/
set_option linter.unusedVariables false
namespace Go.Proofs.YtlgphgipfjlbfaaDoor
open Go Go.RowKit

def normsP (l : List (List Lab)) : List (List Lab) := (l.filter fun x => decide ((normL x).1 = 0)).map fun x => (normL x).2
theorem normsP_cons (x : List Lab) (l : List (List Lab)) : normsP (x :: l) = (if (normL x).1 = 0 then [(normL x).2] else []) ++ normsP l := by
  unfold normsP
  by_cases h : (normL x).1 = 0
  · rw [List.filter_cons_of_pos (by simpa using h), if_pos h]; rfl
  · rw [List.filter_cons_of_neg (by simpa using h), if_neg h]; rfl
theorem normsP_append (a b : List (List Lab)) : normsP (a ++ b) = normsP a ++ normsP b := by unfold normsP; rw [List.filter_append, List.map_append]
theorem normsP_step {l : List (List Lab)} {i : Nat} {x : List Lab} (h : l[i]? = some x) : normsP (l.take (i + 1)) = normsP (l.take i) ++ if (normL x).1 = 0 then [(normL x).2] else [] := by
  rw [List.take_add_one, h, normsP_append, Option.toList_some, normsP_cons]
  simp [normsP]
def costP (l : List (List Lab)) : Nat := (l.map fun x => 1 + min x.length 300).sum
theorem costP_step {l : List (List Lab)} {i : Nat} {x : List Lab} (h : l[i]? = some x) : costP (l.take (i + 1)) = costP (l.take i) + (1 + min x.length 300) := by
  rw [costP, List.take_add_one, h, List.map_append, List.sum_append]; simp [costP]
theorem norms_cost (l : List (List Lab)) (h : costP l ≤ 300) : (normsP l).length + (normsP l).flatten.length ≤ costP l := by
  induction l with
  | nil => simp [normsP, costP]
  | cons x l ih =>
    have e : costP (x :: l) = 1 + min x.length 300 + costP l := by simp [costP]
    have h1 := (norm_le x).2
    rw [e] at h ⊢
    have h2 := ih (by omega)
    rw [normsP_cons]
    split
    · simp only [List.length_append, List.flatten_append, List.flatten_cons, List.flatten_nil, List.length_cons, List.length_nil, List.append_nil]
      omega
    · simp only [List.nil_append]
      omega
/-- Normal label sets within the statements' bounds. -/
structure SmallP (m : List (List Lab)) : Prop where
  len : m.length ≤ 300
  flat : m.flatten.length ≤ 300
  siz : ∀ s ∈ m, ∀ x ∈ s, x.1.size ≤ 200000 ∧ x.2.size ≤ 200000
  nrm : ∀ s ∈ m, AscB ltN s
  one : ∀ s ∈ m, ∀ x ∈ s, oneL x = 0
theorem small_norms {l : List (List Lab)} (h : costP l ≤ 300) (hs : ∀ s ∈ l, ∀ x ∈ s, x.1.size ≤ 200000 ∧ x.2.size ≤ 200000) : SmallP (normsP l) := by
  have h1 := norms_cost l h
  refine ⟨by omega, by omega, fun s hm => ?_, fun s hm => ?_, fun s hm => ?_⟩
  · obtain ⟨y, hy, rfl⟩ := List.mem_map.1 hm
    exact norm_all (hs y (List.mem_filter.1 hy).1)
  · obtain ⟨y, hy, rfl⟩ := List.mem_map.1 hm
    exact (normL_res (by simpa using (List.mem_filter.1 hy).2)).1
  · obtain ⟨y, hy, rfl⟩ := List.mem_map.1 hm
    exact norm_all (normL_ok.1 (by simpa using (List.mem_filter.1 hy).2)).1
theorem strings_sized {x : List Lab} (h : ∀ s ∈ stringsL x, s.size ≤ 200000) : ∀ y ∈ x, y.1.size ≤ 200000 ∧ y.2.size ≤ 200000 := fun y hy =>
  ⟨h _ (List.mem_flatMap.2 ⟨y, hy, by simp⟩), h _ (List.mem_flatMap.2 ⟨y, hy, by simp⟩)⟩
end Go.Proofs.YtlgphgipfjlbfaaDoor

end

section
/- Layer 15: how long the bytes of an index of few label sets are. No program in sight. -/
set_option linter.unusedVariables false
namespace Go.Proofs.YtlgphgipfjlbfaaDoor
open Go Go.RowKit

theorem ser_len (l : List Int) (h : ∀ x ∈ l, 0 ≤ x ∧ x < 1000000000) : ∀ s : Option Int, 0 ≤ s.getD 0 → (fManyS serB (fun _ x => some x) s l).length ≤ 10 * l.length := by
  induction l with
  | nil => intro s _; simp [fManyS]
  | cons x l ih =>
    intro s hs
    have hx := h x (by simp)
    rw [fManyS, List.length_append, List.length_cons]
    have h1 := ih (fun y hy => h y (by simp [hy])) (some x) hx.1
    have h2 : (serB s x).length ≤ 10 := groups_ten (by omega)
    omega
theorem flat_len {α : Type} (f : α → List Nat) (k : Nat) (l : List α) (h : ∀ x ∈ l, (f x).length ≤ k) : (l.flatMap f).length ≤ l.length * k := by
  induction l with
  | nil => simp
  | cons x l ih =>
    rw [List.flatMap_cons, List.length_append, List.length_cons, Nat.add_mul, Nat.one_mul]
    have h1 := ih (fun y hy => h y (by simp [hy]))
    have h2 := h x (by simp)
    omega
theorem findS_le (t : List ByteArray) (s : ByteArray) : (findS t s).toNat ≤ t.length := by
  by_cases h : s ∈ t
  · obtain ⟨j, hj, hjt⟩ := findS_in h
    have := (List.getElem?_eq_some_iff.1 hjt).1
    omega
  · rw [findS_out h]; simp
/-- What the statements' indexes are. -/
structure SmallI (n : Nat) (l : List Ent) : Prop where
  ok : EnOk 300 l
  idx : IsIdx (n : Int) l
  bnd : n ≤ 300
theorem small_idx {m : List (List Lab)} (h : SmallP m) : SmallI m.length (buildP m) :=
  ⟨EnOk.index h.flat, by rw [build_idx]; exact idx_is m, h.len⟩
theorem SmallI.ser {n : Nat} {l : List Ent} (h : SmallI n l) : ∀ e ∈ l, AscB ltI e.2 ∧ e.2.length ≤ 1000000 ∧ ∀ x ∈ e.2, 0 ≤ x ∧ x < 1000000000 := fun e he =>
  ⟨(h.ok.ser e he).1, by have := (h.ok.ser e he).2; omega, fun x hx => by have := (h.idx.2 e he).2.1 x hx; have := h.bnd; omega⟩
theorem SmallI.bytes8 {n : Nat} {l : List Ent} (h : SmallI n l) {t : List ByteArray} (ht : t.length ≤ 1000000) : (entsBytes t l).length ≤ 100000000 := by
  have h1 : (l.flatMap (entBytes t)).length ≤ l.length * 4000 := flat_len _ _ _ fun e he => by
    have h2 := ser_len e.2 (fun x hx => ((h.ser e he).2.2 x hx)) none (by simp)
    have h3 := (h.ok.ser e he).2
    have h4 := findS_le t e.1.1
    have h5 := findS_le t e.1.2
    have g1 : (groups (findS t e.1.1).toNat).length ≤ 10 := groups_ten (by omega)
    have g2 : (groups (findS t e.1.2).toNat).length ≤ 10 := groups_ten (by omega)
    have g3 : (groups e.2.length).length ≤ 10 := groups_ten (by omega)
    rw [entBytes, serBytes, labBytes, idxT, idxT]
    simp only [List.length_append]
    omega
  have h2 := h.ok.len
  have g : (groups l.length).length ≤ 10 := groups_ten (by omega)
  rw [entsBytes, List.length_append]
  omega
theorem SmallI.bytes {n : Nat} {l : List Ent} (h : SmallI n l) {t : List ByteArray} (ht : t.length ≤ 1000000) : (entsBytes t l).length ≤ 1000000000 := Nat.le_trans (h.bytes8 ht) (by decide)
end Go.Proofs.YtlgphgipfjlbfaaDoor

end
