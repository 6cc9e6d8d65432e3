/- LsP, Range, Keep, LsA, LsB, in one text. -/
import Derived.Test.YtpjfhakmffcolaaMrg4
import Derived.RangeFuncNested
import Derived.RangeFuncBound
import Derived.RangeFuncCalls
import Derived.RangeFuncLeaves
import Derived.RangeFuncBox
import Derived.OwnWalkIn
import Derived.Shelf.Abstract
import Derived.TacticsInMore
import Derived.LoopNIn
import Derived.LoopIn
import Derived.Test.YtpjfhakmffcolaaMrg1
import Derived.Test.YtpjfhakmffcolaaMrg2
import Derived.Test.YtpjfhakmffcolaaMrg7

section
/- Layer 14: two sorted lists, merged, each number with its origin; what is chosen by origins. No program in sight. -/
set_option linter.unusedVariables false
namespace Go.Proofs.Ytpjfhakmffcolaa

/-- Where a number is: in the first list alone, in the second alone, in both. -/
inductive Og where
  | fst
  | snd
  | both
deriving DecidableEq
def Og.z : Og → Int
  | .fst => 1
  | .snd => 2
  | .both => 4
/-- The numbers of two lists in ascending order, each with its origin. -/
def mrgZ : List Int → List Int → List (Int × Og)
  | [], [] => []
  | x :: a, [] => (x, Og.fst) :: mrgZ a []
  | [], y :: b => (y, Og.snd) :: mrgZ [] b
  | x :: a, y :: b => if x < y then (x, Og.fst) :: mrgZ a (y :: b) else if y < x then (y, Og.snd) :: mrgZ (x :: a) b else (x, Og.both) :: mrgZ a b
termination_by a b => a.length + b.length
theorem mrgZ_end : mrgZ [] [] = [] := by rw [mrgZ]
theorem mrgZ_a (x : Int) (a : List Int) : mrgZ (x :: a) [] = (x, Og.fst) :: mrgZ a [] := by rw [mrgZ]
theorem mrgZ_b (y : Int) (b : List Int) : mrgZ [] (y :: b) = (y, Og.snd) :: mrgZ [] b := by rw [mrgZ]
theorem mrgZ_lt {x y : Int} (a b : List Int) (h : x < y) : mrgZ (x :: a) (y :: b) = (x, Og.fst) :: mrgZ a (y :: b) := by rw [mrgZ, if_pos h]
theorem mrgZ_gt {x y : Int} (a b : List Int) (h : ¬ x < y) (k : y < x) : mrgZ (x :: a) (y :: b) = (y, Og.snd) :: mrgZ (x :: a) b := by rw [mrgZ, if_neg h, if_pos k]
theorem mrgZ_eq {x y : Int} (a b : List Int) (h : ¬ x < y) (k : ¬ y < x) : mrgZ (x :: a) (y :: b) = (x, Og.both) :: mrgZ a b := by rw [mrgZ, if_neg h, if_neg k]
theorem mrgZ_len : ∀ (a b : List Int), (mrgZ a b).length ≤ a.length + b.length := by
  intro a b
  induction a, b using mrgZ.induct with
  | case1 => simp [mrgZ]
  | case2 x a ih => rw [mrgZ_a]; simp at *; omega
  | case3 y b ih => rw [mrgZ_b]; simp at *; omega
  | case4 x a y b h ih => rw [mrgZ_lt a b h]; simp at *; omega
  | case5 x a y b h k ih => rw [mrgZ_gt a b h k]; simp at *; omega
  | case6 x a y b h k ih => rw [mrgZ_eq a b h k]; simp at *; omega
/-- What an origin says. -/
def OrgZ (a b : List Int) (p : Int × Og) : Prop := (p.2 = .fst ∧ p.1 ∈ a ∧ p.1 ∉ b) ∨ (p.2 = .snd ∧ p.1 ∉ a ∧ p.1 ∈ b) ∨ (p.2 = .both ∧ p.1 ∈ a ∧ p.1 ∈ b)
theorem ascB_tail {x : Int} {a : List Int} (h : AscB ltI (x :: a)) : AscB ltI a := (List.pairwise_cons.1 h).2
theorem ascB_head {x : Int} {a : List Int} (h : AscB ltI (x :: a)) : ∀ z ∈ a, x < z := fun z hz => by have := (List.pairwise_cons.1 h).1 z hz; simpa [ltI] using this
theorem ascB_not {x : Int} {a : List Int} (h : AscB ltI (x :: a)) : x ∉ a := fun e => by have := ascB_head h x e; omega
theorem mrgZ_lo : ∀ (a b : List Int) (m : Int), (∀ z ∈ a, m < z) → (∀ z ∈ b, m < z) → ∀ p ∈ mrgZ a b, m < p.1 := by
  intro a b
  induction a, b using mrgZ.induct with
  | case1 => intro m _ _ p hp; rw [mrgZ_end] at hp; cases hp
  | case2 x a ih =>
    intro m h1 h2 p hp
    rw [mrgZ_a] at hp
    rcases List.mem_cons.1 hp with rfl | hp
    · exact h1 x (by simp)
    · exact ih m (fun z hz => h1 z (by simp [hz])) h2 p hp
  | case3 y b ih =>
    intro m h1 h2 p hp
    rw [mrgZ_b] at hp
    rcases List.mem_cons.1 hp with rfl | hp
    · exact h2 y (by simp)
    · exact ih m h1 (fun z hz => h2 z (by simp [hz])) p hp
  | case4 x a y b h ih =>
    intro m h1 h2 p hp
    rw [mrgZ_lt a b h] at hp
    rcases List.mem_cons.1 hp with rfl | hp
    · exact h1 x (by simp)
    · exact ih m (fun z hz => h1 z (by simp [hz])) h2 p hp
  | case5 x a y b h k ih =>
    intro m h1 h2 p hp
    rw [mrgZ_gt a b h k] at hp
    rcases List.mem_cons.1 hp with rfl | hp
    · exact h2 y (by simp)
    · exact ih m h1 (fun z hz => h2 z (by simp [hz])) p hp
  | case6 x a y b h k ih =>
    intro m h1 h2 p hp
    rw [mrgZ_eq a b h k] at hp
    rcases List.mem_cons.1 hp with rfl | hp
    · exact h1 x (by simp)
    · exact ih m (fun z hz => h1 z (by simp [hz])) (fun z hz => h2 z (by simp [hz])) p hp
/-- The numbers ascend. -/
theorem mrgZ_asc : ∀ (a b : List Int), AscB ltI a → AscB ltI b → AscB ltI ((mrgZ a b).map Prod.fst) := by
  intro a b
  have step : ∀ (z : Int) (o : Og) (l : List (Int × Og)), (∀ p ∈ l, z < p.1) → AscB ltI (l.map Prod.fst) → AscB ltI (((z, o) :: l).map Prod.fst) := by
    intro z o l h1 h2
    rw [List.map_cons]
    refine List.pairwise_cons.2 ⟨fun t ht => ?_, h2⟩
    obtain ⟨p, hp, rfl⟩ := List.mem_map.1 ht
    simpa [ltI] using h1 p hp
  induction a, b using mrgZ.induct with
  | case1 => intro _ _; rw [mrgZ_end]; exact List.Pairwise.nil
  | case2 x a ih => intro h1 h2; rw [mrgZ_a]; exact step _ _ _ (mrgZ_lo _ _ x (ascB_head h1) (by simp)) (ih (ascB_tail h1) h2)
  | case3 y b ih => intro h1 h2; rw [mrgZ_b]; exact step _ _ _ (mrgZ_lo _ _ y (by simp) (ascB_head h2)) (ih h1 (ascB_tail h2))
  | case4 x a y b h ih =>
    intro h1 h2
    rw [mrgZ_lt a b h]
    refine step _ _ _ (mrgZ_lo _ _ x (ascB_head h1) (fun z hz => ?_)) (ih (ascB_tail h1) h2)
    rcases List.mem_cons.1 hz with rfl | hz
    · exact h
    · have := ascB_head h2 z hz; omega
  | case5 x a y b h k ih =>
    intro h1 h2
    rw [mrgZ_gt a b h k]
    refine step _ _ _ (mrgZ_lo _ _ y (fun z hz => ?_) (ascB_head h2)) (ih h1 (ascB_tail h2))
    rcases List.mem_cons.1 hz with rfl | hz
    · exact k
    · have := ascB_head h1 z hz; omega
  | case6 x a y b h k ih =>
    intro h1 h2
    rw [mrgZ_eq a b h k]
    exact step _ _ _ (mrgZ_lo _ _ x (ascB_head h1) (fun z hz => by have := ascB_head h2 z hz; omega)) (ih (ascB_tail h1) (ascB_tail h2))
theorem mrgZ_org : ∀ (a b : List Int), AscB ltI a → AscB ltI b → ∀ p ∈ mrgZ a b, OrgZ a b p := by
  intro a b
  induction a, b using mrgZ.induct with
  | case1 => intro _ _ p hp; rw [mrgZ_end] at hp; cases hp
  | case2 x a ih =>
    intro h1 h2 p hp
    rw [mrgZ_a] at hp
    rcases List.mem_cons.1 hp with rfl | hp
    · exact Or.inl ⟨rfl, by simp, by simp⟩
    · rcases ih (ascB_tail h1) h2 p hp with h | h | h
      · exact Or.inl ⟨h.1, by simp [h.2.1], h.2.2⟩
      · exact absurd h.2.2 (by simp)
      · exact absurd h.2.2 (by simp)
  | case3 y b ih =>
    intro h1 h2 p hp
    rw [mrgZ_b] at hp
    rcases List.mem_cons.1 hp with rfl | hp
    · exact Or.inr (Or.inl ⟨rfl, by simp, by simp⟩)
    · rcases ih h1 (ascB_tail h2) p hp with h | h | h
      · exact absurd h.2.1 (by simp)
      · exact Or.inr (Or.inl ⟨h.1, h.2.1, by simp [h.2.2]⟩)
      · exact absurd h.2.1 (by simp)
  | case4 x a y b h ih =>
    intro h1 h2 p hp
    have hb : ∀ z ∈ y :: b, x < z := fun z hz => by
      rcases List.mem_cons.1 hz with rfl | hz
      · exact h
      · have := ascB_head h2 z hz; omega
    have hlo := mrgZ_lo a (y :: b) x (ascB_head h1) hb
    rw [mrgZ_lt a b h] at hp
    rcases List.mem_cons.1 hp with rfl | hp
    · exact Or.inl ⟨rfl, by simp, fun e => by have := hb _ e; omega⟩
    · have hne : p.1 ≠ x := fun e => by have := hlo p hp; omega
      rcases ih (ascB_tail h1) h2 p hp with h | h | h
      · exact Or.inl ⟨h.1, by simp [h.2.1], h.2.2⟩
      · exact Or.inr (Or.inl ⟨h.1, by simp [h.2.1, hne], h.2.2⟩)
      · exact Or.inr (Or.inr ⟨h.1, by simp [h.2.1], h.2.2⟩)
  | case5 x a y b h k ih =>
    intro h1 h2 p hp
    have ha : ∀ z ∈ x :: a, y < z := fun z hz => by
      rcases List.mem_cons.1 hz with rfl | hz
      · exact k
      · have := ascB_head h1 z hz; omega
    have hlo := mrgZ_lo (x :: a) b y ha (ascB_head h2)
    rw [mrgZ_gt a b h k] at hp
    rcases List.mem_cons.1 hp with rfl | hp
    · exact Or.inr (Or.inl ⟨rfl, fun e => by have := ha _ e; omega, by simp⟩)
    · have hne : p.1 ≠ y := fun e => by have := hlo p hp; omega
      rcases ih h1 (ascB_tail h2) p hp with h | h | h
      · exact Or.inl ⟨h.1, h.2.1, by simp [h.2.2, hne]⟩
      · exact Or.inr (Or.inl ⟨h.1, h.2.1, by simp [h.2.2]⟩)
      · exact Or.inr (Or.inr ⟨h.1, h.2.1, by simp [h.2.2]⟩)
  | case6 x a y b h k ih =>
    intro h1 h2 p hp
    have hxy : x = y := by omega
    subst hxy
    have hlo := mrgZ_lo a b x (ascB_head h1) (ascB_head h2)
    rw [mrgZ_eq a b h k] at hp
    rcases List.mem_cons.1 hp with rfl | hp
    · exact Or.inr (Or.inr ⟨rfl, by simp, by simp⟩)
    · have hne : p.1 ≠ x := fun e => by have := hlo p hp; omega
      rcases ih (ascB_tail h1) (ascB_tail h2) p hp with h | h | h
      · exact Or.inl ⟨h.1, by simp [h.2.1], by simp [h.2.2, hne]⟩
      · exact Or.inr (Or.inl ⟨h.1, by simp [h.2.1, hne], by simp [h.2.2]⟩)
      · exact Or.inr (Or.inr ⟨h.1, by simp [h.2.1], by simp [h.2.2]⟩)
theorem mrgZ_all : ∀ (a b : List Int) (z : Int), (z ∈ a ∨ z ∈ b) → ∃ o, (z, o) ∈ mrgZ a b := by
  intro a b
  induction a, b using mrgZ.induct with
  | case1 => intro z h; simp at h
  | case2 x a ih =>
    intro z h
    rw [mrgZ_a]
    rcases h with h | h
    · rcases List.mem_cons.1 h with rfl | h
      · exact ⟨_, List.mem_cons_self ..⟩
      · obtain ⟨o, ho⟩ := ih z (Or.inl h); exact ⟨o, List.mem_cons_of_mem _ ho⟩
    · cases h
  | case3 y b ih =>
    intro z h
    rw [mrgZ_b]
    rcases h with h | h
    · cases h
    · rcases List.mem_cons.1 h with rfl | h
      · exact ⟨_, List.mem_cons_self ..⟩
      · obtain ⟨o, ho⟩ := ih z (Or.inr h); exact ⟨o, List.mem_cons_of_mem _ ho⟩
  | case4 x a y b h ih =>
    intro z hz
    rw [mrgZ_lt a b h]
    rcases hz with hz | hz
    · rcases List.mem_cons.1 hz with rfl | hz
      · exact ⟨_, List.mem_cons_self ..⟩
      · obtain ⟨o, ho⟩ := ih z (Or.inl hz); exact ⟨o, List.mem_cons_of_mem _ ho⟩
    · obtain ⟨o, ho⟩ := ih z (Or.inr hz); exact ⟨o, List.mem_cons_of_mem _ ho⟩
  | case5 x a y b h k ih =>
    intro z hz
    rw [mrgZ_gt a b h k]
    rcases hz with hz | hz
    · obtain ⟨o, ho⟩ := ih z (Or.inl hz); exact ⟨o, List.mem_cons_of_mem _ ho⟩
    · rcases List.mem_cons.1 hz with rfl | hz
      · exact ⟨_, List.mem_cons_self ..⟩
      · obtain ⟨o, ho⟩ := ih z (Or.inr hz); exact ⟨o, List.mem_cons_of_mem _ ho⟩
  | case6 x a y b h k ih =>
    intro z hz
    have hxy : x = y := by omega
    subst hxy
    rw [mrgZ_eq a b h k]
    rcases hz with hz | hz
    · rcases List.mem_cons.1 hz with rfl | hz
      · exact ⟨_, List.mem_cons_self ..⟩
      · obtain ⟨o, ho⟩ := ih z (Or.inl hz); exact ⟨o, List.mem_cons_of_mem _ ho⟩
    · rcases List.mem_cons.1 hz with rfl | hz
      · exact ⟨_, List.mem_cons_self ..⟩
      · obtain ⟨o, ho⟩ := ih z (Or.inr hz); exact ⟨o, List.mem_cons_of_mem _ ho⟩

/-- A choice of origins: 1 (the first alone), 4 (both), 7 (any). -/
def wantZ (W : Int) (o : Og) : Bool := decide (W = 7 ∨ W = o.z)
/-- The numbers of two lists that have one of the wanted origins. -/
def selZ (W : Int) (l : List (Int × Og)) : List Int := (l.filter fun p => wantZ W p.2).map Prod.fst
theorem selZ_push (W : Int) (l : List (Int × Og)) (p : Int × Og) : selZ W (l ++ [p]) = if wantZ W p.2 then selZ W l ++ [p.1] else selZ W l := by
  unfold selZ
  rw [List.filter_append, List.map_append]
  by_cases h : wantZ W p.2 = true
  · rw [if_pos h]; simp [h]
  · rw [if_neg h]; simp [h]
theorem selZ_len (W : Int) (l : List (Int × Og)) : (selZ W l).length ≤ l.length := by unfold selZ; rw [List.length_map]; exact List.length_filter_le ..
theorem selZ_asc {W : Int} {a b : List Int} (ha : AscB ltI a) (hb : AscB ltI b) : AscB ltI (selZ W (mrgZ a b)) :=
  List.Pairwise.sublist (List.Sublist.map _ List.filter_sublist) (mrgZ_asc a b ha hb)
theorem selZ_mem (W : Int) (l : List (Int × Og)) (z : Int) : z ∈ selZ W l ↔ ∃ o, (z, o) ∈ l ∧ wantZ W o = true := by
  unfold selZ
  rw [List.mem_map]
  constructor
  · rintro ⟨p, hp, rfl⟩; exact ⟨p.2, (List.mem_filter.1 hp).1, (List.mem_filter.1 hp).2⟩
  · rintro ⟨o, h1, h2⟩; exact ⟨(z, o), List.mem_filter.2 ⟨h1, h2⟩, rfl⟩
theorem selZ_first {a b : List Int} (ha : AscB ltI a) (hb : AscB ltI b) : selZ 1 (mrgZ a b) = diffZ a b := by
  refine ext_asc (selZ_asc ha hb) (diff_asc b ha) (fun z => ?_)
  rw [selZ_mem, diff_mem]
  constructor
  · rintro ⟨o, h1, h2⟩
    have hw : o = .fst := by cases o <;> simp [wantZ, Og.z] at h2 ⊢
    rcases mrgZ_org a b ha hb _ h1 with h | h | h
    · exact h.2
    · exact absurd h.1 (by simp [hw])
    · exact absurd h.1 (by simp [hw])
  · intro h
    obtain ⟨o, ho⟩ := mrgZ_all a b z (Or.inl h.1)
    refine ⟨o, ho, ?_⟩
    rcases mrgZ_org a b ha hb _ ho with k | k | k
    · simp only at k; simp [wantZ, k.1, Og.z]
    · exact absurd h.1 k.2.1
    · exact absurd k.2.2 h.2
theorem selZ_both {a b : List Int} (ha : AscB ltI a) (hb : AscB ltI b) (z : Int) : z ∈ selZ 4 (mrgZ a b) ↔ z ∈ a ∧ z ∈ b := by
  rw [selZ_mem]
  constructor
  · rintro ⟨o, h1, h2⟩
    have hw : o = .both := by cases o <;> simp [wantZ, Og.z] at h2 ⊢
    rcases mrgZ_org a b ha hb _ h1 with h | h | h
    · exact absurd h.1 (by simp [hw])
    · exact absurd h.1 (by simp [hw])
    · exact h.2
  · intro h
    obtain ⟨o, ho⟩ := mrgZ_all a b z (Or.inl h.1)
    refine ⟨o, ho, ?_⟩
    rcases mrgZ_org a b ha hb _ ho with k | k | k
    · exact absurd h.2 k.2.2
    · exact absurd h.1 k.2.1
    · simp only at k; simp [wantZ, k.1, Og.z]
theorem selZ_any {a b : List Int} (ha : AscB ltI a) (hb : AscB ltI b) (z : Int) : z ∈ selZ 7 (mrgZ a b) ↔ z ∈ a ∨ z ∈ b := by
  rw [selZ_mem]
  constructor
  · rintro ⟨o, h1, h2⟩
    rcases mrgZ_org a b ha hb _ h1 with h | h | h
    · exact Or.inl h.2.1
    · exact Or.inr h.2.2
    · exact Or.inl h.2.1
  · intro h
    obtain ⟨o, ho⟩ := mrgZ_all a b z h
    exact ⟨o, ho, by simp [wantZ]⟩

/-- What a number of lists gives, by halves: 4 (in all) or 7 (in some). -/
def cmbZ (W : Int) (m : List (List Int)) : List Int := if W = 4 then interZ m else unionZ m
theorem cmbZ_nil (W : Int) : cmbZ W [] = [] := by unfold cmbZ; split <;> rfl
theorem cmbZ_one (W : Int) {a : List Int} (h : AscB ltI a) : cmbZ W [a] = a := by
  unfold cmbZ
  split
  · show a.filter _ = a
    rw [List.filter_eq_self.2 (fun x _ => by simp)]
  · refine ext_asc (union_asc _) h (fun z => ?_)
    rw [union_mem]; simp
theorem cmbZ_asc (W : Int) {m : List (List Int)} (h : ∀ l ∈ m, AscB ltI l) : AscB ltI (cmbZ W m) := by
  unfold cmbZ
  split
  · exact inter_asc h
  · exact union_asc m
theorem cmbZ_len (W : Int) (m : List (List Int)) : (cmbZ W m).length ≤ m.flatten.length := by
  unfold cmbZ
  split
  · cases m with
    | nil => simp [interZ]
    | cons a m =>
      have h1 : (interZ (a :: m)).length ≤ a.length := List.length_filter_le ..
      rw [List.flatten_cons, List.length_append]; omega
  · exact tabB_len _
/-- Two halves, chosen. -/
theorem cmbZ_split {W : Int} (hW : W = 4 ∨ W = 7) {m k : List (List Int)} (hm : m ≠ []) (hk : k ≠ []) (h : ∀ l ∈ m ++ k, AscB ltI l) : selZ W (mrgZ (cmbZ W m) (cmbZ W k)) = cmbZ W (m ++ k) := by
  have h1 : ∀ l ∈ m, AscB ltI l := fun l hl => h l (List.mem_append_left _ hl)
  have h2 : ∀ l ∈ k, AscB ltI l := fun l hl => h l (List.mem_append_right _ hl)
  refine ext_asc (selZ_asc (cmbZ_asc W h1) (cmbZ_asc W h2)) (cmbZ_asc W h) (fun z => ?_)
  rcases hW with rfl | rfl
  · rw [selZ_both (cmbZ_asc 4 h1) (cmbZ_asc 4 h2)]
    have e : ∀ m, cmbZ 4 m = interZ m := fun m => by unfold cmbZ; rw [if_pos rfl]
    rw [e, e, e, inter_mem hm, inter_mem hk, inter_mem (by simp [hm])]
    constructor
    · rintro ⟨g1, g2⟩ l hl
      rcases List.mem_append.1 hl with hl | hl
      · exact g1 l hl
      · exact g2 l hl
    · intro g
      exact ⟨fun l hl => g l (List.mem_append_left _ hl), fun l hl => g l (List.mem_append_right _ hl)⟩
  · rw [selZ_any (cmbZ_asc 7 h1) (cmbZ_asc 7 h2)]
    have e : ∀ m, cmbZ 7 m = unionZ m := fun m => by unfold cmbZ; rw [if_neg (by omega)]
    rw [e, e, e, union_mem, union_mem, union_mem]
    constructor
    · rintro (⟨l, hl, hz⟩ | ⟨l, hl, hz⟩)
      · exact ⟨l, List.mem_append_left _ hl, hz⟩
      · exact ⟨l, List.mem_append_right _ hl, hz⟩
    · rintro ⟨l, hl, hz⟩
      rcases List.mem_append.1 hl with hl | hl
      · exact Or.inl ⟨l, hl, hz⟩
      · exact Or.inr ⟨l, hl, hz⟩
theorem compl_diff (l : List Int) (n : Int) : diffZ (uptoZ n) l = complZ l n := rfl
theorem uptoZ_len (n : Int) : (uptoZ n).length = n.toNat := by simp [uptoZ]
end Go.Proofs.Ytpjfhakmffcolaa

end

section
/- A range over a function, at the widest fence. No program in sight. -/
namespace Go.Proofs.Ytpjfhakmffcolaa
open Go Go.RowKit Go.Shelf

/-- In a round an operation that defers nothing is carried out as everywhere. -/
theorem operIn_round {P : Program} {l n : Nat} {o : Oper} {a : Act} {w : World} {next next' : Act → World → Prop} {Q : Exit → Act → World → Prop} (hd : ∀ c, o.op ≠ .defer c) (hn : ∀ a w, next a w → next' a w) (hQ : ¬ LetsOut Q)
    (h : o.wp P a w next Q) : o.wpIn (Fence.wide.inRound l) n P a w next' Q := by
  refine ⟨fun _ _ => trivial, ?_⟩
  show o.uponIn _ n P a next' Q ((o.semAt (some l) a.eval).run P w)
  rw [Oper.semAt_some l a.eval o hd]
  unfold Oper.wp at h
  have hdep : (Fence.wide.inRound l).depth.isSome = true → 1 ≤ n := fun h => by cases h
  revert h
  generalize (execOp a.eval o).run P w = r
  intro h
  cases r with
  | ok v w1 =>
    cases v with
    | value v => exact hn _ _ h
    | skip => exact hn _ _ h
    | defer d => exact hn _ _ h
    | enter f args =>
      refine ⟨hdep, CallsIn.inRound l (callsIn_wide.2 (Calls.mono h ?_))⟩
      intro e w2 h2
      cases e with
      | returned v => exact hn _ _ h2
      | panicked ch => exact h2
      | outgrown => exact absurd h2 hQ
    | row row args =>
      refine ⟨hdep, fun c cs _ => ?_⟩
      obtain ⟨v, w2, h2, s⟩ := h c cs
      exact ⟨v, w2, hn _ _ h2, stepsIn_wide.2 s⟩
    | _ => exact h.elim
  | halt hh w1 =>
    cases hh with
    | panic v => exact h
    | _ => exact h.elim

theorem wpListIn_round {P : Program} {l n : Nat} {ops : Array Oper} {Q : Exit → Act → World → Prop} (hQ : ¬ LetsOut Q) : ∀ (os : List Oper) (a : Act) (w : World), (∀ o ∈ os, ∀ c, o.op ≠ .defer c) →
    wpList P ops Q os a w → wpListIn (Fence.wide.inRound l) n P ops Q os a w
  | [], _, _, _, h => h
  | o :: os, a, w, hd, h => by
    unfold wpListIn
    unfold wpList at h
    split
    · next hw =>
      rw [if_pos hw] at h
      rcases h with h | h
      · exact operIn_round (hd o (by simp)) (fun a w => wpListIn_round hQ os a w (fun o h => hd o (by simp [h]))) hQ h
      · exact absurd h.2 hQ
    · next hw =>
      rw [if_neg hw] at h
      exact ⟨fun _ _ => trivial, wpListIn_round hQ os _ _ (fun o h => hd o (by simp [h])) h⟩

/-! ### What the caller says of its own memory abides the loop's own steps -/
theorem row_other {W : World} {row : Option Nat} {b : Nat} {cs : Array Value} {t : TypeId} {fz : Nat × Nat} (h : W.heap[b]? = some (.cells cs t fz)) (hr : ∀ r, row = some r → ∃ o : Obj, W.heap[r]? = some o ∧ o.isCells = false) : some b ≠ row := fun e => by
  obtain ⟨o, ho, hc⟩ := hr b e.symm
  rw [h] at ho; cases ho; cases hc
theorem own_blk {β : Type} (b : Nat) (f : β → List Value) : Own (fun s W => Blk W b (f s)) := by
  rintro s W W' row ⟨t, h⟩ hg hr
  exact ⟨t, (hg.block b (Array.getElem?_eq_some_iff.1 h).1 (row_other h hr)).trans h⟩
theorem owns_abides {W W' : World} {row : Option Nat} {base : Nat} {e : TypeId} {sz : Nat} {v : Value} {n : Nat} {xs : List Value} (h : W.ownsRow base e sz v n xs) (hg : W.grownBy W' row) (hr : ∀ r, row = some r → ∃ o : Obj, W.heap[r]? = some o ∧ o.isCells = false) : W'.ownsRow base e sz v n xs := by
  refine h.kept hg ?_
  rcases h.2 with ⟨rfl, _⟩ | ⟨g, cap, cur, rfl, _, hgb, _⟩
  · exact .inl rfl
  · exact .inr (fun e => row_other hgb hr e)
theorem ownFrom_mods {β : Type} {B : Nat} {S : Nat → Prop} {w : World} (hB : w.heap.size ≤ B) : OwnFrom B (fun (_ : β) W => Mods S w W) := by
  intro s W W' row h hg hr
  refine ⟨hg.os.trans h.os, hg.tape.trans h.tape, hg.output.trans h.output, Nat.le_trans h.size hg.size, fun k hk hs => ?_⟩
  refine (hg.block k (by have := h.size; omega) (fun e => ?_)).trans (h.block k hk hs)
  have := (hr k e.symm).1
  omega
theorem ownFrom_pure {β : Type} {B : Nat} (p : β → Prop) : OwnFrom B (fun s (_ : World) => p s) := fun _ _ _ _ h _ _ => h
/-- The box holds a row that the call may write, which has come of v. -/
def Holds (e : TypeId) (sz b : Nat) (v : Value) (n : Nat) (xs : List Value) (w W : World) : Prop :=
  ∃ v', Blk W b [v'] ∧ W.ownsRow 0 e sz v' n xs ∧ Fresh w.heap.size v v' ∧ (v'.ownBlock ≠ some b) ∧ Mods (fun k => v.ownBlock = some k) w W
theorem ownFrom_holds {β : Type} {B : Nat} {w : World} (hB : w.heap.size ≤ B) (e : TypeId) (sz b : Nat) (v : Value) (n : β → Nat) (xs : β → List Value) : OwnFrom B (fun s W => Holds e sz b v (n s) (xs s) w W) := by
  rintro s W W' row ⟨v', h1, h2, h3, h4, h5⟩ hg hr
  have hr' : ∀ r, row = some r → ∃ o : Obj, W.heap[r]? = some o ∧ o.isCells = false := fun r e => (hr r e).2
  exact ⟨v', own_blk b (fun _ : Unit => [v']) () W W' row h1 hg hr', owns_abides h2 hg hr', h3, h4, ownFrom_mods hB () W W' row h5 hg hr⟩
theorem KeepsOthers.of_mods {S : Nat → Prop} {W W' : World} (h : Mods S W W') (hS : ∀ k o, S k → W.heap[k]? = some o → o.isCells = true) : KeepsOthers W W' :=
  ⟨h.size, fun k o hk ho => (h.block k (Array.getElem?_eq_some_iff.1 hk).1 (fun e => by rw [hS k o e hk] at ho; cases ho)).trans hk⟩
theorem owns_isCells {W : World} {base : Nat} {e : TypeId} {sz : Nat} {v : Value} {n : Nat} {xs : List Value} (h : W.ownsRow base e sz v n xs) : ∀ k o, v.ownBlock = some k → W.heap[k]? = some o → o.isCells = true := by
  intro k o hk ho
  rcases h.2 with ⟨rfl, _⟩ | ⟨g, cap, cur, rfl, _, hgb, _⟩
  · simp [Value.ownBlock] at hk
  · obtain rfl : g = k := by simpa [Value.ownBlock] using hk
    rw [hgb] at ho; cases ho; rfl
/-- An append in the body of a round: the box holds the longer row. -/
theorem Holds.pushed {e : TypeId} {sz b : Nat} {v v1 v2 : Value} {n m : Nat} {xs ys : List Value} {w W w1 : World} (hb : w.heap.size ≤ b) (h1 : Blk W b [v1]) (h2 : W.ownsRow 0 e sz v1 n xs) (h3 : Fresh w.heap.size v v1) (h4 : v1.ownBlock ≠ some b) (h5 : Mods (fun k => v.ownBlock = some k) w W)
    (k1 : w1.ownsRow 0 e sz v2 m ys) (k2 : Mods (fun k => v1.ownBlock = some k) W w1) (k3 : Fresh W.heap.size v1 v2) :
    Holds e sz b v m ys w (w1.setCell ⟨b, 0, none⟩ v2) ∧ KeepsOthers W (w1.setCell ⟨b, 0, none⟩ v2) := by
  have hne : v2.ownBlock ≠ some b := fun e => by
    rcases k3 b e with e | e
    · exact h4 e
    · have := h1.lt; omega
  refine ⟨⟨v2, ?_, ?_, ?_, hne, ?_⟩, (KeepsOthers.of_mods k2 (owns_isCells h2)).trans (KeepsOthers.setCell _ _ _)⟩
  · simpa using (k2.blk h1 h4).set 0 v2
  · exact (Mods.set (fun k => k = b) w1 ⟨b, 0, none⟩ v2 (fun _ => rfl)).owns k1 (fun k hk e => hne (by rw [hk, e]))
  · exact h3.trans k3 h5.size
  · refine (h5.trans k2 (fun j hj e => ?_)).trans (Mods.set (fun k => k = b) w1 ⟨b, 0, none⟩ v2 (fun _ => rfl)) (fun j hj e => by omega)
    rcases h3 j e with e | e
    · exact e
    · omega
theorem not_letsOut_body {α : Type} {id B : Nat} {Kp : World → World → Prop} {I : List α → World → Prop} {Ix : Code → List α → World → Prop} {xs : List α} {W : World} : ¬ LetsOut (Exit.inBlock id (ownPostG B Kp I Ix xs W)) := by
  rintro ⟨_, _, h⟩; exact h
theorem Mods.putObj {S : Nat → Prop} {w W : World} (h : Mods S w W) {D : Nat} (hD : w.heap.size ≤ D) (o : Obj) : Mods S w (W.putObj D o) := by
  have hg := grownBy_putObj' W D o
  exact ⟨hg.os.trans h.os, hg.tape.trans h.tape, hg.output.trans h.output, Nat.le_trans h.size hg.size, fun k hk hs => (hg.block k (by have := h.size; omega) (fun e => by cases e; omega)).trans (h.block k hk hs)⟩
end Go.Proofs.Ytpjfhakmffcolaa

end

section
/- An iterator that reads memory between two rounds: the blocks that must stay as they were. No program in sight. -/
namespace Go.Proofs.Ytpjfhakmffcolaa
open Go Go.RowKit Go.Shelf

/-- The blocks K are as they were. -/
def KeepAt (K : Nat → Prop) (A B : World) : Prop := ∀ k, K k → B.heap[k]? = A.heap[k]?
theorem keepAt_t {K : Nat → Prop} {A B C : World} (h : KeepAt K A B) (k : KeepAt K B C) : KeepAt K A C := fun j hj => (k j hj).trans (h j hj)
theorem keepAt_b {K : Nat → Prop} {w : World} (hK : ∀ k, K k → k < w.heap.size) (W : World) (l : Nat) (o o' : Obj) (hl : w.heap.size ≤ l) (h : W.heap[l]? = some o) (_ : o.isCells = false) (_ : o.isWalk = false) : KeepAt K W (W.putObj l o') := fun k hk => by
  have h1 := hK k hk
  have h2 := (Array.getElem?_eq_some_iff.1 h).1
  exact (grownBy_putObj' W l o').block k (by omega) (fun e => by cases e; omega)
theorem KeepAt.cell {K : Nat → Prop} {A B : World} (h : KeepAt K A B) {b : Nat} (hb : K b) (i : Nat) : B.cell? ⟨b, i, none⟩ = A.cell? ⟨b, i, none⟩ := by
  unfold World.cell?
  rw [h b hb]
theorem KeepAt.rd {K : Nat → Prop} {A B : World} (h : KeepAt K A B) {sz : Nat} {v : Value} {n : Nat} {xs : List Value} (hr : Rd A sz v n xs) (hv : ∀ k, v.ownBlock = some k → K k) : Rd B sz v n xs := by
  refine hr.of_cells fun a u hu ⟨p, hp, hab⟩ => ?_
  have hk : K a.block := hv _ (by rw [hp, hab]; rfl)
  rw [← hu]
  exact World.cell?_of_block (h _ hk)

theorem grown_drewN (w : World) (n : Nat) : w.grownBy (w.drewN n) none := ⟨rfl, rfl, rfl, Nat.le_refl _, fun _ _ _ => rfl⟩
theorem grown_below {w w' : World} (h : Below w.heap.size w w') : w.grownBy w' none := ⟨h.os, h.tape, h.output, h.size, fun k hk _ => h.block k hk⟩
theorem keepAt_below {K : Nat → Prop} {w A B : World} (h : KeepAt K w A) (hK : ∀ k, K k → k < w.heap.size) (hb : Below A.heap.size A B) : KeepAt K w B := fun k hk => by
  have h1 := h k hk
  obtain ⟨o, ho⟩ : ∃ o, w.heap[k]? = some o := ⟨_, Array.getElem?_eq_getElem (hK k hk)⟩
  rw [ho] at h1
  exact (hb.block k (Array.getElem?_eq_some_iff.1 h1).1).trans (h k hk)
end Go.Proofs.Ytpjfhakmffcolaa

end

section
/- Layer 14: the program's function that yields the numbers of two sorted lists, each with its origin. (Written by gen14i.py.) -/
set_option linter.unusedVariables false
set_option maxRecDepth 100000
namespace Go.Proofs.Ytpjfhakmffcolaa
open Go Go.RowKit Go.Shelf
attribute [local go_sem] Oper.semAt_some

theorem new_merge (p q : Option Addr) (m k c d : Nat) (w : World) (n : Nat) :
    CallsIn Fence.wide n Try.prog 112 #[.slice p m c, .slice q k d] w fun e w' => e = .returned (.func (.func 116) #[] #[.pointer (some ⟨w.heap.size, 0, none⟩), .pointer (some ⟨w.heap.size + 1, 0, none⟩)]) ∧ w' = (w.alloc (.cells #[.slice p m c] 38)).alloc (.cells #[.slice q k d] 38) := by
  refine callsIn_wide.2 ?_
  go_enter Try.func112, Try.ntmps112
  go_wp2_with fail
  go_ret
  exact ⟨by simp, rfl⟩

/-- What an iterator over the lists av and bv, boxed at x and y, must find unturned. -/
def KeepZ (x y : Nat) (av bv : Value) (a b : List Int) : Nat → Prop := fun k => (k = x ∨ (a ≠ [] ∧ av.ownBlock = some k)) ∨ (k = y ∨ (b ≠ [] ∧ bv.ownBlock = some k))
theorem keepZ_lt {x y : Nat} {av bv : Value} {a b : List Int} {w : World} (hx : x < w.heap.size) (hy : y < w.heap.size) (ha : Rd w 1 av a.length (i64s a)) (hb : Rd w 1 bv b.length (i64s b)) : ∀ k, KeepZ x y av bv a b k → k < w.heap.size := fun k hk => by
  rcases hk with (e | ⟨h, e⟩) | (e | ⟨h, e⟩)
  · omega
  · exact ha.lt (fun e => h (by have := congrArg List.length e; rw [i64s_length] at this; exact List.eq_nil_of_length_eq_zero this)) k e
  · omega
  · exact hb.lt (fun e => h (by have := congrArg List.length e; rw [i64s_length] at this; exact List.eq_nil_of_length_eq_zero this)) k e
/-- A number of a list that is read, once more. -/
theorem keepZ_at {w : World} {p : Option Addr} {n c : Nat} {l : List Int} (h : Rd w 1 (.slice p n c) l.length (i64s l)) {i : Nat} (hi : i < l.length) : ∃ b off, p = some ⟨b, off, none⟩ ∧ w.cell? ⟨b, off + i, none⟩ = some (.int .i64 l[i]) := by
  obtain ⟨b, off, c', e, _, _, hc⟩ := h.at (fun e => by have := congrArg List.length e; rw [i64s_length] at this; rw [this] at hi; simp at hi)
  simp only [Value.slice.injEq] at e
  exact ⟨b, off, e.1, hc i _ (i64s_get l i hi)⟩

set_option maxHeartbeats 4000000 in
theorem merge_gives (n : Nat) (hn : 1 ≤ n) (bx bY : Nat) (av bv : Value) (a b : List Int) (w : World) (hca : w.cell? ⟨bx, 0, none⟩ = some av) (hcb : w.cell? ⟨bY, 0, none⟩ = some bv) (ha : Rd w 1 av a.length (i64s a)) (hb : Rd w 1 bv b.length (i64s b)) :
    SeqStopsK Fence.wide n Try.prog 116 #[.pointer (some ⟨bx, 0, none⟩), .pointer (some ⟨bY, 0, none⟩)] (fun x : Int × Og => #[.int .i64 x.1, .int .i64 x.2.z]) (KeepAt (KeepZ bx bY av bv a b)) (fun ys => ys = mrgZ a b) (fun _ => True) (mrgZ a b).length w := by
  intro l J Jx W hW hJ hJx hY h0
  have hbx : bx < w.heap.size := World.block_lt_of_cell? w _ hca
  have hby : bY < w.heap.size := World.block_lt_of_cell? w _ hcb
  have HK0 : Hid (KeepAt (KeepZ bx bY av bv a b) w W) := fun k hk => hW.block k (keepZ_lt hbx hby ha hb k hk)
  have HCa := Lib.hid hca; have HCb := Lib.hid hcb; have HA := Lib.hid ha; have HB := Lib.hid hb
  have HJ := Lib.hid hJ; have HY := Lib.hid hY
  have hma : (a.length : Int) ≤ 9223372036854775807 := by have := ha.le; unfold maxLen at this; omega
  have hmb : (b.length : Int) ≤ 9223372036854775807 := by have := hb.le; unfold maxLen at this; omega
  clear hca hcb hJ hY
  obtain ⟨p, c, hv⟩ := ha.shape
  subst hv
  obtain ⟨q, d, hv⟩ := hb.shape
  subst hv
  clear ha hb
  obtain ⟨K, hK⟩ : ∃ K : Nat → Prop, KeepZ bx bY (.slice p a.length c) (.slice q b.length d) a b = K := ⟨_, rfl⟩
  have HKa : Hid (K bx) := by rw [← hK]; exact Or.inl (Or.inl rfl)
  have HKb : Hid (K bY) := by rw [← hK]; exact Or.inr (Or.inl rfl)
  have HKp : Hid (a ≠ [] → ∀ k, (Value.slice p a.length c).ownBlock = some k → K k) := by rw [← hK]; exact fun h k hk => Or.inl (Or.inr ⟨h, hk⟩)
  have HKq : Hid (b ≠ [] → ∀ k, (Value.slice q b.length d).ownBlock = some k → K k) := by rw [← hK]; exact fun h k hk => Or.inr (Or.inr ⟨h, hk⟩)
  rw [hK] at HK0 HY
  clear hK
  refine callsIn_of_wp Try.func116 rfl trivial ?_ rfl
  simp only [Try.ntmps116, List.size_toArray, List.length_cons, List.length_nil, Nat.reduceAdd, Nat.reduceSub, Array.replicate_succ, Array.replicate_zero, List.push_toArray, List.append_toArray, List.nil_append, List.cons_append]
  gi_wp2
  gi_loopw [4, 5] (fun iv jv wr => ∃ (i j : Nat) (pre : List (Int × Og)), i ≤ a.length ∧ j ≤ b.length ∧ iv = .int .i64 (i : Int) ∧ jv = .int .i64 (j : Int) ∧ Hid (mrgZ a b = pre ++ mrgZ (a.drop i) (b.drop j)) ∧ Hid (J pre wr ∧ KeepAt K w wr)) (fun iv jv _ => a.length + b.length - ((intOf iv).toNat + (intOf jv).toNat))
  case atStart => exact ⟨0, 0, [], Nat.zero_le _, Nat.zero_le _, rfl, rfl, rfl, h0, HK0.out⟩
  case round =>
    obtain ⟨i, j, pre, hi, hj, rfl, rfl, HP, HI⟩ := hrel
    have HcA : Hid (∀ w', KeepAt K w w' → w'.cell? ⟨bx, 0, none⟩ = some (.slice p a.length c)) := fun w' h => (h.cell HKa.out 0).trans HCa.out
    have HcB : Hid (∀ w', KeepAt K w w' → w'.cell? ⟨bY, 0, none⟩ = some (.slice q b.length d)) := fun w' h => (h.cell HKb.out 0).trans HCb.out
    have him : (i : Int) ≤ 9223372036854775807 := by omega
    have hjm : (j : Int) ≤ 9223372036854775807 := by omega
    by_cases h : i < a.length
    · have hlt : (i : Int) < (a.length : Int) := by omega
      have HAx : Hid (∃ b0 off, p = some ⟨b0, off, none⟩ ∧ ∀ w', KeepAt K w w' → w'.cell? ⟨b0, off + i, none⟩ = some (.int .i64 (a[i]'h))) := by
        have hne : a ≠ [] := fun e => by rw [e] at h; simp at h
        obtain ⟨b0, off, e, _⟩ := keepZ_at HA.out h
        refine ⟨b0, off, e, fun w' hk => ?_⟩
        obtain ⟨b1, off1, e1, h2⟩ := keepZ_at (hk.rd HA.out (HKp.out hne)) h
        rw [e] at e1
        simp only [Option.some.injEq, Addr.mk.injEq] at e1
        obtain ⟨rfl, rfl, _⟩ := e1
        exact h2
      have HDa : Hid (a.drop i = (a[i]'h) :: a.drop (i + 1)) := List.drop_eq_getElem_cons h
      generalize a[i]'h = x at *
      obtain ⟨b0, off, rfl, hcx⟩ := HAx.out
      have HCx := Lib.hid hcx
      clear hcx HAx
      by_cases g : j < b.length
      · have glt : (j : Int) < (b.length : Int) := by omega
        have hjb : ((j : Int) == (b.length : Int)) = false := by rw [beq_eq_false_iff_ne]; omega
        have HBx : Hid (∃ b1 of1, q = some ⟨b1, of1, none⟩ ∧ ∀ w', KeepAt K w w' → w'.cell? ⟨b1, of1 + j, none⟩ = some (.int .i64 (b[j]'g))) := by
          have hne : b ≠ [] := fun e => by rw [e] at g; simp at g
          obtain ⟨b0, off, e, _⟩ := keepZ_at HB.out g
          refine ⟨b0, off, e, fun w' hk => ?_⟩
          obtain ⟨b1, off1, e1, h2⟩ := keepZ_at (hk.rd HB.out (HKq.out hne)) g
          rw [e] at e1
          simp only [Option.some.injEq, Addr.mk.injEq] at e1
          obtain ⟨rfl, rfl, _⟩ := e1
          exact h2
        have HDb : Hid (b.drop j = (b[j]'g) :: b.drop (j + 1)) := List.drop_eq_getElem_cons g
        generalize b[j]'g = y at *
        obtain ⟨b1, of1, rfl, hcy⟩ := HBx.out
        have HCy := Lib.hid hcy
        clear hcy HBx
        by_cases hxy : x < y
        · have hex : Hid (mrgZ a b = (pre ++ [(x, Og.fst)]) ++ mrgZ (a.drop (i + 1)) (b.drop (j))) := by
            show _ = _
            have := HP.out
            rw [HDa.out, HDb.out, mrgZ_lt _ _ hxy, ← HDb.out] at this
            rw [this, List.append_assoc]; rfl
          have hpl : pre.length < (mrgZ a b).length := by rw [hex.out, List.length_append, List.length_append, List.length_singleton]; omega
          clear HDa HDb HP
          have cA := HcA.out _ HI.out.2; have cB := HcB.out _ HI.out.2; have dx := HCx.out _ HI.out.2; have dy := HCy.out _ HI.out.2
          gi_wp2
          refine wpIn_wide.2 ?_
          go_quiet (fail)
          have HI1 : Hid (J pre (wr.drewN nq) ∧ KeepAt K w (wr.drewN nq)) := ⟨HJ.out pre wr _ none HI.out.1 (grown_drewN wr nq) (fun r e => by cases e), HI.out.2⟩
          clear cA cB dx dy
          clear HI
          generalize wr.drewN nq = wy at *
          have cA1 := HcA.out _ HI1.out.2; have cB1 := HcB.out _ HI1.out.2; have dx1 := HCx.out _ HI1.out.2; have dy1 := HCy.out _ HI1.out.2
          gi_wp2
          obtain ⟨fn, tmps, assign, body, hyl, hR⟩ := HY.out pre (x, Og.fst) _ HI1.out.1 hpl
          simp only [Og.z] at hyl
          have hRH := Lib.hid hR
          clear cA1 cB1 dx1 dy1
          clear hR hpl
          gi_wp2
          rw [hyl]
          gi_wp2
          refine hRH.out.mono ?_
          rintro e W3 (⟨rfl, hJ3, hk3⟩ | ⟨rfl, hJx3⟩)
          · have HI3 := Lib.hid (And.intro hJ3 (keepAt_t HI1.out.2 hk3))
            clear hJ3 hk3
            gi_wp2
            go_roundw
            case rel => exact ⟨i + 1, j, _, by omega, by omega, by go_num, by go_num, hex.out, HI3.out⟩
            case measure => simp [intOf]; omega
          · gi_wp2
            refine bodyPost_ret (results_none rfl _ _ _) rfl ?_
            exact ⟨⟨_, rfl⟩, .inr ⟨_, trivial, hJx3⟩⟩
        · by_cases hyx : y < x
          · have hia : ((i : Int) == (a.length : Int)) = false := by rw [beq_eq_false_iff_ne]; omega
            have hex : Hid (mrgZ a b = (pre ++ [(y, Og.snd)]) ++ mrgZ (a.drop (i)) (b.drop (j + 1))) := by
              show _ = _
              have := HP.out
              rw [HDa.out, HDb.out, mrgZ_gt _ _ hxy hyx, ← HDa.out] at this
              rw [this, List.append_assoc]; rfl
            have hpl : pre.length < (mrgZ a b).length := by rw [hex.out, List.length_append, List.length_append, List.length_singleton]; omega
            clear HDa HDb HP
            have cA := HcA.out _ HI.out.2; have cB := HcB.out _ HI.out.2; have dx := HCx.out _ HI.out.2; have dy := HCy.out _ HI.out.2
            gi_wp2
            refine wpIn_wide.2 ?_
            go_quiet (fail)
            have HI1 : Hid (J pre (wr.drewN nq) ∧ KeepAt K w (wr.drewN nq)) := ⟨HJ.out pre wr _ none HI.out.1 (grown_drewN wr nq) (fun r e => by cases e), HI.out.2⟩
            clear cA cB dx dy
            clear HI
            generalize wr.drewN nq = wy at *
            have cA1 := HcA.out _ HI1.out.2; have cB1 := HcB.out _ HI1.out.2; have dx1 := HCx.out _ HI1.out.2; have dy1 := HCy.out _ HI1.out.2
            gi_wp2
            refine wpIn_wide.2 ?_
            go_quiet (fail)
            have HI2 : Hid (J pre (wy.drewN nq) ∧ KeepAt K w (wy.drewN nq)) := ⟨HJ.out pre wy _ none HI1.out.1 (grown_drewN wy nq) (fun r e => by cases e), HI1.out.2⟩
            clear cA1 cB1 dx1 dy1
            clear HI1
            generalize wy.drewN nq = wz at *
            have cA2 := HcA.out _ HI2.out.2; have cB2 := HcB.out _ HI2.out.2; have dx2 := HCx.out _ HI2.out.2; have dy2 := HCy.out _ HI2.out.2
            gi_wp2
            obtain ⟨fn, tmps, assign, body, hyl, hR⟩ := HY.out pre (y, Og.snd) _ HI2.out.1 hpl
            simp only [Og.z] at hyl
            have hRH := Lib.hid hR
            clear cA2 cB2 dx2 dy2
            clear hR hpl
            gi_wp2
            rw [hyl]
            gi_wp2
            refine hRH.out.mono ?_
            rintro e W3 (⟨rfl, hJ3, hk3⟩ | ⟨rfl, hJx3⟩)
            · have HI3 := Lib.hid (And.intro hJ3 (keepAt_t HI2.out.2 hk3))
              clear hJ3 hk3
              gi_wp2
              go_roundw
              case rel => exact ⟨i, j + 1, _, by omega, by omega, by go_num, by go_num, hex.out, HI3.out⟩
              case measure => simp [intOf]; omega
            · gi_wp2
              refine bodyPost_ret (results_none rfl _ _ _) rfl ?_
              exact ⟨⟨_, rfl⟩, .inr ⟨_, trivial, hJx3⟩⟩
          · have hia : ((i : Int) == (a.length : Int)) = false := by rw [beq_eq_false_iff_ne]; omega
            have hex : Hid (mrgZ a b = (pre ++ [(x, Og.both)]) ++ mrgZ (a.drop (i + 1)) (b.drop (j + 1))) := by
              show _ = _
              have := HP.out
              rw [HDa.out, HDb.out, mrgZ_eq _ _ hxy hyx] at this
              rw [this, List.append_assoc]; rfl
            have hpl : pre.length < (mrgZ a b).length := by rw [hex.out, List.length_append, List.length_append, List.length_singleton]; omega
            clear HDa HDb HP
            have cA := HcA.out _ HI.out.2; have cB := HcB.out _ HI.out.2; have dx := HCx.out _ HI.out.2; have dy := HCy.out _ HI.out.2
            gi_wp2
            refine wpIn_wide.2 ?_
            go_quiet (fail)
            have HI1 : Hid (J pre (wr.drewN nq) ∧ KeepAt K w (wr.drewN nq)) := ⟨HJ.out pre wr _ none HI.out.1 (grown_drewN wr nq) (fun r e => by cases e), HI.out.2⟩
            clear cA cB dx dy
            clear HI
            generalize wr.drewN nq = wy at *
            have cA1 := HcA.out _ HI1.out.2; have cB1 := HcB.out _ HI1.out.2; have dx1 := HCx.out _ HI1.out.2; have dy1 := HCy.out _ HI1.out.2
            gi_wp2
            refine wpIn_wide.2 ?_
            go_quiet (fail)
            have HI2 : Hid (J pre (wy.drewN nq) ∧ KeepAt K w (wy.drewN nq)) := ⟨HJ.out pre wy _ none HI1.out.1 (grown_drewN wy nq) (fun r e => by cases e), HI1.out.2⟩
            clear cA1 cB1 dx1 dy1
            clear HI1
            generalize wy.drewN nq = wz at *
            have cA2 := HcA.out _ HI2.out.2; have cB2 := HcB.out _ HI2.out.2; have dx2 := HCx.out _ HI2.out.2; have dy2 := HCy.out _ HI2.out.2
            gi_wp2
            obtain ⟨fn, tmps, assign, body, hyl, hR⟩ := HY.out pre (x, Og.both) _ HI2.out.1 hpl
            simp only [Og.z] at hyl
            have hRH := Lib.hid hR
            clear cA2 cB2 dx2 dy2
            clear hR hpl
            gi_wp2
            rw [hyl]
            gi_wp2
            refine hRH.out.mono ?_
            rintro e W3 (⟨rfl, hJ3, hk3⟩ | ⟨rfl, hJx3⟩)
            · have HI3 := Lib.hid (And.intro hJ3 (keepAt_t HI2.out.2 hk3))
              clear hJ3 hk3
              gi_wp2
              go_roundw
              case rel => exact ⟨i + 1, j + 1, _, by omega, by omega, by go_num, by go_num, hex.out, HI3.out⟩
              case measure => simp [intOf]; omega
            · gi_wp2
              refine bodyPost_ret (results_none rfl _ _ _) rfl ?_
              exact ⟨⟨_, rfl⟩, .inr ⟨_, trivial, hJx3⟩⟩
      · have glt : ¬ (j : Int) < (b.length : Int) := by omega
        have hjb : ((j : Int) == (b.length : Int)) = true := by rw [beq_iff_eq]; omega
        have HDb : Hid (b.drop j = []) := List.drop_of_length_le (by omega)
        have hex : Hid (mrgZ a b = (pre ++ [(x, Og.fst)]) ++ mrgZ (a.drop (i + 1)) (b.drop (j))) := by
          show _ = _
          have := HP.out
          rw [HDa.out, HDb.out, mrgZ_a, ← HDb.out] at this
          rw [this, List.append_assoc]; rfl
        have hpl : pre.length < (mrgZ a b).length := by rw [hex.out, List.length_append, List.length_append, List.length_singleton]; omega
        clear HDa HDb HP
        have cA := HcA.out _ HI.out.2; have cB := HcB.out _ HI.out.2; have dx := HCx.out _ HI.out.2
        gi_wp2
        refine wpIn_wide.2 ?_
        go_quiet (fail)
        have HI1 : Hid (J pre (wr.drewN nq) ∧ KeepAt K w (wr.drewN nq)) := ⟨HJ.out pre wr _ none HI.out.1 (grown_drewN wr nq) (fun r e => by cases e), HI.out.2⟩
        clear cA cB dx
        clear HI
        generalize wr.drewN nq = wy at *
        have cA1 := HcA.out _ HI1.out.2; have cB1 := HcB.out _ HI1.out.2; have dx1 := HCx.out _ HI1.out.2
        gi_wp2
        obtain ⟨fn, tmps, assign, body, hyl, hR⟩ := HY.out pre (x, Og.fst) _ HI1.out.1 hpl
        simp only [Og.z] at hyl
        have hRH := Lib.hid hR
        clear cA1 cB1 dx1
        clear hR hpl
        gi_wp2
        rw [hyl]
        gi_wp2
        refine hRH.out.mono ?_
        rintro e W3 (⟨rfl, hJ3, hk3⟩ | ⟨rfl, hJx3⟩)
        · have HI3 := Lib.hid (And.intro hJ3 (keepAt_t HI1.out.2 hk3))
          clear hJ3 hk3
          gi_wp2
          go_roundw
          case rel => exact ⟨i + 1, j, _, by omega, by omega, by go_num, by go_num, hex.out, HI3.out⟩
          case measure => simp [intOf]; omega
        · gi_wp2
          refine bodyPost_ret (results_none rfl _ _ _) rfl ?_
          exact ⟨⟨_, rfl⟩, .inr ⟨_, trivial, hJx3⟩⟩
    · have hlt : ¬ (i : Int) < (a.length : Int) := by omega
      have hia : ((i : Int) == (a.length : Int)) = true := by rw [beq_iff_eq]; omega
      have HDa : Hid (a.drop i = []) := List.drop_of_length_le (by omega)
      by_cases g : j < b.length
      · have glt : (j : Int) < (b.length : Int) := by omega
        have hjb : ((j : Int) == (b.length : Int)) = false := by rw [beq_eq_false_iff_ne]; omega
        have HBx : Hid (∃ b1 of1, q = some ⟨b1, of1, none⟩ ∧ ∀ w', KeepAt K w w' → w'.cell? ⟨b1, of1 + j, none⟩ = some (.int .i64 (b[j]'g))) := by
          have hne : b ≠ [] := fun e => by rw [e] at g; simp at g
          obtain ⟨b0, off, e, _⟩ := keepZ_at HB.out g
          refine ⟨b0, off, e, fun w' hk => ?_⟩
          obtain ⟨b1, off1, e1, h2⟩ := keepZ_at (hk.rd HB.out (HKq.out hne)) g
          rw [e] at e1
          simp only [Option.some.injEq, Addr.mk.injEq] at e1
          obtain ⟨rfl, rfl, _⟩ := e1
          exact h2
        have HDb : Hid (b.drop j = (b[j]'g) :: b.drop (j + 1)) := List.drop_eq_getElem_cons g
        generalize b[j]'g = y at *
        obtain ⟨b1, of1, rfl, hcy⟩ := HBx.out
        have HCy := Lib.hid hcy
        clear hcy HBx
        have hex : Hid (mrgZ a b = (pre ++ [(y, Og.snd)]) ++ mrgZ (a.drop (i)) (b.drop (j + 1))) := by
          show _ = _
          have := HP.out
          rw [HDa.out, HDb.out, mrgZ_b, ← HDa.out] at this
          rw [this, List.append_assoc]; rfl
        have hpl : pre.length < (mrgZ a b).length := by rw [hex.out, List.length_append, List.length_append, List.length_singleton]; omega
        clear HDa HDb HP
        have cA := HcA.out _ HI.out.2; have cB := HcB.out _ HI.out.2; have dy := HCy.out _ HI.out.2
        gi_wp2
        refine wpIn_wide.2 ?_
        go_quiet (fail)
        have HI1 : Hid (J pre (wr.drewN nq) ∧ KeepAt K w (wr.drewN nq)) := ⟨HJ.out pre wr _ none HI.out.1 (grown_drewN wr nq) (fun r e => by cases e), HI.out.2⟩
        clear cA cB dy
        clear HI
        generalize wr.drewN nq = wy at *
        have cA1 := HcA.out _ HI1.out.2; have cB1 := HcB.out _ HI1.out.2; have dy1 := HCy.out _ HI1.out.2
        gi_wp2
        refine wpIn_wide.2 ?_
        go_quiet (fail)
        have HI2 : Hid (J pre (wy.drewN nq) ∧ KeepAt K w (wy.drewN nq)) := ⟨HJ.out pre wy _ none HI1.out.1 (grown_drewN wy nq) (fun r e => by cases e), HI1.out.2⟩
        clear cA1 cB1 dy1
        clear HI1
        generalize wy.drewN nq = wz at *
        have cA2 := HcA.out _ HI2.out.2; have cB2 := HcB.out _ HI2.out.2; have dy2 := HCy.out _ HI2.out.2
        gi_wp2
        obtain ⟨fn, tmps, assign, body, hyl, hR⟩ := HY.out pre (y, Og.snd) _ HI2.out.1 hpl
        simp only [Og.z] at hyl
        have hRH := Lib.hid hR
        clear cA2 cB2 dy2
        clear hR hpl
        gi_wp2
        rw [hyl]
        gi_wp2
        refine hRH.out.mono ?_
        rintro e W3 (⟨rfl, hJ3, hk3⟩ | ⟨rfl, hJx3⟩)
        · have HI3 := Lib.hid (And.intro hJ3 (keepAt_t HI2.out.2 hk3))
          clear hJ3 hk3
          gi_wp2
          go_roundw
          case rel => exact ⟨i, j + 1, _, by omega, by omega, by go_num, by go_num, hex.out, HI3.out⟩
          case measure => simp [intOf]; omega
        · gi_wp2
          refine bodyPost_ret (results_none rfl _ _ _) rfl ?_
          exact ⟨⟨_, rfl⟩, .inr ⟨_, trivial, hJx3⟩⟩
      · have glt : ¬ (j : Int) < (b.length : Int) := by omega
        have hjb : ((j : Int) == (b.length : Int)) = true := by rw [beq_iff_eq]; omega
        have HDb : Hid (b.drop j = []) := List.drop_of_length_le (by omega)
        have HE : Hid (mrgZ a b = pre) := by
          have := HP.out
          rw [HDa.out, HDb.out, mrgZ_end, List.append_nil] at this
          exact this
        have cA := HcA.out _ HI.out.2; have cB := HcB.out _ HI.out.2
        clear HP HDa HDb
        gi_wp2
        go_end0
        refine ⟨⟨_, rfl⟩, .inl ?_⟩
        have := HI.out.1
        rw [← HE.out] at this
        exact this
end Go.Proofs.Ytpjfhakmffcolaa

end

section
/- Layer 14: what the program chooses of two sorted lists. -/
set_option linter.unusedVariables false
set_option maxRecDepth 100000
namespace Go.Proofs.Ytpjfhakmffcolaa
open Go Go.RowKit Go.Shelf
attribute [local go_sem] Oper.semAt_some

/-- Where the choice stands between two rounds: x is the wanted origins' block, g the list's; sn is what is chosen. -/
def ChZ (x g : Nat) (O : Int) (w : World) (sn : List Int) (W : World) : Prop :=
  ∃ v', Blk W x [.int .i64 O] ∧ Blk W g [v'] ∧ W.ownsRow (g + 3) 3 1 v' sn.length (i64s sn) ∧ v'.ownBlock ≠ some g ∧ Below x w W ∧ x < g ∧ g + 3 ≤ W.heap.size
theorem chZ_own {B x g : Nat} {O : Int} {w : World} (hB : g ≤ B) : OwnFrom B (fun (pre : List (Int × Og)) W => ChZ x g O w (selZ O pre) W) := by
  rintro s W W' row ⟨v', h0, h1, h2, h3, h4, h5, h6⟩ hg hr
  have hr' : ∀ r, row = some r → ∃ o : Obj, W.heap[r]? = some o ∧ o.isCells = false := fun r e => (hr r e).2
  exact ⟨v', own_blk x (fun _ : Unit => [.int .i64 O]) () W W' row h0 hg hr', own_blk g (fun _ : Unit => [v']) () W W' row h1 hg hr', owns_abides h2 hg hr', h3, h4.grown hg (by have := h1.lt; omega) (fun j e => Nat.le_trans (by omega) (hr j e).1), h5, Nat.le_trans h6 hg.size⟩

theorem bits_want {O : Int} (h : O = 1 ∨ O = 4 ∨ O = 7) (o : Og) : (bits .and .i64 o.z O != 0) = wantZ O o := by
  rcases h with rfl | rfl | rfl <;> cases o <;> rfl

set_option maxHeartbeats 4000000 in
theorem choose_any (av bv : Value) (a b : List Int) (O : Int) (hO : O = 1 ∨ O = 4 ∨ O = 7) (w : World) (ha : Rd w 1 av a.length (i64s a)) (hb : Rd w 1 bv b.length (i64s b)) (hn : a.length + b.length ≤ 1000000) :
    Calls Try.prog 108 #[av, bv, .int .i64 O] w fun e w' => ∃ r, e = .returned r ∧ OwnI w w' (selZ O (mrgZ a b)) r := by
  obtain ⟨p, c, hv⟩ := ha.shape
  subst hv
  obtain ⟨q, d, hv⟩ := hb.shape
  subst hv
  have HA := Lib.hid ha; have HB := Lib.hid hb; have HN := Lib.hid hn; have HO := Lib.hid hO
  clear ha hb hn hO
  refine (callsIn_wide (n := 9)).1 ?_
  refine callsIn_of_wp_marks Try.func108 rfl trivial ?_ rfl
  simp only [Try.ntmps108, List.size_toArray, List.length_cons, List.length_nil, Nat.reduceAdd, Nat.reduceSub, Array.replicate_succ, Array.replicate_zero, List.push_toArray, List.append_toArray, List.nil_append, List.cons_append]
  gi_wp2_with (refine ⟨trivial, ?_⟩; gi_at_call 112; refine (new_merge p q _ _ c d _ _).mono ?_; rintro e w' ⟨rfl, rfl⟩)
  obtain ⟨W0, hW0⟩ : ∃ W0, (((w.alloc (.cells #[.int .i64 O] 139)).alloc (.cells #[.slice none 0 0] 38)).alloc (.cells #[.slice p a.length c] 38)).alloc (.cells #[.slice q b.length d] 38) = W0 := ⟨_, rfl⟩
  have hs0 : W0.heap.size = w.heap.size + 4 := by rw [← hW0]; simp
  have hB0 : Below w.heap.size w W0 := by rw [← hW0]; exact ((((Below.refl _ w).alloc (Nat.le_refl _) _).alloc (by simp) _).alloc (by simp; omega) _).alloc (by simp; omega) _
  have hX0 : Blk W0 w.heap.size [.int .i64 O] := by rw [← hW0]; exact (((Blk.new w _ _).alloc _).alloc _).alloc _
  have hX1 : Blk W0 (w.heap.size + 1) [.slice none 0 0] := by rw [← hW0]; have h := ((Blk.new (w.alloc (.cells #[.int .i64 O] 139)) #[.slice none 0 0] 38).alloc (.cells #[.slice p a.length c] 38)).alloc (.cells #[.slice q b.length d] 38); simpa using h
  have hX2 : W0.cell? ⟨w.heap.size + 1 + 1, 0, none⟩ = some (.slice p a.length c) := by
    have h := ((Blk.new ((w.alloc (.cells #[.int .i64 O] 139)).alloc (.cells #[.slice none 0 0] 38)) #[.slice p a.length c] 38).alloc (.cells #[.slice q b.length d] 38)).cell 0
    rw [hW0] at h
    simpa using h
  have hX3 : W0.cell? ⟨w.heap.size + 1 + 1 + 1, 0, none⟩ = some (.slice q b.length d) := by
    have h := (Blk.new (((w.alloc (.cells #[.int .i64 O] 139)).alloc (.cells #[.slice none 0 0] 38)).alloc (.cells #[.slice p a.length c] 38)) #[.slice q b.length d] 38).cell 0
    rw [hW0] at h
    simpa using h
  rw [hW0]
  clear hW0
  have HGV := Lib.hid (merge_gives 8 (by omega) (w.heap.size + 1 + 1) (w.heap.size + 1 + 1 + 1) _ _ a b W0 hX2 hX3 (HA.out.below hB0) (HB.out.below hB0))
  have HKW : Hid (∀ k, KeepZ (w.heap.size + 1 + 1) (w.heap.size + 1 + 1 + 1) (.slice p a.length c) (.slice q b.length d) a b k → k < W0.heap.size ∧ k ≠ w.heap.size ∧ k ≠ w.heap.size + 1) := fun k hk => by
    rcases hk with (e | ⟨h, e⟩) | (e | ⟨h, e⟩)
    · omega
    · have := HA.out.lt (fun e => h (by have := congrArg List.length e; rw [i64s_length] at this; exact List.eq_nil_of_length_eq_zero this)) k e; omega
    · omega
    · have := HB.out.lt (fun e => h (by have := congrArg List.length e; rw [i64s_length] at this; exact List.eq_nil_of_length_eq_zero this)) k e; omega
  have HKO : Hid (∀ k, KeepZ (w.heap.size + 1 + 1) (w.heap.size + 1 + 1 + 1) (.slice p a.length c) (.slice q b.length d) a b k → k < w.heap.size + 4) := fun k hk => by have := HKW.out k hk; omega
  have HS0 := Lib.hid hs0
  have HI0 : Hid (ChZ w.heap.size (w.heap.size + 1) O w (selZ O []) W0) := ⟨_, hX0, hX1, World.ownsRow_nil _ _ _ _, fun e => by simp [Value.ownBlock] at e, hB0, by omega, by omega⟩
  clear hX0 hX1 hX2 hX3 hB0 hs0
  obtain ⟨K, hK⟩ : ∃ K : Nat → Prop, KeepZ (w.heap.size + 1 + 1) (w.heap.size + 1 + 1 + 1) (.slice p a.length c) (.slice q b.length d) a b = K := ⟨_, rfl⟩
  rw [hK] at HGV HKW HKO
  clear hK
  refine wpIn_rangeFunc_ownG rfl (by omega) (gf := 116) (lb := #[.pointer (some ⟨w.heap.size + 1 + 1, 0, none⟩), .pointer (some ⟨w.heap.size + 1 + 1 + 1, 0, none⟩)]) rfl trivial (enters_of Try.func116 (by kernel_rfl) rfl)
    HGV.out (fun h k => keepAt_t h k) (fun W l o o' h1 h2 h3 h4 => keepAt_b (w := W0) (fun k hk => (HKW.out k hk).1) W l o o' h1 h2 h3 h4) (Below.refl _ _) (fun _ => rfl)
    (fun pre W => ChZ w.heap.size (w.heap.size + 1) O w (selZ O pre) W)
    (fun _ _ _ => False)
    (chZ_own (by have := HS0.out; omega))
    (fun _ _ _ _ _ hs _ _ => hs)
    HI0.out
    (fun x => { tmps := #[.slice p a.length c, .slice q b.length d, .int .i64 O, undef, undef, .pointer (some ⟨w.heap.size, 0, none⟩), .slice none 0 0, .pointer (some ⟨w.heap.size + 1, 0, none⟩), .int .i64 x.1, .int .i64 x.2.z, .slice p a.length c, .slice q b.length d, .func (.func 116) #[] #[.pointer (some ⟨w.heap.size + 1 + 1, 0, none⟩), .pointer (some ⟨w.heap.size + 1 + 1 + 1, 0, none⟩)], .int .i64 x.1, .int .i64 x.2.z, undef, undef, undef, undef, undef, undef, undef, undef, undef], defers := [] })
    ?assign ?body ?done ?stop
  case assign =>
    intro l x W K hK
    simp only [List.zip_toArray, List.zip_cons_cons, List.zip_nil_right, List.foldl_toArray, List.foldl_cons, List.foldl_nil, List.setIfInBounds_toArray, List.set_cons_zero, List.set_cons_succ]
    gi_wp2
    exact hK
  case body =>
    rintro l' pre x W ⟨v', hx, h1, h2, h4, h5, h6, h7⟩ hlen
    obtain ⟨z, o⟩ := x
    have HT : Hid ((bits .and .i64 o.z O != 0) = wantZ O o) := bits_want HO.out o
    have c0 : W.cell? ⟨w.heap.size, 0, none⟩ = some (.int .i64 O) := by rw [hx.cell]; rfl
    have c1 : W.cell? ⟨w.heap.size + 1, 0, none⟩ = some v' := by rw [h1.cell]; rfl
    have f1 := h1.free 0
    have hlm : (selZ O pre).length ≤ 1000000 := by
      have e1 := selZ_len O pre
      have e2 := mrgZ_len a b
      have e3 := HN.out
      omega
    have HPre := selZ_push O pre (z, o)
    have HOw : Hid (W.ownsRow 0 3 1 v' (selZ O pre).length (i64s (selZ O pre))) := owns_rebase h2 (fun _ _ => Nat.zero_le _)
    obtain ⟨p1, k1, hv1⟩ := (Rd.of_owns h2).shape
    subst hv1
    have HX := Lib.hid hx; have H1 := Lib.hid h1; have H2 := Lib.hid h2; have H4 := Lib.hid h4; have H5 := Lib.hid h5; have H6 := Lib.hid h6; have H7 := Lib.hid h7
    have HPr := Lib.hid HPre
    clear hx h1 h2 h4 h5 h6 h7 hlen HPre
    generalize o.z = oz at *
    refine wpIn_block ?_
    refine wpIn_seq ?_
    refine wpIn_region_list ?_
    refine wpListIn_round (by rintro ⟨_, _, h⟩; exact h) _ _ _ (by simp) ?_
    go_wp2_with fail
    by_cases hw : wantZ O o = true
    · rw [HT.out, hw]
      refine wpIn_cond_true rfl ?_
      rw [if_pos hw] at HPr
      have HB : Hid (((selZ O pre).length + 1) * 8 ≤ 140737488355328 ∧ (selZ O pre).length + 1 ≤ maxLen) := by show _ ∧ _; unfold maxLen; omega
      have HPl : Hid ((selZ O (pre ++ [(z, o)])).length = (selZ O pre).length + 1 ∧ i64s (selZ O (pre ++ [(z, o)])) = i64s (selZ O pre) ++ [.int .i64 z]) := by
        show _ ∧ _
        rw [HPr.out]
        exact ⟨by simp, by rw [i64s_append]; rfl⟩
      clear HPr
      generalize hpl : selZ O (pre ++ [(z, o)]) = sn at *
      have HPL := Lib.hid hpl
      clear hpl
      refine wpIn_region_list ?_
      refine wpListIn_round not_letsOut_body _ _ _ (by simp) ?_
      go_wp2_with (at_builtin; refine wpList_push elemInt14 W #[.int .i64 z] _ _ _ HOw.out rfl (one_cell _ rfl) HB.out rfl _ _ rfl rfl rfl ?_)
      intro v2 w1 m1 m2 m3
      have b1 := m2.blk H1.out (fun e => H4.out e)
      have c1' : w1.cell? ⟨w.heap.size + 1, 0, none⟩ = some (.slice p1 (selZ O pre).length k1) := by rw [b1.cell]; rfl
      have f1' := b1.free 0
      have hne : v2.ownBlock ≠ some (w.heap.size + 1) := fun e => by
        rcases m3 _ e with e | e
        · exact H4.out e
        · have := H1.out.lt; omega
      have hlo : ∀ k, v2.ownBlock = some k → w.heap.size + 4 ≤ k := fun k hk => by
        rcases m3 k hk with e | e
        · exact (H2.out.lt k e).1
        · have := H7.out; omega
      obtain ⟨p2, k2, hv2⟩ := (Rd.of_owns m1).shape
      subst hv2
      have HF : Hid (KeepsOthers W (w1.setCell ⟨w.heap.size + 1, 0, none⟩ (.slice p2 ((selZ O pre).length + 1) k2)) ∧ KeepAt K W (w1.setCell ⟨w.heap.size + 1, 0, none⟩ (.slice p2 ((selZ O pre).length + 1) k2)) ∧ ChZ w.heap.size (w.heap.size + 1) O w sn (w1.setCell ⟨w.heap.size + 1, 0, none⟩ (.slice p2 ((selZ O pre).length + 1) k2))) := by
        have hs : Mods (fun k => k = w.heap.size + 1) w1 (w1.setCell ⟨w.heap.size + 1, 0, none⟩ (.slice p2 ((selZ O pre).length + 1) k2)) := Mods.set _ _ _ _ (fun _ => rfl)
        have hM : Mods (fun k => k = w.heap.size + 1 ∨ (Value.slice p1 (selZ O pre).length k1).ownBlock = some k) W (w1.setCell ⟨w.heap.size + 1, 0, none⟩ (.slice p2 ((selZ O pre).length + 1) k2)) :=
          (m2.mono (fun _ _ e => Or.inr e)).trans hs (fun _ _ e => Or.inl e)
        have hlow : ∀ k, (k = w.heap.size + 1 ∨ (Value.slice p1 (selZ O pre).length k1).ownBlock = some k) → w.heap.size + 1 ≤ k := fun k e => by
          rcases e with e | e
          · omega
          · have := (H2.out.lt k e).1; omega
        have hnk : ∀ k, K k → ¬ (k = w.heap.size + 1 ∨ (Value.slice p1 (selZ O pre).length k1).ownBlock = some k) := fun k hk e => by
          have h := HKW.out k hk
          have h0 := HS0.out
          rcases e with e | e
          · exact h.2.2 e
          · have := (H2.out.lt k e).1; omega
        refine ⟨KeepsOthers.of_mods hM (fun k o e ho => ?_), fun k hk => hM.block k (by have := HKW.out k hk; have := H7.out; have := HS0.out; omega) (hnk k hk), .slice p2 ((selZ O pre).length + 1) k2, ?_, ?_, ?_, hne, ?_, H6.out, Nat.le_trans H7.out hM.size⟩
        · rcases e with rfl | e
          · obtain ⟨t, ht⟩ := H1.out
            rw [ht] at ho; cases ho; rfl
          · exact owns_isCells H2.out k o e ho
        · exact hM.blk HX.out (fun e => by have := hlow _ e; omega)
        · simpa using b1.set 0 (.slice p2 ((selZ O pre).length + 1) k2)
        · rw [HPl.out.1, HPl.out.2]
          exact owns_rebase (hs.owns m1 (fun k hk e => hne (by rw [hk, e]))) hlo
        · exact H5.out.trans (hM.below (by have := H1.out.lt; omega) (fun k hk e => by have := hlow k e; omega))
      clear m1 m2 m3 hne hlo b1 c0 c1 f1
      go_wp2_with fail
      refine ⟨HF.out.1.from _, HF.out.2.1, ?_⟩
      show ChZ _ _ _ _ (selZ O (pre ++ [(z, o)])) _
      rw [HPL.out]
      exact HF.out.2.2
    · have hw' : wantZ O o = false := by simpa using hw
      rw [HT.out, hw']
      rw [if_neg hw] at HPr
      refine wpIn_cond_false rfl ?_
      gi_wp2_with fail
      refine ⟨(KeepsOthers.refl _).from _, fun _ _ => rfl, ?_⟩
      show ChZ _ _ _ _ (selZ O (pre ++ [(z, o)])) _
      rw [HPr.out]
      exact ⟨_, HX.out, H1.out, H2.out, H4.out, H5.out, H6.out, H7.out⟩
  case done =>
    rintro D zs W hD rfl ⟨v', hx, h1, h2, h4, h5, h6, h7⟩ hK
    have c1 : W.cell? ⟨w.heap.size + 1, 0, none⟩ = some v' := by rw [h1.cell]; rfl
    obtain ⟨p1, k1, hv1⟩ := (Rd.of_owns h2).shape
    subst hv1
    have H2 := Lib.hid h2; have H5 := Lib.hid h5
    clear hx h1 h2 h4 h5 h6 h7 HGV
    gi_wp2
    refine ⟨by simp, .inl ⟨_, _, rfl, run_takeDeferred hK, ?_⟩⟩
    refine ⟨_, results_tmp rfl _ _ _, _, rfl, ⟨?_, H5.out.trans (belowK_b (w := w) (Nat.le_refl _) W D _ _ (by have := HS0.out; omega) hK rfl rfl)⟩⟩
    have h := ownsRow_putObj H2.out (.deferred none) hK rfl
    exact owns_rebase h (fun k hk => by have := (H2.out.lt k hk).1; omega)
  case stop =>
    rintro D c pre W _ _ h _
    exact h.elim
end Go.Proofs.Ytpjfhakmffcolaa

end
