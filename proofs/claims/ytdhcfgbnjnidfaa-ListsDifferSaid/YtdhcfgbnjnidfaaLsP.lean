/- Layer 14: two sorted lists, merged, each number with its origin; what is chosen by origins. No program in sight. -/
import Derived.Test.YtdhcfgbnjnidfaaListP
set_option linter.unusedVariables false
namespace Go.Proofs.Ytdhcfgbnjnidfaa

/-- Where a number is: in the first list alone, in the second alone, in both. -/
inductive Og where
  | fst
  | snd
  | both
deriving DecidableEq
def Og.z : Og → Int
  | .fst => 1
  | .snd => 2
  | .both => 4
/-- The numbers of two lists in ascending order, each with its origin. -/
def mrgZ : List Int → List Int → List (Int × Og)
  | [], [] => []
  | x :: a, [] => (x, Og.fst) :: mrgZ a []
  | [], y :: b => (y, Og.snd) :: mrgZ [] b
  | x :: a, y :: b => if x < y then (x, Og.fst) :: mrgZ a (y :: b) else if y < x then (y, Og.snd) :: mrgZ (x :: a) b else (x, Og.both) :: mrgZ a b
termination_by a b => a.length + b.length
theorem mrgZ_end : mrgZ [] [] = [] := by rw [mrgZ]
theorem mrgZ_a (x : Int) (a : List Int) : mrgZ (x :: a) [] = (x, Og.fst) :: mrgZ a [] := by rw [mrgZ]
theorem mrgZ_b (y : Int) (b : List Int) : mrgZ [] (y :: b) = (y, Og.snd) :: mrgZ [] b := by rw [mrgZ]
theorem mrgZ_lt {x y : Int} (a b : List Int) (h : x < y) : mrgZ (x :: a) (y :: b) = (x, Og.fst) :: mrgZ a (y :: b) := by rw [mrgZ, if_pos h]
theorem mrgZ_gt {x y : Int} (a b : List Int) (h : ¬ x < y) (k : y < x) : mrgZ (x :: a) (y :: b) = (y, Og.snd) :: mrgZ (x :: a) b := by rw [mrgZ, if_neg h, if_pos k]
theorem mrgZ_eq {x y : Int} (a b : List Int) (h : ¬ x < y) (k : ¬ y < x) : mrgZ (x :: a) (y :: b) = (x, Og.both) :: mrgZ a b := by rw [mrgZ, if_neg h, if_neg k]
theorem mrgZ_len : ∀ (a b : List Int), (mrgZ a b).length ≤ a.length + b.length := by
  intro a b
  induction a, b using mrgZ.induct with
  | case1 => simp [mrgZ]
  | case2 x a ih => rw [mrgZ_a]; simp at *; omega
  | case3 y b ih => rw [mrgZ_b]; simp at *; omega
  | case4 x a y b h ih => rw [mrgZ_lt a b h]; simp at *; omega
  | case5 x a y b h k ih => rw [mrgZ_gt a b h k]; simp at *; omega
  | case6 x a y b h k ih => rw [mrgZ_eq a b h k]; simp at *; omega
/-- What an origin says. -/
def OrgZ (a b : List Int) (p : Int × Og) : Prop := (p.2 = .fst ∧ p.1 ∈ a ∧ p.1 ∉ b) ∨ (p.2 = .snd ∧ p.1 ∉ a ∧ p.1 ∈ b) ∨ (p.2 = .both ∧ p.1 ∈ a ∧ p.1 ∈ b)
theorem ascB_tail {x : Int} {a : List Int} (h : AscB ltI (x :: a)) : AscB ltI a := (List.pairwise_cons.1 h).2
theorem ascB_head {x : Int} {a : List Int} (h : AscB ltI (x :: a)) : ∀ z ∈ a, x < z := fun z hz => by have := (List.pairwise_cons.1 h).1 z hz; simpa [ltI] using this
theorem ascB_not {x : Int} {a : List Int} (h : AscB ltI (x :: a)) : x ∉ a := fun e => by have := ascB_head h x e; omega
theorem mrgZ_lo : ∀ (a b : List Int) (m : Int), (∀ z ∈ a, m < z) → (∀ z ∈ b, m < z) → ∀ p ∈ mrgZ a b, m < p.1 := by
  intro a b
  induction a, b using mrgZ.induct with
  | case1 => intro m _ _ p hp; rw [mrgZ_end] at hp; cases hp
  | case2 x a ih =>
    intro m h1 h2 p hp
    rw [mrgZ_a] at hp
    rcases List.mem_cons.1 hp with rfl | hp
    · exact h1 x (by simp)
    · exact ih m (fun z hz => h1 z (by simp [hz])) h2 p hp
  | case3 y b ih =>
    intro m h1 h2 p hp
    rw [mrgZ_b] at hp
    rcases List.mem_cons.1 hp with rfl | hp
    · exact h2 y (by simp)
    · exact ih m h1 (fun z hz => h2 z (by simp [hz])) p hp
  | case4 x a y b h ih =>
    intro m h1 h2 p hp
    rw [mrgZ_lt a b h] at hp
    rcases List.mem_cons.1 hp with rfl | hp
    · exact h1 x (by simp)
    · exact ih m (fun z hz => h1 z (by simp [hz])) h2 p hp
  | case5 x a y b h k ih =>
    intro m h1 h2 p hp
    rw [mrgZ_gt a b h k] at hp
    rcases List.mem_cons.1 hp with rfl | hp
    · exact h2 y (by simp)
    · exact ih m h1 (fun z hz => h2 z (by simp [hz])) p hp
  | case6 x a y b h k ih =>
    intro m h1 h2 p hp
    rw [mrgZ_eq a b h k] at hp
    rcases List.mem_cons.1 hp with rfl | hp
    · exact h1 x (by simp)
    · exact ih m (fun z hz => h1 z (by simp [hz])) (fun z hz => h2 z (by simp [hz])) p hp
/-- The numbers ascend. -/
theorem mrgZ_asc : ∀ (a b : List Int), AscB ltI a → AscB ltI b → AscB ltI ((mrgZ a b).map Prod.fst) := by
  intro a b
  have step : ∀ (z : Int) (o : Og) (l : List (Int × Og)), (∀ p ∈ l, z < p.1) → AscB ltI (l.map Prod.fst) → AscB ltI (((z, o) :: l).map Prod.fst) := by
    intro z o l h1 h2
    rw [List.map_cons]
    refine List.pairwise_cons.2 ⟨fun t ht => ?_, h2⟩
    obtain ⟨p, hp, rfl⟩ := List.mem_map.1 ht
    simpa [ltI] using h1 p hp
  induction a, b using mrgZ.induct with
  | case1 => intro _ _; rw [mrgZ_end]; exact List.Pairwise.nil
  | case2 x a ih => intro h1 h2; rw [mrgZ_a]; exact step _ _ _ (mrgZ_lo _ _ x (ascB_head h1) (by simp)) (ih (ascB_tail h1) h2)
  | case3 y b ih => intro h1 h2; rw [mrgZ_b]; exact step _ _ _ (mrgZ_lo _ _ y (by simp) (ascB_head h2)) (ih h1 (ascB_tail h2))
  | case4 x a y b h ih =>
    intro h1 h2
    rw [mrgZ_lt a b h]
    refine step _ _ _ (mrgZ_lo _ _ x (ascB_head h1) (fun z hz => ?_)) (ih (ascB_tail h1) h2)
    rcases List.mem_cons.1 hz with rfl | hz
    · exact h
    · have := ascB_head h2 z hz; omega
  | case5 x a y b h k ih =>
    intro h1 h2
    rw [mrgZ_gt a b h k]
    refine step _ _ _ (mrgZ_lo _ _ y (fun z hz => ?_) (ascB_head h2)) (ih h1 (ascB_tail h2))
    rcases List.mem_cons.1 hz with rfl | hz
    · exact k
    · have := ascB_head h1 z hz; omega
  | case6 x a y b h k ih =>
    intro h1 h2
    rw [mrgZ_eq a b h k]
    exact step _ _ _ (mrgZ_lo _ _ x (ascB_head h1) (fun z hz => by have := ascB_head h2 z hz; omega)) (ih (ascB_tail h1) (ascB_tail h2))
theorem mrgZ_org : ∀ (a b : List Int), AscB ltI a → AscB ltI b → ∀ p ∈ mrgZ a b, OrgZ a b p := by
  intro a b
  induction a, b using mrgZ.induct with
  | case1 => intro _ _ p hp; rw [mrgZ_end] at hp; cases hp
  | case2 x a ih =>
    intro h1 h2 p hp
    rw [mrgZ_a] at hp
    rcases List.mem_cons.1 hp with rfl | hp
    · exact Or.inl ⟨rfl, by simp, by simp⟩
    · rcases ih (ascB_tail h1) h2 p hp with h | h | h
      · exact Or.inl ⟨h.1, by simp [h.2.1], h.2.2⟩
      · exact absurd h.2.2 (by simp)
      · exact absurd h.2.2 (by simp)
  | case3 y b ih =>
    intro h1 h2 p hp
    rw [mrgZ_b] at hp
    rcases List.mem_cons.1 hp with rfl | hp
    · exact Or.inr (Or.inl ⟨rfl, by simp, by simp⟩)
    · rcases ih h1 (ascB_tail h2) p hp with h | h | h
      · exact absurd h.2.1 (by simp)
      · exact Or.inr (Or.inl ⟨h.1, h.2.1, by simp [h.2.2]⟩)
      · exact absurd h.2.1 (by simp)
  | case4 x a y b h ih =>
    intro h1 h2 p hp
    have hb : ∀ z ∈ y :: b, x < z := fun z hz => by
      rcases List.mem_cons.1 hz with rfl | hz
      · exact h
      · have := ascB_head h2 z hz; omega
    have hlo := mrgZ_lo a (y :: b) x (ascB_head h1) hb
    rw [mrgZ_lt a b h] at hp
    rcases List.mem_cons.1 hp with rfl | hp
    · exact Or.inl ⟨rfl, by simp, fun e => by have := hb _ e; omega⟩
    · have hne : p.1 ≠ x := fun e => by have := hlo p hp; omega
      rcases ih (ascB_tail h1) h2 p hp with h | h | h
      · exact Or.inl ⟨h.1, by simp [h.2.1], h.2.2⟩
      · exact Or.inr (Or.inl ⟨h.1, by simp [h.2.1, hne], h.2.2⟩)
      · exact Or.inr (Or.inr ⟨h.1, by simp [h.2.1], h.2.2⟩)
  | case5 x a y b h k ih =>
    intro h1 h2 p hp
    have ha : ∀ z ∈ x :: a, y < z := fun z hz => by
      rcases List.mem_cons.1 hz with rfl | hz
      · exact k
      · have := ascB_head h1 z hz; omega
    have hlo := mrgZ_lo (x :: a) b y ha (ascB_head h2)
    rw [mrgZ_gt a b h k] at hp
    rcases List.mem_cons.1 hp with rfl | hp
    · exact Or.inr (Or.inl ⟨rfl, fun e => by have := ha _ e; omega, by simp⟩)
    · have hne : p.1 ≠ y := fun e => by have := hlo p hp; omega
      rcases ih h1 (ascB_tail h2) p hp with h | h | h
      · exact Or.inl ⟨h.1, h.2.1, by simp [h.2.2, hne]⟩
      · exact Or.inr (Or.inl ⟨h.1, h.2.1, by simp [h.2.2]⟩)
      · exact Or.inr (Or.inr ⟨h.1, h.2.1, by simp [h.2.2]⟩)
  | case6 x a y b h k ih =>
    intro h1 h2 p hp
    have hxy : x = y := by omega
    subst hxy
    have hlo := mrgZ_lo a b x (ascB_head h1) (ascB_head h2)
    rw [mrgZ_eq a b h k] at hp
    rcases List.mem_cons.1 hp with rfl | hp
    · exact Or.inr (Or.inr ⟨rfl, by simp, by simp⟩)
    · have hne : p.1 ≠ x := fun e => by have := hlo p hp; omega
      rcases ih (ascB_tail h1) (ascB_tail h2) p hp with h | h | h
      · exact Or.inl ⟨h.1, by simp [h.2.1], by simp [h.2.2, hne]⟩
      · exact Or.inr (Or.inl ⟨h.1, by simp [h.2.1, hne], by simp [h.2.2]⟩)
      · exact Or.inr (Or.inr ⟨h.1, by simp [h.2.1], by simp [h.2.2]⟩)
theorem mrgZ_all : ∀ (a b : List Int) (z : Int), (z ∈ a ∨ z ∈ b) → ∃ o, (z, o) ∈ mrgZ a b := by
  intro a b
  induction a, b using mrgZ.induct with
  | case1 => intro z h; simp at h
  | case2 x a ih =>
    intro z h
    rw [mrgZ_a]
    rcases h with h | h
    · rcases List.mem_cons.1 h with rfl | h
      · exact ⟨_, List.mem_cons_self ..⟩
      · obtain ⟨o, ho⟩ := ih z (Or.inl h); exact ⟨o, List.mem_cons_of_mem _ ho⟩
    · cases h
  | case3 y b ih =>
    intro z h
    rw [mrgZ_b]
    rcases h with h | h
    · cases h
    · rcases List.mem_cons.1 h with rfl | h
      · exact ⟨_, List.mem_cons_self ..⟩
      · obtain ⟨o, ho⟩ := ih z (Or.inr h); exact ⟨o, List.mem_cons_of_mem _ ho⟩
  | case4 x a y b h ih =>
    intro z hz
    rw [mrgZ_lt a b h]
    rcases hz with hz | hz
    · rcases List.mem_cons.1 hz with rfl | hz
      · exact ⟨_, List.mem_cons_self ..⟩
      · obtain ⟨o, ho⟩ := ih z (Or.inl hz); exact ⟨o, List.mem_cons_of_mem _ ho⟩
    · obtain ⟨o, ho⟩ := ih z (Or.inr hz); exact ⟨o, List.mem_cons_of_mem _ ho⟩
  | case5 x a y b h k ih =>
    intro z hz
    rw [mrgZ_gt a b h k]
    rcases hz with hz | hz
    · obtain ⟨o, ho⟩ := ih z (Or.inl hz); exact ⟨o, List.mem_cons_of_mem _ ho⟩
    · rcases List.mem_cons.1 hz with rfl | hz
      · exact ⟨_, List.mem_cons_self ..⟩
      · obtain ⟨o, ho⟩ := ih z (Or.inr hz); exact ⟨o, List.mem_cons_of_mem _ ho⟩
  | case6 x a y b h k ih =>
    intro z hz
    have hxy : x = y := by omega
    subst hxy
    rw [mrgZ_eq a b h k]
    rcases hz with hz | hz
    · rcases List.mem_cons.1 hz with rfl | hz
      · exact ⟨_, List.mem_cons_self ..⟩
      · obtain ⟨o, ho⟩ := ih z (Or.inl hz); exact ⟨o, List.mem_cons_of_mem _ ho⟩
    · rcases List.mem_cons.1 hz with rfl | hz
      · exact ⟨_, List.mem_cons_self ..⟩
      · obtain ⟨o, ho⟩ := ih z (Or.inr hz); exact ⟨o, List.mem_cons_of_mem _ ho⟩

/-- A choice of origins: 1 (the first alone), 4 (both), 7 (any). -/
def wantZ (W : Int) (o : Og) : Bool := decide (W = 7 ∨ W = o.z)
/-- The numbers of two lists that have one of the wanted origins. -/
def selZ (W : Int) (l : List (Int × Og)) : List Int := (l.filter fun p => wantZ W p.2).map Prod.fst
theorem selZ_push (W : Int) (l : List (Int × Og)) (p : Int × Og) : selZ W (l ++ [p]) = if wantZ W p.2 then selZ W l ++ [p.1] else selZ W l := by
  unfold selZ
  rw [List.filter_append, List.map_append]
  by_cases h : wantZ W p.2 = true
  · rw [if_pos h]; simp [h]
  · rw [if_neg h]; simp [h]
theorem selZ_len (W : Int) (l : List (Int × Og)) : (selZ W l).length ≤ l.length := by unfold selZ; rw [List.length_map]; exact List.length_filter_le ..
theorem selZ_asc {W : Int} {a b : List Int} (ha : AscB ltI a) (hb : AscB ltI b) : AscB ltI (selZ W (mrgZ a b)) :=
  List.Pairwise.sublist (List.Sublist.map _ List.filter_sublist) (mrgZ_asc a b ha hb)
theorem selZ_mem (W : Int) (l : List (Int × Og)) (z : Int) : z ∈ selZ W l ↔ ∃ o, (z, o) ∈ l ∧ wantZ W o = true := by
  unfold selZ
  rw [List.mem_map]
  constructor
  · rintro ⟨p, hp, rfl⟩; exact ⟨p.2, (List.mem_filter.1 hp).1, (List.mem_filter.1 hp).2⟩
  · rintro ⟨o, h1, h2⟩; exact ⟨(z, o), List.mem_filter.2 ⟨h1, h2⟩, rfl⟩
theorem selZ_first {a b : List Int} (ha : AscB ltI a) (hb : AscB ltI b) : selZ 1 (mrgZ a b) = diffZ a b := by
  refine ext_asc (selZ_asc ha hb) (diff_asc b ha) (fun z => ?_)
  rw [selZ_mem, diff_mem]
  constructor
  · rintro ⟨o, h1, h2⟩
    have hw : o = .fst := by cases o <;> simp [wantZ, Og.z] at h2 ⊢
    rcases mrgZ_org a b ha hb _ h1 with h | h | h
    · exact h.2
    · exact absurd h.1 (by simp [hw])
    · exact absurd h.1 (by simp [hw])
  · intro h
    obtain ⟨o, ho⟩ := mrgZ_all a b z (Or.inl h.1)
    refine ⟨o, ho, ?_⟩
    rcases mrgZ_org a b ha hb _ ho with k | k | k
    · simp only at k; simp [wantZ, k.1, Og.z]
    · exact absurd h.1 k.2.1
    · exact absurd k.2.2 h.2
theorem selZ_both {a b : List Int} (ha : AscB ltI a) (hb : AscB ltI b) (z : Int) : z ∈ selZ 4 (mrgZ a b) ↔ z ∈ a ∧ z ∈ b := by
  rw [selZ_mem]
  constructor
  · rintro ⟨o, h1, h2⟩
    have hw : o = .both := by cases o <;> simp [wantZ, Og.z] at h2 ⊢
    rcases mrgZ_org a b ha hb _ h1 with h | h | h
    · exact absurd h.1 (by simp [hw])
    · exact absurd h.1 (by simp [hw])
    · exact h.2
  · intro h
    obtain ⟨o, ho⟩ := mrgZ_all a b z (Or.inl h.1)
    refine ⟨o, ho, ?_⟩
    rcases mrgZ_org a b ha hb _ ho with k | k | k
    · exact absurd h.2 k.2.2
    · exact absurd h.1 k.2.1
    · simp only at k; simp [wantZ, k.1, Og.z]
theorem selZ_any {a b : List Int} (ha : AscB ltI a) (hb : AscB ltI b) (z : Int) : z ∈ selZ 7 (mrgZ a b) ↔ z ∈ a ∨ z ∈ b := by
  rw [selZ_mem]
  constructor
  · rintro ⟨o, h1, h2⟩
    rcases mrgZ_org a b ha hb _ h1 with h | h | h
    · exact Or.inl h.2.1
    · exact Or.inr h.2.2
    · exact Or.inl h.2.1
  · intro h
    obtain ⟨o, ho⟩ := mrgZ_all a b z h
    exact ⟨o, ho, by simp [wantZ]⟩

/-- What a number of lists gives, by halves: 4 (in all) or 7 (in some). -/
def cmbZ (W : Int) (m : List (List Int)) : List Int := if W = 4 then interZ m else unionZ m
theorem cmbZ_nil (W : Int) : cmbZ W [] = [] := by unfold cmbZ; split <;> rfl
theorem cmbZ_one (W : Int) {a : List Int} (h : AscB ltI a) : cmbZ W [a] = a := by
  unfold cmbZ
  split
  · show a.filter _ = a
    rw [List.filter_eq_self.2 (fun x _ => by simp)]
  · refine ext_asc (union_asc _) h (fun z => ?_)
    rw [union_mem]; simp
theorem cmbZ_asc (W : Int) {m : List (List Int)} (h : ∀ l ∈ m, AscB ltI l) : AscB ltI (cmbZ W m) := by
  unfold cmbZ
  split
  · exact inter_asc h
  · exact union_asc m
theorem cmbZ_len (W : Int) (m : List (List Int)) : (cmbZ W m).length ≤ m.flatten.length := by
  unfold cmbZ
  split
  · cases m with
    | nil => simp [interZ]
    | cons a m =>
      have h1 : (interZ (a :: m)).length ≤ a.length := List.length_filter_le ..
      rw [List.flatten_cons, List.length_append]; omega
  · exact tabB_len _
/-- Two halves, chosen. -/
theorem cmbZ_split {W : Int} (hW : W = 4 ∨ W = 7) {m k : List (List Int)} (hm : m ≠ []) (hk : k ≠ []) (h : ∀ l ∈ m ++ k, AscB ltI l) : selZ W (mrgZ (cmbZ W m) (cmbZ W k)) = cmbZ W (m ++ k) := by
  have h1 : ∀ l ∈ m, AscB ltI l := fun l hl => h l (List.mem_append_left _ hl)
  have h2 : ∀ l ∈ k, AscB ltI l := fun l hl => h l (List.mem_append_right _ hl)
  refine ext_asc (selZ_asc (cmbZ_asc W h1) (cmbZ_asc W h2)) (cmbZ_asc W h) (fun z => ?_)
  rcases hW with rfl | rfl
  · rw [selZ_both (cmbZ_asc 4 h1) (cmbZ_asc 4 h2)]
    have e : ∀ m, cmbZ 4 m = interZ m := fun m => by unfold cmbZ; rw [if_pos rfl]
    rw [e, e, e, inter_mem hm, inter_mem hk, inter_mem (by simp [hm])]
    constructor
    · rintro ⟨g1, g2⟩ l hl
      rcases List.mem_append.1 hl with hl | hl
      · exact g1 l hl
      · exact g2 l hl
    · intro g
      exact ⟨fun l hl => g l (List.mem_append_left _ hl), fun l hl => g l (List.mem_append_right _ hl)⟩
  · rw [selZ_any (cmbZ_asc 7 h1) (cmbZ_asc 7 h2)]
    have e : ∀ m, cmbZ 7 m = unionZ m := fun m => by unfold cmbZ; rw [if_neg (by omega)]
    rw [e, e, e, union_mem, union_mem, union_mem]
    constructor
    · rintro (⟨l, hl, hz⟩ | ⟨l, hl, hz⟩)
      · exact ⟨l, List.mem_append_left _ hl, hz⟩
      · exact ⟨l, List.mem_append_right _ hl, hz⟩
    · rintro ⟨l, hl, hz⟩
      rcases List.mem_append.1 hl with hl | hl
      · exact Or.inl ⟨l, hl, hz⟩
      · exact Or.inr ⟨l, hl, hz⟩
theorem compl_diff (l : List Int) (n : Int) : diffZ (uptoZ n) l = complZ l n := rfl
theorem uptoZ_len (n : Int) : (uptoZ n).length = n.toNat := by simp [uptoZ]
end Go.Proofs.Ytdhcfgbnjnidfaa
