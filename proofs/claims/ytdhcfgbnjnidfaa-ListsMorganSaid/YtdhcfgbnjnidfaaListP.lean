/- Layer 14: sorted lists of numbers, as functions on lists. No program in sight. -/
import Derived.Test.YtdhcfgbnjnidfaaSorted
set_option linter.unusedVariables false
namespace Go.Proofs.Ytdhcfgbnjnidfaa

def ltI (a b : Int) : Bool := decide (a < b)
theorem ltI_ok : LtOk ltI := ⟨⟨fun a => by simp [ltI], fun a b c h k => by simp only [ltI, decide_eq_true_eq] at *; omega⟩, fun a b h k => by simp only [ltI, decide_eq_false_iff_not] at *; omega⟩
instance decAscI (l : List Int) : Decidable (AscB ltI l) := inferInstanceAs (Decidable (List.Pairwise _ _))
def interZ : List (List Int) → List Int
  | [] => []
  | a :: m => a.filter fun x => decide (∀ y ∈ m, x ∈ y)
def unionZ (m : List (List Int)) : List Int := tabB ltI m.flatten
def diffZ (a b : List Int) : List Int := a.filter fun x => decide (x ∉ b)
def uptoZ (n : Int) : List Int := (List.range n.toNat).map fun k : Nat => (k : Int)
def complZ (l : List Int) (n : Int) : List Int := (uptoZ n).filter fun x => decide (x ∉ l)
def sortZ (l : List Int) : List Int := tabB ltI l
theorem unionZ_one (l : List Int) : unionZ [l] = sortZ l := by simp [unionZ, sortZ]

theorem asc_filter {l : List Int} (p : Int → Bool) (h : AscB ltI l) : AscB ltI (l.filter p) := List.Pairwise.filter p h
theorem upto_asc (n : Int) : AscB ltI (uptoZ n) := by
  unfold uptoZ AscB
  rw [List.pairwise_map]
  refine List.Pairwise.imp (fun h => ?_) List.pairwise_lt_range
  simp only [ltI, decide_eq_true_eq]; omega
theorem upto_mem (n x : Int) : x ∈ uptoZ n ↔ 0 ≤ x ∧ x < n := by
  simp only [uptoZ, List.mem_map, List.mem_range]
  constructor
  · rintro ⟨k, hk, rfl⟩; omega
  · intro h; exact ⟨x.toNat, by omega, by omega⟩
theorem inter_asc {m : List (List Int)} (h : ∀ l ∈ m, AscB ltI l) : AscB ltI (interZ m) := by
  cases m with
  | nil => exact List.Pairwise.nil
  | cons a m => exact asc_filter _ (h a (by simp))
theorem inter_mem {m : List (List Int)} (hm : m ≠ []) (x : Int) : x ∈ interZ m ↔ ∀ l ∈ m, x ∈ l := by
  cases m with
  | nil => exact absurd rfl hm
  | cons a m => simp [interZ]
theorem union_asc (m : List (List Int)) : AscB ltI (unionZ m) := tabB_asc ltI_ok _
theorem union_mem (m : List (List Int)) (x : Int) : x ∈ unionZ m ↔ ∃ l ∈ m, x ∈ l := by rw [unionZ, tabB_mem ltI_ok, List.mem_flatten]
theorem diff_mem (a b : List Int) (x : Int) : x ∈ diffZ a b ↔ x ∈ a ∧ x ∉ b := by simp [diffZ]
theorem diff_asc {a : List Int} (b : List Int) (h : AscB ltI a) : AscB ltI (diffZ a b) := asc_filter _ h
theorem compl_mem (l : List Int) (n x : Int) : x ∈ complZ l n ↔ (0 ≤ x ∧ x < n) ∧ x ∉ l := by simp [complZ, upto_mem]
theorem compl_asc (l : List Int) (n : Int) : AscB ltI (complZ l n) := asc_filter _ (upto_asc n)
theorem sort_asc (l : List Int) : AscB ltI (sortZ l) := tabB_asc ltI_ok l
theorem sort_mem (l : List Int) (x : Int) : x ∈ sortZ l ↔ x ∈ l := tabB_mem ltI_ok l x
theorem sort_len (l : List Int) : (sortZ l).length ≤ l.length := tabB_len l
theorem ext_asc {a b : List Int} (ha : AscB ltI a) (hb : AscB ltI b) (h : ∀ x, x ∈ a ↔ x ∈ b) : a = b := ascB_ext ltI_ok.toLtPre a b ha hb h

/-- Neither depends on the order of the lists. -/
theorem inter_perm {m k : List (List Int)} (hp : m.Perm k) (hm : ∀ l ∈ m, AscB ltI l) : interZ m = interZ k := by
  by_cases h : m = []
  · subst h; rw [List.nil_perm.1 hp]
  · have hk : k ≠ [] := fun e => h (by subst e; exact List.perm_nil.1 hp)
    refine ext_asc (inter_asc hm) (inter_asc (fun l hl => hm l (hp.mem_iff.2 hl))) (fun x => ?_)
    rw [inter_mem h, inter_mem hk]
    exact ⟨fun g l hl => g l (hp.mem_iff.2 hl), fun g l hl => g l (hp.mem_iff.1 hl)⟩
theorem union_perm {m k : List (List Int)} (hp : m.Perm k) : unionZ m = unionZ k := by
  refine ext_asc (union_asc m) (union_asc k) (fun x => ?_)
  rw [union_mem, union_mem]
  exact ⟨fun ⟨l, h1, h2⟩ => ⟨l, hp.mem_iff.1 h1, h2⟩, fun ⟨l, h1, h2⟩ => ⟨l, hp.mem_iff.2 h1, h2⟩⟩
/-- The complement of a union; differences. -/
theorem morgan (a b : List Int) (n : Int) : complZ (unionZ [a, b]) n = interZ [complZ a n, complZ b n] := by
  refine ext_asc (compl_asc _ _) (inter_asc (fun l hl => ?_)) (fun x => ?_)
  · simp only [List.mem_cons, List.not_mem_nil, or_false] at hl
    rcases hl with rfl | rfl <;> exact compl_asc _ _
  · rw [compl_mem, inter_mem (by simp), union_mem]
    constructor
    · rintro ⟨h1, h2⟩ l hl
      simp only [List.mem_cons, List.not_mem_nil, or_false] at hl
      rcases hl with rfl | rfl
      · exact (compl_mem _ _ _).2 ⟨h1, fun h => h2 ⟨a, by simp, h⟩⟩
      · exact (compl_mem _ _ _).2 ⟨h1, fun h => h2 ⟨b, by simp, h⟩⟩
    · intro h
      have h1 := (compl_mem _ _ _).1 (h _ (List.mem_cons_self ..))
      have h2 := (compl_mem _ _ _).1 (h (complZ b n) (by simp))
      refine ⟨h1.1, ?_⟩
      rintro ⟨l, hl, hx⟩
      simp only [List.mem_cons, List.not_mem_nil, or_false] at hl
      rcases hl with rfl | rfl
      · exact h1.2 hx
      · exact h2.2 hx
theorem diff_all (a : List Int) (n : Int) : diffZ (complZ [] n) a = complZ a n := by
  refine ext_asc (diff_asc _ (compl_asc _ _)) (compl_asc _ _) (fun x => ?_)
  rw [diff_mem, compl_mem, compl_mem]; simp
theorem diff_compl (a b : List Int) (n : Int) : diffZ (complZ a n) b = interZ [complZ a n, complZ b n] := by
  refine ext_asc (diff_asc _ (compl_asc _ _)) (inter_asc (fun l hl => ?_)) (fun x => ?_)
  · simp only [List.mem_cons, List.not_mem_nil, or_false] at hl
    rcases hl with rfl | rfl <;> exact compl_asc _ _
  · rw [diff_mem, inter_mem (by simp)]
    constructor
    · rintro ⟨h1, h2⟩ l hl
      simp only [List.mem_cons, List.not_mem_nil, or_false] at hl
      rcases hl with rfl | rfl
      · exact h1
      · exact (compl_mem _ _ _).2 ⟨((compl_mem _ _ _).1 h1).1, h2⟩
    · intro h
      exact ⟨h _ (List.mem_cons_self ..), ((compl_mem _ _ _).1 (h (complZ b n) (by simp))).2⟩
theorem diff_self (a : List Int) : diffZ a a = [] := by
  unfold diffZ
  rw [List.filter_eq_nil_iff]
  intro x hx; simpa using hx
theorem compl_nil_len (n : Nat) : (complZ [] (n : Int)).length = n := by
  have h : complZ [] (n : Int) = uptoZ n := by unfold complZ; rw [List.filter_eq_self.2 (fun x _ => by simp)]
  rw [h]; simp [uptoZ]
end Go.Proofs.Ytdhcfgbnjnidfaa
