/- SyP, SlS, SyC, MdG, EqLab, EqSam, MdH, in one text. -/
import Derived.Test.YtkodhbkmpnokjaaGreatMrg7
import Derived.Test.YtkodhbkmpnokjaaGreatMrg1
import Derived.Shelf.SlicesE.Compact
import Derived.Shelf.Spec.SearchS
import Derived.Sort.Walk0
import Derived.Sort.OwnSorted
import Derived.Test.YtkodhbkmpnokjaaGreatMrg5
import Derived.Shelf.SortM.Plain
import Derived.Shelf.SortM.SortNone
import Derived.Test.YtkodhbkmpnokjaaGreatMrg11
import Derived.Test.YtkodhbkmpnokjaaGreatMrg6
import Derived.Test.YtkodhbkmpnokjaaGreatMrg2
import Derived.Test.YtkodhbkmpnokjaaGreatMrg3
import Derived.Test.YtkodhbkmpnokjaaGreatMrg4

section
/- Layer 10: a sorted list without repetitions is the table; where a search in a table ends. No program in sight. -/
set_option linter.unusedVariables false
namespace Go.Proofs.YtkodhbkmpnokjaaGreat
open Go Go.RowKit Go.Lib Go.Sort

def kOf (a : ByteArray) : List UInt8 := a.data.toList
def ofK (l : List UInt8) : ByteArray := ⟨l.toArray⟩
theorem ofK_kOf (a : ByteArray) : ofK (kOf a) = a := by cases a; simp [ofK, kOf]
theorem kOf_ofK (l : List UInt8) : kOf (ofK l) = l := by simp [ofK, kOf]
theorem ltS_ofK (x y : List UInt8) : ltS (ofK x) (ofK y) = bLt x y := by
  have h : ∀ l : List UInt8, (ofK l).toList = l := fun l => by rw [Lib.toList_data]; simp [ofK]
  rw [ltS, h, h]; rfl
theorem bLt_ok : LtOk bLt := ⟨⟨bLt_irr, bLt_tr⟩, bLt_tot⟩
theorem enc_kOf (l : List ByteArray) : (l.map kOf).map encStr = strs l := by
  rw [List.map_map, strs]
  refine List.map_congr_left fun a _ => ?_
  cases a
  simp [encStr, kOf]
theorem enc_ofK (l : List (List UInt8)) : l.map encStr = strs (l.map ofK) := by
  rw [strs, List.map_map]; rfl

section
variable {α : Type} [Inhabited α] [DecidableEq α] {lt : α → α → Bool}
theorem compact_mem (d : Array α) (m : Nat) (x : α) : x ∈ compactUpTo d m ↔ ∃ j, j < m ∧ d[j]! = x := by
  induction m with
  | zero => simp [compactUpTo]
  | succ m ih =>
    rw [compactUpTo_succ, List.mem_append, ih]
    constructor
    · rintro (⟨j, h1, h2⟩ | h)
      · exact ⟨j, by omega, h2⟩
      · by_cases hk : keeps d m = true
        · rw [if_pos hk] at h
          exact ⟨m, by omega, (List.mem_singleton.1 h).symm⟩
        · rw [if_neg hk] at h; cases h
    · rintro ⟨j, h1, h2⟩
      by_cases hj : j < m
      · exact Or.inl ⟨j, hj, h2⟩
      · obtain rfl : j = m := by omega
        by_cases hk : keeps d j = true
        · exact Or.inr (by rw [if_pos hk, h2]; exact List.mem_singleton.2 rfl)
        · have : ¬ (j = 0 ∨ d[j]! ≠ d[j - 1]!) := by simpa [keeps] using hk
          exact Or.inl ⟨j - 1, by omega, by rw [← h2]; exact (Decidable.not_not.1 (fun e => this (Or.inr e))).symm⟩
theorem compact_asc (h : LtOk lt) (d : Array α) (hs : ∀ i j, i < j → j < d.size → lt d[j]! d[i]! = false) (m : Nat) (hm : m ≤ d.size) : AscB lt (compactUpTo d m) := by
  induction m with
  | zero => exact List.Pairwise.nil
  | succ m ih =>
    rw [compactUpTo_succ]
    refine List.pairwise_append.2 ⟨ih (by omega), ?_, fun a ha b hb => ?_⟩
    · split
      · exact List.pairwise_singleton _ _
      · exact List.Pairwise.nil
    · by_cases hk : keeps d m = true
      · rw [if_pos hk] at hb
        obtain rfl := List.mem_singleton.1 hb
        obtain ⟨i, hi, rfl⟩ := (compact_mem d m a).1 ha
        have hne : d[m]! ≠ d[m - 1]! := by
          have : m = 0 ∨ d[m]! ≠ d[m - 1]! := by simpa [keeps] using hk
          rcases this with e | e
          · omega
          · exact e
        have h1 : lt d[m - 1]! d[m]! = true := by
          rcases Bool.eq_false_or_eq_true (lt d[m - 1]! d[m]!) with e | e
          · exact e
          · exact absurd (h.tot _ _ (hs (m - 1) m (by omega) (by omega)) e) hne
        by_cases he : i = m - 1
        · rw [he]; exact h1
        · exact h.le_tr (hs i (m - 1) (by omega) (by omega)) h1
      · rw [if_neg hk] at hb; cases hb
end

/-- A list of strings, sorted. -/
def srt (l : List ByteArray) : List (List UInt8) := (l.map kOf).mergeSort (fun x y => decide (x ≤ y))
theorem srt_perm (l : List ByteArray) : (srt l).Perm (l.map kOf) := List.mergeSort_perm _ _
theorem srt_length (l : List ByteArray) : (srt l).length = l.length := by rw [(srt_perm l).length_eq, List.length_map]
theorem le_bLt (x y : List UInt8) : decide (x ≤ y) = !bLt y x := by
  rw [bLt, bytesLess_eq]
  by_cases h : y < x
  · rw [decide_eq_true h, decide_eq_false (List.not_le.2 h)]; rfl
  · rw [decide_eq_false h, decide_eq_true (List.not_lt.1 h)]; rfl
theorem srt_sorted (l : List ByteArray) : (srt l).Pairwise (fun x y => bLt y x = false) := by
  have h := List.pairwise_mergeSort (le := fun x y : List UInt8 => decide (x ≤ y)) (fun a b c h1 h2 => by
    rw [le_bLt, Bool.not_eq_true'] at *
    rcases Bool.eq_false_or_eq_true (bLt c a) with e | e
    · exact absurd (bLt_ok.le_tr h2 e) (by rw [h1]; decide)
    · exact e) (fun a b => by
    rw [le_bLt, le_bLt]
    rcases Bool.eq_false_or_eq_true (bLt b a) with e | e
    · rw [bLt_ok.asy e]; simp
    · rw [e]; rfl) (l.map kOf)
  exact h.imp (fun {a b} h => by rw [le_bLt, Bool.not_eq_true'] at h; exact h)
/-- What Compact leaves of the sorted list is the table. -/
theorem compact_tab (l : List ByteArray) : (compactUpTo (srt l).toArray l.length).map ofK = tabS l := by
  have hget : ∀ j (h : j < (srt l).length), (srt l).toArray[j]! = (srt l)[j] := fun j h => by rw [getElem!_pos _ j (by simpa using h)]; simp
  refine ascB_ext ltS_ok.toLtPre _ _ ?_ (tabB_asc ltS_ok l) (fun x => ?_)
  · refine List.pairwise_map.2 ((compact_asc bLt_ok (srt l).toArray (fun i j hij hj => ?_) l.length (by simp [srt_length])).imp (fun {a b} h => by rw [ltS_ofK]; exact h))
    have hj' : j < (srt l).length := by simpa using hj
    rw [hget j hj', hget i (by omega)]
    exact List.pairwise_iff_getElem.1 (srt_sorted l) i j (by omega) hj' hij
  · rw [tabS, tabB_mem ltS_ok, List.mem_map]
    constructor
    · rintro ⟨k, hk, rfl⟩
      obtain ⟨j, hj, rfl⟩ := (compact_mem _ _ _).1 hk
      have hj' : j < (srt l).length := by rw [srt_length]; exact hj
      rw [hget j hj']
      obtain ⟨a, ha, he⟩ := List.mem_map.1 ((srt_perm l).mem_iff.1 (List.getElem_mem hj'))
      rw [← he, ofK_kOf]
      exact ha
    · intro hx
      have h1 : kOf x ∈ srt l := (srt_perm l).mem_iff.2 (List.mem_map.2 ⟨x, hx, rfl⟩)
      obtain ⟨j, hj, he⟩ := List.getElem_of_mem h1
      refine ⟨kOf x, (compact_mem _ _ _).2 ⟨j, by rw [← srt_length]; exact hj, by rw [hget j hj]; exact he⟩, ofK_kOf x⟩
theorem compact_len (ts : List (List UInt8)) (m : Nat) : (compactUpTo ts.toArray m).length ≤ m := by
  unfold compactUpTo
  rw [List.length_map]
  exact Nat.le_trans (List.length_filter_le _ _) (by simp)

/-- Element j of a list; s behind it. -/
def atOr (t : List ByteArray) (s : ByteArray) (j : Nat) : ByteArray := (t[j]?).getD s
/-- Where the search for s in t ends. -/
def posS (t : List ByteArray) (s : ByteArray) : Nat := t.findIdx (fun a => !ltS a s)
theorem posS_le (t : List ByteArray) (s : ByteArray) : posS t s ≤ t.length := List.findIdx_le_length
theorem posS_low {t : List ByteArray} {s : ByteArray} (j : Nat) (h : j < posS t s) : ltS (atOr t s j) s = true := by
  have hl := posS_le t s
  rw [atOr, List.getElem?_eq_getElem (by omega), Option.getD_some]
  have := List.not_of_lt_findIdx h
  simpa using this
theorem posS_high {t : List ByteArray} (ha : AscB ltS t) {s : ByteArray} (j : Nat) (h : posS t s ≤ j) : ltS (atOr t s j) s = false := by
  by_cases hj : j < t.length
  · rw [atOr, List.getElem?_eq_getElem hj, Option.getD_some]
    have hk : posS t s < t.length := by omega
    have h1 : ltS t[posS t s] s = false := by
      have h0 : (!ltS t[posS t s] s) = true := List.findIdx_getElem (w := hk)
      simpa using h0
    rcases Nat.lt_or_eq_of_le h with e | e
    · have h2 := ascB_get ha e hj
      rcases Bool.eq_false_or_eq_true (ltS t[j] s) with f | f
      · rw [ltS_ok.tr _ _ _ h2 f] at h1; cases h1
      · exact f
    · simp only [← e]; exact h1
  · rw [atOr, List.getElem?_eq_none (by omega)]
    exact ltS_ok.irr s
end Go.Proofs.YtkodhbkmpnokjaaGreat

end

section
/- Lists of strings: the library's Sort, Compact, BinarySearch, by the shelf's contracts, laid by hand. -/
set_option linter.unusedVariables false
set_option maxRecDepth 20000
namespace Go.Proofs.YtkodhbkmpnokjaaGreat
open Go Go.RowKit

def renSortS : Go.Shelf.Ren := ⟨fun | 6 => 86 | 8 => 61 | 9 => 107 | 19 => 83 | 20 => 84 | 21 => 121 | 22 => 122 | 23 => 123 | 24 => 124 | 25 => 125 | 26 => 126 | 27 => 127 | 28 => 128 | 29 => 129 | 31 => 102 | 32 => 103 | 36 => 135 | 37 => 136 | 38 => 137 | 39 => 138 | 41 => 141 | n => n, fun | 0 => 0 | 3 => 3 | 4 => 4 | 5 => 5 | 9 => 9 | 26 => 44 | 27 => 44 | 29 => 9 | 32 => 82 | 35 => 95 | 36 => 96 | 41 => 100 | 44 => 103 | 46 => 40 | 53 => 118 | 57 => 122 | 63 => 134 | 64 => 135 | n => n, fun n => n⟩
theorem laysSortS : Go.Proofs.SlLaysM.n6 Tryz.prog renSortS := { mixed := by kernel_rfl, f6 := ⟨"slices.Sort[[]string,string]", by decide, Tryz.func86.trans (congrArg some (by kernel_rfl))⟩, f8 := Tryz.func61.trans (congrArg some (by kernel_rfl)), f9 := ⟨"slices.pdqsortOrdered[string]", by decide, Tryz.func107.trans (congrArg some (by kernel_rfl))⟩, f19 := Tryz.func83.trans (congrArg some (by kernel_rfl)), f20 := Tryz.func84.trans (congrArg some (by kernel_rfl)), f21 := ⟨"slices.insertionSortOrdered[string]", by decide, Tryz.func121.trans (congrArg some (by kernel_rfl))⟩, f22 := ⟨"slices.heapSortOrdered[string]", by decide, Tryz.func122.trans (congrArg some (by kernel_rfl))⟩, f23 := ⟨"slices.breakPatternsOrdered[string]", by decide, Tryz.func123.trans (congrArg some (by kernel_rfl))⟩, f24 := ⟨"slices.choosePivotOrdered[string]", by decide, Tryz.func124.trans (congrArg some (by kernel_rfl))⟩, f25 := ⟨"slices.reverseRangeOrdered[string]", by decide, Tryz.func125.trans (congrArg some (by kernel_rfl))⟩, f26 := ⟨"slices.partialInsertionSortOrdered[string]", by decide, Tryz.func126.trans (congrArg some (by kernel_rfl))⟩, f27 := ⟨"cmp.Less[string]", by decide, Tryz.func127.trans (congrArg some (by kernel_rfl))⟩, f28 := ⟨"slices.partitionEqualOrdered[string]", by decide, Tryz.func128.trans (congrArg some (by kernel_rfl))⟩, f29 := ⟨"slices.partitionOrdered[string]", by decide, Tryz.func129.trans (congrArg some (by kernel_rfl))⟩, f31 := Tryz.func102.trans (congrArg some (by kernel_rfl)), f32 := Tryz.func103.trans (congrArg some (by kernel_rfl)), f36 := ⟨"slices.siftDownOrdered[string]", by decide, Tryz.func135.trans (congrArg some (by kernel_rfl))⟩, f37 := ⟨"slices.medianAdjacentOrdered[string]", by decide, Tryz.func136.trans (congrArg some (by kernel_rfl))⟩, f38 := ⟨"slices.medianOrdered[string]", by decide, Tryz.func137.trans (congrArg some (by kernel_rfl))⟩, f39 := ⟨"cmp.isNaN[string]", by decide, Tryz.func138.trans (congrArg some (by kernel_rfl))⟩, f41 := ⟨"slices.order2Ordered[string]", by decide, Tryz.func141.trans (congrArg some (by kernel_rfl))⟩, t0 := Tryz.underlying0, a0 := Tryz.isAgg0, z0 := Tryz.sizeOf0, v0 := Tryz.zeroValue0, t3 := Tryz.underlying3, a3 := Tryz.isAgg3, z3 := Tryz.sizeOf3, v3 := Tryz.zeroValue3, t4 := Tryz.underlying4, a4 := Tryz.isAgg4, z4 := Tryz.sizeOf4, v4 := Tryz.zeroValue4, t5 := Tryz.underlying5, a5 := Tryz.isAgg5, z5 := Tryz.sizeOf5, v5 := Tryz.zeroValue5, t9 := Tryz.underlying9, a9 := Tryz.isAgg9, z9 := Tryz.sizeOf9, v9 := Tryz.zeroValue9, t26 := Tryz.underlying44, a26 := Tryz.isAgg44, z26 := Tryz.sizeOf44, v26 := Tryz.zeroValue44, t27 := Tryz.underlying44, a27 := Tryz.isAgg44, z27 := Tryz.sizeOf44, v27 := Tryz.zeroValue44, t29 := Tryz.underlying9, a29 := Tryz.isAgg9, z29 := Tryz.sizeOf9, v29 := Tryz.zeroValue9, t32 := Tryz.underlying82, a32 := Tryz.isAgg82, z32 := Tryz.sizeOf82, v32 := Tryz.zeroValue82, t35 := Tryz.underlying95, a35 := Tryz.isAgg95, z35 := Tryz.sizeOf95, v35 := Tryz.zeroValue95, t36 := Tryz.underlying96, a36 := Tryz.isAgg96, z36 := Tryz.sizeOf96, v36 := Tryz.zeroValue96, t41 := Tryz.underlying100, a41 := Tryz.isAgg100, z41 := Tryz.sizeOf100, v41 := Tryz.zeroValue100, t44 := Tryz.underlying103, a44 := Tryz.isAgg103, z44 := Tryz.sizeOf103, v44 := Tryz.zeroValue103, t46 := Tryz.underlying40, a46 := Tryz.isAgg40, z46 := Tryz.sizeOf40, v46 := Tryz.zeroValue40, t53 := Tryz.underlying118, a53 := Tryz.isAgg118, z53 := Tryz.sizeOf118, v53 := Tryz.zeroValue118, t57 := Tryz.underlying122, a57 := Tryz.isAgg122, z57 := Tryz.sizeOf122, v57 := Tryz.zeroValue122, t63 := Tryz.underlying134, a63 := Tryz.isAgg134, z63 := Tryz.sizeOf134, v63 := Tryz.zeroValue134, t64 := Tryz.underlying135, a64 := Tryz.isAgg135, z64 := Tryz.sizeOf135, v64 := Tryz.zeroValue135 }
def renCompactS : Go.Shelf.Ren := ⟨fun | 43 => 64 | n => n, fun | 0 => 0 | 3 => 3 | 4 => 4 | 22 => 44 | 23 => 9 | n => n, fun n => n⟩
theorem laysCompactS : Go.Proofs.SlLaysE.n43 Tryz.prog renCompactS := { mixed := by kernel_rfl, f43 := ⟨"slices.Compact[[]string,string]", by decide, Tryz.func64.trans (congrArg some (by kernel_rfl))⟩, t0 := Tryz.underlying0, a0 := Tryz.isAgg0, z0 := Tryz.sizeOf0, v0 := Tryz.zeroValue0, t3 := Tryz.underlying3, a3 := Tryz.isAgg3, z3 := Tryz.sizeOf3, v3 := Tryz.zeroValue3, t4 := Tryz.underlying4, a4 := Tryz.isAgg4, z4 := Tryz.sizeOf4, v4 := Tryz.zeroValue4, t22 := Tryz.underlying44, a22 := Tryz.isAgg44, z22 := Tryz.sizeOf44, v22 := Tryz.zeroValue44, a23 := Tryz.isAgg9, z23 := Tryz.sizeOf9 }
theorem srt_row (w : World) (base : Nat) (v : Value) (l : List ByteArray) (h : w.ownsRow base 9 1 v l.length (strs l)) (hn : l.length ≤ 1000000) :
    Calls Tryz.prog 86 #[v] w fun e w' => e = .returned (.tuple #[]) ∧ w'.ownsRow base 9 1 v l.length ((srt l).map encStr) ∧ Mods (fun k => v.ownBlock = some k) w w' := by
  have hl : (l.map kOf).length = l.length := List.length_map ..
  rcases h.2 with ⟨rfl, h0⟩ | ⟨g, cap, cur, rfl, hbase, hgb, r1, r2, r3, r4⟩
  · refine (AnyM.slices_Sort_string_none laysSortS none 0 w).mono ?_
    rintro e w' ⟨rfl, rfl⟩
    obtain rfl : l = [] := List.eq_nil_of_length_eq_zero h0
    exact ⟨rfl, by simpa [srt, strs] using h, Mods.refl _ _⟩
  · have hH : Go.Sort.Holds encStr w g 0 (l.map kOf).toArray := holds_of_block hgb (by rw [hl, enc_kOf, ← r4, Nat.mul_one])
    have hC := AnyM.slices_Sort_string laysSortS g 0 cap (l.map kOf) w hH (Array.getElem?_eq_some_iff.1 hgb).1 (by omega)
    rw [hl] at hC
    refine hC.mono ?_
    rintro e w' ⟨rfl, n, os, rfl⟩
    have hs : (srt l).length = (l.map kOf).length := by rw [srt_length, hl]
    have hrow := ownsRow_sorted (n := n) (os := os) (ts := srt l) (ss := l.map kOf) hs hbase hgb (by rw [hl]; exact r1) r2 r3
    rw [hl] at hrow
    exact ⟨rfl, hrow, (Mods.of_grown (grownBy_sorted _)).mono (fun k _ e => e)⟩

/-- A row, cut. -/
theorem owns_take {w : World} {base : Nat} {e : TypeId} {n c m : Nat} {p : Option Addr} {xs : List Value} (h : w.ownsRow base e 1 (.slice p n c) n xs) (hm : m ≤ n) : w.ownsRow base e 1 (.slice p m c) m (xs.take m) := by
  have hx := h.1
  refine ⟨by rw [List.length_take]; omega, ?_⟩
  rcases h.2 with ⟨e, h0⟩ | ⟨g, cap, cur, e, hb, hg, hn, hmx, hs, ht⟩
  · simp only [Value.slice.injEq] at e
    obtain ⟨rfl, _, rfl⟩ := e
    obtain rfl : m = 0 := by omega
    exact Or.inl ⟨rfl, rfl⟩
  · simp only [Value.slice.injEq] at e
    obtain ⟨rfl, _, rfl⟩ := e
    refine Or.inr ⟨g, c, cur, rfl, hb, hg, by omega, hmx, hs, ?_⟩
    rw [← ht, List.take_take, Nat.mul_one, Nat.mul_one, Nat.min_eq_left hm]

theorem eql_k (T : TypeId) : EqlAt Tryz.prog T encStr (fun x y => decide (x = y)) := by
  have h := EqlAt.string Tryz.prog T
  refine ⟨fun x y w => ?_, fun op a b x y w => h.2 op a b _ _ w⟩
  have hb : ((ofK x).toList == (ofK y).toList) = decide (x = y) := by rw [Lib.toList_data, Lib.toList_data]; show (kOf (ofK x) == kOf (ofK y)) = _; rw [kOf_ofK, kOf_ofK]; by_cases e : x = y <;> simp [e]
  have h2 := h.1 (ofK x) (ofK y) w
  simp only [hb] at h2
  exact h2
theorem neq_k (T : TypeId) : NeqAt Tryz.prog T encStr (fun x y => decide (x = y)) := by
  have h := NeqAt.string Tryz.prog T
  refine ⟨fun x y w => ?_, fun op a b x y w => h.2 op a b _ _ w⟩
  have hb : ((ofK x).toList == (ofK y).toList) = decide (x = y) := by rw [Lib.toList_data, Lib.toList_data]; show (kOf (ofK x) == kOf (ofK y)) = _; rw [kOf_ofK, kOf_ofK]; by_cases e : x = y <;> simp [e]
  have h2 := h.1 (ofK x) (ofK y) w
  simp only [hb] at h2
  exact h2

theorem compact_nil (w : World) : Calls Tryz.prog 64 #[.slice none 0 0] w fun e w' => e = .returned (.slice none 0 0) ∧ w' = w := by
  go_enter Tryz.func64, Tryz.ntmps64
  go_wp2_with fail
  go_ret
  exact ⟨rfl, rfl⟩

theorem compact_row (w : World) (base : Nat) (v : Value) (ts : List (List UInt8)) (h : w.ownsRow base 9 1 v ts.length (ts.map encStr)) (hn : ts.length ≤ 1000000) :
    Calls Tryz.prog 64 #[v] w fun e w' => ∃ r, e = .returned r ∧ w'.ownsRow base 9 1 r (Lib.compactUpTo ts.toArray ts.length).length ((Lib.compactUpTo ts.toArray ts.length).map encStr) ∧ Mods (fun k => v.ownBlock = some k) w w' := by
  rcases h.2 with ⟨rfl, h0⟩ | ⟨g, cap, cur, rfl, hbase, hgb, r1, r2, r3, r4⟩
  · refine (compact_nil w).mono ?_
    rintro e w' ⟨rfl, rfl⟩
    obtain rfl : ts = [] := List.eq_nil_of_length_eq_zero h0
    exact ⟨_, rfl, by simpa [Lib.compactUpTo] using h, Mods.refl _ _⟩
  · have hH : Go.Sort.Holds encStr w g 0 ts.toArray := holds_of_block hgb (by rw [← r4, Nat.mul_one])
    obtain ⟨C, hC⟩ : ∃ C, Lib.compactUpTo ts.toArray ts.length = C := ⟨_, rfl⟩
    have hCl : C.length ≤ ts.length := by rw [← hC]; exact compact_len _ _
    have h1 := AnyE.slices_Compact laysCompactS encStr (fun _ => rfl) (eql_k _) (neq_k _) [] Tryz.zeroValue9 g 0 cap ts.toArray w hH (by simp; omega) (by simpa using r1)
    simp only [List.size_toArray] at h1
    rw [hC] at h1 ⊢
    refine h1.mono ?_
    rintro e w' ⟨rfl, q, rfl⟩
    have hs : (C ++ List.replicate (ts.length - C.length) []).length = ts.length := by simp; omega
    have hrow := ownsRow_sorted (n := q) (os := #[]) (ts := C ++ List.replicate (ts.length - C.length) []) (ss := ts) hs hbase hgb r1 r2 r3
    rw [Go.Sort.grow_empty] at hrow
    have h2 := owns_take hrow hCl
    rw [List.map_append, List.take_left' (by simp)] at h2
    have hg := grownBy_sorted (w := w) (g := g) (n := q) (os := #[]) (C ++ List.replicate (ts.length - C.length) []).toArray
    rw [Go.Sort.grow_empty] at hg
    exact ⟨_, rfl, h2, (Mods.of_grown hg).mono (fun k _ e => e)⟩

end Go.Proofs.YtkodhbkmpnokjaaGreat

end

section
/- Layer 10: Table. -/
set_option linter.unusedVariables false
set_option maxRecDepth 100000
namespace Go.Proofs.YtkodhbkmpnokjaaGreat
open Go Go.RowKit Go.Shelf
attribute [local go_sem] Oper.semAt_some

/-- Where AppendSeq stands between two rounds: g is the variable's block. -/
def ColS (g : Nat) (w : World) (pre : List ByteArray) (W : World) : Prop :=
  ∃ v', Blk W g [v'] ∧ W.ownsRow g 9 1 v' pre.length (strs pre) ∧ v'.ownBlock ≠ some g ∧ Below g w W
theorem colS_own {B g : Nat} {w : World} (hB : g ≤ B) : OwnFrom B (fun (pre : List ByteArray) W => ColS g w pre W) := by
  rintro s W W' row ⟨v', h1, h2, h3, h4⟩ hg hr
  have hr' : ∀ r, row = some r → ∃ o : Obj, W.heap[r]? = some o ∧ o.isCells = false := fun r e => (hr r e).2
  exact ⟨v', own_blk g (fun _ : Unit => [v']) () W W' row h1 hg hr', owns_abides h2 hg hr', h3, h4.grown hg (by have := h1.lt; omega) (fun j e => Nat.le_trans hB (hr j e).1)⟩

set_option maxHeartbeats 2000000 in
theorem appendSeq_strs (b : Nat) (lv : Value) (l : List ByteArray) (w : World) (hc : w.cell? ⟨b, 0, none⟩ = some lv) (hl : Rd w 1 lv l.length (strs l)) (hn : l.length ≤ 1000000) :
    Calls Tryz.prog 106 #[.slice none 0 0, .func (.func 87) #[] #[.pointer (some ⟨b, 0, none⟩)]] w fun e w' => ∃ r, e = .returned r ∧ w'.ownsRow w.heap.size 9 1 r l.length (strs l) ∧ Below w.heap.size w w' := by
  have hb : b < w.heap.size := World.block_lt_of_cell? w _ hc
  have HKW := Lib.hid (keepB_lt hb hl)
  have HC := Lib.hid hc; have HL := Lib.hid hl; have HN := Lib.hid hn
  clear hc hl hn
  refine (callsIn_wide (n := 9)).1 ?_
  refine callsIn_of_wp_marks Tryz.func106 rfl trivial ?_ rfl
  simp only [Tryz.ntmps106, List.size_toArray, List.length_cons, List.length_nil, Nat.reduceAdd, Nat.reduceSub, Array.replicate_succ, Array.replicate_zero, List.push_toArray, List.append_toArray, List.nil_append, List.cons_append]
  gi_wp2
  obtain ⟨W0, hW0⟩ : ∃ W0, w.alloc (.cells #[.slice none 0 0] 44) = W0 := ⟨_, rfl⟩
  have hs0 : W0.heap.size = w.heap.size + 1 := by rw [← hW0]; simp
  have hB0 : Below w.heap.size w W0 := by rw [← hW0]; exact (Below.refl _ w).alloc (Nat.le_refl _) _
  have hX0 : Blk W0 w.heap.size [.slice none 0 0] := by rw [← hW0]; exact Blk.new w _ _
  rw [hW0]
  clear hW0
  have HI0 : Hid (ColS w.heap.size w [] W0) := ⟨_, hX0, World.ownsRow_nil _ _ _ _, fun e => by simp [Value.ownBlock] at e, hB0⟩
  have HGV := Lib.hid (values_gives 8 (by omega) b lv l W0 ((hB0.cell hb).trans HC.out) (HL.out.below hB0))
  have HS0 := Lib.hid hs0
  clear hX0 hB0 hs0
  obtain ⟨K, hK⟩ : ∃ K : Nat → Prop, KeepB b lv l = K := ⟨_, rfl⟩
  rw [hK] at HGV HKW
  clear hK
  refine wpIn_rangeFunc_ownG rfl (by omega) (gf := 87) (lb := #[.pointer (some ⟨b, 0, none⟩)]) rfl trivial (enters_of Tryz.func87 (by kernel_rfl) rfl)
    HGV.out (fun h k => keepAt_t h k) (fun W l o o' h1 h2 h3 h4 => keepAt_b (w := W0) (fun k hk => by have := HKW.out k hk; have := HS0.out; omega) W l o o' h1 h2 h3 h4) (Below.refl _ _) (fun _ => rfl)
    (fun pre W => ColS w.heap.size w pre W)
    (fun _ _ _ => False)
    (colS_own (by have := HS0.out; omega))
    (fun _ _ _ _ _ hs _ _ => hs)
    HI0.out
    (fun x => { tmps := #[.slice none 0 0, .func (.func 87) #[] #[.pointer (some ⟨b, 0, none⟩)], .pointer (some ⟨w.heap.size, 0, none⟩), undef, .slice none 0 0, .string x, .func (.func 87) #[] #[.pointer (some ⟨b, 0, none⟩)], .string x, undef, undef, undef, undef, undef], defers := [] })
    ?assign ?body ?done ?stop
  case assign =>
    intro l x W K hK
    simp only [List.zip_toArray, List.zip_cons_cons, List.zip_nil_right, List.foldl_toArray, List.foldl_cons, List.foldl_nil, List.setIfInBounds_toArray, List.set_cons_zero, List.set_cons_succ]
    gi_wp2
    exact hK
  case body =>
    rintro l' pre x W ⟨v', h1, h2, h4, h5⟩ hlen
    have hlm : pre.length ≤ 1000000 := by have := HN.out; omega
    have c0 : W.cell? ⟨w.heap.size, 0, none⟩ = some v' := by rw [h1.cell]; rfl
    have f0 := h1.free 0
    have HOw : Hid (W.ownsRow 0 9 1 v' pre.length (strs pre)) := owns_rebase h2 (fun _ _ => Nat.zero_le _)
    have HPre : Hid ((pre ++ [x]).length = pre.length + 1 ∧ strs (pre ++ [x]) = strs pre ++ [.string x]) := ⟨by simp, by rw [strs_append]; rfl⟩
    obtain ⟨p1, c1, hv1⟩ := (Rd.of_owns h2).shape
    subst hv1
    have HB : Hid ((pre.length + 1) * 16 ≤ 140737488355328 ∧ pre.length + 1 ≤ maxLen) := by show _ ∧ _; unfold maxLen; omega
    have H1 := Lib.hid h1; have H2 := Lib.hid h2; have H4 := Lib.hid h4; have H5 := Lib.hid h5
    clear h1 h2 h4 h5 hlen
    generalize hpl : pre.length = pl at *
    clear hpl
    refine wpIn_block ?_
    refine wpIn_region_list ?_
    refine wpListIn_round not_letsOut_body _ _ _ (by simp) ?_
    go_wp2_with (at_builtin; refine wpList_push Tryz.elemStr W #[.string x] _ _ _ HOw.out rfl (by simp [Value.oneCell']) HB.out rfl _ _ rfl rfl rfl ?_)
    intro v2 w1 k1 k2 k3
    have b1 := k2.blk H1.out (fun e => H4.out e)
    have c1' : w1.cell? ⟨w.heap.size, 0, none⟩ = some (.slice p1 pl c1) := by rw [b1.cell]; rfl
    have f1' := b1.free 0
    have hne : v2.ownBlock ≠ some w.heap.size := fun e => by
      rcases k3 _ e with e | e
      · exact H4.out e
      · have := H1.out.lt; omega
    have hlo : ∀ k, v2.ownBlock = some k → w.heap.size ≤ k := fun k hk => by
      rcases k3 k hk with e | e
      · exact (H2.out.lt k e).1
      · have := H1.out.lt; omega
    obtain ⟨p2, c2, hv2⟩ := (Rd.of_owns k1).shape
    subst hv2
    have HF : Hid (KeepsOthers W (w1.setCell ⟨w.heap.size, 0, none⟩ (.slice p2 (pl + 1) c2)) ∧ KeepAt K W (w1.setCell ⟨w.heap.size, 0, none⟩ (.slice p2 (pl + 1) c2)) ∧ ColS w.heap.size w (pre ++ [x]) (w1.setCell ⟨w.heap.size, 0, none⟩ (.slice p2 (pl + 1) c2))) := by
      have hs : Mods (fun k => k = w.heap.size) w1 (w1.setCell ⟨w.heap.size, 0, none⟩ (.slice p2 (pl + 1) c2)) := Mods.set _ _ _ _ (fun _ => rfl)
      have hM : Mods (fun k => k = w.heap.size ∨ (Value.slice p1 pl c1).ownBlock = some k) W (w1.setCell ⟨w.heap.size, 0, none⟩ (.slice p2 (pl + 1) c2)) :=
        (k2.mono (fun _ _ e => Or.inr e)).trans hs (fun _ _ e => Or.inl e)
      have hlow : ∀ k, (k = w.heap.size ∨ (Value.slice p1 pl c1).ownBlock = some k) → w.heap.size ≤ k := fun k e => by
        rcases e with e | e
        · omega
        · exact (H2.out.lt k e).1
      refine ⟨KeepsOthers.of_mods hM (fun k o e ho => ?_), fun k hk => hM.block k (by have := HKW.out k hk; have := H5.out.size; omega) (fun e => by have := HKW.out k hk; have := hlow k e; omega), .slice p2 (pl + 1) c2, ?_, ?_, hne, ?_⟩
      · rcases e with rfl | e
        · obtain ⟨t, ht⟩ := H1.out
          rw [ht] at ho; cases ho; rfl
        · exact owns_isCells H2.out k o e ho
      · simpa using b1.set 0 (.slice p2 (pl + 1) c2)
      · rw [HPre.out.1, HPre.out.2]
        exact owns_rebase (hs.owns k1 (fun k hk e => hne (by rw [hk, e]))) hlo
      · exact H5.out.trans (hM.below (by have := H1.out.lt; omega) (fun k hk e => by have := hlow k e; omega))
    clear k1 k2 k3 hne hlo b1 c0 f0
    go_wp2_with fail
    exact ⟨HF.out.1.from _, HF.out.2.1, HF.out.2.2⟩
  case done =>
    rintro D zs W hD rfl ⟨v', h1, h2, h4, h5⟩ hK
    have c0 : W.cell? ⟨w.heap.size, 0, none⟩ = some v' := by rw [h1.cell]; rfl
    obtain ⟨p1, c1, hv1⟩ := (Rd.of_owns h2).shape
    subst hv1
    have H2 := Lib.hid h2; have H5 := Lib.hid h5
    clear h1 h2 h4 h5 HGV
    gi_wp2
    refine ⟨by simp, .inl ⟨_, _, rfl, run_takeDeferred hK, ?_⟩⟩
    refine ⟨_, results_tmp rfl _ _ _, _, rfl, ?_, H5.out.trans (belowK_b (w := w) (Nat.le_refl _) W D _ _ (by have := HS0.out; omega) hK rfl rfl)⟩
    exact ownsRow_putObj H2.out (.deferred none) hK rfl
  case stop =>
    rintro D c pre W _ _ h _
    exact h.elim

theorem sorted_strs (b : Nat) (lv : Value) (l : List ByteArray) (w : World) (hc : w.cell? ⟨b, 0, none⟩ = some lv) (hl : Rd w 1 lv l.length (strs l)) (hn : l.length ≤ 1000000) :
    Calls Tryz.prog 65 #[.func (.func 87) #[] #[.pointer (some ⟨b, 0, none⟩)]] w fun e w' => ∃ r, e = .returned r ∧ w'.ownsRow w.heap.size 9 1 r l.length ((srt l).map encStr) ∧ Below w.heap.size w w' := by
  have HA := Lib.hid (appendSeq_strs b lv l w hc hl hn)
  have HN := Lib.hid hn
  clear hc hl hn
  go_enter Tryz.func65, Tryz.ntmps65
  go_wp2_with fail
  go_enter Tryz.func85, Tryz.ntmps85
  go_wp2_with fail
  refine HA.out.mono ?_
  rintro e w1 ⟨r, rfl, hO, hB⟩
  obtain ⟨p1, c1, hv⟩ := (Rd.of_owns hO).shape
  subst hv
  have HS := Lib.hid (srt_row w1 _ _ l hO HN.out)
  have HLo : Hid (∀ k, (Value.slice p1 l.length c1).ownBlock = some k → w.heap.size ≤ k) := fun k hk => (hO.lt k hk).1
  have HB := Lib.hid hB
  clear hO hB HA
  go_wp2_with fail
  go_wp2_with fail
  refine HS.out.mono ?_
  rintro e w2 ⟨rfl, hO, hM⟩
  have HO := Lib.hid hO
  have HB2 : Hid (Below w.heap.size w w2) := HB.out.trans (hM.below HB.out.size (fun k hk e => by have := HLo.out k e; omega))
  clear hO hM HS
  go_wp2_with fail
  go_ret
  exact ⟨_, rfl, HO.out, HB2.out⟩

theorem table_met (lv : Value) (l : List ByteArray) (w : World) (hl : Rd w 1 lv l.length (strs l)) (hn : l.length ≤ 1000000) :
    Calls Tryz.prog 47 #[lv] w fun e w' => ∃ r, e = .returned r ∧ GotL w (tabS l) r w' := by
  obtain ⟨p, c, hv⟩ := hl.shape
  subst hv
  have HL := Lib.hid hl; have HN := Lib.hid hn
  clear hl hn
  go_enter Tryz.func47, Tryz.ntmps47
  go_wp2_with fail
  refine (callsIn_wide.1 (new_values p _ c w 9)).mono ?_
  rintro e w1 ⟨rfl, rfl⟩
  have hB0 : Below w.heap.size w (w.alloc (.cells #[.slice p l.length c] 44)) := (Below.refl _ w).alloc (Nat.le_refl _) _
  have hx0 : (w.alloc (.cells #[.slice p l.length c] 44)).cell? ⟨w.heap.size, 0, none⟩ = some (.slice p l.length c) := by rw [(Blk.new w #[.slice p l.length c] 44).cell]; rfl
  have HA := Lib.hid (sorted_strs w.heap.size _ l _ hx0 (HL.out.below hB0) HN.out)
  have HB0 := Lib.hid hB0
  clear hx0 hB0
  generalize w.alloc (.cells #[.slice p l.length c] 44) = w1 at *
  go_wp2_with fail
  refine HA.out.mono ?_
  rintro e w2 ⟨r, rfl, hO, hB⟩
  have hlen : l.length = (srt l).length := (srt_length l).symm
  obtain ⟨pr, cr, hv⟩ := (Rd.of_owns hO).shape
  subst hv
  have hO2 : w2.ownsRow w.heap.size 9 1 (.slice pr l.length cr) (srt l).length ((srt l).map encStr) := by rw [← hlen]; exact owns_rebase hO (fun k hk => Nat.le_trans HB0.out.size (hO.lt k hk).1)
  have HC := Lib.hid (compact_row w2 _ _ (srt l) hO2 (by rw [← hlen]; exact HN.out))
  have HLo : Hid (∀ k, (Value.slice pr l.length cr).ownBlock = some k → w.heap.size ≤ k) := fun k hk => (hO2.lt k hk).1
  have HB2 : Hid (Below w.heap.size w w2) := HB0.out.trans (hB.mono HB0.out.size)
  clear hO hO2 hB HA hlen
  go_wp2_with fail
  refine HC.out.mono ?_
  rintro e w3 ⟨r, rfl, hO, hM⟩
  rw [enc_ofK, srt_length, compact_tab] at hO
  have hln : (Lib.compactUpTo (srt l).toArray l.length).length = (tabS l).length := by rw [← compact_tab l, List.length_map]
  rw [hln] at hO
  obtain ⟨pc, cc, hv⟩ := (Rd.of_owns hO).shape
  subst hv
  have HO := Lib.hid hO
  have HB3 : Hid (Below w.heap.size w w3) := HB2.out.trans (hM.below HB2.out.size (fun k hk e => by have := HLo.out k e; omega))
  clear hO hM HC hln
  go_wp2_with fail
  go_ret
  exact ⟨_, rfl, Rd.of_owns HO.out, fun k hk => (HO.out.lt k hk).1, HB3.out⟩
end Go.Proofs.YtkodhbkmpnokjaaGreat

end

section
/- Layer 12, the program's own: Symbols. -/
set_option linter.unusedVariables false
set_option maxRecDepth 20000
namespace Go.Proofs.YtkodhbkmpnokjaaGreat
open Go Go.RowKit

set_option maxHeartbeats 2000000 in
theorem modSymbols_any (bv : Value) (b : List Ser) (w : World) (h : RdB w bv b) (hs : Small b) :
    Calls Tryz.prog 21 #[bv] w fun e w' => ∃ r, e = .returned r ∧ GotL w (tabS (symsB b)) r w' := by
  have H := Lib.hid h; have HSm := Lib.hid hs
  obtain ⟨p, c, hv⟩ := h.shape
  subst hv
  have hmx : (b.length : Int) ≤ 300 := by have := hs.len; omega
  clear h hs
  go_enter Tryz.func21, Tryz.ntmps21
  go_wp2_with fail
  go_loopw [3, 8] (fun vv iv wr => ∃ (i : Nat), i ≤ b.length ∧ iv = .int .i64 (i : Int) ∧ Hid (OwnS w wr (symsB (b.take i)) vv)) (fun _ iv _ => b.length - (intOf iv).toNat)
  case atStart => exact ⟨0, Nat.zero_le _, rfl, Own1.nil w⟩
  case round =>
    obtain ⟨i, hi, rfl, HO⟩ := hrel
    have him : (i : Int) ≤ 300 := by omega
    obtain ⟨pv, cv, hvv⟩ := HO.out.shape
    subst hvv
    by_cases hlt : i < b.length
    · have hlt' : (i : Int) < (b.length : Int) := by omega
      obtain ⟨⟨ls, ss⟩, hx⟩ : ∃ s, b[i]? = some s := ⟨_, List.getElem?_eq_getElem hlt⟩
      obtain ⟨blk, off, h1, h2, e, ⟨p1, k1, e1⟩, ⟨p4, k4, e4⟩, hal⟩ := H.out.always hx
      subst e
      simp only at e1 e4
      subst e1 e4
      have hll := HSm.out.lab _ (List.mem_of_getElem? hx)
      have HL1 : Hid (ls.length ≤ 200) := hll
      have HSt := Lib.hid (symsB_step hx)
      have HLn : Hid ((symsB (b.take i)).length ≤ 120000) := by show _ ≤ _; have := symsB_len HSm.out.lab i; omega
      obtain ⟨c1, c2, _⟩ := hal wr HO.out.bel
      obtain ⟨w2, hw2⟩ : ∃ w2, w2 = wr.alloc (.cells #[.slice p1 ls.length k1, .slice p4 ss.length k4] 37) := ⟨_, rfl⟩
      have HW : Hid (wr.alloc (.cells #[.slice p1 ls.length k1, .slice p4 ss.length k4] 37) = w2) := hw2.symm
      have hB2 : Below wr.heap.size wr w2 := by rw [hw2]; exact (Below.refl _ wr).alloc (Nat.le_refl _) _
      have HO1 := Lib.hid (HO.out.below hB2)
      have HStr := Lib.hid (labStrings_any _ ls w2 (hal w2 (HO.out.bel.trans (hB2.mono HO.out.bel.size))).2.2.1 (by have := HL1.out; omega))
      have HSl := Lib.hid (stringsL_len ls)
      simp only at HStr
      clear hx hal hll hw2 hB2
      generalize symsB (b.take i) = D at *
      obtain ⟨dl, hdl⟩ : ∃ dl, D.length = dl := ⟨_, rfl⟩
      have HDl := Lib.hid hdl
      rw [hdl] at HO HO1 HLn ⊢
      clear hdl
      go_wp2_with fail
      rw [HW.out]
      clear HW HO
      refine HStr.out.mono ?_
      rintro e w3 ⟨r, rfl, hS⟩
      obtain ⟨p2, c2, hv2⟩ := hS.shape
      subst hv2
      have HO2 := Lib.hid (HO1.out.below hS.bel)
      have HS2 := Lib.hid hS.rd
      generalize stringsL ls = E at *
      obtain ⟨el, hel⟩ : ∃ el, E.length = el := ⟨_, rfl⟩
      have HEl := Lib.hid hel
      rw [hel] at HS2 HSl ⊢
      clear hS HO1 c1 hel
      have HOv : Hid (w3.ownsRow 0 9 1 (.slice pv dl cv) dl (strs D)) := by
        have h := HO2.out.base0
        rw [HDl.out] at h
        exact h
      have HLb : Hid ((dl + el) * 16 ≤ 140737488355328 ∧ dl + el ≤ maxLen) := by show _ ∧ _; have := HSl.out; have := HL1.out; have := HLn.out; unfold maxLen; omega
      go_wp2_with (at_builtin; refine wpList_extend Tryz.elemStr _ _ _ _ _ _ _ HOv.out HS2.out (strs_one E) HLb.out rfl _ _ rfl rfl rfl ?_)
      intro v3 w4 k1 m1 f1
      have HO3 : Hid (OwnS w w4 (symsB (b.take (i + 1))) v3) := by
        show OwnS _ _ _ _
        rw [HSt.out]
        exact HO2.out.extended (by rw [HDl.out, HEl.out]; exact k1) m1 f1
      obtain ⟨p3, c3, hv3⟩ := (Rd.of_owns k1).shape
      subst hv3
      clear k1 m1 f1 HO2 HOv
      go_wp2_with fail
      go_round
      case rel => exact ⟨i + 1, by omega, by go_num, HO3.out⟩
      case measure => simp [intOf]; omega
    · have hlt' : ¬ (i : Int) < (b.length : Int) := by omega
      have HE : Hid (b.take i = b) := List.take_of_length_le (by omega)
      have HLn : Hid ((symsB (b.take i)).length ≤ 120000) := by show _ ≤ _; have := symsB_len HSm.out.lab i; omega
      have HT := Lib.hid (table_met _ (symsB (b.take i)) wr HO.out.rd (by have := HLn.out; omega))
      have HBel := Lib.hid HO.out.bel
      rw [HE.out] at HT HO HLn ⊢
      clear HE HO
      go_wp2_with fail
      refine HT.out.mono ?_
      rintro e w2 ⟨r, rfl, hO⟩
      have HO2 : Hid (GotL w (tabS (symsB b)) r w2) := ⟨hO.rd, fun k hk => by have := hO.far k hk; have := HBel.out.size; omega, HBel.out.trans (hO.bel.mono HBel.out.size)⟩
      obtain ⟨p2, c2, hv2⟩ := hO.rd.shape
      subst hv2
      clear hO HT
      go_wp2_with fail
      go_ret
      exact ⟨_, rfl, HO2.out⟩
end Go.Proofs.YtkodhbkmpnokjaaGreat

end

section
/- slices.Equal of two rows of labels. -/
set_option linter.unusedVariables false
set_option maxRecDepth 20000
namespace Go.Proofs.YtkodhbkmpnokjaaGreat
open Go Go.RowKit

set_option maxHeartbeats 2000000 in
theorem eqLab_any (av bv : Value) (a b : List Lab) (w : World) (ha : Rd w 2 av a.length (labCells a)) (hb : Rd w 2 bv b.length (labCells b)) (hn : a.length ≤ 1000000) :
    Calls Tryz.prog 62 #[av, bv] w fun e w' => e = .returned (.bool (decide (a = b))) ∧ Below w.heap.size w w' := by
  have HA := Lib.hid ha; have HB := Lib.hid hb
  obtain ⟨pa, ca, hv⟩ := ha.shape
  subst hv
  obtain ⟨pb, cb, hv⟩ := hb.shape
  subst hv
  have hmx : (a.length : Int) ≤ 1000000 := by omega
  clear ha hb hn
  by_cases hl : a.length = b.length
  · have HL := Lib.hid hl
    rw [← hl] at HB ⊢
    clear hl
    go_enter Tryz.func62, Tryz.ntmps62
    go_wp2_with fail
    go_loopw [13] (fun iv wr => ∃ i : Nat, i ≤ a.length ∧ iv = .int .i64 (i : Int) ∧ Hid (a.take i = b.take i) ∧ Hid (Below w.heap.size w wr)) (fun iv _ => a.length - (intOf iv).toNat)
    case atStart => exact ⟨0, by omega, rfl, rfl, Below.refl _ _⟩
    case round =>
      obtain ⟨i, hi, rfl, HT, HBw⟩ := hrel
      have him : (i : Int) ≤ 1000000 := by omega
      by_cases hlt : i < a.length
      · have hlt' : (i : Int) < (a.length : Int) := by omega
        obtain ⟨⟨x1, x2⟩, hx⟩ : ∃ x, a[i]? = some x := ⟨_, List.getElem?_eq_getElem hlt⟩
        obtain ⟨⟨y1, y2⟩, hy⟩ : ∃ y, b[i]? = some y := ⟨_, List.getElem?_eq_getElem (by rw [← HL.out]; exact hlt)⟩
        obtain ⟨b1, o1, e⟩ := rd2_at HA.out hx
        subst e
        obtain ⟨b2, o2, e⟩ := rd2_at HB.out hy
        subst e
        obtain ⟨h1, h2⟩ := rd2_cell (HA.out.below HBw.out) hx
        obtain ⟨h3, h4⟩ := rd2_cell (HB.out.below HBw.out) hy
        have HNe : Hid (¬ (x1 = y1 ∧ x2 = y2) → decide (a = b) = false) := fun h => decide_eq_false fun e => by
          rw [e, hy] at hx
          cases hx
          exact h ⟨rfl, rfl⟩
        have HT2 : Hid (x1 = y1 → x2 = y2 → a.take (i + 1) = b.take (i + 1)) := fun e1 e2 => by rw [List.take_add_one, List.take_add_one, HT.out, hx, hy, e1, e2]
        clear hx hy HT
        simp only at h1 h2 h3 h4
        by_cases e1 : x1 = y1
        · subst e1
          by_cases e2 : x2 = y2
          · subst e2
            have HT3 := Lib.hid (HT2.out rfl rfl)
            clear HNe HT2
            go_wp2_with fail
            go_quiet (fail)
            have HB2 : Hid (Below w.heap.size w (wr.drewN nq)) := HBw.out.trans ⟨rfl, rfl, rfl, Nat.le_refl _, fun _ _ => rfl⟩
            clear h1 h2 h3 h4
            generalize wr.drewN nq = w2 at *
            go_wp2_with fail
            go_round
            case rel => exact ⟨i + 1, by omega, by go_num, HT3.out, HB2.out⟩
            case measure => simp [intOf]; omega
          · have HE := Lib.hid (HNe.out (fun h => e2 h.2))
            have hne : (x2.toList == y2.toList) = false := by rw [eqS]; simpa using e2
            clear HNe HT2 e2
            go_wp2_with fail
            go_quiet (fail)
            have HB2 : Hid (Below w.heap.size w (wr.drewN nq)) := HBw.out.trans ⟨rfl, rfl, rfl, Nat.le_refl _, fun _ _ => rfl⟩
            clear h1 h2 h3 h4
            generalize wr.drewN nq = w2 at *
            go_wp2_with fail
            go_ret
            exact ⟨by rw [HE.out]; rfl, HB2.out⟩
        · have HE := Lib.hid (HNe.out (fun h => e1 h.1))
          have hne : (x1.toList == y1.toList) = false := by rw [eqS]; simpa using e1
          clear HNe HT2 e1
          go_wp2_with fail
          go_quiet (fail)
          have HB2 : Hid (Below w.heap.size w (wr.drewN nq)) := HBw.out.trans ⟨rfl, rfl, rfl, Nat.le_refl _, fun _ _ => rfl⟩
          clear h1 h2 h3 h4
          generalize wr.drewN nq = w2 at *
          go_wp2_with fail
          go_ret
          exact ⟨by rw [HE.out]; rfl, HB2.out⟩
      · have hlt' : ¬ (i : Int) < (a.length : Int) := by omega
        have HE : Hid (decide (a = b) = true) := decide_eq_true (by have := HT.out; rw [List.take_of_length_le (by omega), List.take_of_length_le (by rw [← HL.out]; omega)] at this; exact this)
        go_wp2_with fail
        go_ret
        exact ⟨by rw [HE.out]; rfl, HBw.out⟩
  · have hlb : ((a.length : Int) == (b.length : Int)) = false := by rw [beq_eq_false_iff_ne]; omega
    have HR : Hid (decide (a = b) = false) := decide_eq_false fun e => hl (by rw [e])
    clear hl
    go_enter Tryz.func62, Tryz.ntmps62
    go_wp2_with fail
    go_ret
    exact ⟨by rw [HR.out]; rfl, Below.refl _ _⟩
end Go.Proofs.YtkodhbkmpnokjaaGreat

end

section
/- slices.Equal of two rows of samples. -/
set_option linter.unusedVariables false
set_option maxRecDepth 20000
namespace Go.Proofs.YtkodhbkmpnokjaaGreat
open Go Go.RowKit

set_option maxHeartbeats 2000000 in
theorem eqSam_any (av bv : Value) (a b : List (Int × Nat)) (w : World) (ha : Rd w 2 av a.length (samCells a)) (hb : Rd w 2 bv b.length (samCells b)) (hn : a.length ≤ 1000000) :
    Calls Tryz.prog 63 #[av, bv] w fun e w' => e = .returned (.bool (decide (a = b))) ∧ Below w.heap.size w w' := by
  have HA := Lib.hid ha; have HB := Lib.hid hb
  obtain ⟨pa, ca, hv⟩ := ha.shape
  subst hv
  obtain ⟨pb, cb, hv⟩ := hb.shape
  subst hv
  have hmx : (a.length : Int) ≤ 1000000 := by omega
  clear ha hb hn
  by_cases hl : a.length = b.length
  · have HL := Lib.hid hl
    rw [← hl] at HB ⊢
    clear hl
    go_enter Tryz.func63, Tryz.ntmps63
    go_wp2_with fail
    go_loopw [13] (fun iv wr => ∃ i : Nat, i ≤ a.length ∧ iv = .int .i64 (i : Int) ∧ Hid (a.take i = b.take i) ∧ Hid (Below w.heap.size w wr)) (fun iv _ => a.length - (intOf iv).toNat)
    case atStart => exact ⟨0, by omega, rfl, rfl, Below.refl _ _⟩
    case round =>
      obtain ⟨i, hi, rfl, HT, HBw⟩ := hrel
      have him : (i : Int) ≤ 1000000 := by omega
      by_cases hlt : i < a.length
      · have hlt' : (i : Int) < (a.length : Int) := by omega
        obtain ⟨⟨x1, x2⟩, hx⟩ : ∃ x, a[i]? = some x := ⟨_, List.getElem?_eq_getElem hlt⟩
        obtain ⟨⟨y1, y2⟩, hy⟩ : ∃ y, b[i]? = some y := ⟨_, List.getElem?_eq_getElem (by rw [← HL.out]; exact hlt)⟩
        obtain ⟨b1, o1, e⟩ := rd2_at (samCells_two a ▸ HA.out) hx
        subst e
        obtain ⟨b2, o2, e⟩ := rd2_at (samCells_two b ▸ HB.out) hy
        subst e
        obtain ⟨h1, h2⟩ := rd2_cell (samCells_two a ▸ HA.out.below HBw.out) hx
        obtain ⟨h3, h4⟩ := rd2_cell (samCells_two b ▸ HB.out.below HBw.out) hy
        have HNe : Hid (¬ (x1 = y1 ∧ x2 = y2) → decide (a = b) = false) := fun h => decide_eq_false fun e => by
          rw [e, hy] at hx
          cases hx
          exact h ⟨rfl, rfl⟩
        have HT2 : Hid (x1 = y1 → x2 = y2 → a.take (i + 1) = b.take (i + 1)) := fun e1 e2 => by rw [List.take_add_one, List.take_add_one, HT.out, hx, hy, e1, e2]
        clear hx hy HT
        simp only at h1 h2 h3 h4
        by_cases e1 : x1 = y1
        · subst e1
          by_cases e2 : x2 = y2
          · subst e2
            have HT3 := Lib.hid (HT2.out rfl rfl)
            clear HNe HT2
            go_wp2_with fail
            go_quiet (fail)
            have HB2 : Hid (Below w.heap.size w (wr.drewN nq)) := HBw.out.trans ⟨rfl, rfl, rfl, Nat.le_refl _, fun _ _ => rfl⟩
            clear h1 h2 h3 h4
            generalize wr.drewN nq = w2 at *
            go_wp2_with fail
            go_round
            case rel => exact ⟨i + 1, by omega, by go_num, HT3.out, HB2.out⟩
            case measure => simp [intOf]; omega
          · have HE := Lib.hid (HNe.out (fun h => e2 h.2))
            have hne : ((x2 : Int) == (y2 : Int)) = false := by rw [beq_eq_false_iff_ne]; omega
            clear HNe HT2 e2
            go_wp2_with fail
            go_quiet (fail)
            have HB2 : Hid (Below w.heap.size w (wr.drewN nq)) := HBw.out.trans ⟨rfl, rfl, rfl, Nat.le_refl _, fun _ _ => rfl⟩
            clear h1 h2 h3 h4
            generalize wr.drewN nq = w2 at *
            go_wp2_with fail
            go_ret
            exact ⟨by rw [HE.out]; rfl, HB2.out⟩
        · have HE := Lib.hid (HNe.out (fun h => e1 h.1))
          have hne : (x1 == y1) = false := by rw [beq_eq_false_iff_ne]; exact e1
          clear HNe HT2 e1
          go_wp2_with fail
          go_quiet (fail)
          have HB2 : Hid (Below w.heap.size w (wr.drewN nq)) := HBw.out.trans ⟨rfl, rfl, rfl, Nat.le_refl _, fun _ _ => rfl⟩
          clear h1 h2 h3 h4
          generalize wr.drewN nq = w2 at *
          go_wp2_with fail
          go_ret
          exact ⟨by rw [HE.out]; rfl, HB2.out⟩
      · have hlt' : ¬ (i : Int) < (a.length : Int) := by omega
        have HE : Hid (decide (a = b) = true) := decide_eq_true (by have := HT.out; rw [List.take_of_length_le (by omega), List.take_of_length_le (by rw [← HL.out]; omega)] at this; exact this)
        go_wp2_with fail
        go_ret
        exact ⟨by rw [HE.out]; rfl, HBw.out⟩
  · have hlb : ((a.length : Int) == (b.length : Int)) = false := by rw [beq_eq_false_iff_ne]; omega
    have HR : Hid (decide (a = b) = false) := decide_eq_false fun e => hl (by rw [e])
    clear hl
    go_enter Tryz.func63, Tryz.ntmps63
    go_wp2_with fail
    go_ret
    exact ⟨by rw [HR.out]; rfl, Below.refl _ _⟩
end Go.Proofs.YtkodhbkmpnokjaaGreat

end

section
/- Layer 12, the program's own: equalSeries, Equal. -/
set_option linter.unusedVariables false
set_option maxRecDepth 20000
namespace Go.Proofs.YtkodhbkmpnokjaaGreat
open Go Go.RowKit

set_option maxHeartbeats 2000000 in
theorem equalSeries_any (x y : Hd) (s t : Ser) (w : World) (hx : SerAt w x s) (hy : SerAt w y t) (h1 : s.1.length ≤ 1000000) (h2 : s.2.length ≤ 1000000) :
    Calls Tryz.prog 42 #[.agg #[x.1, x.2], .agg #[y.1, y.2]] w fun e w' => e = .returned (.bool (decide (s = t))) ∧ Below w.heap.size w w' := by
  obtain ⟨x1, x2⟩ := x
  obtain ⟨y1, y2⟩ := y
  obtain ⟨s1, s2⟩ := s
  obtain ⟨t1, t2⟩ := t
  obtain ⟨p1, c1, e1⟩ := hx.1.shape
  obtain ⟨p2, c2, e2⟩ := hx.2.shape
  obtain ⟨p3, c3, e3⟩ := hy.1.shape
  obtain ⟨p4, c4, e4⟩ := hy.2.shape
  simp only at e1 e2 e3 e4 h1 h2
  subst e1 e2 e3 e4
  obtain ⟨W2, hW2⟩ : ∃ W2, W2 = (w.alloc (.cells #[.slice p1 s1.length c1, .slice p2 s2.length c2] 37)).alloc (.cells #[.slice p3 t1.length c3, .slice p4 t2.length c4] 37) := ⟨_, rfl⟩
  have HW : Hid ((w.alloc (.cells #[.slice p1 s1.length c1, .slice p2 s2.length c2] 37)).alloc (.cells #[.slice p3 t1.length c3, .slice p4 t2.length c4] 37) = W2) := hW2.symm
  have HB2 : Hid (Below w.heap.size w W2) := by show Below _ _ _; rw [hW2]; exact ((Below.refl _ w).alloc (Nat.le_refl _) _).alloc (by simp) _
  have HA2 : Hid (Blk W2 w.heap.size [.slice p1 s1.length c1, .slice p2 s2.length c2]) := by show Blk _ _ _; rw [hW2]; exact (Blk.new w _ _).alloc _
  have HC2 : Hid (Blk W2 (w.heap.size + 1) [.slice p3 t1.length c3, .slice p4 t2.length c4]) := by
    have h := Blk.new (w.alloc (.cells #[.slice p1 s1.length c1, .slice p2 s2.length c2] 37)) #[.slice p3 t1.length c3, .slice p4 t2.length c4] 37
    rw [← hW2] at h
    rwa [show (w.alloc (.cells #[.slice p1 s1.length c1, .slice p2 s2.length c2] 37)).heap.size = w.heap.size + 1 by simp] at h
  have HL := Lib.hid (eqLab_any _ _ s1 t1 W2 (hx.1.below HB2.out) (hy.1.below HB2.out) h1)
  have HX2 := Lib.hid (hx.2.below HB2.out)
  have HY2 := Lib.hid (hy.2.below HB2.out)
  have HN2 : Hid (s2.length ≤ 1000000) := h2
  simp only at HL HX2 HY2
  clear hx hy h1 h2 hW2
  go_enter Tryz.func42, Tryz.ntmps42
  by_cases hc : s1 = t1
  · rw [decide_eq_true hc] at HL
    have HE : Hid (decide ((s1, s2) = (t1, t2)) = decide (s2 = t2)) := by
      show _ = _
      rw [decide_eq_decide]
      exact ⟨fun e => (Prod.mk.inj e).2, fun e => by rw [hc, e]⟩
    clear hc
    go_wp2_with fail
    rw [HW.out]
    refine HL.out.mono ?_
    rintro e w3 ⟨rfl, hB⟩
    have HB3 : Hid (Below w.heap.size w w3) := HB2.out.trans (hB.mono HB2.out.size)
    have HA3 := Lib.hid (HA2.out.of_same (hB.block _ HA2.out.lt))
    have HC3 := Lib.hid (HC2.out.of_same (hB.block _ HC2.out.lt))
    have k1 : w3.cell? ⟨w.heap.size, 1, none⟩ = some (.slice p2 s2.length c2) := by rw [HA3.out.cell]; rfl
    have k2 : w3.cell? ⟨w.heap.size + 1, 1, none⟩ = some (.slice p4 t2.length c4) := by rw [HC3.out.cell]; rfl
    have HS := Lib.hid (eqSam_any _ _ s2 t2 w3 (HX2.out.below hB) (HY2.out.below hB) HN2.out)
    generalize decide (s2 = t2) = bb at *
    clear hB HL HW HA2 HC2 HX2 HY2 HB2
    go_wp2_with fail
    refine HS.out.mono ?_
    rintro e w4 ⟨rfl, hB⟩
    have HB4 : Hid (Below w.heap.size w w4) := HB3.out.trans (hB.mono HB3.out.size)
    clear hB HS k1 k2
    go_wp2_with fail
    go_ret
    exact ⟨by rw [HE.out]; simp, HB4.out⟩
  · rw [decide_eq_false hc] at HL
    have HE : Hid (decide ((s1, s2) = (t1, t2)) = false) := decide_eq_false fun e => hc (Prod.mk.inj e).1
    clear hc
    go_wp2_with fail
    rw [HW.out]
    refine HL.out.mono ?_
    rintro e w3 ⟨rfl, hB⟩
    have HB3 : Hid (Below w.heap.size w w3) := HB2.out.trans (hB.mono HB2.out.size)
    clear hB HL HW HA2 HC2 HX2 HY2 HB2
    go_wp2_with fail
    go_ret
    exact ⟨by rw [HE.out]; rfl, HB3.out⟩

set_option maxHeartbeats 4000000 in
theorem equalFunc_any (av bv : Value) (a b : List Ser) (w : World) (ha : RdB w av a) (hb : RdB w bv b) (sa : Small a) (sb : Small b) :
    Calls Tryz.prog 41 #[av, bv, .func (.func 42) #[] #[]] w fun e w' => e = .returned (.bool (decide (a = b))) ∧ Below w.heap.size w w' := by
  have HA := Lib.hid ha; have HB0 := Lib.hid hb; have SA := Lib.hid sa; have SB := Lib.hid sb
  obtain ⟨pa, ca, hv⟩ := ha.shape
  subst hv
  obtain ⟨pb, cb, hv⟩ := hb.shape
  subst hv
  have hma : (a.length : Int) ≤ 300 := by have := sa.len; omega
  have hmb : (b.length : Int) ≤ 300 := by have := sb.len; omega
  clear ha hb sa sb
  by_cases hl : a.length = b.length
  · have HL := Lib.hid hl
    rw [← hl] at HB0 ⊢
    clear hl hmb
    go_enter Tryz.func41, Tryz.ntmps41
    go_wp2_with fail
    go_loopw [17] (fun iv wr => ∃ (i : Nat), i ≤ a.length ∧ iv = .int .i64 (i : Int) ∧ Hid (a.take i = b.take i) ∧ Hid (Below w.heap.size w wr)) (fun iv _ => a.length - (intOf iv).toNat)
    case atStart => exact ⟨0, Nat.zero_le _, rfl, rfl, Below.refl _ _⟩
    case round =>
      obtain ⟨i, hi, rfl, HT, HB⟩ := hrel
      have him : (i : Int) ≤ 300 := by omega
      by_cases hlt : i < a.length
      · have hlt' : (i : Int) < (a.length : Int) := by omega
        obtain ⟨s, hx⟩ : ∃ x, a[i]? = some x := ⟨_, List.getElem?_eq_getElem hlt⟩
        obtain ⟨t, hy⟩ : ∃ y, b[i]? = some y := ⟨_, List.getElem?_eq_getElem (by rw [← HL.out]; exact hlt)⟩
        obtain ⟨ba, oa, h1, h2, e, ⟨p1, k1, e1⟩, ⟨p2, k2, e2⟩, hal⟩ := HA.out.always hx
        subst e
        subst e1
        subst e2
        obtain ⟨bb, ob, g1, g2, e, ⟨p3, k3, e3⟩, ⟨p4, k4, e4⟩, hbl⟩ := HB0.out.always hy
        subst e
        subst e3
        subst e4
        have hmx := List.mem_of_getElem? hx
        have HLs : Hid (s.1.length ≤ 200 ∧ s.2.length ≤ 3000) := ⟨SA.out.lab _ hmx, SA.out.mem hmx⟩
        have HNe : Hid (¬ s = t → decide (a = b) = false) := fun h => decide_eq_false fun e => by
          rw [e, hy] at hx
          cases hx
          exact h rfl
        have HT2 : Hid (s = t → a.take (i + 1) = b.take (i + 1)) := fun e => by rw [List.take_add_one, List.take_add_one, HT.out, hx, hy, e]
        obtain ⟨W1, hW1⟩ : ∃ W1, W1 = wr.alloc (.cells #[.slice p1 s.1.length k1, .slice p2 s.2.length k2] 37) := ⟨_, rfl⟩
        obtain ⟨W2, hW2⟩ : ∃ W2, W2 = W1.alloc (.cells #[.slice p3 t.1.length k3, .slice p4 t.2.length k4] 37) := ⟨_, rfl⟩
        have HB1 : Hid (Below w.heap.size w W1) := by show Below _ _ _; rw [hW1]; exact HB.out.alloc HB.out.size _
        have HB2 : Hid (Below w.heap.size w W2) := by show Below _ _ _; rw [hW2]; exact HB1.out.alloc HB1.out.size _
        have HW1 : Hid (wr.alloc (.cells #[.slice p1 s.1.length k1, .slice p2 s.2.length k2] 37) = W1) := hW1.symm
        have HW2 : Hid (W1.alloc (.cells #[.slice p3 t.1.length k3, .slice p4 t.2.length k4] 37) = W2) := hW2.symm
        obtain ⟨cA, cA2, _⟩ := hal wr HB.out
        have hcB : (wr.alloc (.cells #[.slice p1 s.1.length k1, .slice p2 s.2.length k2] 37)).cell? ⟨bb, ob + i * 2, none⟩ = some (.slice p3 t.1.length k3) ∧ (wr.alloc (.cells #[.slice p1 s.1.length k1, .slice p2 s.2.length k2] 37)).cell? ⟨bb, ob + i * 2 + 1, none⟩ = some (.slice p4 t.2.length k4) := by
          rw [HW1.out]; exact ⟨(hbl W1 HB1.out).1, (hbl W1 HB1.out).2.1⟩
        obtain ⟨cB, cB2⟩ := hcB
        have HCm := Lib.hid (equalSeries_any (.slice p1 s.1.length k1, .slice p2 s.2.length k2) (.slice p3 t.1.length k3, .slice p4 t.2.length k4) s t W2 (hal W2 HB2.out).2.2 (hbl W2 HB2.out).2.2 (by have := HLs.out.1; omega) (by have := HLs.out.2; omega))
        simp only at HCm
        clear hx hy hal hbl hmx hW1 hW2 HT
        by_cases hc : s = t
        · have HT3 := Lib.hid (HT2.out hc)
          rw [decide_eq_true hc] at HCm
          clear hc HNe HT2
          go_wp2_with fail
          rw [HW1.out, HW2.out]
          refine HCm.out.mono ?_
          rintro e w4 ⟨rfl, hB⟩
          have HB4 : Hid (Below w.heap.size w w4) := HB2.out.trans (hB.mono HB2.out.size)
          clear hB HCm cA cA2 cB cB2 HW1 HW2
          go_wp2_with fail
          go_round
          case rel => exact ⟨i + 1, by omega, by go_num, HT3.out, HB4.out⟩
          case measure => simp [intOf]; omega
        · have HE := Lib.hid (HNe.out hc)
          rw [decide_eq_false hc] at HCm
          clear hc HNe HT2
          go_wp2_with fail
          rw [HW1.out, HW2.out]
          refine HCm.out.mono ?_
          rintro e w4 ⟨rfl, hB⟩
          have HB4 : Hid (Below w.heap.size w w4) := HB2.out.trans (hB.mono HB2.out.size)
          clear hB HCm cA cA2 cB cB2 HW1 HW2
          go_wp2_with fail
          go_ret
          exact ⟨by rw [HE.out]; rfl, HB4.out⟩
      · have hlt' : ¬ (i : Int) < (a.length : Int) := by omega
        have HE : Hid (decide (a = b) = true) := decide_eq_true (by have := HT.out; rw [List.take_of_length_le (by omega), List.take_of_length_le (by rw [← HL.out]; omega)] at this; exact this)
        go_wp2_with fail
        go_ret
        exact ⟨by rw [HE.out]; rfl, HB.out⟩
  · have hlb : ((a.length : Int) == (b.length : Int)) = false := by rw [beq_eq_false_iff_ne]; omega
    have HR : Hid (decide (a = b) = false) := decide_eq_false fun e => hl (by rw [e])
    clear hl
    go_enter Tryz.func41, Tryz.ntmps41
    go_wp2_with fail
    go_ret
    exact ⟨by rw [HR.out]; rfl, Below.refl _ _⟩

theorem modEqual_any (av bv : Value) (a b : List Ser) (w : World) (ha : RdB w av a) (hb : RdB w bv b) (sa : Small a) (sb : Small b) :
    Calls Tryz.prog 16 #[av, bv] w fun e w' => e = .returned (.bool (decide (a = b))) ∧ Below w.heap.size w w' := by
  have HC := Lib.hid (equalFunc_any av bv a b w ha hb sa sb)
  obtain ⟨pa, ca, hv⟩ := ha.shape
  subst hv
  obtain ⟨pb, cb, hv⟩ := hb.shape
  subst hv
  clear ha hb sa sb
  generalize decide (a = b) = o at *
  go_enter Tryz.func16, Tryz.ntmps16
  go_wp2_with fail
  refine HC.out.mono ?_
  rintro e w2 ⟨rfl, hB⟩
  have HB := Lib.hid hB
  clear hB HC
  go_wp2_with fail
  go_ret
  exact ⟨rfl, HB.out⟩
end Go.Proofs.YtkodhbkmpnokjaaGreat

end
