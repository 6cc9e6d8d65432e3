/- SortRowK, MdS, LbS, LabPs, CloneLab, LbN, CopyK, CpS, Array, Struct, BlkTwo, in one text. -/
import Derived.Test.YtkodhbkmpnokjaaGreatMrg1
import Derived.Shelf.SlSortCmp.InsertionK
import Derived.Test.YtkodhbkmpnokjaaGreatMrg9
import Derived.Shelf.SlSortCmp.NoneTotal
import Derived.Test.YtkodhbkmpnokjaaGreatMrg8
import Derived.Test.YtkodhbkmpnokjaaGreatMrg2
import Derived.Test.YtkodhbkmpnokjaaGreatMrg4
import Derived.Laws.CopyRow
import Derived.Laws.CopyOwn
import Derived.Laws.IdiomCopy
import Derived.OwnWalk
import Derived.Laws.Rows
import Derived.Laws.PanicsMore
import Derived.Deep.MidRow
import Derived.Test.YtkodhbkmpnokjaaGreatMrg3

section
/- Rows of elements of k cells, as slices.SortFunc's contract speaks of them: an owned row is held, and owned again when it is sorted. No program in sight. -/
set_option linter.unusedVariables false
namespace Go.Proofs.YtkodhbkmpnokjaaGreat
open Go Go.RowKit

section
variable {α : Type} [Inhabited α] (enc : α → List Value) (k : Nat)

omit [Inhabited α] in
theorem flatEnc_get (hk : ∀ x, (enc x).length = k) (hk0 : 0 < k) (l : List α) : ∀ (t : Nat), (l.flatMap enc)[t]? = (l[t / k]?).bind (fun x => (enc x)[t % k]?) := by
  induction l with
  | nil => intro t; simp
  | cons x l ih =>
    intro t
    rw [List.flatMap_cons]
    by_cases ht : t < k
    · rw [List.getElem?_append_left (by rw [hk]; exact ht), Nat.div_eq_of_lt ht, Nat.mod_eq_of_lt ht]; rfl
    · have hge : k ≤ t := Nat.le_of_not_lt ht
      rw [List.getElem?_append_right (by rw [hk]; exact hge), hk, ih (t - k), Nat.mod_eq_sub_mod hge]
      have : t / k = (t - k) / k + 1 := Nat.div_eq_sub_div hk0 hge
      rw [this, List.getElem?_cons_succ]
theorem flatK_get (hk : ∀ x, (enc x).length = k) (hk0 : 0 < k) (d : Array α) (t : Nat) (ht : t < d.size * k) : (d.toList.flatMap enc)[t]? = some (Go.Sort.flatK enc k d)[t]! := by
  rw [flatEnc_get enc k hk hk0]
  have h1 : t / k < d.size := Nat.div_lt_of_lt_mul (by rwa [Nat.mul_comm])
  have h2 : t % k < k := Nat.mod_lt _ hk0
  rw [Go.Sort.get_flatK enc k d t ht, List.getElem?_eq_getElem (by simpa using h1)]
  show (enc d.toList[t / k])[t % k]? = _
  have h3 : d[t / k]! = d.toList[t / k]'(by simpa using h1) := by rw [getElem!_pos d _ h1]; simp
  rw [h3, List.getElem?_eq_getElem (by rw [hk]; exact h2), getElem!_pos]
omit [Inhabited α] in
theorem flatEnc_length (hk : ∀ x, (enc x).length = k) (l : List α) : (l.flatMap enc).length = l.length * k := by
  induction l with
  | nil => simp
  | cons x l ih => rw [List.flatMap_cons, List.length_append, ih, hk, List.length_cons, Nat.add_mul]; omega

theorem holdsK_of_block (hk : ∀ x, (enc x).length = k) (hk0 : 0 < k) {w : World} {g : Nat} {cur : Array Value} {e : TypeId} {l : List α} (hb : w.heap[g]? = some (.cells cur e (0, 0))) (ht : cur.toList.take (l.length * k) = l.flatMap enc) : Go.Sort.HoldsK enc k w g 0 l.toArray := by
  intro j hj
  have hj' : j < l.length * k := by simpa using hj
  refine ⟨?_, by simp [World.frozen?, hb]⟩
  have h1 : (cur.toList.take (l.length * k))[j]? = (l.flatMap enc)[j]? := by rw [ht]
  rw [List.getElem?_take_of_lt hj'] at h1
  have h2 := flatK_get enc k hk hk0 l.toArray j (by simpa using hj')
  simp only at h2
  simp only [World.cell?, hb, Nat.zero_add]
  simp only [Option.isSome_none, Bool.false_eq_true, if_false]
  rw [← Array.getElem?_toList, h1, h2]
  rfl

theorem heap_sortedK {w : World} {g n : Nat} {os : Array Obj} {cur : Array Value} {e : TypeId} {fr : Nat × Nat} (F : Array Value) (hb : w.heap[g]? = some (.cells cur e fr)) :
    (Go.Sort.grow (Go.Sort.putRow id (Go.Sort.ahead w n) g 0 F) os).heap[g]? = some (.cells (Go.Sort.putCells id 0 F cur) e fr) := by
  have hg : g < w.heap.size := (Array.getElem?_eq_some_iff.1 hb).1
  rw [Go.Sort.heap_grow_old _ _ (by simpa using hg)]
  simp [Go.Sort.putRow, Go.Sort.mapBlock, Go.Sort.ahead, Array.getElem?_modify, hb, Go.Sort.onCells]
theorem mods_sortedK {w : World} {g n : Nat} {os : Array Obj} (F : Array Value) : Mods (fun j => j = g) w (Go.Sort.grow (Go.Sort.putRow id (Go.Sort.ahead w n) g 0 F) os) := by
  refine ⟨rfl, rfl, rfl, by simp, fun j hj hne => ?_⟩
  rw [Go.Sort.heap_grow_old _ _ (by simpa using hj)]
  have : g ≠ j := fun e => hne e.symm
  simp [Go.Sort.putRow, Go.Sort.mapBlock, Go.Sort.ahead, Array.getElem?_modify, this]
theorem take_putK (hk : ∀ x, (enc x).length = k) (hk0 : 0 < k) (cur : Array Value) (d : Array α) (h : d.size * k ≤ cur.size) : (Go.Sort.putCells id 0 (Go.Sort.flatK enc k d) cur).toList.take (d.size * k) = d.toList.flatMap enc := by
  apply List.ext_getElem?
  intro j
  by_cases hj : j < d.size * k
  · rw [List.getElem?_take_of_lt hj, Array.getElem?_toList, flatK_get enc k hk hk0 d j hj]
    simp [Go.Sort.putCells, hj, show j < cur.size by omega]
  · rw [List.getElem?_take_eq_none (by omega), List.getElem?_eq_none (by rw [flatEnc_length enc k hk]; simp; omega)]

/-- Behind the sort the same slice owns the elements in their new order. -/
theorem ownsRow_sortedK (hk : ∀ x, (enc x).length = k) (hk0 : 0 < k) {w : World} {base g cap n m : Nat} {e : TypeId} {os : Array Obj} {cur : Array Value} {d : Array α} (hl : d.size = m) (hbase : base ≤ g) (hb : w.heap[g]? = some (.cells cur e (0, 0)))
    (h1 : m ≤ cap) (h2 : cap ≤ maxLen) (h3 : cur.size = cap * k) :
    (sortWorldK enc k w g 0 n d os).ownsRow base e k (.slice (some ⟨g, 0, none⟩) m cap) m (d.toList.flatMap enc) := by
  subst hl
  refine ⟨by rw [flatEnc_length enc k hk]; simp, .inr ⟨g, cap, _, rfl, hbase, heap_sortedK (Go.Sort.flatK enc k d) hb, h1, h2, by simp [Go.Sort.putCells, h3], ?_⟩⟩
  exact take_putK enc k hk hk0 cur d (by rw [h3]; exact Nat.mul_le_mul_right k h1)
end
end Go.Proofs.YtkodhbkmpnokjaaGreat

end

section
/- Layer 12, the program's own: slices.SortFunc at samples, by times. -/
set_option linter.unusedVariables false
set_option maxRecDepth 20000
namespace Go.Proofs.YtkodhbkmpnokjaaGreat
open Go Go.RowKit

def renSortSam : Go.Shelf.Ren := ⟨fun | 6 => 59 | 14 => 74 | 15 => 61 | 20 => 93 | 21 => 94 | 22 => 95 | 23 => 96 | 24 => 97 | 25 => 98 | 26 => 99 | 27 => 100 | 28 => 83 | 29 => 84 | 46 => 117 | 47 => 102 | 48 => 103 | 49 => 118 | 50 => 119 | 57 => 134 | n => n, fun | 0 => 0 | 3 => 3 | 4 => 4 | 5 => 5 | 9 => 9 | 22 => 35 | 24 => 42 | 25 => 74 | 39 => 82 | 45 => 95 | 46 => 96 | 50 => 100 | 53 => 103 | 55 => 40 | 66 => 118 | 70 => 122 | 76 => 134 | 77 => 135 | n => n, fun n => n⟩
theorem laysSortSam : Go.Proofs.SlLaysF0.n6 Tryz.prog renSortSam := { mixed := by kernel_rfl, f6 := ⟨"slices.SortFunc[[]tsblock/api.Sample,tsblock/api.Sample]", by decide, Tryz.func59.trans (congrArg some (by kernel_rfl))⟩, f14 := ⟨"slices.pdqsortCmpFunc[tsblock/api.Sample]", by decide, Tryz.func74.trans (congrArg some (by kernel_rfl))⟩, f15 := Tryz.func61.trans (congrArg some (by kernel_rfl)), f20 := ⟨"slices.insertionSortCmpFunc[tsblock/api.Sample]", by decide, Tryz.func93.trans (congrArg some (by kernel_rfl))⟩, f21 := ⟨"slices.heapSortCmpFunc[tsblock/api.Sample]", by decide, Tryz.func94.trans (congrArg some (by kernel_rfl))⟩, f22 := ⟨"slices.breakPatternsCmpFunc[tsblock/api.Sample]", by decide, Tryz.func95.trans (congrArg some (by kernel_rfl))⟩, f23 := ⟨"slices.choosePivotCmpFunc[tsblock/api.Sample]", by decide, Tryz.func96.trans (congrArg some (by kernel_rfl))⟩, f24 := ⟨"slices.reverseRangeCmpFunc[tsblock/api.Sample]", by decide, Tryz.func97.trans (congrArg some (by kernel_rfl))⟩, f25 := ⟨"slices.partialInsertionSortCmpFunc[tsblock/api.Sample]", by decide, Tryz.func98.trans (congrArg some (by kernel_rfl))⟩, f26 := ⟨"slices.partitionEqualCmpFunc[tsblock/api.Sample]", by decide, Tryz.func99.trans (congrArg some (by kernel_rfl))⟩, f27 := ⟨"slices.partitionCmpFunc[tsblock/api.Sample]", by decide, Tryz.func100.trans (congrArg some (by kernel_rfl))⟩, f28 := Tryz.func83.trans (congrArg some (by kernel_rfl)), f29 := Tryz.func84.trans (congrArg some (by kernel_rfl)), f46 := ⟨"slices.siftDownCmpFunc[tsblock/api.Sample]", by decide, Tryz.func117.trans (congrArg some (by kernel_rfl))⟩, f47 := Tryz.func102.trans (congrArg some (by kernel_rfl)), f48 := Tryz.func103.trans (congrArg some (by kernel_rfl)), f49 := ⟨"slices.medianAdjacentCmpFunc[tsblock/api.Sample]", by decide, Tryz.func118.trans (congrArg some (by kernel_rfl))⟩, f50 := ⟨"slices.medianCmpFunc[tsblock/api.Sample]", by decide, Tryz.func119.trans (congrArg some (by kernel_rfl))⟩, f57 := ⟨"slices.order2CmpFunc[tsblock/api.Sample]", by decide, Tryz.func134.trans (congrArg some (by kernel_rfl))⟩, t0 := Tryz.underlying0, a0 := Tryz.isAgg0, z0 := Tryz.sizeOf0, v0 := Tryz.zeroValue0, t3 := Tryz.underlying3, a3 := Tryz.isAgg3, z3 := Tryz.sizeOf3, v3 := Tryz.zeroValue3, t4 := Tryz.underlying4, a4 := Tryz.isAgg4, z4 := Tryz.sizeOf4, v4 := Tryz.zeroValue4, t5 := Tryz.underlying5, a5 := Tryz.isAgg5, z5 := Tryz.sizeOf5, v5 := Tryz.zeroValue5, t9 := Tryz.underlying9, a9 := Tryz.isAgg9, z9 := Tryz.sizeOf9, v9 := Tryz.zeroValue9, t22 := Tryz.underlying35, a22 := Tryz.isAgg35, z22 := Tryz.sizeOf35, v22 := Tryz.zeroValue35, t25 := Tryz.underlying74, a25 := Tryz.isAgg74, z25 := Tryz.sizeOf74, v25 := Tryz.zeroValue74, t39 := Tryz.underlying82, a39 := Tryz.isAgg82, z39 := Tryz.sizeOf82, v39 := Tryz.zeroValue82, t45 := Tryz.underlying95, a45 := Tryz.isAgg95, z45 := Tryz.sizeOf95, v45 := Tryz.zeroValue95, t46 := Tryz.underlying96, a46 := Tryz.isAgg96, z46 := Tryz.sizeOf96, v46 := Tryz.zeroValue96, t50 := Tryz.underlying100, a50 := Tryz.isAgg100, z50 := Tryz.sizeOf100, v50 := Tryz.zeroValue100, t53 := Tryz.underlying103, a53 := Tryz.isAgg103, z53 := Tryz.sizeOf103, v53 := Tryz.zeroValue103, t55 := Tryz.underlying40, a55 := Tryz.isAgg40, z55 := Tryz.sizeOf40, v55 := Tryz.zeroValue40, t66 := Tryz.underlying118, a66 := Tryz.isAgg118, z66 := Tryz.sizeOf118, v66 := Tryz.zeroValue118, t70 := Tryz.underlying122, a70 := Tryz.isAgg122, z70 := Tryz.sizeOf122, v70 := Tryz.zeroValue122, t76 := Tryz.underlying134, a76 := Tryz.isAgg134, z76 := Tryz.sizeOf134, v76 := Tryz.zeroValue134, t77 := Tryz.underlying135, a77 := Tryz.isAgg135, z77 := Tryz.sizeOf135, v77 := Tryz.zeroValue135 }


theorem ltOf_ltT : ltOf (fun x y : Sam => ordI x.1 y.1) = ltT := by
  funext x y
  show decide (ordI x.1 y.1 < 0) = decide (x.1 < y.1)
  rw [decide_eq_decide]
  exact ordI_neg _ _
theorem swo_ltT : Go.Sort.SWO ltT := ⟨fun x => ltT_ok.irr x, fun x y z => ltT_ok.tr x y z, fun x y z h1 h2 => by
  simp [ltT] at *; omega⟩

def encSm (x : Sam) : List Value := [.int .i64 x.1, .int .u64 (x.2 : Int)]

theorem sort_sam (w : World) (base : Nat) (v : Value) (l : List Sam) (h : w.ownsRow base 42 2 v l.length (samCells l)) (hn : l.length ≤ 1000000) :
    Calls Tryz.prog 59 #[v, .func (.func 54) #[] #[]] w fun e w' => e = .returned (.tuple #[]) ∧ ∃ l', List.Perm l' l ∧ SrtE ltT l' ∧ w'.ownsRow base 42 2 v l.length (samCells l') ∧ Mods (fun k => v.ownBlock = some k) w w' := by
  rcases h.2 with ⟨rfl, h0⟩ | ⟨g, cap, cur, rfl, hbase, hgb, r1, r2, r3, r4⟩
  · refine (AnyF.slices_SortFunc_none laysSortSam none 0 _ w).mono ?_
    rintro e w' ⟨rfl, rfl⟩
    obtain rfl : l = [] := List.eq_nil_of_length_eq_zero h0
    exact ⟨rfl, [], List.Perm.refl _, List.Pairwise.nil, h, Mods.refl _ _⟩
  · have hk : ∀ x : Sam, (encSm x).length = 2 := fun _ => rfl
    have hH : Go.Sort.HoldsK encSm 2 w g 0 l.toArray := holdsK_of_block encSm 2 hk (by decide) hgb r4
    have hC := AnyQ.slices_SortFunc laysSortSam 2 Tryz.isAgg42 Tryz.sizeOf42 encSm hk (fun x v hv => by simp only [encSm, List.mem_cons, List.not_mem_nil, or_false] at hv; rcases hv with rfl | rfl <;> rfl) (fun x y : Sam => ordI x.1 y.1) (by rw [ltOf_ltT]; exact swo_ltT) 54 #[] g 0 cap l.toArray w
      (fun _ _ => rfl) (fun m os dk _ x y => compareTimes_any x y _) hH (Array.getElem?_eq_some_iff.1 hgb).1 (by simp; omega)
    have hsz : l.toArray.size = l.length := by simp
    rw [hsz] at hC
    refine hC.mono ?_
    rintro e w' ⟨rfl, d', n, os, hp, hs, rfl⟩
    have hds : d'.size = l.length := by rw [hp.1]; simp
    refine ⟨rfl, d'.toList, ?_, ?_, ?_, (mods_sortedK (Go.Sort.flatK encSm 2 d')).mono (fun k _ e => by show some g = some k; rw [show k = g from e])⟩
    · have h3 := hp.2.2
      rw [show d'.extract 0 l.length = d' by rw [← hds]; exact Array.extract_size] at h3
      rw [show l.toArray.extract 0 l.length = l.toArray by rw [← hsz]; exact Array.extract_size] at h3
      exact h3
    · refine List.pairwise_iff_getElem.2 ?_
      intro i j hi hj hij
      have h4 := hs i j (Nat.zero_le _) hij (by rw [← hds]; simpa using hj)
      rw [ltOf_ltT, getElem!_pos d' i (by simpa using hi), getElem!_pos d' j (by simpa using hj)] at h4
      simpa using h4
    · exact ownsRow_sortedK encSm 2 hk (by decide) hds hbase hgb r1 r2 r3
end Go.Proofs.YtkodhbkmpnokjaaGreat

end

section
/- Layer 11, the program's own: slices.SortFunc at labels, by names. -/
set_option linter.unusedVariables false
set_option maxRecDepth 20000
namespace Go.Proofs.YtkodhbkmpnokjaaGreat
open Go Go.RowKit

def renSortLab : Go.Shelf.Ren := ⟨fun | 6 => 73 | 14 => 92 | 15 => 61 | 20 => 109 | 21 => 110 | 22 => 111 | 23 => 112 | 24 => 113 | 25 => 114 | 26 => 115 | 27 => 116 | 28 => 83 | 29 => 84 | 46 => 131 | 47 => 102 | 48 => 103 | 49 => 132 | 50 => 133 | 57 => 140 | n => n, fun | 0 => 0 | 3 => 3 | 4 => 4 | 5 => 5 | 9 => 9 | 22 => 34 | 24 => 39 | 25 => 89 | 39 => 82 | 45 => 95 | 46 => 96 | 50 => 100 | 53 => 103 | 55 => 40 | 66 => 118 | 70 => 122 | 76 => 134 | 77 => 135 | n => n, fun n => n⟩
theorem laysSortLab : Go.Proofs.SlLaysF0.n6 Tryz.prog renSortLab := { mixed := by kernel_rfl, f6 := ⟨"slices.SortFunc[[]tsblock/api.Label,tsblock/api.Label]", by decide, Tryz.func73.trans (congrArg some (by kernel_rfl))⟩, f14 := ⟨"slices.pdqsortCmpFunc[tsblock/api.Label]", by decide, Tryz.func92.trans (congrArg some (by kernel_rfl))⟩, f15 := Tryz.func61.trans (congrArg some (by kernel_rfl)), f20 := ⟨"slices.insertionSortCmpFunc[tsblock/api.Label]", by decide, Tryz.func109.trans (congrArg some (by kernel_rfl))⟩, f21 := ⟨"slices.heapSortCmpFunc[tsblock/api.Label]", by decide, Tryz.func110.trans (congrArg some (by kernel_rfl))⟩, f22 := ⟨"slices.breakPatternsCmpFunc[tsblock/api.Label]", by decide, Tryz.func111.trans (congrArg some (by kernel_rfl))⟩, f23 := ⟨"slices.choosePivotCmpFunc[tsblock/api.Label]", by decide, Tryz.func112.trans (congrArg some (by kernel_rfl))⟩, f24 := ⟨"slices.reverseRangeCmpFunc[tsblock/api.Label]", by decide, Tryz.func113.trans (congrArg some (by kernel_rfl))⟩, f25 := ⟨"slices.partialInsertionSortCmpFunc[tsblock/api.Label]", by decide, Tryz.func114.trans (congrArg some (by kernel_rfl))⟩, f26 := ⟨"slices.partitionEqualCmpFunc[tsblock/api.Label]", by decide, Tryz.func115.trans (congrArg some (by kernel_rfl))⟩, f27 := ⟨"slices.partitionCmpFunc[tsblock/api.Label]", by decide, Tryz.func116.trans (congrArg some (by kernel_rfl))⟩, f28 := Tryz.func83.trans (congrArg some (by kernel_rfl)), f29 := Tryz.func84.trans (congrArg some (by kernel_rfl)), f46 := ⟨"slices.siftDownCmpFunc[tsblock/api.Label]", by decide, Tryz.func131.trans (congrArg some (by kernel_rfl))⟩, f47 := Tryz.func102.trans (congrArg some (by kernel_rfl)), f48 := Tryz.func103.trans (congrArg some (by kernel_rfl)), f49 := ⟨"slices.medianAdjacentCmpFunc[tsblock/api.Label]", by decide, Tryz.func132.trans (congrArg some (by kernel_rfl))⟩, f50 := ⟨"slices.medianCmpFunc[tsblock/api.Label]", by decide, Tryz.func133.trans (congrArg some (by kernel_rfl))⟩, f57 := ⟨"slices.order2CmpFunc[tsblock/api.Label]", by decide, Tryz.func140.trans (congrArg some (by kernel_rfl))⟩, t0 := Tryz.underlying0, a0 := Tryz.isAgg0, z0 := Tryz.sizeOf0, v0 := Tryz.zeroValue0, t3 := Tryz.underlying3, a3 := Tryz.isAgg3, z3 := Tryz.sizeOf3, v3 := Tryz.zeroValue3, t4 := Tryz.underlying4, a4 := Tryz.isAgg4, z4 := Tryz.sizeOf4, v4 := Tryz.zeroValue4, t5 := Tryz.underlying5, a5 := Tryz.isAgg5, z5 := Tryz.sizeOf5, v5 := Tryz.zeroValue5, t9 := Tryz.underlying9, a9 := Tryz.isAgg9, z9 := Tryz.sizeOf9, v9 := Tryz.zeroValue9, t22 := Tryz.underlying34, a22 := Tryz.isAgg34, z22 := Tryz.sizeOf34, v22 := Tryz.zeroValue34, t25 := Tryz.underlying89, a25 := Tryz.isAgg89, z25 := Tryz.sizeOf89, v25 := Tryz.zeroValue89, t39 := Tryz.underlying82, a39 := Tryz.isAgg82, z39 := Tryz.sizeOf82, v39 := Tryz.zeroValue82, t45 := Tryz.underlying95, a45 := Tryz.isAgg95, z45 := Tryz.sizeOf95, v45 := Tryz.zeroValue95, t46 := Tryz.underlying96, a46 := Tryz.isAgg96, z46 := Tryz.sizeOf96, v46 := Tryz.zeroValue96, t50 := Tryz.underlying100, a50 := Tryz.isAgg100, z50 := Tryz.sizeOf100, v50 := Tryz.zeroValue100, t53 := Tryz.underlying103, a53 := Tryz.isAgg103, z53 := Tryz.sizeOf103, v53 := Tryz.zeroValue103, t55 := Tryz.underlying40, a55 := Tryz.isAgg40, z55 := Tryz.sizeOf40, v55 := Tryz.zeroValue40, t66 := Tryz.underlying118, a66 := Tryz.isAgg118, z66 := Tryz.sizeOf118, v66 := Tryz.zeroValue118, t70 := Tryz.underlying122, a70 := Tryz.isAgg122, z70 := Tryz.sizeOf122, v70 := Tryz.zeroValue122, t76 := Tryz.underlying134, a76 := Tryz.isAgg134, z76 := Tryz.sizeOf134, v76 := Tryz.zeroValue134, t77 := Tryz.underlying135, a77 := Tryz.isAgg135, z77 := Tryz.sizeOf135, v77 := Tryz.zeroValue135 }

theorem ltOf_names (x y : Lab) : ltOf (fun x y : Lab => ordS x.1 y.1) x y = ltN x y := by
  show decide (ordS x.1 y.1 < 0) = ltS x.1 y.1
  rcases Bool.eq_false_or_eq_true (ltS x.1 y.1) with e | e
  · have : ordS x.1 y.1 = -1 := if_pos e
    rw [this, e]; rfl
  · have : ordS x.1 y.1 = if ltS y.1 x.1 then 1 else 0 := if_neg (by rw [e]; simp)
    rw [this, e]
    split <;> rfl
theorem ltOf_ltN : ltOf (fun x y : Lab => ordS x.1 y.1) = ltN := by
  funext x y; exact ltOf_names x y
theorem swo_ltN : Go.Sort.SWO ltN := ⟨fun x => ltN_ok.irr x, fun x y z => ltN_ok.tr x y z, fun x y z h1 h2 => by
  rcases Bool.eq_false_or_eq_true (ltN x z) with e | e
  · have := ltS_ok.le_tr (a := y.1) (b := x.1) (c := z.1) h1 e
    rw [show ltS y.1 z.1 = ltN y z from rfl, h2] at this
    cases this
  · exact e⟩

def encL (x : Lab) : List Value := [.string x.1, .string x.2]

theorem sort_lab (w : World) (base : Nat) (v : Value) (l : List Lab) (h : w.ownsRow base 39 2 v l.length (labCells l)) (hn : l.length ≤ 1000000) :
    Calls Tryz.prog 73 #[v, .func (.func 68) #[] #[]] w fun e w' => e = .returned (.tuple #[]) ∧ ∃ l', List.Perm l' l ∧ l'.Pairwise (fun a b => ltN b a = false) ∧ w'.ownsRow base 39 2 v l.length (labCells l') ∧ Mods (fun k => v.ownBlock = some k) w w' := by
  rcases h.2 with ⟨rfl, h0⟩ | ⟨g, cap, cur, rfl, hbase, hgb, r1, r2, r3, r4⟩
  · refine (AnyF.slices_SortFunc_none laysSortLab none 0 _ w).mono ?_
    rintro e w' ⟨rfl, rfl⟩
    obtain rfl : l = [] := List.eq_nil_of_length_eq_zero h0
    exact ⟨rfl, [], List.Perm.refl _, List.Pairwise.nil, h, Mods.refl _ _⟩
  · have hk : ∀ x : Lab, (encL x).length = 2 := fun _ => rfl
    have hH : Go.Sort.HoldsK encL 2 w g 0 l.toArray := holdsK_of_block encL 2 hk (by decide) hgb r4
    have hC := AnyQ.slices_SortFunc laysSortLab 2 Tryz.isAgg39 Tryz.sizeOf39 encL hk (fun x v hv => by simp only [encL, List.mem_cons, List.not_mem_nil, or_false] at hv; rcases hv with rfl | rfl <;> rfl) (fun x y : Lab => ordS x.1 y.1) (by rw [ltOf_ltN]; exact swo_ltN) 68 #[] g 0 cap l.toArray w
      (fun _ _ => rfl) (fun m os dk _ x y => compareNames_any x y _) hH (Array.getElem?_eq_some_iff.1 hgb).1 (by simp; omega)
    have hsz : l.toArray.size = l.length := by simp
    rw [hsz] at hC
    refine hC.mono ?_
    rintro e w' ⟨rfl, d', n, os, hp, hs, rfl⟩
    have hds : d'.size = l.length := by rw [hp.1]; simp
    refine ⟨rfl, d'.toList, ?_, ?_, ?_, (mods_sortedK (Go.Sort.flatK encL 2 d')).mono (fun k _ e => by show some g = some k; rw [show k = g from e])⟩
    · have h3 := hp.2.2
      rw [show d'.extract 0 l.length = d' by rw [← hds]; exact Array.extract_size] at h3
      rw [show l.toArray.extract 0 l.length = l.toArray by rw [← hsz]; exact Array.extract_size] at h3
      exact h3
    · rw [List.pairwise_iff_getElem]
      intro i j hi hj hij
      have h4 := hs i j (Nat.zero_le _) hij (by rw [← hds]; simpa using hj)
      rw [ltOf_ltN, getElem!_pos d' i (by simpa using hi), getElem!_pos d' j (by simpa using hj)] at h4
      simpa using h4
    · exact ownsRow_sortedK encL 2 hk (by decide) hds hbase hgb r1 r2 r3
end Go.Proofs.YtkodhbkmpnokjaaGreat

end

section
/- Layer 11: labels sorted by names, and then checked: what Normalize gives. No program in sight. -/
set_option linter.unusedVariables false
namespace Go.Proofs.YtkodhbkmpnokjaaGreat
open Go Go.RowKit

/-- The check of labels that are sorted by names finds that two names are one, or nothing. -/
theorem check_sorted (l : List Lab) : ∀ (p : Option ByteArray), (∀ x ∈ l, oneL x = 0) → l.Pairwise (fun a b => ltN b a = false) → (∀ n, p = some n → ∀ x ∈ l, ltS x.1 n = false) →
    (checkFrom p l = 0 ∧ AscB ltN l ∧ (∀ n, p = some n → ∀ x ∈ l, ltS n x.1 = true)) ∨ (checkFrom p l = 18 ∧ ¬ (p.toList ++ namesL l).Nodup) := by
  induction l with
  | nil => intro p _ _ _; exact Or.inl ⟨rfl, List.Pairwise.nil, fun _ _ _ h => by cases h⟩
  | cons x l ih =>
    intro p ho hs hp
    obtain ⟨h1, h2⟩ := List.pairwise_cons.1 hs
    have hx := ho x (by simp)
    have ih' := ih (some x.1) (fun y hy => ho y (by simp [hy])) h2 (fun n hn y hy => by cases hn; exact h1 y hy)
    have hasc : (∀ n, some x.1 = some n → ∀ y ∈ l, ltS n y.1 = true) → AscB ltN l → AscB ltN (x :: l) := fun h k => List.pairwise_cons.2 ⟨fun y hy => h x.1 rfl y hy, k⟩
    have hnn : namesL (x :: l) = x.1 :: namesL l := rfl
    cases p with
    | none =>
      rw [checkFrom, if_neg (not_not_intro hx)]
      rcases ih' with ⟨a, b, c⟩ | ⟨a, b⟩
      · exact Or.inl ⟨a, hasc c b, fun _ h => by cases h⟩
      · exact Or.inr ⟨a, by simpa [hnn] using b⟩
    | some n =>
      have hlt := hp n rfl x (by simp)
      rw [checkFrom, if_neg (not_not_intro hx)]
      by_cases he : x.1 = n
      · rw [if_pos he]
        refine Or.inr ⟨rfl, fun hd => ?_⟩
        rw [hnn, he] at hd
        simp at hd
      · rw [if_neg he, if_neg (by rw [hlt]; simp)]
        have hnx : ltS n x.1 = true := by
          rcases Bool.eq_false_or_eq_true (ltS n x.1) with e | e
          · exact e
          · exact absurd (ltS_ok.tot _ _ hlt e) he
        rcases ih' with ⟨a, b, c⟩ | ⟨a, b⟩
        · refine Or.inl ⟨a, hasc c b, fun m hm y hy => ?_⟩
          cases hm
          rcases List.mem_cons.1 hy with e | e
          · subst e; exact hnx
          · exact ltS_ok.tr _ _ _ hnx (c x.1 rfl y e)
        · refine Or.inr ⟨a, fun hd => b ?_⟩
          rw [hnn] at hd
          simp only [Option.toList_some, List.singleton_append, List.nodup_cons] at hd ⊢
          exact hd.2
/-- What Normalize gives, by the sorted labels. -/
theorem norm_sorted {l l' : List Lab} (h0 : firstErr l = 0) (hp : List.Perm l' l) (hs : l'.Pairwise (fun a b => ltN b a = false)) :
    (checkL l' = 0 ∧ normL l = (0, l')) ∨ (checkL l' = 18 ∧ normL l = (18, [])) := by
  have ho := (firstErr_zero l).1 h0
  have ho' : ∀ x ∈ l', oneL x = 0 := fun x hx => ho x (hp.mem_iff.1 hx)
  have hnp := norm_perm hp
  rcases check_sorted l' none ho' hs (fun _ h => by cases h) with ⟨a, b, _⟩ | ⟨a, b⟩
  · refine Or.inl ⟨a, ?_⟩
    have h1 := norm_of_asc b ho'
    have h2 : (normL l).1 = 0 := hnp.1.1 (by rw [h1])
    have h3 : (normL l).2 = l' := by rw [← hnp.2, h1]
    exact Prod.ext h2 h3
  · refine Or.inr ⟨a, ?_⟩
    have h1 : ¬ (normL l).1 = 0 := fun e => by
      have := (normL_ok.1 (hnp.1.2 e)).2
      exact b (by simpa using this)
    unfold normL at h1 ⊢
    rw [if_neg (not_not_intro h0)] at h1 ⊢
    split
    · rfl
    · next r hr => rw [hr] at h1; exact absurd rfl h1
end Go.Proofs.YtkodhbkmpnokjaaGreat

end

section
/- Layer 11: slices.Clone of labels. -/
set_option linter.unusedVariables false
namespace Go.Proofs.YtkodhbkmpnokjaaGreat
open Go Go.RowKit

set_option maxHeartbeats 400000 in
/-- slices.Clone. -/
theorem clone_lab (v : Value) (l : List Lab) (w : World) (h : Rd w 2 v l.length (labCells l)) (hn : l.length ≤ 4398046511104) :
    Calls Tryz.prog 72 #[v] w fun e w' => ∃ r, e = .returned r ∧ Made w w' 39 2 r l.length (labCells l) := by
  have hq : ∀ (w : World) (a : Option Addr) (n c n' c' : Nat), (binOp .eql 34 (.slice a n c) (.slice none n' c')).run Tryz.prog w = .ok (.bool a.isNone) w := fun w a n c n' c' => Lib.run_eql_slice_nil w _ _ a n c n' c' Tryz.underlying34
  obtain ⟨p, c, hv⟩ := h.shape
  subst hv
  cases p with
  | none =>
    obtain ⟨_, _, e, hl, _, _, hnil, _⟩ := h
    simp only [Value.slice.injEq] at e
    obtain ⟨rfl, _, rfl⟩ := e
    obtain ⟨h0, rfl⟩ := hnil rfl
    obtain rfl : l = [] := List.eq_nil_of_length_eq_zero h0
    go_enter Tryz.func72, Tryz.ntmps72
    go_wp2
    go_ret
    exact ⟨_, rfl, World.ownsRow_nil _ _ _ _, Below.refl _ _⟩
  | some ad =>
    have HB : Hid (Below w.heap.size w (w.alloc (.cells #[] 39))) := (Below.refl _ _).alloc (Nat.le_refl _) _
    have HR := Lib.hid (h.below HB.out)
    clear h
    have HO : Hid ((w.alloc (.cells #[] 39)).ownsRow 0 39 2 (.slice (some ⟨w.heap.size, 0, none⟩) 0 0) 0 []) := World.ownsRow_lit (base := 0) w #[] 0 (Nat.zero_le _) (by simp [maxLen]) (by simp)
    have HL : Hid ((0 + l.length) * 32 ≤ 140737488355328 ∧ 0 + l.length ≤ maxLen) := by show _ ∧ _; unfold maxLen; omega
    go_enter Tryz.func72, Tryz.ntmps72
    go_wp2_with (at_builtin; refine wpList_extend elemLab _ _ _ _ _ _ _ HO.out HR.out (labCells_one _) HL.out rfl _ _ rfl rfl rfl ?_)
    intro v' w1 hown hmods hfr
    have HM : Hid (Made w w1 39 2 v' l.length (labCells l)) := by
      refine ⟨?_, HB.out.trans (hmods.below HB.out.size (fun k hk e => by simp [Value.ownBlock] at e; omega))⟩
      try simp only [List.nil_append, Nat.zero_add] at hown
      exact owns_rebase hown (fun k hk => by
        rcases hfr k hk with e | e
        · simp [Value.ownBlock] at e; omega
        · have := HB.out.size; omega)
    clear hown hmods hfr
    go_wp2
    go_ret
    exact ⟨_, rfl, HM.out⟩
end Go.Proofs.YtkodhbkmpnokjaaGreat

end

section
/- Layer 11, the program's own: Normalize. -/
set_option linter.unusedVariables false
set_option maxRecDepth 20000
namespace Go.Proofs.YtkodhbkmpnokjaaGreat
open Go Go.RowKit

set_option maxHeartbeats 4000000 in
theorem labNorm_any (lv : Value) (l : List Lab) (w : World) (hl : Rd w 2 lv l.length (labCells l)) (hs : ∀ x ∈ l, x.1.size ≤ 9223372036854775807 ∧ x.2.size ≤ 9223372036854775807) (hn : l.length ≤ 100000) :
    Calls Tryz.prog 58 #[lv] w (GotLb w (normL l)) := by
  have HL := Lib.hid hl; have HS := Lib.hid hs; have HNn := Lib.hid hn
  obtain ⟨pl, cl, hv⟩ := hl.shape
  subst hv
  have hmx : (l.length : Int) ≤ 100000 := by omega
  clear hl hs hn
  go_enter Tryz.func58, Tryz.ntmps58
  go_wp2_with fail
  go_loopw [11] (fun iv wr => ∃ (i : Nat), i ≤ l.length ∧ iv = .int .i64 (i : Int) ∧ Hid (∀ x ∈ l.take i, oneL x = 0) ∧ Hid (Below w.heap.size w wr)) (fun iv _ => l.length - (intOf iv).toNat)
  case atStart => exact ⟨0, Nat.zero_le _, rfl, (by intro x hx; simp at hx), Below.refl _ _⟩
  case round =>
    obtain ⟨i, hi, rfl, HF, HB⟩ := hrel
    have him : (i : Int) ≤ 100000 := by omega
    by_cases hlt : i < l.length
    · have hlt' : (i : Int) < (l.length : Int) := by omega
      obtain ⟨⟨n, v⟩, hx⟩ : ∃ x, l[i]? = some x := ⟨_, List.getElem?_eq_getElem hlt⟩
      obtain ⟨b, off, e⟩ := rd2_at HL.out hx
      subst e
      obtain ⟨c0, c1⟩ := rd2_cell (HL.out.below HB.out) hx
      have HOn := Lib.hid (fun w' => checkLabel_any n v w' (HS.out _ (List.mem_of_getElem? hx)).1 (HS.out _ (List.mem_of_getElem? hx)).2)
      have HX := Lib.hid hx
      have HB2 : Hid (Below w.heap.size w (wr.alloc (.cells #[.string n, .string v] 39))) := HB.out.trans (((Below.refl _ wr).alloc (Nat.le_refl _) _).mono HB.out.size)
      clear hx
      go_wp2_with fail
      refine (HOn.out _).mono ?_
      rintro e w2 ⟨rfl, hB⟩
      have HBw := Lib.hid (HB2.out.trans (hB.mono HB2.out.size))
      clear c0 c1 hB HOn HB2
      by_cases he : oneL (n, v) = 0
      · have HF2 : Hid (∀ x ∈ l.take (i + 1), oneL x = 0) := by
          intro x hx
          rw [List.take_add_one, HX.out] at hx
          rcases List.mem_append.1 hx with e | e
          · exact HF.out x e
          · simp at e; subst e; exact he
        rw [he]
        clear he
        go_wp2_with fail
        go_round
        case rel => exact ⟨i + 1, by omega, by go_num, HF2.out, HBw.out⟩
        case measure => simp [intOf]; omega
      · have he1 : ¬ (oneL (n, v) : Int) = 0 := by omega
        have heb : ((oneL (n, v) : Int) == 0) = false := by rw [beq_eq_false_iff_ne]; exact he1
        have HE : Hid (normL l = (oneL (n, v), [])) := by
          show _ = _
          have h := firstErr_at HF.out HX.out he
          rw [normL, h, if_pos he]
        clear he
        generalize oneL (n, v) = e at *
        go_wp2_with fail
        go_ret2
        exact GotLb.fails HBw.out HE.out
    · have hlt' : ¬ (i : Int) < (l.length : Int) := by omega
      have HE0 : Hid (firstErr l = 0) := by
        show _ = _
        have h := HF.out
        rw [List.take_of_length_le (by omega)] at h
        exact (firstErr_zero l).2 h
      have HCl := Lib.hid (clone_lab (.slice pl l.length cl) l wr (HL.out.below HB.out) (by have := HNn.out; omega))
      go_wp2_with fail
      refine HCl.out.mono ?_
      rintro e w2 ⟨r, rfl, hM⟩
      have HO2 := Lib.hid hM.1
      have HB2 := Lib.hid (HB.out.trans (hM.2.mono HB.out.size))
      have HFar : Hid (∀ k, r.ownBlock = some k → w.heap.size ≤ k) := fun k hk => Nat.le_trans HB.out.size (hM.1.lt k hk).1
      obtain ⟨p, c, hv⟩ := (Rd.of_owns hM.1).shape
      subst hv
      clear hM HCl
      have HSo := Lib.hid (sort_lab w2 _ _ l HO2.out (by have := HNn.out; omega))
      go_wp2_with fail
      refine HSo.out.mono ?_
      rintro e w3 ⟨rfl, l', hp, hs, hO, hM⟩
      have HP := Lib.hid hp
      have HLn : Hid (l'.length = l.length) := hp.length_eq
      have HO3 := Lib.hid hO
      have HB3 := Lib.hid (HB2.out.trans (hM.below HB2.out.size (fun k hk e => by have := HFar.out k e; omega)))
      have HNs := Lib.hid (norm_sorted HE0.out hp hs)
      have HCk := Lib.hid (labCheck_any (.slice p l.length c) l' w3 (by have h := Rd.of_owns hO; rwa [← HLn.out] at h ⊢) (fun x hx => HS.out x (hp.mem_iff.1 hx)) (by have := HNn.out; have := HLn.out; omega))
      clear hp hs hO hM HSo HO2 HB2
      go_wp2_with fail
      refine HCk.out.mono ?_
      rintro e w4 ⟨rfl, hB⟩
      have HB4 := Lib.hid (HB3.out.trans (hB.mono HB3.out.size))
      have HR4 := Lib.hid ((Rd.of_owns HO3.out).below hB)
      clear hB HCk HB3 HO3
      rcases HNs.out with ⟨h1, h2⟩ | ⟨h1, h2⟩
      · have HN := Lib.hid h2
        rw [h1]
        clear h1 h2
        go_wp2_with fail
        go_ret2
        refine ⟨⟨_, ?_, ?_, HFar.out⟩, HB4.out⟩
        · rw [HN.out]; rfl
        · rw [HN.out]
          show Rd _ _ _ l'.length _
          rw [HLn.out]
          exact HR4.out
      · have HN := Lib.hid h2
        rw [h1]
        clear h1 h2
        go_wp2_with fail
        go_ret2
        exact GotLb.fails HB4.out HN.out
end Go.Proofs.YtkodhbkmpnokjaaGreat

end

section
/- copy between rows of elements of k cells; rows that are full. No program in sight. -/
set_option linter.unusedVariables false
namespace Go.Proofs.YtkodhbkmpnokjaaGreat
open Go Go.RowKit

theorem run_copy_rowK {P : Program} (w : World) (dT sT ty elem : TypeId) (sz g n dCap : Nat) (a : Addr) (sCap : Nat) (cur : Array Value) (t : TypeId) (cs : List Value)
    (hu : P.underlying dT = some (.slice elem)) (hs : (P.info? elem).map (·.size) = some sz)
    (hg : w.heap[g]? = some (.cells cur t (0, 0))) (hn : cs.length = n * sz)
    (hsrc : ∀ j v, cs[j]? = some v → w.cell? (a.add j) = some v) (hfit : cur.size = cs.length) (h1 : ∀ v ∈ cs, v.oneCell' = true) :
    (Builtin.copy_ #[dT, sT] ty #[.slice (some ⟨g, 0, none⟩) n dCap, .slice (some a) n sCap]).run P w = .ok (goInt n) (w.setRow g cs.toArray) := by
  have hl := run_loadCells_list (P := P) w a cs hsrc
  have hst := run_storeCells_at P g 0 t cs 0 cur w hg (by simp; omega) h1
  have he : (cur.toList.take (0 + 0) ++ cs ++ cur.toList.drop (0 + 0 + cs.length)).toArray = cs.toArray := by
    simp [List.drop_of_length_le (show cur.toList.length ≤ cs.length by simp [hfit])]
  rw [he] at hst
  cases hq : P.info? elem with
  | none => simp [hq] at hs
  | some i =>
    have hi : i.size = sz := by simpa [hq] using hs
    simp [Builtin.copy_, run_underlying hu, Builtin.lenOf, Builtin.firstCells, sizeOf, typeInfo, hq, hi, ← hn, hl, hst]
theorem run_copy_noneK {P : Program} (w : World) (dT sT ty elem : TypeId) (sz : Nat) (d a : Option Addr) (dCap sCap : Nat) (hu : P.underlying dT = some (.slice elem)) (hs : (P.info? elem).map (·.size) = some sz) :
    (Builtin.copy_ #[dT, sT] ty #[.slice d 0 dCap, .slice a 0 sCap]).run P w = .ok (goInt 0) w := by
  cases hq : P.info? elem with
  | none => simp [hq] at hs
  | some i =>
    have hl : ∀ (x : Addr), (loadCells x 0).run P w = .ok #[] w := fun x => by simpa using run_loadCells_list (P := P) w x [] (by simp)
    cases d <;> cases a <;> simp [Builtin.copy_, run_underlying hu, Builtin.lenOf, Builtin.firstCells, sizeOf, typeInfo, hq, storeCells, hl]
theorem row_of_fullK {w : World} {base g n sz : Nat} {t : TypeId} {xs : List Value} (h : w.ownsRow base t sz (.slice (some ⟨g, 0, none⟩) n n) n xs) : w.heap[g]? = some (.cells xs.toArray t (0, 0)) := by
  rcases h.2 with ⟨e, _⟩ | ⟨g', cap, cur, e, _, hg, _, _, hs, ht⟩
  · cases e
  · simp only [Value.slice.injEq, Option.some.injEq, Addr.mk.injEq, and_true, true_and] at e
    obtain ⟨rfl, rfl⟩ := e
    rw [hg, ← ht, List.take_of_length_le (by simp [hs])]
theorem full_of_rowK {w : World} {base g n sz : Nat} {t : TypeId} {xs : List Value} (h : w.heap[g]? = some (.cells xs.toArray t (0, 0))) (hb : base ≤ g) (hl : xs.length = n * sz) (hn : n ≤ maxLen) : w.ownsRow base t sz (.slice (some ⟨g, 0, none⟩) n n) n xs :=
  ⟨hl, Or.inr ⟨g, n, xs.toArray, rfl, hb, h, Nat.le_refl _, hn, by simp [hl], by simp [← hl]⟩⟩
theorem below_rowK {B g : Nat} {w0 w : World} (hb : Below B w0 w) (hg : B ≤ g) (cs : Array Value) : Below B w0 (w.setRow g cs) :=
  hb.trans ⟨rfl, rfl, rfl, by simp [World.setRow], fun k hk => setRow_other w g k cs (by omega)⟩
end Go.Proofs.YtkodhbkmpnokjaaGreat

end

section
/- Layer 12, the program's own: copyOf at samples. -/
set_option linter.unusedVariables false
set_option maxRecDepth 100000
namespace Go.Proofs.YtkodhbkmpnokjaaGreat
open Go Go.RowKit

theorem infoCpS : (Tryz.prog.info? 42).map (fun i => (i.zero, i.size, i.bytes)) = some (some (.agg #[.int .i64 0, .int .u64 0]), 2, 16) := by kernel_rfl

set_option maxHeartbeats 2000000 in
theorem copyS_any (v : Value) (n : Nat) (cs : List Value) (w : World) (h : Rd w 2 v n cs) (hn : n ≤ 1000000) (h1 : ∀ v ∈ cs, v.oneCell' = true) :
    Calls Tryz.prog 45 #[v] w fun e w' => e = .returned (.slice (some ⟨w.heap.size, 0, none⟩) n n) ∧ w'.ownsRow w.heap.size 42 2 (.slice (some ⟨w.heap.size, 0, none⟩) n n) n cs ∧ Below w.heap.size w w' := by
  have H := Lib.hid h; have HV := Lib.hid h1
  obtain ⟨p, c, e⟩ := h.shape
  subst e
  have HLn : Hid (cs.length = n * 2) := h.len
  obtain ⟨i0, hi0, hz0, hz1, hz2⟩ := info_parts infoCpS
  have HI := Lib.hid hi0; have HZ := Lib.hid hz0; have HZ1 := Lib.hid hz1
  have HZ2 : Hid (i0.bytes * n ≤ 281474976710656 ∧ n ≤ maxLen) := by show _ ∧ _; unfold maxLen; rw [hz2]; omega
  have HSz : Hid ((Tryz.prog.info? 42).map (·.size) = some 2) := by show _ = _; rw [hi0]; simp [hz1]
  have hni : (n : Int) ≤ 1000000 := by omega
  clear h hn h1 hi0 hz0 hz1 hz2
  go_enter Tryz.func45, Tryz.ntmps45
  go_wp2_with (refine wpList_make_full _ rfl _ _ _ rfl w.heap.size 42 i0 (.agg #[.int .i64 0, .int .u64 0]) 2 Tryz.underlying35 HI.out HZ.out HZ1.out _ _ _ _ n rfl rfl rfl rfl HZ2.out.1 HZ2.out.2 (Nat.le_refl _) ?_)
  intro w4 hown hgr
  have HR4 := Lib.hid (row_of_fullK hown)
  have HLm : Hid ((madeCells #[.int .i64 0, .int .u64 0] (n * 2)).toList.toArray.size = n * 2) := by show _ = _; simp [madeCells]
  have HB4 : Hid (Below w.heap.size w w4) := (Mods.of_grown hgr).below (Nat.le_refl _) (fun k _ e => by cases e)
  clear hown hgr
  by_cases h0 : n = 0
  · subst h0
    have hcs : cs = [] := List.eq_nil_of_length_eq_zero (by have := HLn.out; omega)
    have HRow : Hid (w4.ownsRow w.heap.size 42 2 (.slice (some ⟨w.heap.size, 0, none⟩) 0 0) 0 cs) := by
      show World.ownsRow _ _ _ _ _ _ _
      rw [hcs]
      have h := HR4.out
      rw [show (madeCells #[.int .i64 0, .int .u64 0] (0 * 2)).toList = [] from List.eq_nil_of_length_eq_zero (by simp [madeCells])] at h
      exact full_of_rowK h (Nat.le_refl _) rfl (by unfold maxLen; omega)
    have hrun := run_copy_noneK (P := Tryz.prog) w4 35 35 3 42 2 (some ⟨w.heap.size, 0, none⟩) p 0 c Tryz.underlying35 HSz.out
    clear hcs
    go_wp2_with fail
    go_ret
    exact ⟨rfl, HRow.out, HB4.out⟩
  · obtain ⟨b, off, c', e, _, _, hcl⟩ := H.out.at (fun e => by have := HLn.out; rw [e] at this; simp at this; omega)
    simp only [Value.slice.injEq] at e
    obtain ⟨rfl, _, rfl⟩ := e
    have hrun := run_copy_rowK (P := Tryz.prog) w4 35 35 3 42 2 w.heap.size n n ⟨b, off, none⟩ c _ _ cs Tryz.underlying35 HSz.out HR4.out HLn.out
      (fun j v hj => by
        have h3 := hcl j v hj
        have h4 : (⟨b, off, none⟩ : Addr).add j = ⟨b, off + j, none⟩ := by unfold Addr.add; split <;> simp_all
        rw [h4]
        exact (HB4.out.cell (World.block_lt_of_cell? w _ h3)).trans h3) (by rw [HLm.out, HLn.out]) HV.out
    generalize hw5 : w4.setRow _ _ = w5 at hrun
    have HRow : Hid (w5.ownsRow w.heap.size 42 2 (.slice (some ⟨w.heap.size, 0, none⟩) n n) n cs) := by
      show World.ownsRow _ _ _ _ _ _ _
      refine full_of_rowK ?_ (Nat.le_refl _) HLn.out HZ2.out.2
      rw [← hw5, setRow_heap w4 w.heap.size _ _ _ _ HR4.out]
    have HB5 : Hid (Below w.heap.size w w5) := by rw [← hw5]; exact below_rowK HB4.out (Nat.le_refl _) _
    clear hw5 h0 hcl
    go_wp2_with fail
    go_ret
    exact ⟨rfl, HRow.out, HB5.out⟩
end Go.Proofs.YtkodhbkmpnokjaaGreat

end

section
/- Arrays of numbers as values: a variable that holds one, loads, stores, elements. No program in sight. -/
namespace Go.Proofs.YtkodhbkmpnokjaaGreat
open Go Go.RowKit

def u32s (l : List Nat) : List Value := l.map fun n : Nat => Value.int .u32 (n : Int)
theorem u32s_length (l : List Nat) : (u32s l).length = l.length := by simp [u32s]
theorem u32s_one (l : List Nat) : ∀ u ∈ u32s l, u.oneCell' = true := by
  intro u hu
  simp only [u32s, List.mem_map] at hu
  obtain ⟨n, _, rfl⟩ := hu
  rfl
theorem u32s_get (l : List Nat) (i x : Nat) (h : l[i]? = some x) : (u32s l)[i]? = some (.int .u32 (x : Int)) := by simp [u32s, h]
theorem u32s_set (l : List Nat) (i x : Nat) : (u32s l).set i (.int .u32 (x : Int)) = u32s (l.set i x) := by simp [u32s, List.map_set]

/-- Whether a type's values are made of several cells. -/
def manyCells : TypeDesc → Bool
  | .struct _ | .array _ _ => true
  | _ => false
/-- An array type t of n elements of type e, each one cell, whose zero value is z. -/
structure Arr (P : Program) (t e : TypeId) (n : Nat) (z : Value) : Prop where
  ht : P.underlying t = some (.array n e)
  hi : ∃ i, P.info? t = some i ∧ i.zero = some (.agg (List.replicate n z).toArray) ∧ i.size = n
  he : ∃ i, P.info? e = some i ∧ i.size = 1
  hl : ∃ d, P.underlying e = some d ∧ manyCells d = false

theorem Arr.mk' {P : Program} {t e : TypeId} {n : Nat} {z : Value} (ht : P.underlying t = some (.array n e)) (hi : (P.info? t).map (fun i => (i.zero, i.size)) = some (some (.agg (List.replicate n z).toArray), n)) (he : (P.info? e).map (·.size) = some 1)
    {d : TypeDesc} (hd : P.underlying e = some d) (hl : manyCells d = false) : Arr P t e n z := by
  obtain ⟨i, h1, h2⟩ := Option.map_eq_some_iff.1 hi
  obtain ⟨j, h3, h4⟩ := Option.map_eq_some_iff.1 he
  simp only [Prod.mk.injEq] at h2
  exact ⟨ht, ⟨i, h1, h2.1, h2.2⟩, ⟨j, h3, h4⟩, ⟨d, hd, hl⟩⟩

theorem mods_setRow (w : World) (g : Nat) (cs : Array Value) : Mods (fun k => k = g) w (w.setRow g cs) :=
  ⟨rfl, rfl, rfl, by simp, fun k _ hs => setRow_other w g k cs hs⟩

section
variable {P : Program} {ops : Array Oper} {rest : List Oper} {o : Oper} {a : Act} {w : World} {Q : Exit → Act → World → Prop} {t e : TypeId} {n : Nat} {z : Value}

/-- A new variable that holds the array. -/
theorem wpList_boxA (hg : o.guard = none) (t : TypeId) (x : Operand) (ho : o.op = .box t x) (cs : List Value) (hx : a.eval x = .agg cs.toArray)
    (h : ∀ w', Blk w' w.heap.size cs → Below w.heap.size w w' → w'.heap.size = w.heap.size + 1 → wpList P ops Q rest (a.put o.dst (.pointer (some ⟨w.heap.size, 0, none⟩))) w') : wpList P ops Q (o :: rest) a w := by
  refine wpList_plain hg fun K hK => ?_
  unfold Oper.wp execOp
  simp only [ho, hx, Sem.run_bind, Instr.box, newVar, newRow, run_newObj_alloc, Sem.run_pure, Result.andThen_ok]
  exact hK _ _ (h _ (by simpa [Value.cells] using Blk.new w cs.toArray t) ((Below.refl _ _).alloc (Nat.le_refl _) _) (by simp))

/-- A new variable that holds the zero value. -/
theorem wpList_allocA (hA : Arr P t e n z) (hg : o.guard = none) (ho : o.op = .alloc t)
    (h : ∀ w', Blk w' w.heap.size (List.replicate n z) → Below w.heap.size w w' → w'.heap.size = w.heap.size + 1 → wpList P ops Q rest (a.put o.dst (.pointer (some ⟨w.heap.size, 0, none⟩))) w') : wpList P ops Q (o :: rest) a w := by
  obtain ⟨i, hi, hz, hs⟩ := hA.hi
  refine wpList_plain hg fun K hK => ?_
  have hzv : (zeroValue t).run P w = .ok (.agg (List.replicate n z).toArray) w := by simp [zeroValue, typeInfo, hi, hz]
  unfold Oper.wp execOp
  simp only [ho, Sem.run_bind, Instr.alloc, hzv, newVar, newRow, run_newObj_alloc, Sem.run_pure, Result.andThen_ok]
  exact hK _ _ (h _ (by simpa [Value.cells] using Blk.new w (List.replicate n z).toArray t) ((Below.refl _ _).alloc (Nat.le_refl _) _) (by simp))

/-- The whole array loaded. -/
theorem wpList_loadA (hA : Arr P t e n z) (hgd : o.guard = none) (x : Operand) (ho : o.op = .load t x) (g : Nat) (hx : a.eval x = .pointer (some ⟨g, 0, none⟩)) (cs : List Value) (hb : Blk w g cs) (hl : cs.length = n)
    (h : wpList P ops Q rest (a.put o.dst (.agg cs.toArray)) w) : wpList P ops Q (o :: rest) a w := by
  obtain ⟨u, hg⟩ := hb
  obtain ⟨i, hi, _, hs⟩ := hA.hi
  exact wpList_load_row hgd t x ho g hx u cs.toArray (0, 0) _ hg hA.ht rfl (by rw [hi]; simp [hs, hl]) h

/-- The whole array stored. -/
theorem wpList_storeA (hA : Arr P t e n z) (hgd : o.guard = none) (x y : Operand) (ho : o.op = .store t x y) (g : Nat) (hx : a.eval x = .pointer (some ⟨g, 0, none⟩)) (cs old : List Value) (hy : a.eval y = .agg cs.toArray)
    (hb : Blk w g old) (hold : old.length = n) (hl : cs.length = n) (h1 : ∀ u ∈ cs, u.oneCell' = true)
    (h : ∀ w', Blk w' g cs → Mods (fun k => k = g) w w' → w'.heap.size = w.heap.size → wpList P ops Q rest (a.put o.dst undef) w') : wpList P ops Q (o :: rest) a w := by
  obtain ⟨u, hg⟩ := hb
  obtain ⟨i, hi, _, hs⟩ := hA.hi
  refine wpList_store_row hgd t x y ho g cs.toArray hx hy u old.toArray hg (by rw [hi]; simp [hs, hl]) (by simp [hold, hl]) (by simpa using h1) ?_
  exact h _ ⟨u, setRow_heap w g _ _ u _ hg⟩ (mods_setRow w g _) (by simp)

/-- One element of an array. -/
theorem wpList_indexA (hA : Arr P t e n z) (hgd : o.guard = none) (x y : Operand) (ho : o.op = .index t x y) (cs : List Value) (hx : a.eval x = .agg cs.toArray) (i : Nat) (hy : a.eval y = .int .i64 (i : Int)) (hi : i < n) (v : Value) (hv : cs[i]? = some v)
    (h : wpList P ops Q rest (a.put o.dst v) w) : wpList P ops Q (o :: rest) a w := by
  obtain ⟨ie, hie, hs⟩ := hA.he
  obtain ⟨d, hd, hnd⟩ := hA.hl
  refine wpList_plain hgd fun K hK => ?_
  have hag : (isAgg e).run P w = .ok false w := by
    unfold isAgg
    rw [Sem.run_bind, run_underlying hd w]
    cases d <;> simp_all [manyCells]
  have hr : (Instr.index t (.agg cs.toArray) (.int .i64 (i : Int))).run P w = .ok v w := by
    have hp : (part e cs.toArray i).run P w = .ok v w := by
      unfold part
      simp [Sem.run_bind, hag, hv]
    simp [Instr.index, asIntOf, Sem.run_bind, run_underlying hA.ht w, sizeOf, typeInfo, hie, hs, hp]
    exact fun hn => absurd hn (by omega)
  unfold Oper.wp execOp
  simp only [ho, hx, hy, Sem.run_bind, hr, Result.andThen_ok]
  exact hK _ _ h

/-- A result that lies in a variable. -/
theorem resultsA (hA : Arr P t e n z) {fn : Func} {p : Tmp} (h : fn.results = #[.cell p t]) (tmps : Array Value) (g : Nat) (hp : tmps.getD p undef = .pointer (some ⟨g, 0, none⟩)) (cs : List Value) (hb : Blk w g cs) (hl : cs.length = n) :
    (results fn tmps).run P w = .ok (.agg cs.toArray) w := by
  obtain ⟨u, hg⟩ := hb
  obtain ⟨i, hi, _, hs⟩ := hA.hi
  exact results_cell_row h tmps w g u cs.toArray (0, 0) _ hp hg hA.ht rfl (by rw [hi]; simp [hs, hl])
end
end Go.Proofs.YtkodhbkmpnokjaaGreat

end

section
/- Structs of numbers as values: a variable that holds one, loads, stores, results. No program in sight. -/
namespace Go.Proofs.YtkodhbkmpnokjaaGreat
open Go Go.RowKit

/-- A struct type t of n cells, whose zero value is made of zs. -/
structure Str (P : Program) (t : TypeId) (n : Nat) (zs : List Value) : Prop where
  ht : ∃ d, P.underlying t = some d ∧ manyCells d = true
  hi : ∃ i, P.info? t = some i ∧ i.zero = some (.agg zs.toArray) ∧ i.size = n
  hz : zs.length = n
theorem Str.mk' {P : Program} {t : TypeId} {n : Nat} {zs : List Value} {d : TypeDesc} (ht : P.underlying t = some d) (hd : manyCells d = true) (hi : (P.info? t).map (fun i => (i.zero, i.size)) = some (some (.agg zs.toArray), n)) (hz : zs.length = n) : Str P t n zs := by
  obtain ⟨i, h1, h2⟩ := Option.map_eq_some_iff.1 hi
  simp only [Prod.mk.injEq] at h2
  exact ⟨⟨d, ht, hd⟩, ⟨i, h1, h2.1, h2.2⟩, hz⟩

theorem Blk.rangeAt {w : World} {g : Nat} {cs : List Value} (h : Blk w g cs) : w.rangeAt g 0 cs := fun j v hv => by rw [Nat.zero_add, h.cell]; simpa using hv

/-- The facts of a variable of three cells that a walk wants before it stores into it. -/
theorem Blk.three {w : World} {g : Nat} {a b c : Value} (h : Blk w g [a, b, c]) : (w.cell? ⟨g, 0, none⟩ = some a ∧ w.cell? ⟨g, 1, none⟩ = some b ∧ w.cell? ⟨g, 2, none⟩ = some c) ∧ (w.frozen? ⟨g, 0, none⟩ = false ∧ w.frozen? ⟨g, 1, none⟩ = false ∧ w.frozen? ⟨g, 2, none⟩ = false) :=
  ⟨⟨by rw [h.cell]; rfl, by rw [h.cell]; rfl, by rw [h.cell]; rfl⟩, h.free 0, h.free 1, h.free 2⟩
theorem Blk.set3 {w : World} {g : Nat} {a b c : Value} (h : Blk w g [a, b, c]) (x y z : Value) : Blk (((w.setCell ⟨g, 0, none⟩ x).setCell ⟨g, 1, none⟩ y).setCell ⟨g, 2, none⟩ z) g [x, y, z] := by
  simpa using ((h.set 0 x).set 1 y).set 2 z
theorem mods_set3 (w : World) (g : Nat) (x y z : Value) : Mods (fun k => k = g) w (((w.setCell ⟨g, 0, none⟩ x).setCell ⟨g, 1, none⟩ y).setCell ⟨g, 2, none⟩ z) :=
  ((Mods.set (fun k => k = g) w ⟨g, 0, none⟩ x (fun _ => rfl)).trans (Mods.set (fun k => k = g) _ ⟨g, 1, none⟩ y (fun _ => rfl)) (fun _ _ e => e)).trans (Mods.set (fun k => k = g) _ ⟨g, 2, none⟩ z (fun _ => rfl)) (fun _ _ e => e)

section
variable {P : Program} {ops : Array Oper} {rest : List Oper} {o : Oper} {a : Act} {w : World} {Q : Exit → Act → World → Prop} {t : TypeId} {n : Nat} {zs : List Value}

/-- A new variable that holds the zero value. -/
theorem wpList_allocS (hA : Str P t n zs) (hg : o.guard = none) (ho : o.op = .alloc t)
    (h : ∀ w', Blk w' w.heap.size zs → Below w.heap.size w w' → w'.heap.size = w.heap.size + 1 → wpList P ops Q rest (a.put o.dst (.pointer (some ⟨w.heap.size, 0, none⟩))) w') : wpList P ops Q (o :: rest) a w := by
  obtain ⟨i, hi, hz, hs⟩ := hA.hi
  refine wpList_plain hg fun K hK => ?_
  have hzv : (zeroValue t).run P w = .ok (.agg zs.toArray) w := by simp [zeroValue, typeInfo, hi, hz]
  unfold Oper.wp execOp
  simp only [ho, Sem.run_bind, Instr.alloc, hzv, newVar, newRow, run_newObj_alloc, Sem.run_pure, Result.andThen_ok]
  exact hK _ _ (h _ (by simpa [Value.cells] using Blk.new w zs.toArray t) ((Below.refl _ _).alloc (Nat.le_refl _) _) (by simp))

/-- A struct loaded from wherever its cells lie. -/
theorem wpList_loadS (hA : Str P t n zs) (hgd : o.guard = none) (x : Operand) (ho : o.op = .load t x) (g m : Nat) (hx : a.eval x = .pointer (some ⟨g, m, none⟩)) (cs : List Value) (hb : w.rangeAt g m cs) (hl : cs.length = n)
    (h : wpList P ops Q rest (a.put o.dst (.agg cs.toArray)) w) : wpList P ops Q (o :: rest) a w := by
  obtain ⟨i, hi, _, hs⟩ := hA.hi
  obtain ⟨d, hu, hd⟩ := hA.ht
  exact wpList_load_mid hgd t x ho g m hx cs d hb hu (by cases d <;> simp_all [manyCells, TypeDesc.isRow]) (by rw [hi]; simp [hs, hl]) h

/-- A struct stored into a variable of its own. -/
theorem wpList_storeS (hA : Str P t n zs) (hgd : o.guard = none) (x y : Operand) (ho : o.op = .store t x y) (g : Nat) (hx : a.eval x = .pointer (some ⟨g, 0, none⟩)) (cs old : List Value) (hy : a.eval y = .agg cs.toArray)
    (hb : Blk w g old) (hold : old.length = n) (hl : cs.length = n) (h1 : ∀ u ∈ cs, u.oneCell' = true)
    (h : ∀ w', Blk w' g cs → Mods (fun k => k = g) w w' → w'.heap.size = w.heap.size → wpList P ops Q rest (a.put o.dst undef) w') : wpList P ops Q (o :: rest) a w := by
  obtain ⟨u, hg⟩ := hb
  obtain ⟨i, hi, _, hs⟩ := hA.hi
  refine wpList_store_row hgd t x y ho g cs.toArray hx hy u old.toArray hg (by rw [hi]; simp [hs, hl]) (by simp [hold, hl]) (by simpa using h1) ?_
  exact h _ ⟨u, setRow_heap w g _ _ u _ hg⟩ (mods_setRow w g _) (by simp)

/-- A result that lies in a variable. -/
theorem run_loadS (hA : Str P t n zs) (g : Nat) (cs : List Value) (hb : Blk w g cs) (hl : cs.length = n) : (loadVar t ⟨g, 0, none⟩).run P w = .ok (.agg cs.toArray) w := by
  obtain ⟨i, hi, _, hs⟩ := hA.hi
  obtain ⟨d, hu, hd⟩ := hA.ht
  exact run_loadVar_mid w g 0 t cs d hb.rangeAt hu (by cases d <;> simp_all [manyCells, TypeDesc.isRow]) (by rw [hi]; simp [hs, hl])
theorem resultsS (hA : Str P t n zs) {fn : Func} {p : Tmp} (h : fn.results = #[.cell p t]) (tmps : Array Value) (g : Nat) (hp : tmps.getD p undef = .pointer (some ⟨g, 0, none⟩)) (cs : List Value) (hb : Blk w g cs) (hl : cs.length = n) :
    (results fn tmps).run P w = .ok (.agg cs.toArray) w := by
  have hp' : tmps[p]?.getD undef = .pointer (some ⟨g, 0, none⟩) := by simpa using hp
  simp [results, h, hp', asAddr, run_loadS hA g cs hb hl]
theorem resultsS2 (hA : Str P t n zs) {fn : Func} {p u : Tmp} (h : fn.results = #[.cell p t, .tmp u]) (tmps : Array Value) (g : Nat) (hp : tmps.getD p undef = .pointer (some ⟨g, 0, none⟩)) (cs : List Value) (hb : Blk w g cs) (hl : cs.length = n) :
    (results fn tmps).run P w = .ok (.tuple #[.agg cs.toArray, tmps.getD u undef]) w := by
  have hp' : tmps[p]?.getD undef = .pointer (some ⟨g, 0, none⟩) := by simpa using hp
  simp [results, h, hp', asAddr, run_loadS hA g cs hb hl]
end
end Go.Proofs.YtkodhbkmpnokjaaGreat

end

section
/- Variables of two cells. No program in sight. -/
set_option linter.unusedVariables false
namespace Go.Proofs.YtkodhbkmpnokjaaGreat
open Go Go.RowKit

theorem Blk.set2 {w : World} {g : Nat} {a b : Value} (h : Blk w g [a, b]) (x y : Value) : Blk ((w.setCell ⟨g, 0, none⟩ x).setCell ⟨g, 1, none⟩ y) g [x, y] := by
  simpa using (h.set 0 x).set 1 y

theorem Blk.two {w : World} {g : Nat} {a b : Value} (h : Blk w g [a, b]) : (w.cell? ⟨g, 0, none⟩ = some a ∧ w.cell? ⟨g, 1, none⟩ = some b) ∧ (w.frozen? ⟨g, 0, none⟩ = false ∧ w.frozen? ⟨g, 1, none⟩ = false) :=
  ⟨⟨by rw [h.cell]; rfl, by rw [h.cell]; rfl⟩, h.free 0, h.free 1⟩
end Go.Proofs.YtkodhbkmpnokjaaGreat

end
