/- MdE, MdT, CpB, MdF, LbEs, Range, Keep, SyV, in one text. -/
import Derived.Test.YtkodhbkmpnokjaaGreatMrg9
import Derived.Test.YtkodhbkmpnokjaaGreatMrg10
import Derived.Test.YtkodhbkmpnokjaaGreatMrg4
import Derived.Shelf.SlSortCmp.NoneTotal
import Derived.Test.YtkodhbkmpnokjaaGreatMrg2
import Derived.OwnWalk
import Derived.Test.YtkodhbkmpnokjaaGreatMrg8
import Derived.Test.YtkodhbkmpnokjaaGreatMrg5
import Derived.Test.YtkodhbkmpnokjaaGreatMrg6
import Derived.RangeFuncNested
import Derived.RangeFuncBound
import Derived.RangeFuncCalls
import Derived.RangeFuncLeaves
import Derived.RangeFuncBox
import Derived.OwnWalkIn
import Derived.Shelf.Abstract
import Derived.TacticsInMore
import Derived.LoopNIn
import Derived.LoopIn
import Derived.Test.YtkodhbkmpnokjaaGreatMrg1

section
/- Layer 12, the program's own: normalizeSeries. -/
set_option linter.unusedVariables false
set_option maxRecDepth 20000
namespace Go.Proofs.YtkodhbkmpnokjaaGreat
open Go Go.RowKit

theorem strSer : Str Tryz.prog 37 2 [.slice none 0 0, .slice none 0 0] := Str.mk' Tryz.underlying37 rfl (by kernel_rfl) rfl

/-- What normalizeSeries gives: the series, or an empty one. -/
def resS (s : Ser) : Ser := if nErr s = 0 then nSer s else ([], [])
def GotS1 (w : World) (s : Ser) (e : Ending) (w' : World) : Prop := ∃ y : Hd, e = .returned (.tuple #[.agg #[y.1, y.2], .int .i64 (nErr s : Int)]) ∧ SerAt w' y (resS s) ∧ ((∀ k, y.1.ownBlock = some k → w.heap.size ≤ k) ∧ (∀ k, y.2.ownBlock = some k → w.heap.size ≤ k)) ∧ Below w.heap.size w w'
theorem GotS1.fails {w w' : World} {s : Ser} {en : Nat} (hb : Below w.heap.size w w') (he : nErr s = en) (h0 : en ≠ 0) : GotS1 w s (.returned (.tuple #[.agg #[.slice none 0 0, .slice none 0 0], .int .i64 (en : Int)])) w' := by
  subst he
  refine ⟨(.slice none 0 0, .slice none 0 0), rfl, ?_, ⟨(fun k e => by cases e), (fun k e => by cases e)⟩, hb⟩
  rw [resS, if_neg h0]
  exact ⟨Rd.nil _ _, Rd.nil _ _⟩
theorem below_set2 {w0 w : World} {g : Nat} (hb : Below w0.heap.size w0 w) (hg : w0.heap.size ≤ g) (x y : Value) : Below w0.heap.size w0 ((w.setCell ⟨g, 0, none⟩ x).setCell ⟨g, 1, none⟩ y) :=
  hb.trans (((Mods.set (fun k => k = g) w ⟨g, 0, none⟩ x (fun _ => rfl)).trans (Mods.set (fun k => k = g) _ ⟨g, 1, none⟩ y (fun _ => rfl)) (fun _ _ e => e)).below hb.size (fun k _ e => by have : k = g := e; omega))
theorem samOne (l : List Sam) : ∀ v ∈ samCells l, v.oneCell' = true := by
  induction l with
  | nil => intro v hv; cases hv
  | cons x l ih =>
    intro v hv
    have e : samCells (x :: l) = .int .i64 x.1 :: .int .u64 (x.2 : Int) :: samCells l := rfl
    rw [e] at hv
    rcases List.mem_cons.1 hv with rfl | hv
    · rfl
    · rcases List.mem_cons.1 hv with rfl | hv
      · rfl
      · exact ih v hv

set_option maxHeartbeats 4000000 in
theorem normSer_any (x : Hd) (s : Ser) (w : World) (h : SerAt w x s) (hz : SerSized s) (hl : s.1.length ≤ 100000) (hs : s.2.length ≤ 1000000) :
    Calls Tryz.prog 36 #[.agg #[x.1, x.2]] w (GotS1 w s) := by
  obtain ⟨x1, x2⟩ := x
  obtain ⟨ls, ss⟩ := s
  obtain ⟨p1, c1, e1⟩ := h.1.shape
  obtain ⟨p2, c2, e2⟩ := h.2.shape
  simp only at e1 e2 hl hs
  subst e1 e2
  obtain ⟨W2, hW2⟩ : ∃ W2, W2 = (w.alloc (.cells #[.slice p1 ls.length c1, .slice p2 ss.length c2] 37)).alloc (.cells #[.slice none 0 0, .slice none 0 0] 37) := ⟨_, rfl⟩
  have HW : Hid ((w.alloc (.cells #[.slice p1 ls.length c1, .slice p2 ss.length c2] 37)).alloc (.cells #[.slice none 0 0, .slice none 0 0] 37) = W2) := hW2.symm
  have HSz2 : Hid (W2.heap.size = w.heap.size + 2) := by show _ = _; rw [hW2]; simp
  have HB2 : Hid (Below w.heap.size w W2) := by show Below _ _ _; rw [hW2]; exact ((Below.refl _ w).alloc (Nat.le_refl _) _).alloc (by simp) _
  have HA2 : Hid (Blk W2 w.heap.size [.slice p1 ls.length c1, .slice p2 ss.length c2]) := by show Blk _ _ _; rw [hW2]; exact (Blk.new w _ _).alloc _
  have HR2 : Hid (Blk W2 (w.heap.size + 1) [.slice none 0 0, .slice none 0 0]) := by
    have h := Blk.new (w.alloc (.cells #[.slice p1 ls.length c1, .slice p2 ss.length c2] 37)) #[.slice none 0 0, .slice none 0 0] 37
    rw [← hW2] at h
    rwa [show (w.alloc (.cells #[.slice p1 ls.length c1, .slice p2 ss.length c2] 37)).heap.size = w.heap.size + 1 by simp] at h
  have HN := Lib.hid (labNorm_any _ ls W2 (h.1.below HB2.out) hz.1 hl)
  have HS := Lib.hid (h.2.below HB2.out)
  have hsi : (ss.length : Int) ≤ 1000000 := by omega
  have HSn : Hid (ss.length ≤ 1000000) := hs
  simp only at HN HS
  clear hW2 h hz hl hs
  go_enter Tryz.func36, Tryz.ntmps36
  go_wp2_with fail
  rw [HW.out]
  refine HN.out.mono ?_
  rintro e w3 hG
  obtain ⟨r, rfl, hRd, hFar⟩ := hG.res
  obtain ⟨pr, cr, e⟩ := hRd.shape
  subst e
  have HB3 : Hid (Below w.heap.size w w3) := HB2.out.trans (hG.bel.mono HB2.out.size)
  have HA3 : Hid (Blk w3 w.heap.size [.slice p1 ls.length c1, .slice p2 ss.length c2]) := HA2.out.of_same (hG.bel.block _ HA2.out.lt)
  have HR3 : Hid (Blk w3 (w.heap.size + 1) [.slice none 0 0, .slice none 0 0]) := HR2.out.of_same (hG.bel.block _ HR2.out.lt)
  have HS3 := Lib.hid (HS.out.below hG.bel)
  have HFr : Hid (∀ k, (Value.slice pr (normL ls).2.length cr).ownBlock = some k → w.heap.size + 2 ≤ k) := fun k hk => by have := hFar k hk; have := HSz2.out; omega
  have HRd3 := Lib.hid hRd
  have HSz3 : Hid (w.heap.size + 2 ≤ w3.heap.size) := by show _ ≤ _; have := hG.bel.size; have := HSz2.out; omega
  have HNe : Hid (nErr (ls, ss) = if (normL ls).1 ≠ 0 then (normL ls).1 else if ss = [] then 21 else timesL (sortE ltT ss)) := rfl
  have HNs : Hid (nSer (ls, ss) = ((normL ls).2, sortE ltT ss)) := rfl
  clear hG hRd hFar HN HS HW HB2 HA2 HR2 HSz2
  generalize (normL ls).1 = ne at *
  generalize (normL ls).2 = nl at *
  by_cases hc : ne = 0
  · subst hc
    have k1 : w3.cell? ⟨w.heap.size, 1, none⟩ = some (.slice p2 ss.length c2) := by rw [HA3.out.cell]; rfl
    by_cases h0 : ss.length = 0
    · have HE : Hid (nErr (ls, ss) = 21) := by show _ = _; rw [HNe.out, if_neg (by simp), if_pos (List.eq_nil_of_length_eq_zero h0)]
      have h0b : ((ss.length : Int) == 0) = true := by rw [beq_iff_eq]; omega
      obtain ⟨⟨d0, d1⟩, f0, f1⟩ := HR3.out.two
      clear h0
      go_wp2_with fail
      refine bodyPost_ret (resultsS2 (p := 2) (u := 3) strSer (by kernel_rfl) _ (w.heap.size + 1) rfl [.slice none 0 0, .slice none 0 0] (HR3.out.set2 _ _) rfl) rfl ?_
      exact GotS1.fails (en := 21) (below_set2 HB3.out (by omega) _ _) HE.out (by decide)
    · have HNe2 : Hid (nErr (ls, ss) = timesL (sortE ltT ss)) := by show _ = _; rw [HNe.out, if_neg (by simp), if_neg (fun e : ss = [] => h0 (by rw [e]; rfl))]
      have h0b : ((ss.length : Int) == 0) = false := by rw [beq_eq_false_iff_ne]; omega
      have HCp := Lib.hid (copyS_any _ ss.length (samCells ss) w3 HS3.out HSn.out (samOne ss))
      clear h0
      go_wp2_with fail
      refine HCp.out.mono ?_
      rintro e w4 ⟨rfl, hO, hB⟩
      have HB4 : Hid (Below w.heap.size w w4) := HB3.out.trans (hB.mono HB3.out.size)
      have HR4 : Hid (Blk w4 (w.heap.size + 1) [.slice none 0 0, .slice none 0 0]) := HR3.out.of_same (hB.block _ HR3.out.lt)
      have HRd4 := Lib.hid (HRd3.out.below hB)
      have HSo := Lib.hid (sort_sam w4 w3.heap.size _ ss hO HSn.out)
      obtain ⟨g3, hg3⟩ : ∃ g3, w3.heap.size = g3 := ⟨_, rfl⟩
      have HG3 : Hid (w.heap.size + 2 ≤ g3) := by rw [← hg3]; exact HSz3.out
      have HLt : Hid (nl ≠ [] → ∀ k, (Value.slice pr nl.length cr).ownBlock = some k → k < g3) := fun e k hk => by rw [← hg3]; exact HRd3.out.lt (labCells_ne' e) k hk
      rw [hg3] at HSo ⊢
      clear hO hB HCp k1 hg3
      go_wp2_with fail
      refine HSo.out.mono ?_
      rintro e w5 ⟨rfl, l', hp, hs, hO, hM⟩
      have HB5 : Hid (Below w.heap.size w w5) := HB4.out.trans (hM.below HB4.out.size (fun k hk e => by have h1 : g3 = k := (by simpa [Value.ownBlock] using e); have := HG3.out; omega))
      have HR5 : Hid (Blk w5 (w.heap.size + 1) [.slice none 0 0, .slice none 0 0]) := hM.blk HR4.out (fun e => by
        have : g3 = w.heap.size + 1 := by simpa [Value.ownBlock] using e
        have := HG3.out; omega)
      have HRd5 := Lib.hid (HRd4.out.mods' hM (fun e k hk e2 => by
        have h1 := HLt.out (labCells_ne e) k hk
        have : g3 = k := by simpa [Value.ownBlock] using e2
        omega))
      have HLn : Hid (l'.length = ss.length) := hp.length_eq
      have HSr := Lib.hid (sorted_sam hp hs)
      have hRd : Rd w5 2 (.slice (some ⟨g3, 0, none⟩) ss.length ss.length) l'.length (samCells l') := by rw [HLn.out]; exact Rd.of_owns hO
      have HRl := Lib.hid hRd
      have HNt := Lib.hid (neighTimes _ l' w5 hRd (by have := HLn.out; have := HSn.out; omega))
      clear hp hs hO hM hRd HSo HR4 HRd4 HB4
      go_wp2_with fail
      refine HNt.out.mono ?_
      rintro e w6 ⟨rfl, hG⟩
      have HB6 : Hid (Below w.heap.size w w6) := HB5.out.trans (hG.below.mono HB5.out.size)
      have HR6 : Hid (Blk w6 (w.heap.size + 1) [.slice none 0 0, .slice none 0 0]) := hG.blk HR5.out
      have HRd6 := Lib.hid (HRd5.out.grw hG)
      have HRl6 := Lib.hid (HRl.out.grw hG)
      obtain ⟨⟨d0, d1⟩, f0, f1⟩ := HR6.out.two
      clear hG HNt HR5 HRd5 HRl HB5
      by_cases ht : timesL l' = 0
      · have HEr : Hid (nErr (ls, ss) = 0) := by show _ = _; rw [HNe2.out, ← HSr.out.1]; exact ht
        have HEl : Hid (l' = sortE ltT ss) := HSr.out.2 ht
        rw [ht]
        clear ht
        go_wp2_with fail
        refine bodyPost_ret (resultsS2 (p := 2) (u := 3) strSer (by kernel_rfl) _ (w.heap.size + 1) rfl [.slice pr nl.length cr, .slice (some ⟨g3, 0, none⟩) ss.length ss.length] (HR6.out.set2 _ _) rfl) rfl ?_
        refine ⟨(.slice pr nl.length cr, .slice (some ⟨g3, 0, none⟩) ss.length ss.length), by rw [HEr.out]; rfl, ?_, ⟨fun k e => by have := HFr.out k e; omega, fun k e => ?_⟩, below_set2 HB6.out (by omega) _ _⟩
        · have hm : Mods (fun k => k = w.heap.size + 1) w6 ((w6.setCell ⟨w.heap.size + 1, 0, none⟩ (.slice pr nl.length cr)).setCell ⟨w.heap.size + 1, 1, none⟩ (.slice (some ⟨g3, 0, none⟩) ss.length ss.length)) :=
            (Mods.set (fun k => k = w.heap.size + 1) w6 ⟨w.heap.size + 1, 0, none⟩ _ (fun _ => rfl)).trans (Mods.set (fun k => k = w.heap.size + 1) _ ⟨w.heap.size + 1, 1, none⟩ _ (fun _ => rfl)) (fun _ _ e => e)
          have hr : resS (ls, ss) = (nl, l') := by rw [resS, if_pos HEr.out, HNs.out, HEl.out]
          rw [hr]
          refine ⟨HRd6.out.mods hm (fun k hk e => by have h1 := HFr.out k hk; have h2 : k = w.heap.size + 1 := e; omega), ?_⟩
          have h3 := HRl6.out.mods hm (fun k hk e => by have h1 : g3 = k := (by simpa [Value.ownBlock] using hk); have h2 : k = w.heap.size + 1 := e; have := HG3.out; omega)
          exact h3
        · have : g3 = k := by simpa [Value.ownBlock] using e
          have := HG3.out
          omega
      · have HE : Hid (nErr (ls, ss) = timesL l') := by show _ = _; rw [HNe2.out, HSr.out.1]
        have htb : ((timesL l' : Int) == 0) = false := by rw [beq_eq_false_iff_ne]; omega
        have HT0 : Hid (timesL l' ≠ 0) := ht
        clear ht
        generalize timesL l' = te at *
        go_wp2_with fail
        refine bodyPost_ret (resultsS2 (p := 2) (u := 3) strSer (by kernel_rfl) _ (w.heap.size + 1) rfl [.slice none 0 0, .slice none 0 0] (HR6.out.set2 _ _) rfl) rfl ?_
        exact GotS1.fails (en := te) (below_set2 HB6.out (by omega) _ _) HE.out HT0.out
  · have hcb : ((ne : Int) == 0) = false := by rw [beq_eq_false_iff_ne]; omega
    have HE : Hid (nErr (ls, ss) = ne) := by show _ = _; rw [HNe.out, if_pos hc]
    have HC0 : Hid (ne ≠ 0) := hc
    obtain ⟨⟨d0, d1⟩, f0, f1⟩ := HR3.out.two
    clear hc
    go_wp2_with fail
    refine bodyPost_ret (resultsS2 (p := 2) (u := 3) strSer (by kernel_rfl) _ (w.heap.size + 1) rfl [.slice none 0 0, .slice none 0 0] (HR3.out.set2 _ _) rfl) rfl ?_
    exact GotS1.fails (en := ne) (below_set2 HB3.out (by omega) _ _) HE.out HC0.out
end Go.Proofs.YtkodhbkmpnokjaaGreat

end

section
/- Layer 12, the program's own: slices.SortFunc at series, by labels. -/
set_option linter.unusedVariables false
set_option maxRecDepth 20000
namespace Go.Proofs.YtkodhbkmpnokjaaGreat
open Go Go.RowKit

def renSortSer : Go.Shelf.Ren := ⟨fun | 6 => 37 | 14 => 60 | 15 => 61 | 20 => 75 | 21 => 76 | 22 => 77 | 23 => 78 | 24 => 79 | 25 => 80 | 26 => 81 | 27 => 82 | 28 => 83 | 29 => 84 | 46 => 101 | 47 => 102 | 48 => 103 | 49 => 104 | 50 => 105 | 57 => 120 | n => n, fun | 0 => 0 | 3 => 3 | 4 => 4 | 5 => 5 | 9 => 9 | 22 => 22 | 24 => 37 | 25 => 54 | 39 => 82 | 45 => 95 | 46 => 96 | 50 => 100 | 53 => 103 | 55 => 40 | 66 => 118 | 70 => 122 | 76 => 134 | 77 => 135 | n => n, fun n => n⟩
theorem laysSortSer : Go.Proofs.SlLaysF0.n6 Tryz.prog renSortSer := { mixed := by kernel_rfl, f6 := ⟨"slices.SortFunc[[]tsblock/api.Series,tsblock/api.Series]", by decide, Tryz.func37.trans (congrArg some (by kernel_rfl))⟩, f14 := ⟨"slices.pdqsortCmpFunc[tsblock/api.Series]", by decide, Tryz.func60.trans (congrArg some (by kernel_rfl))⟩, f15 := Tryz.func61.trans (congrArg some (by kernel_rfl)), f20 := ⟨"slices.insertionSortCmpFunc[tsblock/api.Series]", by decide, Tryz.func75.trans (congrArg some (by kernel_rfl))⟩, f21 := ⟨"slices.heapSortCmpFunc[tsblock/api.Series]", by decide, Tryz.func76.trans (congrArg some (by kernel_rfl))⟩, f22 := ⟨"slices.breakPatternsCmpFunc[tsblock/api.Series]", by decide, Tryz.func77.trans (congrArg some (by kernel_rfl))⟩, f23 := ⟨"slices.choosePivotCmpFunc[tsblock/api.Series]", by decide, Tryz.func78.trans (congrArg some (by kernel_rfl))⟩, f24 := ⟨"slices.reverseRangeCmpFunc[tsblock/api.Series]", by decide, Tryz.func79.trans (congrArg some (by kernel_rfl))⟩, f25 := ⟨"slices.partialInsertionSortCmpFunc[tsblock/api.Series]", by decide, Tryz.func80.trans (congrArg some (by kernel_rfl))⟩, f26 := ⟨"slices.partitionEqualCmpFunc[tsblock/api.Series]", by decide, Tryz.func81.trans (congrArg some (by kernel_rfl))⟩, f27 := ⟨"slices.partitionCmpFunc[tsblock/api.Series]", by decide, Tryz.func82.trans (congrArg some (by kernel_rfl))⟩, f28 := Tryz.func83.trans (congrArg some (by kernel_rfl)), f29 := Tryz.func84.trans (congrArg some (by kernel_rfl)), f46 := ⟨"slices.siftDownCmpFunc[tsblock/api.Series]", by decide, Tryz.func101.trans (congrArg some (by kernel_rfl))⟩, f47 := Tryz.func102.trans (congrArg some (by kernel_rfl)), f48 := Tryz.func103.trans (congrArg some (by kernel_rfl)), f49 := ⟨"slices.medianAdjacentCmpFunc[tsblock/api.Series]", by decide, Tryz.func104.trans (congrArg some (by kernel_rfl))⟩, f50 := ⟨"slices.medianCmpFunc[tsblock/api.Series]", by decide, Tryz.func105.trans (congrArg some (by kernel_rfl))⟩, f57 := ⟨"slices.order2CmpFunc[tsblock/api.Series]", by decide, Tryz.func120.trans (congrArg some (by kernel_rfl))⟩, t0 := Tryz.underlying0, a0 := Tryz.isAgg0, z0 := Tryz.sizeOf0, v0 := Tryz.zeroValue0, t3 := Tryz.underlying3, a3 := Tryz.isAgg3, z3 := Tryz.sizeOf3, v3 := Tryz.zeroValue3, t4 := Tryz.underlying4, a4 := Tryz.isAgg4, z4 := Tryz.sizeOf4, v4 := Tryz.zeroValue4, t5 := Tryz.underlying5, a5 := Tryz.isAgg5, z5 := Tryz.sizeOf5, v5 := Tryz.zeroValue5, t9 := Tryz.underlying9, a9 := Tryz.isAgg9, z9 := Tryz.sizeOf9, v9 := Tryz.zeroValue9, t22 := Tryz.underlying22, a22 := Tryz.isAgg22, z22 := Tryz.sizeOf22, v22 := Tryz.zeroValue22, t25 := Tryz.underlying54, a25 := Tryz.isAgg54, z25 := Tryz.sizeOf54, v25 := Tryz.zeroValue54, t39 := Tryz.underlying82, a39 := Tryz.isAgg82, z39 := Tryz.sizeOf82, v39 := Tryz.zeroValue82, t45 := Tryz.underlying95, a45 := Tryz.isAgg95, z45 := Tryz.sizeOf95, v45 := Tryz.zeroValue95, t46 := Tryz.underlying96, a46 := Tryz.isAgg96, z46 := Tryz.sizeOf96, v46 := Tryz.zeroValue96, t50 := Tryz.underlying100, a50 := Tryz.isAgg100, z50 := Tryz.sizeOf100, v50 := Tryz.zeroValue100, t53 := Tryz.underlying103, a53 := Tryz.isAgg103, z53 := Tryz.sizeOf103, v53 := Tryz.zeroValue103, t55 := Tryz.underlying40, a55 := Tryz.isAgg40, z55 := Tryz.sizeOf40, v55 := Tryz.zeroValue40, t66 := Tryz.underlying118, a66 := Tryz.isAgg118, z66 := Tryz.sizeOf118, v66 := Tryz.zeroValue118, t70 := Tryz.underlying122, a70 := Tryz.isAgg122, z70 := Tryz.sizeOf122, v70 := Tryz.zeroValue122, t76 := Tryz.underlying134, a76 := Tryz.isAgg134, z76 := Tryz.sizeOf134, v76 := Tryz.zeroValue134, t77 := Tryz.underlying135, a77 := Tryz.isAgg135, z77 := Tryz.sizeOf135, v77 := Tryz.zeroValue135 }


/-- A series in a world: its heads, which lie in block g, and what they lead to, which does not. -/
abbrev SerEl (w : World) (g : Nat) : Type := {p : Hd × Ser // SerAt w p.1 p.2 ∧ SerOff (fun k => k = g) p.1 p.2 ∧ p.2.1.length ≤ 1000000}
instance (w : World) (g : Nat) : Inhabited (SerEl w g) := ⟨⟨((.slice none 0 0, .slice none 0 0), ([], [])), ⟨Rd.nil _ _, Rd.nil _ _⟩, ⟨fun e => absurd rfl e, fun e => absurd rfl e⟩, by simp⟩⟩
section
variable {w : World} {g : Nat}
def encSe (x : SerEl w g) : List Value := [x.1.1.1, x.1.1.2]
theorem encSe_one (x : SerEl w g) : ∀ v ∈ encSe x, v.oneCell' = true := by
  intro v hv
  obtain ⟨p1, c1, e1⟩ := x.2.1.1.shape
  obtain ⟨p2, c2, e2⟩ := x.2.1.2.shape
  simp only [encSe, List.mem_cons, List.not_mem_nil, or_false] at hv
  rcases hv with rfl | rfl
  · rw [e1]; rfl
  · rw [e2]; rfl
def cmpSe (x y : SerEl w g) : Int := cmpLabs x.1.2.1 y.1.2.1
theorem ltOf_cmpSe : ltOf (cmpSe (w := w) (g := g)) = fun x y => ltB x.1.2 y.1.2 := by
  funext x y
  show decide (cmpLabs x.1.2.1 y.1.2.1 < 0) = decide (cmpLabs x.1.2.1 y.1.2.1 = -1)
  rw [decide_eq_decide]
  have := cmpLabs_ok.dom x.1.2.1 y.1.2.1
  omega
theorem swo_cmpSe : Go.Sort.SWO (ltOf (cmpSe (w := w) (g := g))) := by
  rw [ltOf_cmpSe]
  refine ⟨fun x => ltB_ok.irr _, fun x y z => ltB_ok.tr _ _ _, fun x y z h1 h2 => ?_⟩
  rcases Bool.eq_false_or_eq_true (ltB x.1.2 z.1.2) with e | e
  · rcases ltB_ok.co x.1.2 y.1.2 z.1.2 e with f | f
    · rw [h1] at f; cases f
    · rw [h2] at f; cases f
  · exact e
theorem encSe_flat (l : List (SerEl w g)) : l.flatMap encSe = two Prod.fst Prod.snd (l.map fun x => x.1.1) := by
  induction l with
  | nil => rfl
  | cons x l ih => rw [List.flatMap_cons, ih]; rfl
end

theorem sort_ser (w0 w : World) (v : Value) (hs : List Hd) (b : List Ser) (h : NmAt w0 w hs b v) (hn : b.length ≤ 1000000) (hl : ∀ s ∈ b, s.1.length ≤ 1000000) :
    Calls Tryz.prog 37 #[v, .func (.func 31) #[] #[]] w fun e w' => e = .returned (.tuple #[]) ∧ ∃ hs' b', List.Perm b' b ∧ SrtE ltB b' ∧ NmAt w0 w' hs' b' v ∧ Mods (fun k => v.ownBlock = some k) w w' := by
  have hrow := h.row.row
  rcases hrow.2 with ⟨hv, h0⟩ | ⟨g, cap, cur, hv, hbase, hgb, r1, r2, r3, r4⟩
  · subst hv
    refine (AnyF.slices_SortFunc_none laysSortSer none 0 _ w).mono ?_
    rintro e w' ⟨rfl, rfl⟩
    have hb0 : b = [] := List.eq_nil_of_length_eq_zero (by rw [← h.len]; exact h0)
    exact ⟨rfl, hs, b, List.Perm.refl _, by rw [hb0]; exact List.Pairwise.nil, h, Mods.refl _ _⟩
  · subst hv
    have hall : ∀ p ∈ hs.zip b, SerAt w p.1 p.2 ∧ SerOff (fun k => k = g) p.1 p.2 ∧ p.2.1.length ≤ 1000000 := by
      intro p hp
      obtain ⟨i, hi⟩ := List.mem_iff_getElem?.1 hp
      obtain ⟨h1, h2⟩ := List.getElem?_zip_eq_some.1 hi
      obtain ⟨a1, a2⟩ := h.ser i p.1 p.2 h1 h2
      exact ⟨a1, ⟨fun e k hk hg => a2.1 e k hk (by rw [hg]; rfl), fun e k hk hg => a2.2 e k hk (by rw [hg]; rfl)⟩, hl _ (List.mem_of_getElem? h2)⟩
    obtain ⟨l, hlm⟩ : ∃ l : List (SerEl w g), l.map Subtype.val = hs.zip b := ⟨(hs.zip b).pmap (fun p h => ⟨p, h⟩) hall, by rw [List.map_pmap]; exact (List.pmap_eq_map (f := id) _).trans (List.map_id _)⟩
    have hl1 : l.map (fun x => x.1.1) = hs := by
      have : l.map (fun x => x.1.1) = (l.map Subtype.val).map Prod.fst := by rw [List.map_map]; rfl
      rw [this, hlm, List.map_fst_zip (by rw [h.len]; exact Nat.le_refl _)]
    have hl2 : l.map (fun x => x.1.2) = b := by
      have : l.map (fun x => x.1.2) = (l.map Subtype.val).map Prod.snd := by rw [List.map_map]; rfl
      rw [this, hlm, List.map_snd_zip (by rw [h.len]; exact Nat.le_refl _)]
    have hln : hs.length = l.length := by rw [← hl1, List.length_map]
    rw [← hl1, ← encSe_flat, List.length_map] at r4
    have hk : ∀ x : SerEl w g, (encSe x).length = 2 := fun _ => rfl
    have hH : Go.Sort.HoldsK encSe 2 w g 0 l.toArray := holdsK_of_block encSe 2 hk (by decide) hgb r4
    have hC := AnyQ.slices_SortFunc laysSortSer 2 Tryz.isAgg37 Tryz.sizeOf37 encSe hk encSe_one cmpSe swo_cmpSe 31 #[] g 0 cap l.toArray w
      (fun _ _ => rfl) (fun m os dk _ x y => compareSeries_any x.1.1 y.1.1 x.1.2 y.1.2 _ (x.2.1.mods (mods_sortedK (Go.Sort.flatK encSe 2 dk)) x.2.2.1) (y.2.1.mods (mods_sortedK (Go.Sort.flatK encSe 2 dk)) y.2.2.1) x.2.2.2 y.2.2.2) hH (Array.getElem?_eq_some_iff.1 hgb).1 (by simp; have := h.len; omega)
    have hsz : l.toArray.size = l.length := by simp
    rw [hsz, ← hln] at hC
    refine hC.mono ?_
    rintro e w' ⟨rfl, d', n, os, hp, hsr, rfl⟩
    have hds : d'.size = hs.length := by rw [hp.1, hsz, hln]
    have hm := mods_sortedK (w := w) (g := g) (n := n) (os := os) (Go.Sort.flatK encSe 2 d')
    have h3 : d'.toList.Perm l := by
      have h3 := hp.2.2
      rw [show d'.extract 0 hs.length = d' by rw [← hds]; exact Array.extract_size] at h3
      rw [hln, show l.toArray.extract 0 l.length = l.toArray by rw [← hsz]; exact Array.extract_size] at h3
      exact h3
    have hbg : w0.heap.size ≤ g := hbase
    refine ⟨rfl, d'.toList.map (fun x => x.1.1), d'.toList.map (fun x => x.1.2), ?_, ?_, ⟨⟨?_, ?_⟩, by simp, ?_⟩, hm.mono (fun k _ e => by show some g = some k; rw [show k = g from e])⟩
    · rw [← hl2]; exact h3.map _
    · refine List.pairwise_map.2 (List.pairwise_iff_getElem.2 ?_)
      intro i j hi hj hij
      have h4 := hsr i j (Nat.zero_le _) hij (by rw [← hds]; simpa using hj)
      rw [ltOf_cmpSe, getElem!_pos d' i (by simpa using hi), getElem!_pos d' j (by simpa using hj)] at h4
      simpa using h4
    · have h5 := ownsRow_sortedK encSe 2 hk (by decide) (n := n) (os := os) (d := d') hds hbase hgb r1 r2 r3
      rw [encSe_flat] at h5
      rw [List.length_map, show d'.toList.length = hs.length by rw [← hds]; simp]
      exact h5
    · exact h.row.bel.trans (hm.below h.row.bel.size (fun k hk e => by have : k = g := e; omega))
    · intro i hd s hi hj
      rw [List.getElem?_map] at hi hj
      obtain ⟨x, hx⟩ : ∃ x, d'.toList[i]? = some x := by
        cases hq : d'.toList[i]? with
        | none => rw [hq] at hi; cases hi
        | some x => exact ⟨x, rfl⟩
      rw [hx] at hi hj
      cases hi; cases hj
      refine ⟨x.2.1.mods hm x.2.2.1, ⟨fun e k hk hg => x.2.2.1.1 e k hk ?_, fun e k hk hg => x.2.2.1.2 e k hk ?_⟩⟩
      · simpa [Value.ownBlock] using hg.symm
      · simpa [Value.ownBlock] using hg.symm
end Go.Proofs.YtkodhbkmpnokjaaGreat

end

section
/- Layer 12, the program's own: copyOf at series. -/
set_option linter.unusedVariables false
set_option maxRecDepth 100000
namespace Go.Proofs.YtkodhbkmpnokjaaGreat
open Go Go.RowKit

theorem infoCpB : (Tryz.prog.info? 37).map (fun i => (i.zero, i.size, i.bytes)) = some (some (.agg #[.slice none 0 0, .slice none 0 0]), 2, 48) := by kernel_rfl

set_option maxHeartbeats 2000000 in
theorem copyB_any (v : Value) (n : Nat) (cs : List Value) (w : World) (h : Rd w 2 v n cs) (hn : n ≤ 1000000) (h1 : ∀ v ∈ cs, v.oneCell' = true) :
    Calls Tryz.prog 43 #[v] w fun e w' => e = .returned (.slice (some ⟨w.heap.size, 0, none⟩) n n) ∧ w'.ownsRow w.heap.size 37 2 (.slice (some ⟨w.heap.size, 0, none⟩) n n) n cs ∧ Below w.heap.size w w' := by
  have H := Lib.hid h; have HV := Lib.hid h1
  obtain ⟨p, c, e⟩ := h.shape
  subst e
  have HLn : Hid (cs.length = n * 2) := h.len
  obtain ⟨i0, hi0, hz0, hz1, hz2⟩ := info_parts infoCpB
  have HI := Lib.hid hi0; have HZ := Lib.hid hz0; have HZ1 := Lib.hid hz1
  have HZ2 : Hid (i0.bytes * n ≤ 281474976710656 ∧ n ≤ maxLen) := by show _ ∧ _; unfold maxLen; rw [hz2]; omega
  have HSz : Hid ((Tryz.prog.info? 37).map (·.size) = some 2) := by show _ = _; rw [hi0]; simp [hz1]
  have hni : (n : Int) ≤ 1000000 := by omega
  clear h hn h1 hi0 hz0 hz1 hz2
  go_enter Tryz.func43, Tryz.ntmps43
  go_wp2_with (refine wpList_make_full _ rfl _ _ _ rfl w.heap.size 37 i0 (.agg #[.slice none 0 0, .slice none 0 0]) 2 Tryz.underlying22 HI.out HZ.out HZ1.out _ _ _ _ n rfl rfl rfl rfl HZ2.out.1 HZ2.out.2 (Nat.le_refl _) ?_)
  intro w4 hown hgr
  have HR4 := Lib.hid (row_of_fullK hown)
  have HLm : Hid ((madeCells #[.slice none 0 0, .slice none 0 0] (n * 2)).toList.toArray.size = n * 2) := by show _ = _; simp [madeCells]
  have HB4 : Hid (Below w.heap.size w w4) := (Mods.of_grown hgr).below (Nat.le_refl _) (fun k _ e => by cases e)
  clear hown hgr
  by_cases h0 : n = 0
  · subst h0
    have hcs : cs = [] := List.eq_nil_of_length_eq_zero (by have := HLn.out; omega)
    have HRow : Hid (w4.ownsRow w.heap.size 37 2 (.slice (some ⟨w.heap.size, 0, none⟩) 0 0) 0 cs) := by
      show World.ownsRow _ _ _ _ _ _ _
      rw [hcs]
      have h := HR4.out
      rw [show (madeCells #[.slice none 0 0, .slice none 0 0] (0 * 2)).toList = [] from List.eq_nil_of_length_eq_zero (by simp [madeCells])] at h
      exact full_of_rowK h (Nat.le_refl _) rfl (by unfold maxLen; omega)
    have hrun := run_copy_noneK (P := Tryz.prog) w4 22 22 3 37 2 (some ⟨w.heap.size, 0, none⟩) p 0 c Tryz.underlying22 HSz.out
    clear hcs
    go_wp2_with fail
    go_ret
    exact ⟨rfl, HRow.out, HB4.out⟩
  · obtain ⟨b, off, c', e, _, _, hcl⟩ := H.out.at (fun e => by have := HLn.out; rw [e] at this; simp at this; omega)
    simp only [Value.slice.injEq] at e
    obtain ⟨rfl, _, rfl⟩ := e
    have hrun := run_copy_rowK (P := Tryz.prog) w4 22 22 3 37 2 w.heap.size n n ⟨b, off, none⟩ c _ _ cs Tryz.underlying22 HSz.out HR4.out HLn.out
      (fun j v hj => by
        have h3 := hcl j v hj
        have h4 : (⟨b, off, none⟩ : Addr).add j = ⟨b, off + j, none⟩ := by unfold Addr.add; split <;> simp_all
        rw [h4]
        exact (HB4.out.cell (World.block_lt_of_cell? w _ h3)).trans h3) (by rw [HLm.out, HLn.out]) HV.out
    generalize hw5 : w4.setRow _ _ = w5 at hrun
    have HRow : Hid (w5.ownsRow w.heap.size 37 2 (.slice (some ⟨w.heap.size, 0, none⟩) n n) n cs) := by
      show World.ownsRow _ _ _ _ _ _ _
      refine full_of_rowK ?_ (Nat.le_refl _) HLn.out HZ2.out.2
      rw [← hw5, setRow_heap w4 w.heap.size _ _ _ _ HR4.out]
    have HB5 : Hid (Below w.heap.size w w5) := by rw [← hw5]; exact below_rowK HB4.out (Nat.le_refl _) _
    clear hw5 h0 hcl
    go_wp2_with fail
    go_ret
    exact ⟨rfl, HRow.out, HB5.out⟩
end Go.Proofs.YtkodhbkmpnokjaaGreat

end

section
/- Layer 12, the program's own: Normalize. -/
set_option linter.unusedVariables false
set_option maxRecDepth 20000
namespace Go.Proofs.YtkodhbkmpnokjaaGreat
open Go Go.RowKit

abbrev nilHd : Hd := (.slice none 0 0, .slice none 0 0)
theorem made_ser (n : Nat) : (madeCells #[.slice none 0 0, .slice none 0 0] (n * 2)).toList = two Prod.fst Prod.snd (List.replicate n nilHd) := by
  refine List.ext_getElem? fun j => ?_
  by_cases hj : j < n * 2
  · obtain ⟨g1, g2⟩ := two_get (f1 := (Prod.fst : Hd → Value)) (f2 := Prod.snd) (List.replicate n nilHd) (j / 2) nilHd (by rw [List.getElem?_replicate, if_pos (by omega)])
    have hl : (madeCells #[Value.slice none 0 0, .slice none 0 0] (n * 2)).toList[j]? = some (#[Value.slice none 0 0, .slice none 0 0][j % 2]!) := by
      simp [madeCells, hj]
    rw [hl]
    rcases Nat.mod_two_eq_zero_or_one j with h | h
    · rw [h, show j = j / 2 * 2 by omega, g1]; rfl
    · rw [h, show j = j / 2 * 2 + 1 by omega, g2]; rfl
  · rw [List.getElem?_eq_none (by simp [madeCells]; omega), List.getElem?_eq_none (by rw [two_length]; simp; omega)]
/-- The list under way: i series are in their places. -/
def prg (f : Ser → Ser) (l : List Ser) (i : Nat) : List Ser := (l.take i).map f ++ List.replicate (l.length - i) ([], [])
theorem prg_length (f : Ser → Ser) (l : List Ser) (i : Nat) (h : i ≤ l.length) : (prg f l i).length = l.length := by
  rw [prg, List.length_append, List.length_map, List.length_take, List.length_replicate]; omega
theorem prg_zero (f : Ser → Ser) (l : List Ser) : prg f l 0 = List.replicate l.length ([], []) := by simp [prg]
theorem prg_all (f : Ser → Ser) (l : List Ser) : prg f l l.length = l.map f := by simp [prg]
theorem prg_set (f : Ser → Ser) {l : List Ser} {i : Nat} {s : Ser} (h : l[i]? = some s) : (prg f l i).set i (f s) = prg f l (i + 1) := by
  have hlt := (List.getElem?_eq_some_iff.1 h).1
  have hl : ((l.take i).map f).length = i := by rw [List.length_map, List.length_take]; omega
  rw [prg, prg, List.set_append_right _ _ (by omega), hl, Nat.sub_self, List.take_add_one, h, List.map_append, List.append_assoc]
  obtain ⟨m, hm⟩ : ∃ m, l.length - i = m + 1 := ⟨l.length - i - 1, by omega⟩
  rw [hm, show l.length - (i + 1) = m by omega]
  rfl
theorem nmAt_made {w w1 w4 : World} {n : Nat} (hb : Below w.heap.size w w1) (hb4 : Below w1.heap.size w1 w4) (h : w4.ownsRow w1.heap.size 37 2 (.slice (some ⟨w1.heap.size, 0, none⟩) n n) n (madeCells #[.slice none 0 0, .slice none 0 0] (n * 2)).toList) :
    NmAt w w4 (List.replicate n nilHd) (List.replicate n ([], [])) (.slice (some ⟨w1.heap.size, 0, none⟩) n n) := by
  rw [made_ser] at h
  refine ⟨⟨?_, hb.trans (hb4.mono hb.size)⟩, by simp, fun i x s hx hs => ?_⟩
  · rw [List.length_replicate]
    exact owns_rebase h (fun k hk => Nat.le_trans hb.size (h.lt k hk).1)
  · rw [List.getElem?_replicate] at hx hs
    split at hx
    · next h1 =>
      rw [if_pos h1] at hs
      cases hx; cases hs
      exact ⟨⟨Rd.nil _ _, Rd.nil _ _⟩, ⟨fun e => absurd rfl e, fun e => absurd rfl e⟩⟩
    · cases hx

set_option maxHeartbeats 8000000 in
theorem modNorm_any (lv : Value) (l : List Ser) (w : World) (h : RdB w lv l) (hz : Sized l) (hs : Small l) :
    Calls Tryz.prog 13 #[lv] w (GotN w (normB l)) := by
  have H := Lib.hid h; have HSm := Lib.hid hs; have HZ := Lib.hid hz
  have HLg := Lib.hid (modLarge_any lv l w h hs)
  obtain ⟨p, c, hv⟩ := h.shape
  subst hv
  have hmx : (l.length : Int) ≤ 300 := by have := hs.len; omega
  obtain ⟨i0, hi0, hz0, hz1, hz2⟩ := info_parts infoCpB
  have HI := Lib.hid hi0; have HZ0 := Lib.hid hz0; have HZ1 := Lib.hid hz1
  have HZ2 : Hid (i0.bytes * l.length ≤ 281474976710656 ∧ l.length ≤ maxLen) := by show _ ∧ _; unfold maxLen; rw [hz2]; omega
  clear h hs hz hi0 hz0 hz1 hz2
  go_enter Tryz.func13, Tryz.ntmps13
  go_wp2_with fail
  refine HLg.out.mono ?_
  rintro e w1 ⟨rfl, hG1⟩
  have HB1 : Hid (Below w.heap.size w w1) := hG1.below
  clear hG1 HLg
  go_wp2_with (refine wpList_make_full _ rfl _ _ _ rfl w1.heap.size 37 i0 (.agg #[.slice none 0 0, .slice none 0 0]) 2 Tryz.underlying22 HI.out HZ0.out HZ1.out _ _ _ _ l.length rfl rfl rfl rfl HZ2.out.1 HZ2.out.2 (Nat.le_refl _) ?_)
  intro w4 hown hgr
  have HN4 : Hid (NmAt w w4 (List.replicate l.length nilHd) (prg nSer l 0) (.slice (some ⟨w1.heap.size, 0, none⟩) l.length l.length)) := by
    show NmAt _ _ _ _ _
    rw [prg_zero]
    exact nmAt_made HB1.out ((Mods.of_grown hgr).below (Nat.le_refl _) (fun k _ e => by cases e)) hown
  have HGs : Hid (w.heap.size ≤ w1.heap.size) := HB1.out.size
  clear hown hgr HB1 HI HZ0 HZ1 HZ2
  generalize w1.heap.size = g at *
  go_wp2_with fail
  go_loopw [16] (fun iv wr => ∃ (i : Nat) (hs : List Hd), i ≤ l.length ∧ iv = .int .i64 (i : Int) ∧ Hid (NmAt w wr hs (prg nSer l i) (.slice (some ⟨g, 0, none⟩) l.length l.length)) ∧ Hid (∀ x ∈ l.take i, nErr x = 0)) (fun iv _ => l.length - (intOf iv).toNat)
  case atStart => exact ⟨0, _, Nat.zero_le _, rfl, HN4.out, by intro x hx; simp at hx⟩
  case round =>
    obtain ⟨i, hs, hi, rfl, HN, HF⟩ := hrel
    clear HN4
    have him : (i : Int) ≤ 300 := by omega
    by_cases hlt : i < l.length
    · have hlt' : (i : Int) < (l.length : Int) := by omega
      obtain ⟨s, hx⟩ : ∃ s, l[i]? = some s := ⟨_, List.getElem?_eq_getElem hlt⟩
      obtain ⟨blk, off, h1, h2, e, ⟨p1, k1, e1⟩, ⟨p2, k2, e2⟩, hal⟩ := H.out.always hx
      subst e
      subst e1
      subst e2
      have HB := Lib.hid HN.out.row.bel
      have hmem := List.mem_of_getElem? hx
      have HL1 : Hid (s.1.length ≤ 200 ∧ s.2.length ≤ 3000) := ⟨HSm.out.lab _ hmem, HSm.out.mem hmem⟩
      obtain ⟨c1, c2, _⟩ := hal wr HB.out
      obtain ⟨w2, hw2⟩ : ∃ w2, w2 = wr.alloc (.cells #[.slice p1 s.1.length k1, .slice p2 s.2.length k2] 37) := ⟨_, rfl⟩
      have HW : Hid (wr.alloc (.cells #[.slice p1 s.1.length k1, .slice p2 s.2.length k2] 37) = w2) := hw2.symm
      have hB2 : Below wr.heap.size wr w2 := by rw [hw2]; exact (Below.refl _ wr).alloc (Nat.le_refl _) _
      have HB2 : Hid (Below w.heap.size w w2) := HB.out.trans (hB2.mono HB.out.size)
      have HN2 := Lib.hid (HN.out.below hB2)
      have HK2 : Hid (Blk w2 wr.heap.size [.slice p1 s.1.length k1, .slice p2 s.2.length k2]) := by show Blk _ _ _; rw [hw2]; exact Blk.new wr _ _
      have HCk := Lib.hid (normSer_any (.slice p1 s.1.length k1, .slice p2 s.2.length k2) s w2 (hal w2 HB2.out).2.2 (HZ.out _ hmem) (by have := HL1.out.1; omega) (by have := HL1.out.2; omega))
      have HFl : Hid (nErr s ≠ 0 → normB l = (nErr s, [])) := fun e => normB_fails HF.out hx e
      have HFn : Hid (nErr s = 0 → ∀ x ∈ l.take (i + 1), nErr x = 0) := fun e x hxm => by
        rw [List.take_add_one, hx] at hxm
        rcases List.mem_append.1 hxm with f | f
        · exact HF.out x f
        · simp at f; subst f; exact e
      have HSet : Hid (nErr s = 0 → (prg nSer l i).set i (resS s) = prg nSer l (i + 1)) := fun e => by rw [resS, if_pos e]; exact prg_set nSer hx
      have HLn : Hid (hs.length = l.length) := by show _ = _; rw [HN.out.len, prg_length _ _ _ (by omega)]
      have HI2 : Hid (i < l.length) := hlt
      simp only at HCk
      clear hx hal hmem hw2 hB2 HN HF
      go_wp2_with fail
      rw [HW.out]
      have q1 : w2.cell? ⟨wr.heap.size, 0, none⟩ = some (.slice p1 s.1.length k1) := by rw [HK2.out.cell]; rfl
      have q2 : w2.cell? ⟨wr.heap.size, 1, none⟩ = some (.slice p2 s.2.length k2) := by rw [HK2.out.cell]; rfl
      clear c1 c2
      try go_wp2_with fail
      refine HCk.out.mono ?_
      rintro e w3 ⟨⟨y1, y2⟩, rfl, hsr, ⟨hf1, hf2⟩, hB3⟩
      have HN3 := Lib.hid (HN2.out.below hB3)
      obtain ⟨z, hz⟩ : ∃ z, hs[i]? = some z := ⟨_, List.getElem?_eq_getElem (by have := HLn.out; omega)⟩
      obtain ⟨⟨d0, d1⟩, f0, f1⟩ := HN3.out.row.cell hz
      have hgl : g < w2.heap.size := (HN2.out.row.row.lt g rfl).2
      have HNs : Hid (NmAt w ((w3.setCell ⟨g, i * 2, none⟩ y1).setCell ⟨g, i * 2 + 1, none⟩ y2) (hs.set i (y1, y2)) ((prg nSer l i).set i (resS s)) (.slice (some ⟨g, 0, none⟩) l.length l.length)) :=
        HN3.out.stored (h := (y1, y2)) hsr ⟨fun _ k hk e => by have := hf1 k hk; have : k = g := e; omega, fun _ k hk e => by have := hf2 k hk; have : k = g := e; omega⟩ rfl rfl
      obtain ⟨py1, cy1, ey1⟩ := hsr.1.shape
      obtain ⟨py2, cy2, ey2⟩ := hsr.2.shape
      simp only at ey1 ey2
      subst ey1 ey2
      clear hB3 HCk HB2 HK2 q1 q2 HW hsr hf1 hf2 hgl HN2 HN3 hz
      by_cases hc : nErr s = 0
      · have HSe := HSet.out hc
        have HNr := Lib.hid HNs.out
        rw [HSe] at HNr
        have HF2 := Lib.hid (HFn.out hc)
        rw [hc]
        clear hc HSet HFn HFl HNs HSe
        generalize (resS s).1.length = m1 at *
        generalize (resS s).2.length = m2 at *
        go_wp2_with fail
        go_round
        case rel => exact ⟨i + 1, _, by omega, by go_num, HNr.out, HF2.out⟩
        case measure => simp [intOf]; omega
      · have HE := Lib.hid (HFl.out hc)
        have hcb : ((nErr s : Int) == 0) = false := by rw [beq_eq_false_iff_ne]; omega
        clear hc HSet HFn HFl
        generalize nErr s = ce at *
        generalize (resS s).1.length = m1 at *
        generalize (resS s).2.length = m2 at *
        go_wp2_with fail
        go_ret2
        exact GotN.fails HNs.out.row.bel HE.out
    · have hlt' : ¬ (i : Int) < (l.length : Int) := by omega
      have hil : i = l.length := by omega
      subst hil
      have HNa : Hid (NmAt w wr hs (l.map nSer) (.slice (some ⟨g, 0, none⟩) l.length l.length)) := by have := HN.out; rwa [prg_all] at this
      have HE0 : Hid (firstErrB l = 0) := by show _ = _; rw [firstErrB_zero]; have := HF.out; rwa [List.take_length] at this
      have HLl : Hid (∀ s ∈ l.map nSer, s.1.length ≤ 1000000) := by
        intro s hs
        obtain ⟨x, hx, rfl⟩ := List.mem_map.1 hs
        have h1 := (norm_le x.1).2
        have h2 := HSm.out.lab x hx
        show (normL x.1).2.length ≤ 1000000
        omega
      have HLm : Hid ((l.map nSer).length ≤ 300) := by show _ ≤ _; rw [List.length_map]; exact HSm.out.len
      have HSo := Lib.hid (sort_ser w wr _ hs (l.map nSer) HNa.out (by have := HLm.out; omega) HLl.out)
      clear HN HF him
      go_wp2_with fail
      refine HSo.out.mono ?_
      rintro e w5 ⟨rfl, hs', b', hp, hsr, hN, hM⟩
      have HN5 := Lib.hid hN
      have HSs := Lib.hid (sorted_ser hp hsr)
      have HNb := Lib.hid (adj_nbr hsr)
      have HRd : Hid (Rd w5 2 (.slice (some ⟨g, 0, none⟩) l.length l.length) hs'.length (two Prod.fst Prod.snd hs')) := hN.row.rd
      have HNt := Lib.hid (neighSers _ hs' b' w5 HRd.out hN.len (fun i h s a b => (hN.ser i h s a b).1) (by have := hp.length_eq; have := HLm.out; omega) (fun s hs => HLl.out s (hp.mem_iff.1 hs)))
      rw [HNb.out] at HNt
      clear hp hsr hN hM HSo HNa HRd HNb
      go_wp2_with fail
      by_cases ha : adjB b' = true
      · have HE : Hid (normB l = (19, [])) := by
          show _ = _
          unfold normB
          rw [HE0.out, if_neg (by simp), if_pos (by rw [← HSs.out.1]; exact ha)]
        rw [if_pos ha] at HNt
        refine HNt.out.mono ?_
        rintro e w6 ⟨rfl, hG⟩
        have HN6 := Lib.hid (HN5.out.below hG.below)
        clear hG HNt ha HN5
        go_wp2_with fail
        go_ret2
        exact GotN.fails (en := 19) HN6.out.row.bel HE.out
      · have ha' : adjB b' = false := by simpa using ha
        have HE : Hid (normB l = (0, b')) := by
          show _ = _
          unfold normB
          rw [HE0.out, if_neg (by simp), if_neg (by rw [← HSs.out.1, ha']; decide), HSs.out.2 ha']
        rw [if_neg ha] at HNt
        refine HNt.out.mono ?_
        rintro e w6 ⟨rfl, hG⟩
        have HN6 := Lib.hid (HN5.out.below hG.below)
        clear hG HNt ha ha' HN5
        go_wp2_with fail
        go_ret2
        rw [HE.out]
        exact ⟨_, rfl, HN6.out.rd, HN6.out.row.bel⟩
end Go.Proofs.YtkodhbkmpnokjaaGreat

end

section
/- Layer 11, the program's own: Strings. -/
set_option linter.unusedVariables false
set_option maxRecDepth 20000
namespace Go.Proofs.YtkodhbkmpnokjaaGreat
open Go Go.RowKit

set_option maxHeartbeats 2000000 in
theorem labStrings_any (lv : Value) (l : List Lab) (w : World) (hl : Rd w 2 lv l.length (labCells l)) (hn : l.length ≤ 1000000) :
    Calls Tryz.prog 46 #[lv] w fun e w' => ∃ r, e = .returned r ∧ Own1 9 Value.string w w' (stringsL l) r := by
  have HL := Lib.hid hl
  obtain ⟨pl, cl, hv⟩ := hl.shape
  subst hv
  have hmx : (l.length : Int) ≤ 1000000 := by omega
  clear hl hn
  go_enter Tryz.func46, Tryz.ntmps46
  go_wp2_with fail
  go_loopw [3, 8] (fun vv iv wr => ∃ (i : Nat), i ≤ l.length ∧ iv = .int .i64 (i : Int) ∧ Hid (Own1 9 Value.string w wr (stringsL (l.take i)) vv)) (fun _ iv _ => l.length - (intOf iv).toNat)
  case atStart => exact ⟨0, Nat.zero_le _, rfl, Own1.nil w⟩
  case round =>
    obtain ⟨i, hi, rfl, HO⟩ := hrel
    have him : (i : Int) ≤ 1000000 := by omega
    by_cases hlt : i < l.length
    · have hlt' : (i : Int) < (l.length : Int) := by omega
      obtain ⟨⟨yn, yv⟩, hx⟩ : ∃ x, l[i]? = some x := ⟨_, List.getElem?_eq_getElem hlt⟩
      obtain ⟨b, off, e⟩ := rd2_at HL.out hx
      subst e
      obtain ⟨c0, c1⟩ := rd2_cell (HL.out.below HO.out.bel) hx
      have HSt := Lib.hid (stringsL_step hx)
      have hl1 : (stringsL (l.take i)).length ≤ 2000000 := by rw [stringsL_len, List.length_take]; omega
      have HXx := Lib.hid hx
      clear hx
      obtain ⟨pv, cv, hvv⟩ := HO.out.shape
      subst hvv
      have HBd : Hid (((stringsL (l.take i)).length + 2) * 16 ≤ 140737488355328 ∧ (stringsL (l.take i)).length + 2 ≤ maxLen) := by show _ ∧ _; unfold maxLen; omega
      clear hl1
      have HA := Lib.hid (HO.out.below (((Below.refl _ wr).alloc (Nat.le_refl _) (.cells #[.string yn, .string yv] 39))))
      generalize stringsL (l.take i) = acc at *
      obtain ⟨w1, hw1⟩ : ∃ w1, w1 = wr.alloc (.cells #[.string yn, .string yv] 39) := ⟨_, rfl⟩
      have HS1 : Hid (w1.heap.size = wr.heap.size + 1) := by show _ = _; rw [hw1]; simp
      rw [← hw1] at HA
      have HO2 : Hid (Own1 9 Value.string w (w1.alloc (.cells #[.string yn, .string yv] 9)) acc (.slice pv acc.length cv)) := HA.out.below ((Below.refl _ w1).alloc (Nat.le_refl _) _)
      have hlit := Rd.of_owns (World.ownsRow_lit (base := 0) w1 #[.string yn, .string yv] 2 (Nat.zero_le _) (by simp [maxLen]) (by simp) (e := 9) (size := 1))
      rw [HS1.out] at hlit
      rw [hw1] at hlit HO2
      have HLit := Lib.hid hlit
      have HOb := Lib.hid HO2.out.base0
      clear hlit HS1 HA hw1 w1
      go_wp2_with (refine wpList_extend Tryz.elemStr _ _ _ _ _ _ _ HOb.out HLit.out (strs_one [yn, yv]) HBd.out rfl _ _ rfl rfl rfl ?_)
      intro v3 w3 k1 k2 k3
      have HO4 : Hid (Own1 9 Value.string w w3 (stringsL (l.take (i + 1))) v3) := by show Own1 _ _ _ _ _ _; rw [HSt.out]; exact HO2.out.extended (e := [yn, yv]) k1 k2 (by simpa using k3)
      obtain ⟨p3, c3, hv3⟩ : ∃ p c, v3 = .slice p (acc.length + 2) c := (Rd.of_owns k1).shape
      subst hv3
      clear k1 k2 k3 HOb HLit HO2
      go_wp2_with fail
      go_round
      case rel => exact ⟨i + 1, by omega, by go_num, HO4.out⟩
      case measure => simp [intOf]; omega
    · have hlt' : ¬ (i : Int) < (l.length : Int) := by omega
      rw [List.take_of_length_le (by omega)] at HO
      obtain ⟨pv, cv, hvv⟩ := HO.out.shape
      subst hvv
      go_wp2_with fail
      go_ret
      exact ⟨_, rfl, HO.out⟩
end Go.Proofs.YtkodhbkmpnokjaaGreat

end

section
/- A range over a function, at the widest fence. No program in sight. -/
namespace Go.Proofs.YtkodhbkmpnokjaaGreat
open Go Go.RowKit Go.Shelf

/-- In a round an operation that defers nothing is carried out as everywhere. -/
theorem operIn_round {P : Program} {l n : Nat} {o : Oper} {a : Act} {w : World} {next next' : Act → World → Prop} {Q : Exit → Act → World → Prop} (hd : ∀ c, o.op ≠ .defer c) (hn : ∀ a w, next a w → next' a w) (hQ : ¬ LetsOut Q)
    (h : o.wp P a w next Q) : o.wpIn (Fence.wide.inRound l) n P a w next' Q := by
  refine ⟨fun _ _ => trivial, ?_⟩
  show o.uponIn _ n P a next' Q ((o.semAt (some l) a.eval).run P w)
  rw [Oper.semAt_some l a.eval o hd]
  unfold Oper.wp at h
  have hdep : (Fence.wide.inRound l).depth.isSome = true → 1 ≤ n := fun h => by cases h
  revert h
  generalize (execOp a.eval o).run P w = r
  intro h
  cases r with
  | ok v w1 =>
    cases v with
    | value v => exact hn _ _ h
    | skip => exact hn _ _ h
    | defer d => exact hn _ _ h
    | enter f args =>
      refine ⟨hdep, CallsIn.inRound l (callsIn_wide.2 (Calls.mono h ?_))⟩
      intro e w2 h2
      cases e with
      | returned v => exact hn _ _ h2
      | panicked ch => exact h2
      | outgrown => exact absurd h2 hQ
    | row row args =>
      refine ⟨hdep, fun c cs _ => ?_⟩
      obtain ⟨v, w2, h2, s⟩ := h c cs
      exact ⟨v, w2, hn _ _ h2, stepsIn_wide.2 s⟩
    | _ => exact h.elim
  | halt hh w1 =>
    cases hh with
    | panic v => exact h
    | _ => exact h.elim

theorem wpListIn_round {P : Program} {l n : Nat} {ops : Array Oper} {Q : Exit → Act → World → Prop} (hQ : ¬ LetsOut Q) : ∀ (os : List Oper) (a : Act) (w : World), (∀ o ∈ os, ∀ c, o.op ≠ .defer c) →
    wpList P ops Q os a w → wpListIn (Fence.wide.inRound l) n P ops Q os a w
  | [], _, _, _, h => h
  | o :: os, a, w, hd, h => by
    unfold wpListIn
    unfold wpList at h
    split
    · next hw =>
      rw [if_pos hw] at h
      rcases h with h | h
      · exact operIn_round (hd o (by simp)) (fun a w => wpListIn_round hQ os a w (fun o h => hd o (by simp [h]))) hQ h
      · exact absurd h.2 hQ
    · next hw =>
      rw [if_neg hw] at h
      exact ⟨fun _ _ => trivial, wpListIn_round hQ os _ _ (fun o h => hd o (by simp [h])) h⟩

/-! ### What the caller says of its own memory abides the loop's own steps -/
theorem row_other {W : World} {row : Option Nat} {b : Nat} {cs : Array Value} {t : TypeId} {fz : Nat × Nat} (h : W.heap[b]? = some (.cells cs t fz)) (hr : ∀ r, row = some r → ∃ o : Obj, W.heap[r]? = some o ∧ o.isCells = false) : some b ≠ row := fun e => by
  obtain ⟨o, ho, hc⟩ := hr b e.symm
  rw [h] at ho; cases ho; cases hc
theorem own_blk {β : Type} (b : Nat) (f : β → List Value) : Own (fun s W => Blk W b (f s)) := by
  rintro s W W' row ⟨t, h⟩ hg hr
  exact ⟨t, (hg.block b (Array.getElem?_eq_some_iff.1 h).1 (row_other h hr)).trans h⟩
theorem owns_abides {W W' : World} {row : Option Nat} {base : Nat} {e : TypeId} {sz : Nat} {v : Value} {n : Nat} {xs : List Value} (h : W.ownsRow base e sz v n xs) (hg : W.grownBy W' row) (hr : ∀ r, row = some r → ∃ o : Obj, W.heap[r]? = some o ∧ o.isCells = false) : W'.ownsRow base e sz v n xs := by
  refine h.kept hg ?_
  rcases h.2 with ⟨rfl, _⟩ | ⟨g, cap, cur, rfl, _, hgb, _⟩
  · exact .inl rfl
  · exact .inr (fun e => row_other hgb hr e)
theorem ownFrom_mods {β : Type} {B : Nat} {S : Nat → Prop} {w : World} (hB : w.heap.size ≤ B) : OwnFrom B (fun (_ : β) W => Mods S w W) := by
  intro s W W' row h hg hr
  refine ⟨hg.os.trans h.os, hg.tape.trans h.tape, hg.output.trans h.output, Nat.le_trans h.size hg.size, fun k hk hs => ?_⟩
  refine (hg.block k (by have := h.size; omega) (fun e => ?_)).trans (h.block k hk hs)
  have := (hr k e.symm).1
  omega
theorem ownFrom_pure {β : Type} {B : Nat} (p : β → Prop) : OwnFrom B (fun s (_ : World) => p s) := fun _ _ _ _ h _ _ => h
/-- The box holds a row that the call may write, which has come of v. -/
def Holds (e : TypeId) (sz b : Nat) (v : Value) (n : Nat) (xs : List Value) (w W : World) : Prop :=
  ∃ v', Blk W b [v'] ∧ W.ownsRow 0 e sz v' n xs ∧ Fresh w.heap.size v v' ∧ (v'.ownBlock ≠ some b) ∧ Mods (fun k => v.ownBlock = some k) w W
theorem ownFrom_holds {β : Type} {B : Nat} {w : World} (hB : w.heap.size ≤ B) (e : TypeId) (sz b : Nat) (v : Value) (n : β → Nat) (xs : β → List Value) : OwnFrom B (fun s W => Holds e sz b v (n s) (xs s) w W) := by
  rintro s W W' row ⟨v', h1, h2, h3, h4, h5⟩ hg hr
  have hr' : ∀ r, row = some r → ∃ o : Obj, W.heap[r]? = some o ∧ o.isCells = false := fun r e => (hr r e).2
  exact ⟨v', own_blk b (fun _ : Unit => [v']) () W W' row h1 hg hr', owns_abides h2 hg hr', h3, h4, ownFrom_mods hB () W W' row h5 hg hr⟩
theorem KeepsOthers.of_mods {S : Nat → Prop} {W W' : World} (h : Mods S W W') (hS : ∀ k o, S k → W.heap[k]? = some o → o.isCells = true) : KeepsOthers W W' :=
  ⟨h.size, fun k o hk ho => (h.block k (Array.getElem?_eq_some_iff.1 hk).1 (fun e => by rw [hS k o e hk] at ho; cases ho)).trans hk⟩
theorem owns_isCells {W : World} {base : Nat} {e : TypeId} {sz : Nat} {v : Value} {n : Nat} {xs : List Value} (h : W.ownsRow base e sz v n xs) : ∀ k o, v.ownBlock = some k → W.heap[k]? = some o → o.isCells = true := by
  intro k o hk ho
  rcases h.2 with ⟨rfl, _⟩ | ⟨g, cap, cur, rfl, _, hgb, _⟩
  · simp [Value.ownBlock] at hk
  · obtain rfl : g = k := by simpa [Value.ownBlock] using hk
    rw [hgb] at ho; cases ho; rfl
/-- An append in the body of a round: the box holds the longer row. -/
theorem Holds.pushed {e : TypeId} {sz b : Nat} {v v1 v2 : Value} {n m : Nat} {xs ys : List Value} {w W w1 : World} (hb : w.heap.size ≤ b) (h1 : Blk W b [v1]) (h2 : W.ownsRow 0 e sz v1 n xs) (h3 : Fresh w.heap.size v v1) (h4 : v1.ownBlock ≠ some b) (h5 : Mods (fun k => v.ownBlock = some k) w W)
    (k1 : w1.ownsRow 0 e sz v2 m ys) (k2 : Mods (fun k => v1.ownBlock = some k) W w1) (k3 : Fresh W.heap.size v1 v2) :
    Holds e sz b v m ys w (w1.setCell ⟨b, 0, none⟩ v2) ∧ KeepsOthers W (w1.setCell ⟨b, 0, none⟩ v2) := by
  have hne : v2.ownBlock ≠ some b := fun e => by
    rcases k3 b e with e | e
    · exact h4 e
    · have := h1.lt; omega
  refine ⟨⟨v2, ?_, ?_, ?_, hne, ?_⟩, (KeepsOthers.of_mods k2 (owns_isCells h2)).trans (KeepsOthers.setCell _ _ _)⟩
  · simpa using (k2.blk h1 h4).set 0 v2
  · exact (Mods.set (fun k => k = b) w1 ⟨b, 0, none⟩ v2 (fun _ => rfl)).owns k1 (fun k hk e => hne (by rw [hk, e]))
  · exact h3.trans k3 h5.size
  · refine (h5.trans k2 (fun j hj e => ?_)).trans (Mods.set (fun k => k = b) w1 ⟨b, 0, none⟩ v2 (fun _ => rfl)) (fun j hj e => by omega)
    rcases h3 j e with e | e
    · exact e
    · omega
theorem not_letsOut_body {α : Type} {id B : Nat} {Kp : World → World → Prop} {I : List α → World → Prop} {Ix : Code → List α → World → Prop} {xs : List α} {W : World} : ¬ LetsOut (Exit.inBlock id (ownPostG B Kp I Ix xs W)) := by
  rintro ⟨_, _, h⟩; exact h
theorem Mods.putObj {S : Nat → Prop} {w W : World} (h : Mods S w W) {D : Nat} (hD : w.heap.size ≤ D) (o : Obj) : Mods S w (W.putObj D o) := by
  have hg := grownBy_putObj' W D o
  exact ⟨hg.os.trans h.os, hg.tape.trans h.tape, hg.output.trans h.output, Nat.le_trans h.size hg.size, fun k hk hs => (hg.block k (by have := h.size; omega) (fun e => by cases e; omega)).trans (h.block k hk hs)⟩
end Go.Proofs.YtkodhbkmpnokjaaGreat

end

section
/- An iterator that reads memory between two rounds: the blocks that must stay as they were. No program in sight. -/
namespace Go.Proofs.YtkodhbkmpnokjaaGreat
open Go Go.RowKit Go.Shelf

/-- The blocks K are as they were. -/
def KeepAt (K : Nat → Prop) (A B : World) : Prop := ∀ k, K k → B.heap[k]? = A.heap[k]?
theorem keepAt_t {K : Nat → Prop} {A B C : World} (h : KeepAt K A B) (k : KeepAt K B C) : KeepAt K A C := fun j hj => (k j hj).trans (h j hj)
theorem keepAt_b {K : Nat → Prop} {w : World} (hK : ∀ k, K k → k < w.heap.size) (W : World) (l : Nat) (o o' : Obj) (hl : w.heap.size ≤ l) (h : W.heap[l]? = some o) (_ : o.isCells = false) (_ : o.isWalk = false) : KeepAt K W (W.putObj l o') := fun k hk => by
  have h1 := hK k hk
  have h2 := (Array.getElem?_eq_some_iff.1 h).1
  exact (grownBy_putObj' W l o').block k (by omega) (fun e => by cases e; omega)
theorem KeepAt.cell {K : Nat → Prop} {A B : World} (h : KeepAt K A B) {b : Nat} (hb : K b) (i : Nat) : B.cell? ⟨b, i, none⟩ = A.cell? ⟨b, i, none⟩ := by
  unfold World.cell?
  rw [h b hb]
theorem KeepAt.rd {K : Nat → Prop} {A B : World} (h : KeepAt K A B) {sz : Nat} {v : Value} {n : Nat} {xs : List Value} (hr : Rd A sz v n xs) (hv : ∀ k, v.ownBlock = some k → K k) : Rd B sz v n xs := by
  refine hr.of_cells fun a u hu ⟨p, hp, hab⟩ => ?_
  have hk : K a.block := hv _ (by rw [hp, hab]; rfl)
  rw [← hu]
  exact World.cell?_of_block (h _ hk)

theorem grown_drewN (w : World) (n : Nat) : w.grownBy (w.drewN n) none := ⟨rfl, rfl, rfl, Nat.le_refl _, fun _ _ _ => rfl⟩
theorem grown_below {w w' : World} (h : Below w.heap.size w w') : w.grownBy w' none := ⟨h.os, h.tape, h.output, h.size, fun k hk _ => h.block k hk⟩
theorem keepAt_below {K : Nat → Prop} {w A B : World} (h : KeepAt K w A) (hK : ∀ k, K k → k < w.heap.size) (hb : Below A.heap.size A B) : KeepAt K w B := fun k hk => by
  have h1 := h k hk
  obtain ⟨o, ho⟩ : ∃ o, w.heap[k]? = some o := ⟨_, Array.getElem?_eq_getElem (hK k hk)⟩
  rw [ho] at h1
  exact (hb.block k (Array.getElem?_eq_some_iff.1 h1).1).trans (h k hk)
end Go.Proofs.YtkodhbkmpnokjaaGreat

end

section
/- The library's function that yields the strings of a list, one by one. -/
set_option linter.unusedVariables false
set_option maxRecDepth 100000
namespace Go.Proofs.YtkodhbkmpnokjaaGreat
open Go Go.RowKit Go.Shelf
attribute [local go_sem] Oper.semAt_some


theorem new_values (p : Option Addr) (m c : Nat) (w : World) (n : Nat) :
    CallsIn Fence.wide n Tryz.prog 66 #[.slice p m c] w fun e w' => e = .returned (.func (.func 87) #[] #[.pointer (some ⟨w.heap.size, 0, none⟩)]) ∧ w' = w.alloc (.cells #[.slice p m c] 44) := by
  refine callsIn_wide.2 ?_
  go_enter Tryz.func66, Tryz.ntmps66
  go_wp2_with fail
  go_ret
  exact ⟨rfl, rfl⟩

/-- What an iterator over the list lv, boxed at b, must find unturned. -/
def KeepB (b : Nat) (lv : Value) (ls : List ByteArray) : Nat → Prop := fun k => k = b ∨ (ls ≠ [] ∧ lv.ownBlock = some k)

theorem keepB_lt {b : Nat} {lv : Value} {ls : List ByteArray} {w : World} (hb : b < w.heap.size) (hl : Rd w 1 lv ls.length (strs ls)) : ∀ k, KeepB b lv ls k → k < w.heap.size := fun k hk => by
  rcases hk with e | ⟨h, e⟩
  · omega
  · exact hl.lt (fun e => h (by have := congrArg List.length e; rw [strs_length] at this; exact List.eq_nil_of_length_eq_zero this)) k e

set_option maxHeartbeats 1000000 in
theorem values_gives (n : Nat) (hn : 1 ≤ n) (b : Nat) (lv : Value) (ls : List ByteArray) (w : World) (hc : w.cell? ⟨b, 0, none⟩ = some lv) (hl : Rd w 1 lv ls.length (strs ls)) :
    SeqStopsK Fence.wide n Tryz.prog 87 #[.pointer (some ⟨b, 0, none⟩)] (fun x : ByteArray => #[.string x]) (KeepAt (KeepB b lv ls)) (fun ys => ys = ls) (fun _ => True) ls.length w := by
  intro l J Jx W hW hJ hJx hY h0
  have hb : b < w.heap.size := World.block_lt_of_cell? w _ hc
  have HK0 : Hid (KeepAt (KeepB b lv ls) w W) := fun k hk => hW.block k (keepB_lt hb hl k hk)
  have HC := Lib.hid hc; have HL := Lib.hid hl
  have HY := Lib.hid hY
  have hmax : (ls.length : Int) ≤ 9223372036854775807 := by have := hl.le; unfold maxLen at this; omega
  clear hc hY
  obtain ⟨p, c, hv⟩ := hl.shape
  subst hv
  clear hl
  obtain ⟨K, hK⟩ : ∃ K : Nat → Prop, KeepB b (.slice p ls.length c) ls = K := ⟨_, rfl⟩
  have HKb : Hid (K b) := by rw [← hK]; exact Or.inl rfl
  have HKv : Hid (ls ≠ [] → ∀ k, (Value.slice p ls.length c).ownBlock = some k → K k) := by rw [← hK]; exact fun h k hk => Or.inr ⟨h, hk⟩
  rw [hK] at HK0 HY
  clear hK
  have cb := (HK0.out.cell HKb.out 0).trans HC.out
  refine callsIn_of_wp Tryz.func87 rfl trivial ?_ rfl
  simp only [Tryz.ntmps87, List.size_toArray, List.length_cons, List.length_nil, Nat.reduceAdd, Nat.reduceSub, Array.replicate_succ, Array.replicate_zero, List.push_toArray, List.append_toArray, List.nil_append, List.cons_append]
  gi_wp2
  clear cb
  gi_loopw [7] (fun iv wr => ∃ (i : Nat), i ≤ ls.length ∧ iv = .int .i64 (i : Int) ∧ Hid (J (ls.take i) wr ∧ KeepAt K w wr)) (fun iv _ => ls.length - (intOf iv).toNat)
  case atStart => exact ⟨0, Nat.zero_le _, rfl, by simpa using h0, HK0.out⟩
  case round =>
    obtain ⟨i, hi, rfl, HI⟩ := hrel
    by_cases h : i < ls.length
    · have hlt : (i : Int) < (ls.length : Int) := by omega
      have hne : ls ≠ [] := fun e => by rw [e] at h; simp at h
      have HR := Lib.hid (HI.out.2.rd HL.out (HKv.out hne))
      obtain ⟨b0, off, c', e, _, _, hcl⟩ := HR.out.at (fun e => hne (by have := congrArg List.length e; rw [strs_length] at this; exact List.eq_nil_of_length_eq_zero this))
      simp only [Value.slice.injEq] at e
      obtain ⟨rfl, _, rfl⟩ := e
      have c1 := hcl i (.string ls[i]) (strs_get ls i h)
      have HLi : Hid (ls.take (i + 1) = ls.take i ++ [ls[i]]) := by show _ = _; rw [List.take_add_one, List.getElem?_eq_getElem h]; rfl
      generalize ls[i] = t at *
      clear hcl HR
      obtain ⟨fn, tmps, assign, body, hyl, hR⟩ := HY.out (ls.take i) t wr HI.out.1 (by rw [List.length_take]; omega)
      have hRH := Lib.hid hR
      clear hR hne
      gi_wp2
      refine hRH.out.mono ?_
      rintro e W3 (⟨rfl, hJ3, hk3⟩ | ⟨rfl, hJx3⟩)
      · have HI3 : Hid (J (ls.take (i + 1)) W3 ∧ KeepAt K w W3) := ⟨by rw [HLi.out]; exact hJ3, keepAt_t HI.out.2 hk3⟩
        clear hJ3 hk3 c1
        gi_wp2
        go_roundw
        case rel => exact ⟨i + 1, by omega, by go_num, HI3.out⟩
        case measure => simp [intOf]; omega
      · gi_wp2
        refine bodyPost_ret (results_none rfl _ _ _) rfl ?_
        exact ⟨⟨_, rfl⟩, .inr ⟨_, trivial, hJx3⟩⟩
    · have hlt : ¬ (i : Int) < (ls.length : Int) := by omega
      have HE : Hid (ls.take i = ls) := List.take_of_length_le (by omega)
      gi_wp2
      go_end0
      refine ⟨⟨_, rfl⟩, .inl ?_⟩
      have := HI.out.1
      rw [HE.out] at this
      exact this
end Go.Proofs.YtkodhbkmpnokjaaGreat

end
