/- PbS, BlkTwo, PbH, Pairs, Count, OutE, OutS, OutP, Ref15G, in one text. -/
import Derived.Test.YtpjfhakmffcolaaMrg9
import Derived.Test.YtpjfhakmffcolaaMrg12
import Derived.Shelf.SlSortCmp.NoneTotal
import Derived.Test.YtpjfhakmffcolaaMrg1
import Derived.Test.YtpjfhakmffcolaaMrg5
import Derived.Test.YtpjfhakmffcolaaMrg2
import Derived.Test.YtpjfhakmffcolaaMrg4

section
/- Layer 15, the program's own: slices.SortFunc at entries, by labels. (Written by gen15s.py.) -/
set_option linter.unusedVariables false
set_option maxRecDepth 20000
namespace Go.Proofs.Ytpjfhakmffcolaa
open Go Go.RowKit

def renSortEnt : Go.Shelf.Ren := ⟨fun | 6 => 33 | 14 => 60 | 15 => 61 | 20 => 80 | 21 => 81 | 22 => 82 | 23 => 83 | 24 => 84 | 25 => 85 | 26 => 86 | 27 => 87 | 28 => 88 | 29 => 89 | 46 => 102 | 47 => 103 | 48 => 104 | 49 => 105 | 50 => 106 | 57 => 111 | n => n, fun | 0 => 0 | 3 => 3 | 4 => 4 | 5 => 5 | 9 => 9 | 22 => 29 | 24 => 68 | 25 => 72 | 39 => 106 | 45 => 128 | 46 => 129 | 50 => 82 | 53 => 135 | 55 => 81 | 66 => 146 | 70 => 149 | 76 => 153 | 77 => 154 | n => n, fun n => n⟩
theorem laysSortEnt : Go.Proofs.SlLaysF0.n6 Try.prog renSortEnt := { mixed := by kernel_rfl, f6 := ⟨"slices.SortFunc[[]tsblock/postings.Entry,tsblock/postings.Entry]", by decide, Try.func33.trans (congrArg some (by kernel_rfl))⟩, f14 := ⟨"slices.pdqsortCmpFunc[tsblock/postings.Entry]", by decide, Try.func60.trans (congrArg some (by kernel_rfl))⟩, f15 := Try.func61.trans (congrArg some (by kernel_rfl)), f20 := ⟨"slices.insertionSortCmpFunc[tsblock/postings.Entry]", by decide, Try.func80.trans (congrArg some (by kernel_rfl))⟩, f21 := ⟨"slices.heapSortCmpFunc[tsblock/postings.Entry]", by decide, Try.func81.trans (congrArg some (by kernel_rfl))⟩, f22 := ⟨"slices.breakPatternsCmpFunc[tsblock/postings.Entry]", by decide, Try.func82.trans (congrArg some (by kernel_rfl))⟩, f23 := ⟨"slices.choosePivotCmpFunc[tsblock/postings.Entry]", by decide, Try.func83.trans (congrArg some (by kernel_rfl))⟩, f24 := ⟨"slices.reverseRangeCmpFunc[tsblock/postings.Entry]", by decide, Try.func84.trans (congrArg some (by kernel_rfl))⟩, f25 := ⟨"slices.partialInsertionSortCmpFunc[tsblock/postings.Entry]", by decide, Try.func85.trans (congrArg some (by kernel_rfl))⟩, f26 := ⟨"slices.partitionEqualCmpFunc[tsblock/postings.Entry]", by decide, Try.func86.trans (congrArg some (by kernel_rfl))⟩, f27 := ⟨"slices.partitionCmpFunc[tsblock/postings.Entry]", by decide, Try.func87.trans (congrArg some (by kernel_rfl))⟩, f28 := Try.func88.trans (congrArg some (by kernel_rfl)), f29 := Try.func89.trans (congrArg some (by kernel_rfl)), f46 := ⟨"slices.siftDownCmpFunc[tsblock/postings.Entry]", by decide, Try.func102.trans (congrArg some (by kernel_rfl))⟩, f47 := Try.func103.trans (congrArg some (by kernel_rfl)), f48 := Try.func104.trans (congrArg some (by kernel_rfl)), f49 := ⟨"slices.medianAdjacentCmpFunc[tsblock/postings.Entry]", by decide, Try.func105.trans (congrArg some (by kernel_rfl))⟩, f50 := ⟨"slices.medianCmpFunc[tsblock/postings.Entry]", by decide, Try.func106.trans (congrArg some (by kernel_rfl))⟩, f57 := ⟨"slices.order2CmpFunc[tsblock/postings.Entry]", by decide, Try.func111.trans (congrArg some (by kernel_rfl))⟩, t0 := Try.underlying0, a0 := Try.isAgg0, z0 := Try.sizeOf0, v0 := Try.zeroValue0, t3 := Try.underlying3, a3 := Try.isAgg3, z3 := Try.sizeOf3, v3 := Try.zeroValue3, t4 := Try.underlying4, a4 := Try.isAgg4, z4 := Try.sizeOf4, v4 := Try.zeroValue4, t5 := Try.underlying5, a5 := Try.isAgg5, z5 := Try.sizeOf5, v5 := Try.zeroValue5, t9 := Try.underlying9, a9 := Try.isAgg9, z9 := Try.sizeOf9, v9 := Try.zeroValue9, t22 := Try.underlying29, a22 := Try.isAgg29, z22 := Try.sizeOf29, v22 := Try.zeroValue29, t25 := Try.underlying72, a25 := Try.isAgg72, z25 := Try.sizeOf72, v25 := Try.zeroValue72, t39 := Try.underlying106, a39 := Try.isAgg106, z39 := Try.sizeOf106, v39 := Try.zeroValue106, t45 := Try.underlying128, a45 := Try.isAgg128, z45 := Try.sizeOf128, v45 := Try.zeroValue128, t46 := Try.underlying129, a46 := Try.isAgg129, z46 := Try.sizeOf129, v46 := Try.zeroValue129, t50 := Try.underlying82, a50 := Try.isAgg82, z50 := Try.sizeOf82, v50 := Try.zeroValue82, t53 := Try.underlying135, a53 := Try.isAgg135, z53 := Try.sizeOf135, v53 := Try.zeroValue135, t55 := Try.underlying81, a55 := Try.isAgg81, z55 := Try.sizeOf81, v55 := Try.zeroValue81, t66 := Try.underlying146, a66 := Try.isAgg146, z66 := Try.sizeOf146, v66 := Try.zeroValue146, t70 := Try.underlying149, a70 := Try.isAgg149, z70 := Try.sizeOf149, v70 := Try.zeroValue149, t76 := Try.underlying153, a76 := Try.isAgg153, z76 := Try.sizeOf153, v76 := Try.zeroValue153, t77 := Try.underlying154, a77 := Try.isAgg154, z77 := Try.sizeOf154, v77 := Try.zeroValue154 }


/-- An entry in a world: its slice, which lies not in block g, and what it leads to. -/
abbrev EntEl (w : World) (g : Nat) : Type := {p : EntV // Rd w 1 p.2 p.1.2.length (i64s p.1.2) ∧ SerOff1 (fun k => k = g) p.2 p.1.2}
instance (w : World) (g : Nat) : Inhabited (EntEl w g) := ⟨⟨(((⟨#[]⟩, ⟨#[]⟩), []), .slice none 0 0), ⟨Rd.nil _ _, fun e => absurd rfl e⟩⟩⟩
section
variable {w : World} {g : Nat}
def encEn (x : EntEl w g) : List Value := entC x.1
theorem encEn_one (x : EntEl w g) : ∀ v ∈ encEn x, v.oneCell' = true := by
  intro v hv
  obtain ⟨p1, c1, e1⟩ := x.2.1.shape
  simp only [encEn, entC, List.mem_cons, List.not_mem_nil, or_false] at hv
  rcases hv with rfl | rfl | rfl
  · rfl
  · rfl
  · rw [e1]; rfl
def cmpEn (x y : EntEl w g) : Int := cmpLab x.1.1.1 y.1.1.1
theorem ltOf_cmpEn : ltOf (cmpEn (w := w) (g := g)) = fun x y => ltE x.1.1.1 y.1.1.1 := by
  funext x y
  show decide (cmpLab x.1.1.1 y.1.1.1 < 0) = decide (cmpLab x.1.1.1 y.1.1.1 = -1)
  rw [decide_eq_decide]
  have := cmpLab_ok.dom x.1.1.1 y.1.1.1
  omega
theorem swo_cmpEn : Go.Sort.SWO (ltOf (cmpEn (w := w) (g := g))) := by
  rw [ltOf_cmpEn]
  refine ⟨fun x => ltE_ok.irr _, fun x y z => ltE_ok.tr _ _ _, fun x y z h1 h2 => ?_⟩
  rcases Bool.eq_false_or_eq_true (ltE x.1.1.1 z.1.1.1) with e | e
  · rcases Bool.eq_false_or_eq_true (ltE y.1.1.1 x.1.1.1) with f | f
    · have := ltE_ok.tr _ _ _ f e
      rw [h2] at this; cases this
    · have hxy := ltE_ok.tot _ _ h1 f
      rw [hxy, h2] at e; cases e
  · exact e
theorem encEn_flat (l : List (EntEl w g)) : l.flatMap encEn = entCells (l.map fun x => x.1) := by
  induction l with
  | nil => rfl
  | cons x l ih => rw [List.flatMap_cons, ih]; rfl
end

theorem sort_ent (w0 w : World) (v : Value) (M : List EntV) (h : EnAt 68 w0 w M v) (hn : M.length ≤ 1000000) :
    Calls Try.prog 33 #[v, .func (.func 34) #[] #[]] w fun e w' => e = .returned (.tuple #[]) ∧ ∃ M', List.Perm M' M ∧ M'.Pairwise (fun a b => ltE b.1.1 a.1.1 = false) ∧ EnAt 68 w0 w' M' v := by
  have hrow := h.row
  rcases hrow.2 with ⟨hv, h0⟩ | ⟨g, cap, cur, hv, hbase, hgb, r1, r2, r3, r4⟩
  · subst hv
    refine (AnyF.slices_SortFunc_none laysSortEnt none 0 _ w).mono ?_
    rintro e w' ⟨rfl, rfl⟩
    have hb0 : M = [] := List.eq_nil_of_length_eq_zero h0
    exact ⟨rfl, M, List.Perm.refl _, by rw [hb0]; exact List.Pairwise.nil, h⟩
  · subst hv
    have hall : ∀ p ∈ M, Rd w 1 p.2 p.1.2.length (i64s p.1.2) ∧ SerOff1 (fun k => k = g) p.2 p.1.2 := fun p hp =>
      ⟨(h.ser p hp).1, fun e k hk hg => (h.ser p hp).2 e k hk (by rw [hg]; rfl)⟩
    obtain ⟨l, hlm⟩ : ∃ l : List (EntEl w g), l.map Subtype.val = M := ⟨M.pmap (fun p h => ⟨p, h⟩) hall, by rw [List.map_pmap]; exact (List.pmap_eq_map (f := id) _).trans (List.map_id _)⟩
    have hl1 : l.map (fun x => x.1) = M := hlm
    have hln : M.length = l.length := by rw [← hl1, List.length_map]
    rw [← hl1, ← encEn_flat, List.length_map] at r4
    have hk : ∀ x : EntEl w g, (encEn x).length = 3 := fun _ => rfl
    have hH : Go.Sort.HoldsK encEn 3 w g 0 l.toArray := holdsK_of_block encEn 3 hk (by decide) hgb r4
    have hC := AnyQ.slices_SortFunc laysSortEnt 3 Try.isAgg68 Try.sizeOf68 encEn hk encEn_one cmpEn swo_cmpEn 34 #[] g 0 cap l.toArray w
      (fun _ _ => rfl) (fun m os dk _ x y => by
        obtain ⟨p1, c1, e1⟩ := x.2.1.shape
        obtain ⟨p2, c2, e2⟩ := y.2.1.shape
        have hc := build_order x.1.1.1 y.1.1.1 p1 p2 x.1.1.2.length c1 y.1.1.2.length c2
        have hx : encEn x = [.string x.1.1.1.1, .string x.1.1.1.2, .slice p1 x.1.1.2.length c1] := by rw [← e1]; rfl
        have hy : encEn y = [.string y.1.1.1.1, .string y.1.1.1.2, .slice p2 y.1.1.2.length c2] := by rw [← e2]; rfl
        rw [hx, hy]
        exact hc _) hH (Array.getElem?_eq_some_iff.1 hgb).1 (by simp; omega)
    have hsz : l.toArray.size = l.length := by simp
    rw [hsz, ← hln] at hC
    refine hC.mono ?_
    rintro e w' ⟨rfl, d', n, os, hp, hsr, rfl⟩
    have hds : d'.size = M.length := by rw [hp.1, hsz, hln]
    have hm := mods_sortedK (w := w) (g := g) (n := n) (os := os) (Go.Sort.flatK encEn 3 d')
    have h3 : d'.toList.Perm l := by
      have h3 := hp.2.2
      rw [show d'.extract 0 M.length = d' by rw [← hds]; exact Array.extract_size] at h3
      rw [hln, show l.toArray.extract 0 l.length = l.toArray by rw [← hsz]; exact Array.extract_size] at h3
      exact h3
    have hbg : w0.heap.size ≤ g := hbase
    refine ⟨rfl, d'.toList.map (fun x => x.1), ?_, ?_, ⟨?_, ?_, ?_⟩⟩
    · rw [← hl1]; exact h3.map _
    · refine List.pairwise_map.2 (List.pairwise_iff_getElem.2 ?_)
      intro i j hi hj hij
      have h4 := hsr i j (Nat.zero_le _) hij (by rw [← hds]; simpa using hj)
      rw [ltOf_cmpEn, getElem!_pos d' i (by simpa using hi), getElem!_pos d' j (by simpa using hj)] at h4
      simpa using h4
    · have h5 := ownsRow_sortedK encEn 3 hk (by decide) (n := n) (os := os) (d := d') hds hbase hgb r1 r2 r3
      rw [encEn_flat] at h5
      rw [List.length_map, show d'.toList.length = M.length by rw [← hds]; simp]
      exact h5
    · exact h.bel.trans (hm.below h.bel.size (fun k hk e => by have : k = g := e; omega))
    · intro p hp'
      obtain ⟨x, hx, rfl⟩ := List.mem_map.1 hp'
      refine ⟨x.2.1.mods' hm (fun e k hk hg => x.2.2 (i64s_ne15 e) k hk hg), fun e k hk hg => x.2.2 e k hk ?_⟩
      simpa [Value.ownBlock] using hg.symm
end Go.Proofs.Ytpjfhakmffcolaa

end

section
/- Variables of two cells. No program in sight. -/
set_option linter.unusedVariables false
namespace Go.Proofs.Ytpjfhakmffcolaa
open Go Go.RowKit

theorem Blk.set2 {w : World} {g : Nat} {a b : Value} (h : Blk w g [a, b]) (x y : Value) : Blk ((w.setCell ⟨g, 0, none⟩ x).setCell ⟨g, 1, none⟩ y) g [x, y] := by
  simpa using (h.set 0 x).set 1 y

theorem Blk.two {w : World} {g : Nat} {a b : Value} (h : Blk w g [a, b]) : (w.cell? ⟨g, 0, none⟩ = some a ∧ w.cell? ⟨g, 1, none⟩ = some b) ∧ (w.frozen? ⟨g, 0, none⟩ = false ∧ w.frozen? ⟨g, 1, none⟩ = false) :=
  ⟨⟨by rw [h.cell]; rfl, by rw [h.cell]; rfl⟩, h.free 0, h.free 1⟩
end Go.Proofs.Ytpjfhakmffcolaa

end

section
/- Layer 15, the program's own: Build: a map of rows, its entries collected and sorted. -/
set_option linter.unusedVariables false
set_option maxRecDepth 20000
namespace Go.Proofs.Ytpjfhakmffcolaa
open Go Go.RowKit Go.Maps

theorem elemRow15 : Elem Try.prog 38 3 1 8 := Elem.mk' (z := .int .i64 0) Try.underlying38 (by kernel_rfl) rfl (by decide)

set_option maxHeartbeats 16000000 in
theorem prg_build15 (mv : Value) (m : List (List Lab)) (w : World) (hm : RdBL w mv m) (hn : m.length ≤ 1000000) (hfl : m.flatten.length ≤ 1000000) (hnd : ∀ s ∈ m, s.Nodup) (hsz : ∀ x ∈ m.flatten, LabFits x) :
    Calls Try.prog 13 #[mv] w fun e w' => ∃ v, e = .returned v ∧ RdE w' v (buildP m) ∧ Below w.heap.size w w' := by
  have HM := Lib.hid hm; have HN := Lib.hid hn; have HFl := Lib.hid hfl; have HNd := Lib.hid hnd; have HSz := Lib.hid hsz
  obtain ⟨pm, cm, hv⟩ := hm.shape
  subst hv
  have hni : (m.length : Int) ≤ 1000000 := by omega
  have hmm := @run_makeMap Try.prog
  have HB0 : Hid (Below w.heap.size w (w.alloc (.map #[] 0))) := (Below.refl _ _).alloc (Nat.le_refl _) _
  have HG0 : Hid (Grp (w.alloc (.map #[] 0)) w.heap.size (w.heap.size + 1) (flatTo m 0).length (posTo m 0)) := (Grp.made w).congr (fun x => rfl)
  clear hm hn hfl hnd hsz
  go_enter Try.func13, Try.ntmps13
  go_wp2_with fail
  clear hmm
  go_loopw [14] (fun iv wr => ∃ (k : Nat), k ≤ m.length ∧ iv = .int .i64 (k : Int) ∧ Hid (Grp wr w.heap.size (w.heap.size + 1) (flatTo m k).length (posTo m k)) ∧ Hid (Below w.heap.size w wr)) (fun iv _ => m.length - (intOf iv).toNat)
  case atStart => exact ⟨0, Nat.zero_le _, rfl, HG0.out, HB0.out⟩
  case round =>
    obtain ⟨k, hk, rfl, HG, HB⟩ := hrel
    have hkm : (k : Int) ≤ 1000000 := by omega
    by_cases hlt : k < m.length
    · have hlt' : (k : Int) < (m.length : Int) := by omega
      obtain ⟨s, hs⟩ : ∃ s, m[k]? = some s := ⟨_, List.getElem?_eq_getElem hlt⟩
      obtain ⟨blk, off, p1, c1, e, hat⟩ := HM.out.always hs
      subst e
      have d0 := (hat wr HB.out).1
      have HAt : Hid (∀ w', Below w.heap.size w w' → Rd w' 2 (.slice p1 s.length c1) s.length (labCells s)) := fun w' hb => (hat w' hb).2
      have HS := Lib.hid hs
      have hmem := List.mem_of_getElem? hs
      have HSn : Hid (s.Nodup) := HNd.out s hmem
      have HSf : Hid (∀ x ∈ s, LabFits x) := fun x hx => HSz.out x (List.mem_flatten.2 ⟨s, hmem, hx⟩)
      have HLn : Hid ((flatTo m k).length + s.length ≤ 1000000) := by
        show _ ≤ _
        rw [← flatTo_len hs]
        exact Nat.le_trans (flatTo_le m _) HFl.out
      have hsi : (s.length : Int) ≤ 1000000 := by have := HLn.out; omega
      have HG1 : Hid (Grp wr w.heap.size (w.heap.size + 1) ((flatTo m k).length + 0) (rowsTo m k s 0)) := HG.out.congr (rowsTo_zero m k s)
      have HBo := Lib.hid HB.out
      clear hs hat hmem HG HG0 HB0
      go_wp2_with fail
      obtain ⟨wq, hwq⟩ : ∃ wq, wq = wr := ⟨_, rfl⟩
      rw [← hwq] at HG1 HBo d0 HB ⊢
      clear hwq
      go_loopw [21] (fun jv wr => ∃ (j : Nat), j ≤ s.length ∧ jv = .int .i64 (j : Int) ∧ Hid (Grp wr w.heap.size (w.heap.size + 1) ((flatTo m k).length + j) (rowsTo m k s j)) ∧ Hid (Below w.heap.size w wr)) (fun jv _ => s.length - (intOf jv).toNat)
      case atStart => exact ⟨0, Nat.zero_le _, rfl, HG1.out, HBo.out⟩
      case round =>
        obtain ⟨j, hj, rfl, HG, HBj⟩ := hrel
        clear HG1 HBo d0 HB
        have hjm : (j : Int) ≤ 1000000 := by omega
        by_cases hjl : j < s.length
        · have hjl' : (j : Int) < (s.length : Int) := by omega
          obtain ⟨x, hx⟩ : ∃ x, s[j]? = some x := ⟨_, List.getElem?_eq_getElem hjl⟩
          obtain ⟨b1, o1, e, hlab⟩ := rdLab_at (HAt.out wr HBj.out) hx
          subst e
          obtain ⟨c0, c1'⟩ := hlab wr (Below.refl _ _)
          have HXf := Lib.hid (HSf.out x (List.mem_of_getElem? hx))
          have HSt := Lib.hid (rowsTo_step (m := m) (k := k) HSn.out hx)
          obtain ⟨xn, xv⟩ := x
          simp only at c0 c1'
          obtain ⟨w2, hw2⟩ : ∃ w2, w2 = (wr.alloc (.cells #[.string xn, .string xv] 34)).alloc (.cells #[.int .i64 (k : Int)] 3) := ⟨_, rfl⟩
          have HW : Hid ((wr.alloc (.cells #[.string xn, .string xv] 34)).alloc (.cells #[.int .i64 (k : Int)] 3) = w2) := hw2.symm
          have hb2 : Below wr.heap.size wr w2 := by rw [hw2]; exact ((Below.refl _ wr).alloc (Nat.le_refl _) _).alloc (by simp) _
          have hs2 : w2.heap.size = wr.heap.size + 2 := by rw [hw2]; simp
          have hk2 : Blk w2 (wr.heap.size + 1) [.int .i64 (k : Int)] := by
            rw [hw2]
            have h := Blk.new (wr.alloc (.cells #[.string xn, .string xv] 34)) #[.int .i64 (k : Int)] 3
            have e : (wr.alloc (.cells #[.string xn, .string xv] 34)).heap.size = wr.heap.size + 1 := by simp
            rwa [e] at h
          have hg2 := HG.out.below hb2
          have HLj : Hid ((flatTo m k).length + j + 1 ≤ 1000000) := by show _ ≤ _; have := HLn.out; omega
          obtain ⟨v0, st, w3, hrun, hown, hmods, hsz3, hback⟩ := grp_entry hg2 (by have := HLj.out; unfold maxLen; omega) (xn, xv) HXf.out
          have HBw : Hid (w.heap.size < wr.heap.size) := by
            show _ < _
            obtain ⟨es, clock, g⟩ := HG.out
            exact (Array.getElem?_eq_some_iff.1 g.blk).1
          have HR3 : Hid (Rd w3 1 (.slice (some ⟨wr.heap.size + 1, 0, none⟩) 1 1) 1 [.int .i64 (k : Int)]) := Rd.of_blk (n := 1) (hmods.blk hk2 (fun e => by have := HBw.out; omega)) rfl (by simp [maxLen])
          have HLr : Hid ((rowsTo m k s j (xn, xv)).length ≤ 1000000) := Nat.le_trans (rowsTo_len m k s j _) (by omega)
          generalize rowsTo m k s j (xn, xv) = R at *
          obtain ⟨pv, cv, hv0⟩ := (Rd.of_owns hown).shape
          subst hv0
          have HRun : Hid ((Instr.mapEntry 69 (.map (some w.heap.size)) (.agg #[.string xn, .string xv])).run Try.prog ((wr.alloc (.cells #[.string xn, .string xv] 34)).alloc (.cells #[.int .i64 (k : Int)] 3)) = .ok (.tuple #[.slice pv R.length cv, .int .i64 (st : Int)]) w3) := by show _ = _; rw [HW.out]; exact hrun
          have HOw : Hid (w3.ownsRow 0 3 1 (.slice pv R.length cv) R.length (i64s R)) := owns_rebase hown (fun _ _ => Nat.zero_le _)
          have HOb : Hid (∀ kk, (Value.slice pv R.length cv).ownBlock = some kk → w.heap.size + 1 ≤ kk) := fun kk hkk => (hown.lt kk hkk).1
          have HBk := Lib.hid hback
          have HS3 : Hid (w3.heap.size = wr.heap.size + 2) := hsz3.trans hs2
          have HB3 : Hid (Below w.heap.size w w3) := (HBj.out.trans (hb2.mono (Nat.le_of_lt HBw.out))).trans (hmods.below (by rw [hs2]; have := HBw.out; omega) (fun kk hkk e => by omega))
          have HLx : Hid ((R.length + 1) * 8 ≤ 140737488355328 ∧ R.length + 1 ≤ maxLen) := by show _ ∧ _; have := HLr.out; unfold maxLen; omega
          clear hw2 hb2 hs2 hk2 hg2 hrun hown hmods hsz3 hback hlab hx HG HBj HW
          go_wp2_with (first
            | (refine wpList_mapEntry15 rfl _ _ _ rfl HRun.out rfl rfl ?_)
            | (at_builtin; refine wpList_extend elemRow15 _ _ _ _ _ _ _ HOw.out HR3.out (by simp [Value.oneCell']) HLx.out rfl _ _ rfl rfl rfl ?_; intro v4 w4 k4 m4 f4
               have hown4 : w4.ownsRow (w.heap.size + 1) 3 1 v4 (R ++ [(k : Int)]).length (i64s (R ++ [(k : Int)])) := by
                 have e : i64s (R ++ [(k : Int)]) = i64s R ++ [.int .i64 (k : Int)] := by simp [i64s]
                 rw [e, List.length_append]
                 refine owns_rebase k4 (fun kk hkk => ?_)
                 rcases f4 kk hkk with f | f
                 · exact HOb.out kk f
                 · have := HS3.out; have := HBw.out; omega
               obtain ⟨w5, hrun5, hg5, hm5⟩ := HBk.out w4 v4 (k : Int) m4 hown4 f4
               have HG5 : Hid (Grp w5 w.heap.size (w.heap.size + 1) ((flatTo m k).length + (j + 1)) (rowsTo m k s (j + 1))) := hg5.congr HSt.out
               have HB5 : Hid (Below w.heap.size w w5) := (HB3.out.trans (m4.below (by have := HS3.out; have := HBw.out; omega) (fun kk hkk e => by have := HOb.out kk e; omega))).trans (hm5.below (by have := m4.size; have := HS3.out; have := HBw.out; omega) (fun kk hkk e => by omega))
               have hrun5' : (Instr.entryStore 69 (.map (some w.heap.size)) (.int .i64 (st : Int)) v4).run Try.prog w4 = .ok () w5 := hrun5
               clear hown4 hrun5 hg5 hm5 k4 m4 f4))
          clear hrun5'
          go_round
          case rel => exact ⟨j + 1, by omega, by go_num, HG5.out, HB5.out⟩
          case measure => simp [intOf]; omega
        · have hjl' : ¬ (j : Int) < (s.length : Int) := by omega
          have HG2 : Hid (Grp wr w.heap.size (w.heap.size + 1) (flatTo m (k + 1)).length (posTo m (k + 1))) := by
            show Grp _ _ _ _ _
            have e : (flatTo m (k + 1)).length = (flatTo m k).length + j := by rw [flatTo_len HS.out]; omega
            rw [e]
            exact HG.out.congr (rowsTo_end HS.out j (by omega))
          clear HG
          go_wp2_with fail
          go_round
          case rel => exact ⟨k + 1, by omega, by go_num, HG2.out, HBj.out⟩
          case measure => simp [intOf]; omega
    · have hlt' : ¬ (k : Int) < (m.length : Int) := by omega
      obtain rfl : k = m.length := by omega
      obtain ⟨D, hown, hmap⟩ := HG.out.mapOf
      have HOw := Lib.hid hown; have HMp := Lib.hid hmap
      have HNf : Hid ((flatTo m m.length).length ≤ 1000000) := Nat.le_trans (flatTo_le m _) HFl.out
      have HBw : Hid (w.heap.size < wr.heap.size) := by
        show _ < _
        obtain ⟨es, clock, g⟩ := HG.out
        exact (Array.getElem?_eq_some_iff.1 g.blk).1
      obtain ⟨N, hN⟩ : ∃ N, (flatTo m m.length).length = N := ⟨_, rfl⟩
      rw [hN] at HOw HNf
      have HSzD : Hid (Maps.size D ≤ N) := HOw.out.size_le
      clear hown hmap hN HG HG0 HB0 hk hlt
      go_wp2_with (first
        | (at_range; refine wpList_range_own _ rfl _ 69 rfl 34 38 keyedLab15 Try.underlying69 _ w.heap.size N D rfl HOw.out ?_; intro w0 hrg0 hg0 hs0)
        | go_in)
      try go_frame
      obtain ⟨rb, hrb⟩ : ∃ rb, wr.heap.size = rb := ⟨_, rfl⟩
      have HRb := Lib.hid hrb
      rw [hrb] at hrg0 HBw ⊢
      have HB00 : Hid (Below rb wr w0) := by show Below _ _ _; rw [← hrb]; exact ⟨hg0.os, hg0.tape, hg0.output, hg0.size, fun i hi => hg0.block i hi (by simp)⟩
      have HR0 := Lib.hid hrg0
      have HE0 : Hid (EnAt 68 w w0 [] (.slice none 0 0)) := ⟨World.ownsRow_nil _ _ _ _, HB.out.trans (HB00.out.mono (by have := HBw.out; omega)), fun p hp => by cases hp⟩
      have HBo := Lib.hid HB.out
      obtain ⟨wq, hwq⟩ : ∃ wq, wq = wr := ⟨_, rfl⟩
      rw [← hwq] at HRb HB00 HMp HOw HBo
      clear hrg0 hg0 hs0 hrb hwq HB HOw
      go_loopw [8] (fun v wr => ∃ (left : Lit → Bool) (cnt : Nat) (M : List EntV), Hid (wr.ranges Try.prog 34 R15 w.heap.size rb N D left cnt) ∧ Hid (M.length + cnt ≤ N) ∧ Hid (EnAt 68 w wr M v) ∧ Hid (∀ k, v.ownBlock = some k → rb < k) ∧ Hid (ColE D left (M.map fun p => p.1.1)) ∧ Hid (∀ p ∈ M, p.1.2 = posTo m m.length p.1.1 ∧ ∀ j, p.2.ownBlock = some j → j < rb) ∧ Hid (Below rb wq wr)) (fun _ wr => wr.rangeLeft w.heap.size rb)
      case atStart => exact ⟨_, _, [], HR0.out, (by show _ ≤ _; simpa using HSzD.out), HE0.out, (by intro k e; cases e), ColE.start D, (by intro p hp; cases hp), HB00.out⟩
      case round =>
        obtain ⟨left, cnt, M, HR, HC, HE, HF, HL, HP, HBq⟩ := hrel
        clear HR0 HE0 HB00
        obtain ⟨pv, cv, hvv⟩ := HE.out.shape
        subst hvv
        go_wp2_with (first
          | (at_next; refine wpList_next_ranges _ rfl _ rfl 34 keyedLab15 R15 (fun x : Lab => Value.agg #[.string x.1, .string x.2]) (fun q : Option Addr × Nat × Nat => Value.slice q.1 q.2.1 q.2.2) (fun key kl h => by obtain ⟨x, hx, _⟩ := keyOf_lab_inv h; exact ⟨x, hx⟩) (fun v y h => (R15_inv h).2) w.heap.size rb N _ _ _ rfl HR.out ?_ ?_)
          | go_in)
        · intro hc0 hl0
          have HMm := Lib.hid (HL.out.mem HMp.out hl0 (fun x hx => HSz.out x (by have h := posTo_ne.1 hx; rwa [flatTo, List.take_length] at h)))
          have HLen : Hid (M.length ≤ 1000000) := by show _ ≤ _; have := HC.out; have := HNf.out; omega
          have HSo := Lib.hid (sort_ent w wr _ M HE.out HLen.out)
          have HLn := Lib.hid HL.out.1
          have HPp := Lib.hid HP.out
          clear hc0 hl0 HR HC HL HF HBq HE HP
          go_wp2_with fail
          refine HSo.out.mono ?_
          rintro e w5 ⟨rfl, M', hperm, hsrt, hE5⟩
          have hpm : (M'.map fun p => p.1.1).Perm (M.map fun p => p.1.1) := hperm.map _
          have HBuilt : Hid (M'.map Prod.fst = buildP m) := built hsrt (hpm.nodup_iff.2 HLn.out) (fun x => by rw [hpm.mem_iff]; exact HMm.out x) (fun p hp => (HPp.out p (hperm.mem_iff.1 hp)).1)
          have HE5 := Lib.hid hE5
          clear HSo hperm hsrt hE5 hpm
          go_wp2_with fail
          go_ret
          exact ⟨_, rfl, by rw [← HBuilt.out]; exact HE5.out.rd, HE5.out.bel⟩
        · intro xn xv q1 q2 q3 kl yd yp w2 cnt2 hkey hlk hv hat hrg2 hlt2 hg2 hs2 hen
          obtain ⟨rfl, rfl⟩ : yd = .held (.slice q1 q2 q3) ∧ yp = [] := by simpa using (R15_inv hv).1
          obtain ⟨x', ex, rfl, hxf⟩ := keyOf_lab_inv hkey
          obtain rfl : (xn, xv) = x' := labK_inj ex
          obtain ⟨hFne, hown⟩ := HMp.out.at_ (xn, xv) _ hxf hat
          have HL3 := Lib.hid (HL.out.step hxf hlk hat)
          obtain ⟨S, hS⟩ : ∃ S, posTo m m.length (xn, xv) = S := ⟨_, rfl⟩
          have HS := Lib.hid hS
          rw [hS] at hFne hown
          have hq2 : q2 = S.length := by
            obtain ⟨_, _, e⟩ := (Rd.of_owns hown).shape
            simp only [Value.slice.injEq] at e
            exact e.2.1
          subst hq2
          have hlow : ∀ j, (Value.slice q1 S.length q3).ownBlock = some j → j < rb := fun j hj => by have := (hown.lt j hj).2; rw [HRb.out] at this; exact this
          have HLow := Lib.hid hlow
          have hm2 : Mods (fun k => k = rb) wr w2 := ⟨hg2.os, hg2.tape, hg2.output, hg2.size, fun k hk hn => hg2.block k hk (fun e => hn (by cases e; rfl))⟩
          have HB2 : Hid (Below rb wq w2) := HBq.out.trans (hm2.below (by have := HR.out.lt; omega) (fun k hk e => by omega))
          have hE2 : EnAt 68 w w2 M (.slice pv M.length cv) := HE.out.turned hm2 (fun j hj e => by have := HF.out j hj; omega) (fun p hp j hj e => by have := (HP.out p hp).2 j hj; omega) (fun j hj e => by have := HBw.out; omega)
          have hbA : Below w2.heap.size w2 (w2.alloc (.cells #[.string xn, .string xv] 34)) := (Below.refl _ _).alloc (Nat.le_refl _) _
          have HEa := Lib.hid (hE2.below hbA)
          have HSa : Hid (Rd (w2.alloc (.cells #[.string xn, .string xv] 34)) 1 (.slice q1 S.length q3) S.length (i64s S)) := ((Rd.of_owns hown).below (by rw [HRb.out]; exact HB2.out)).below hbA
          have HOff : Hid (SerOff1 (fun j => (Value.slice pv M.length cv).ownBlock = some j) (.slice q1 S.length q3) S) := fun _ j hj he => by have h1 := hlow j hj; have h2 := HF.out j he; omega
          have HOz : Hid ((w2.alloc (.cells #[.string xn, .string xv] 34)).ownsRow 0 68 3 (.slice pv M.length cv) M.length (entCells M)) := HEa.out.base0
          have HLz : Hid ((M.length + 1) * 56 ≤ 140737488355328 ∧ M.length + 1 ≤ maxLen) := by show _ ∧ _; have := HC.out; have := HNf.out; unfold maxLen; omega
          have HSz2 : Hid ((w2.alloc (.cells #[.string xn, .string xv] 34)).heap.size = w2.heap.size + 1) := by show _ = _; simp
          have HR2 := Lib.hid hrg2
          have HLt := Lib.hid hlt2
          have HC3 : Hid (M.length + 1 + cnt2 ≤ N) := by show _ ≤ _; have := HC.out; omega
          have HBa : Hid (Below rb wq (w2.alloc (.cells #[.string xn, .string xv] 34))) := HB2.out.trans (hbA.mono (by have := hrg2.lt; omega))
          have hen' : (Instr.entry (.pointer (some ⟨rb, 0, none⟩))).run Try.prog w2 = .ok (.tuple #[.agg #[.string xn, .string xv], .slice q1 S.length q3]) w2 := hen
          clear hkey hlk hv hat hrg2 hlt2 hg2 hs2 hen ex hFne hown hlow hm2 hE2 hbA hS HL hxf
          go_wp2_with (at_builtin; refine wpList_push elemEntP _ #[.string xn, .string xv, .slice q1 S.length q3] _ _ _ HOz.out rfl (by simp [Value.oneCell']) HLz.out rfl _ _ rfl rfl (by show _ = Value.slice (some ⟨World.heap _ |>.size, 0, none⟩) 1 1; rw [HSz2.out]; rfl) ?_)
          intro v3 w3 k3 m3 f3
          have HN3 : Hid (EnAt 68 w w3 (M ++ [(((xn, xv), S), .slice q1 S.length q3)]) v3) :=
            HEa.out.pushed (p := (((xn, xv), S), .slice q1 S.length q3)) HSa.out HOff.out k3 m3 (by rw [HSz2.out]; exact f3)
          have HR3 := Lib.hid ((HR2.out.alloc (.cells #[.string xn, .string xv] 34)).kept (mods_grown15 m3) (fun e => by have h1 := HF.out _ e.symm; have h2 := HBw.out; omega) (fun e => by have h1 := HF.out _ e.symm; omega))
          have HF3 : Hid (∀ k, v3.ownBlock = some k → rb < k) := fun k hk => by
            rcases f3 k hk with e | e
            · exact HF.out k e
            · have := HR2.out.lt; omega
          have HP3 : Hid (∀ p ∈ M ++ [(((xn, xv), S), Value.slice q1 S.length q3)], p.1.2 = posTo m m.length p.1.1 ∧ ∀ j, p.2.ownBlock = some j → j < rb) := fun p hp => by
            rcases List.mem_append.1 hp with e | e
            · exact HP.out p e
            · rw [List.mem_singleton.1 e]
              exact ⟨HS.out.symm, HLow.out⟩
          have HL4 : Hid (ColE D (fun z => left z && !z.sameKey (klOf (xn, xv))) ((M ++ [(((xn, xv), S), Value.slice q1 S.length q3)]).map fun p => p.1.1)) := by
            show ColE _ _ _
            rw [List.map_append]; exact HL3.out
          have HB3 : Hid (Below rb wq w3) := HBa.out.trans (m3.below (by have := HR2.out.lt; rw [HSz2.out]; omega) (fun k hk e => by have := HF.out k e; omega))
          have HC4 : Hid ((M ++ [(((xn, xv), S), Value.slice q1 S.length q3)]).length + cnt2 ≤ N) := by show _ ≤ _; rw [List.length_append]; exact HC3.out
          obtain ⟨p3, c3, hv3⟩ := (Rd.of_owns k3).shape
          subst hv3
          clear k3 m3 f3 HOz HEa HSa HOff HE HP HF hen' HC
          go_wp2_with fail
          go_round
          case rel => exact ⟨_, cnt2, M ++ [(((xn, xv), S), Value.slice q1 S.length q3)], HR3.out, HC4.out, HN3.out, HF3.out, HL4.out, HP3.out, HB3.out⟩
          case measure => rw [HR3.out.left_eq, HR.out.left_eq]; exact HLt.out
end Go.Proofs.Ytpjfhakmffcolaa

end

section
/- Readings of pairs and of lists, step by step. No program in sight. -/
set_option linter.unusedVariables false
namespace Go.Proofs.Ytpjfhakmffcolaa


/-- A read of a list: what is still to come. -/
theorem many_ok {α : Type} {p : List Nat → Nat → Out α} {B : List Nat} {n i a : Nat} {acc : List α} {x : α} {b : Nat} {T : Out (List α)} (hi : i < n) (h : T = pMany p B (n - i) a acc) (hx : p B a = .ok x b) : T = pMany p B (n - (i + 1)) b (acc ++ [x]) := by
  rw [h, show n - i = (n - (i + 1)) + 1 by omega, pMany, hx]

theorem many_no {α : Type} {p : List Nat → Nat → Out α} {B : List Nat} {n i a e : Nat} {acc : List α} {T : Out (List α)} (hi : i < n) (h : T = pMany p B (n - i) a acc) (hx : p B a = .bad e) : T = .bad e := by
  rw [h, show n - i = (n - (i + 1)) + 1 by omega, pMany, hx]

theorem many_end {α : Type} {p : List Nat → Nat → Out α} {B : List Nat} {n i a : Nat} {acc : List α} {T : Out (List α)} (hi : n ≤ i) (h : T = pMany p B (n - i) a acc) : T = .ok acc a := by
  rw [h, show n - i = 0 by omega, pMany]

theorem pair_ok {α β : Type} {p : List Nat → Nat → Out α} {q : List Nat → Nat → Out β} {B : List Nat} {a b c : Nat} {x : α} {y : β} (h1 : p B a = .ok x b) (h2 : q B b = .ok y c) : pPair p q B a = .ok (x, y) c := by rw [pPair, h1]; simp only [h2]

theorem pair_no1 {α β : Type} {p : List Nat → Nat → Out α} {q : List Nat → Nat → Out β} {B : List Nat} {a e : Nat} (h1 : p B a = .bad e) : pPair p q B a = .bad e := by rw [pPair, h1]

theorem pair_no2 {α β : Type} {p : List Nat → Nat → Out α} {q : List Nat → Nat → Out β} {B : List Nat} {a b e : Nat} {x : α} (h1 : p B a = .ok x b) (h2 : q B b = .bad e) : pPair p q B a = .bad e := by rw [pPair, h1]; simp only [h2]
end Go.Proofs.Ytpjfhakmffcolaa

end

section
/- Layer 13: a number of elements, as it is read; a counted list by its number. No program in sight. -/
set_option linter.unusedVariables false
namespace Go.Proofs.Ytpjfhakmffcolaa

def outCount (B : List Nat) (a : Nat) : Out Nat := match readAt B (a : Int) with
  | (n, to, 0) => if B.length - to.toNat < n then .bad 3 else .ok n to.toNat
  | (_, _, e + 1) => .bad (e + 1)
theorem pList_count {α : Type} (z : Nat) (p : List Nat → Nat → Out α) (B : List Nat) (a : Nat) : pList z p B a = match outCount B a with
  | .bad e => .bad e
  | .ok n b => if z ≠ 0 ∧ n = 0 then .bad z else pMany p B n b [] := by
  unfold pList outCount
  rcases readAt B (a : Int) with ⟨n, to, e⟩
  cases e with
  | zero =>
    simp only
    by_cases h : B.length - to.toNat < n
    · rw [if_pos h, if_pos h]
    · rw [if_neg h, if_neg h]
  | succ e => rfl
/-- What Count finds: an error of the number; more than there is; a number. -/
theorem outCount_cases {B : List Nat} (hB : ∀ c ∈ B, c < 256) {a : Nat} (ha : a ≤ B.length) :
    (∃ e, e ≠ 0 ∧ outUint B a 18446744073709551615 = .bad e ∧ outCount B a = .bad e) ∨
    (∃ n b, outUint B a 18446744073709551615 = .ok n b ∧ n < 18446744073709551616 ∧ a < b ∧ b ≤ B.length ∧ outCount B a = if B.length - b < n then .bad 3 else .ok n b) := by
  rcases readAt_cases hB ha with ⟨e, he, hr⟩ | ⟨y, n, hr, hn, hin, hg, hy⟩
  · obtain ⟨k, rfl⟩ : ∃ k, e = k + 1 := ⟨e - 1, by omega⟩
    exact Or.inl ⟨k + 1, he, by rw [outUint, hr], by rw [outCount, hr]⟩
  · exact Or.inr ⟨y, a + n, by rw [outUint, hr]; simp only [Int.toNat_natCast]; rw [if_neg (by omega)], hy, by omega, hin, by rw [outCount, hr]; simp only [Int.toNat_natCast]⟩
theorem pNum_cases {α : Type} (g : Nat → Option α) (z : Nat) {B : List Nat} (hB : ∀ c ∈ B, c < 256) {a : Nat} (ha : a ≤ B.length) :
    (∃ e, e ≠ 0 ∧ outUint B a 18446744073709551615 = .bad e ∧ pNum g z B a = .bad e) ∨
    (∃ n b, outUint B a 18446744073709551615 = .ok n b ∧ n < 18446744073709551616 ∧ a < b ∧ b ≤ B.length ∧ pNum g z B a = match g n with
      | some x => .ok x b
      | none => .bad z) := by
  rcases readAt_cases hB ha with ⟨e, he, hr⟩ | ⟨y, n, hr, hn, hin, hg, hy⟩
  · obtain ⟨k, rfl⟩ : ∃ k, e = k + 1 := ⟨e - 1, by omega⟩
    exact Or.inl ⟨k + 1, he, by rw [outUint, hr], by rw [pNum, hr]⟩
  · exact Or.inr ⟨y, a + n, by rw [outUint, hr]; simp only [Int.toNat_natCast]; rw [if_neg (by omega)], hy, by omega, hin, by rw [pNum, hr]; simp only [Int.toNat_natCast]; cases g y <;> rfl⟩
end Go.Proofs.Ytpjfhakmffcolaa

end

section
/- What a reading gives where an error is noted already; what stands behind it. No program in sight. -/
set_option linter.unusedVariables false
namespace Go.Proofs.Ytpjfhakmffcolaa


/-- What a reading gives where the error e is noted already; what stands behind it, with its value, offset and error. -/
def outE {α : Type} (o : Out α) (e : Nat) : Out α := if e = 0 then o else .bad e

def fin {α : Type} (x : α) (a e : Nat) : Out α := if e = 0 then .ok x a else .bad e

theorem outE_zero {α : Type} (o : Out α) : outE o 0 = o := rfl

theorem outE_ne {α : Type} (o : Out α) {e : Nat} (h : e ≠ 0) : outE o e = .bad e := if_neg h

theorem fin_ok {α : Type} {o : Out α} {e a e' : Nat} {x : α} (h : outE o e = fin x a e') (h0 : e' = 0) : e = 0 ∧ o = .ok x a := by
  unfold outE fin at h
  subst h0
  split at h
  · exact ⟨by assumption, h⟩
  · cases h

theorem fin_bad {α : Type} {o : Out α} {e a e' : Nat} {x : α} (h : outE o e = fin x a e') (h0 : e' ≠ 0) : (e = 0 ∧ o = .bad e') ∨ (e ≠ 0 ∧ e = e') := by
  unfold outE fin at h
  rw [if_neg h0] at h
  split at h
  · exact Or.inl ⟨by assumption, h⟩
  · cases h; exact Or.inr ⟨h0, rfl⟩

theorem fin_pair {α β : Type} {p : List Nat → Nat → Out α} {q : List Nat → Nat → Out β} {B : List Nat} {a e a1 e1 a2 e2 : Nat} {x : α} {y : β} (h1 : outE (p B a) e = fin x a1 e1) (h2 : outE (q B a1) e1 = fin y a2 e2) : outE (pPair p q B a) e = fin (x, y) a2 e2 := by
  by_cases c1 : e1 = 0
  · obtain ⟨rfl, k1⟩ := fin_ok h1 c1
    by_cases c2 : e2 = 0
    · obtain ⟨_, k2⟩ := fin_ok h2 c2
      rw [outE_zero, pair_ok k1 k2, fin, if_pos c2]
    · rcases fin_bad h2 c2 with ⟨_, k2⟩ | ⟨k, _⟩
      · rw [outE_zero, pair_no2 k1 k2, fin, if_neg c2]
      · exact absurd c1 k
  · have c2 : e2 = e1 := by
      rw [outE_ne _ c1] at h2
      unfold fin at h2
      split at h2
      · cases h2
      · cases h2; rfl
    subst c2
    rcases fin_bad h1 c1 with ⟨rfl, k1⟩ | ⟨k, rfl⟩
    · rw [outE_zero, pair_no1 k1, fin, if_neg c1]
    · rw [outE_ne _ k, fin, if_neg c1]
end Go.Proofs.Ytpjfhakmffcolaa

end

section
/- Lists whose elements are read with a state, and readings of which not all are taken, also after an error. No program in sight. -/
set_option linter.unusedVariables false
namespace Go.Proofs.Ytpjfhakmffcolaa

theorem listS_count {α σ : Type} (p : σ → List Nat → Nat → Out α) (nx : σ → α → σ) (z : Nat) (s0 : σ) (B : List Nat) (a : Nat) : pListS p nx z s0 B a = match outCount B a with
  | .bad e => .bad e
  | .ok n b => if z ≠ 0 ∧ n = 0 then .bad z else pManyS p nx B n b s0 [] := by
  unfold pListS outCount
  rcases readAt B (a : Int) with ⟨n, to, e⟩
  cases e with
  | zero =>
    simp only
    by_cases h : B.length - to.toNat < n
    · rw [if_pos h, if_pos h]
    · rw [if_neg h, if_neg h]
  | succ e => rfl
section
variable {α σ : Type} {p : σ → List Nat → Nat → Out α} {nx : σ → α → σ} {B : List Nat} {z a e n b e1 i x : Nat} {s s0 : σ} {acc : List α} {T : Out (List α)}
/-- Behind the number of elements: z, where there must be one. -/
theorem listS_start (h : outE (outCount B a) e = fin n b e1) : outE (pListS p nx z s0 B a) e = outE (pManyS p nx B (n - 0) b s0 []) (if e1 = 0 then (if z ≠ 0 ∧ n = 0 then z else 0) else e1) := by
  rw [Nat.sub_zero]
  by_cases h0 : e1 = 0
  · obtain ⟨rfl, ho⟩ := fin_ok h h0
    rw [if_pos h0, outE_zero, listS_count, ho]
    simp only
    by_cases hz : z ≠ 0 ∧ n = 0
    · rw [if_pos hz, if_pos hz, outE_ne _ hz.1]
    · rw [if_neg hz, if_neg hz, outE_zero]
  · rw [if_neg h0, outE_ne _ h0]
    rcases fin_bad h h0 with ⟨rfl, ho⟩ | ⟨k, rfl⟩
    · rw [outE_zero, listS_count, ho]
    · rw [outE_ne _ k]
theorem manyS_step {y : α} {x' e' : Nat} (hi : i < n) (h : T = outE (pManyS p nx B (n - i) x s acc) e) (hx : outE (p s B x) e = fin y x' e') (h0 : e' = 0) : T = outE (pManyS p nx B (n - (i + 1)) x' (nx s y) (acc ++ [y])) e' := by
  obtain ⟨rfl, ho⟩ := fin_ok hx h0
  subst h0
  rw [outE_zero] at h ⊢
  rw [h, show n - i = (n - (i + 1)) + 1 by omega, pManyS, ho]
/-- After an error nothing more is read: whatever list and state. -/
theorem manyS_fail {y : α} {x' e' : Nat} {m x2 : Nat} {s2 : σ} {acc2 : List α} (hi : i < n) (h : T = outE (pManyS p nx B (n - i) x s acc) e) (hx : outE (p s B x) e = fin y x' e') (h0 : e' ≠ 0) : T = outE (pManyS p nx B m x2 s2 acc2) e' := by
  rw [outE_ne _ h0]
  rcases fin_bad hx h0 with ⟨rfl, ho⟩ | ⟨k, rfl⟩
  · rw [h, outE_zero, show n - i = (n - (i + 1)) + 1 by omega, pManyS, ho]
  · rw [h, outE_ne _ k]
theorem manyS_end (hi : n ≤ i) (h : T = outE (pManyS p nx B (n - i) x s acc) e) : T = fin acc x e := by
  rw [h, show n - i = 0 by omega, pManyS]; rfl
theorem manyS_stop (h0 : e ≠ 0) (h : T = outE (pManyS p nx B (n - i) x s acc) e) (acc2 : List α) (x2 : Nat) : T = fin acc2 x2 e := by
  rw [h, outE_ne _ h0, fin, if_neg h0]
end
theorem only_fin {α : Type} {p : List Nat → Nat → Out α} {q : α → Bool} {z : Nat} {B : List Nat} {a e a1 e1 : Nat} {x : α} (hz : z ≠ 0) (h : outE (p B a) e = fin x a1 e1) : outE (pOnly p q z B a) e = fin x a1 (if e1 = 0 then (if q x = true then 0 else z) else e1) := by
  by_cases h0 : e1 = 0
  · obtain ⟨rfl, ho⟩ := fin_ok h h0
    rw [if_pos h0, outE_zero, pOnly, ho]
    simp only
    by_cases hq : q x = true
    · rw [if_pos hq, if_pos hq, fin, if_pos rfl]
    · rw [if_neg hq, if_neg hq, fin, if_neg hz]
  · rw [if_neg h0]
    rcases fin_bad h h0 with ⟨rfl, ho⟩ | ⟨k, rfl⟩
    · rw [outE_zero, pOnly, ho, fin, if_neg h0]
    · rw [outE_ne _ k, fin, if_neg k]
theorem only_yes {α : Type} {p : List Nat → Nat → Out α} {q : α → Bool} {z : Nat} {B : List Nat} {a e a1 e1 : Nat} {x : α} (hz : z ≠ 0) (h : outE (p B a) e = fin x a1 e1) (hq : q x = true) : outE (pOnly p q z B a) e = fin x a1 e1 := by
  rw [only_fin hz h]
  by_cases h0 : e1 = 0
  · rw [if_pos h0, if_pos hq, h0]
  · rw [if_neg h0]
theorem only_no {α : Type} {p : List Nat → Nat → Out α} {q : α → Bool} {z : Nat} {B : List Nat} {a e a1 e1 : Nat} {x : α} (hz : z ≠ 0) (h : outE (p B a) e = fin x a1 e1) (hq : q x = false) : outE (pOnly p q z B a) e = fin x a1 (if e1 = 0 then z else e1) := by
  have hq' : ¬ q x = true := by rw [hq]; decide
  rw [only_fin hz h, if_neg hq']
theorem listS_zero {α σ : Type} {p : σ → List Nat → Nat → Out α} {nx : σ → α → σ} {B : List Nat} {z a e n b e1 : Nat} {s0 : σ} (hz : z ≠ 0) (h : outE (outCount B a) e = fin n b e1) (hn : n = 0) : outE (pListS p nx z s0 B a) e = outE (pManyS p nx B (n - 0) b s0 []) (if e1 = 0 then z else e1) := by
  rw [listS_start h, if_pos (⟨hz, hn⟩ : z ≠ 0 ∧ n = 0)]
theorem listS_go {α σ : Type} {p : σ → List Nat → Nat → Out α} {nx : σ → α → σ} {B : List Nat} {z a e n b e1 : Nat} {s0 : σ} (h : outE (outCount B a) e = fin n b e1) (hn : z = 0 ∨ n ≠ 0) : outE (pListS p nx z s0 B a) e = outE (pManyS p nx B (n - 0) b s0 []) e1 := by
  rw [listS_start h, if_neg (fun k : z ≠ 0 ∧ n = 0 => by rcases hn with h | h; exact k.1 h; exact h k.2)]
  by_cases h0 : e1 = 0
  · rw [if_pos h0, h0]
  · rw [if_neg h0]
end Go.Proofs.Ytpjfhakmffcolaa

end

section
/- Numbers of which not all are taken, also after an error. No program in sight. -/
set_option linter.unusedVariables false
namespace Go.Proofs.Ytpjfhakmffcolaa


section
variable {α : Type} {g : Nat → Option α} {z : Nat} {B : List Nat} {a e n a1 e1 : Nat}
theorem pnum_ok {x : α} (hB : ∀ c ∈ B, c < 256) (ha : a ≤ B.length) (h : outE (outUint B a 18446744073709551615) e = fin n a1 e1) (h0 : e1 = 0) (hg : g n = some x) : outE (pNum g z B a) e = fin x a1 e1 := by
  obtain ⟨rfl, ho⟩ := fin_ok h h0
  rcases pNum_cases g z hB ha with ⟨k, _, hu, _⟩ | ⟨m, b, hu, _, _, _, hc⟩
  · rw [hu] at ho; cases ho
  · rw [hu] at ho; cases ho
    rw [outE_zero, hc, hg, fin, if_pos h0]

theorem pnum_no (x : α) (hz : z ≠ 0) (hB : ∀ c ∈ B, c < 256) (ha : a ≤ B.length) (h : outE (outUint B a 18446744073709551615) e = fin n a1 e1) (h0 : e1 = 0) (hg : g n = none) : outE (pNum g z B a) e = fin x a1 z := by
  obtain ⟨rfl, ho⟩ := fin_ok h h0
  rcases pNum_cases g z hB ha with ⟨k, _, hu, _⟩ | ⟨m, b, hu, _, _, _, hc⟩
  · rw [hu] at ho; cases ho
  · rw [hu] at ho; cases ho
    rw [outE_zero, hc, hg, fin, if_neg hz]

theorem pnum_bad (x : α) (hB : ∀ c ∈ B, c < 256) (ha : a ≤ B.length) (h : outE (outUint B a 18446744073709551615) e = fin n a1 e1) (h0 : e1 ≠ 0) : outE (pNum g z B a) e = fin x a1 e1 := by
  rcases fin_bad h h0 with ⟨rfl, ho⟩ | ⟨k, rfl⟩
  · rcases pNum_cases g z hB ha with ⟨k, _, hu, hc⟩ | ⟨m, b, hu, _⟩
    · rw [hu] at ho; cases ho
      rw [outE_zero, hc, fin, if_neg h0]
    · rw [hu] at ho; cases ho
  · rw [outE_ne _ k, fin, if_neg k]
end
end Go.Proofs.Ytpjfhakmffcolaa

end

section
/- Layer 15: the reference's Decode, what it holds under way. No program in sight. -/
set_option linter.unusedVariables false
set_option maxRecDepth 20000
namespace Go.Proofs.Ytpjfhakmffcolaa
open Go Go.RowKit

/-- The entries that have been read, in memory that the reader does not turn. -/
structure DcE (t : TypeId) (w : World) (q : Nat) (wr : World) (M : List EntV) (vv : Value) : Prop where
  nr : EnAt t w wr M vv
  vq : ∀ k, vv.ownBlock = some k → k ≠ q
  hq : ∀ p ∈ M, SerOff1 (fun k => k = q) p.2 p.1.2
theorem DcE.mods {t : TypeId} {w : World} {q : Nat} {wr w' : World} {M : List EntV} {vv : Value} (h : DcE t w q wr M vv) (hm : Mods (fun k => k = q) wr w') (hq : w.heap.size ≤ q) : DcE t w q w' M vv :=
  ⟨⟨hm.owns h.nr.row (fun k hk e => h.vq k hk e), h.nr.bel.trans (hm.below h.nr.bel.size (fun k hk e => by omega)), fun p hp => ⟨(h.nr.ser p hp).1.mods' hm (fun e => h.hq p hp (i64s_ne15 e)), (h.nr.ser p hp).2⟩⟩, h.vq, h.hq⟩
theorem DcE.below {t : TypeId} {w : World} {q : Nat} {wr w' : World} {M : List EntV} {vv : Value} (h : DcE t w q wr M vv) (hb : Below wr.heap.size wr w') : DcE t w q w' M vv := ⟨h.nr.below hb, h.vq, h.hq⟩
/-- .. and new blocks may turn. -/
theorem DcE.turn {t : TypeId} {w : World} {q : Nat} {wr w' : World} {M : List EntV} {vv : Value} (h : DcE t w q wr M vv) (hm : Mods (fun k => k = q ∨ wr.heap.size ≤ k) wr w') (hq : w.heap.size ≤ q) : DcE t w q w' M vv :=
  h.mods (hm.mono (fun k hk e => by rcases e with e | e <;> first | exact e | omega)) hq
/-- .. and blocks that are newer than all entries may turn. -/
theorem DcE.turn2 {t : TypeId} {w : World} {q g : Nat} {wr w' : World} {M : List EntV} {vv : Value} (h : DcE t w q wr M vv) (hm : Mods (fun k => k = q ∨ g ≤ k) wr w') (hq : w.heap.size ≤ q) (hg : w.heap.size ≤ g) (hv : ∀ k, vv.ownBlock = some k → k < g) (hs : ∀ p ∈ M, p.1.2 ≠ [] → ∀ k, p.2.ownBlock = some k → k < g) : DcE t w q w' M vv :=
  ⟨⟨hm.owns h.nr.row (fun k hk e => by rcases e with e | e; exact h.vq k hk e; have := hv k hk; omega), h.nr.bel.trans (hm.below h.nr.bel.size (fun k hk e => by omega)), fun p hp => ⟨(h.nr.ser p hp).1.mods' hm (fun e k hk e' => by rcases e' with e' | e'; exact h.hq p hp (i64s_ne15 e) k hk e'; have := hs p hp (i64s_ne15 e) k hk; omega), (h.nr.ser p hp).2⟩⟩, h.vq, h.hq⟩
/-- An entry that has been read is appended. -/
theorem DcE.pushed {t : TypeId} {w wr w1 : World} {q : Nat} {M : List EntV} {v v1 : Value} {p : EntV} (h : DcE t w q wr M v) (hqw : q < wr.heap.size) (hsr : Rd wr 1 p.2 p.1.2.length (i64s p.1.2)) (ho : SerOff1 (fun j => v.ownBlock = some j ∨ j = q) p.2 p.1.2)
    (k1 : w1.ownsRow 0 t 3 v1 (M.length + 1) (entCells M ++ entC p)) (m : Mods (fun j => v.ownBlock = some j) wr w1) (hf : Fresh wr.heap.size v v1) : DcE t w q w1 (M ++ [p]) v1 := by
  refine ⟨h.nr.pushed hsr (fun e k hk he => ho e k hk (Or.inl he)) k1 m hf, fun k hk => ?_, fun p' hp => ?_⟩
  · rcases hf k hk with e | e
    · exact h.vq k e
    · omega
  · rcases List.mem_append.1 hp with e | e
    · exact h.hq p' e
    · rw [List.mem_singleton.1 e]
      exact fun e k hk he => ho e k hk (Or.inr he)

/-- The state behind some entries, behind some numbers. -/
def lastE (l : List Ent) : Option Lab := l.getLast?.map Prod.fst
def lastI (l : List Int) : Option Int := l.getLast?
theorem lastE_push (l : List Ent) (e : Ent) : lastE (l ++ [e]) = some e.1 := by simp [lastE]
theorem lastI_push (l : List Int) (x : Int) : lastI (l ++ [x]) = some x := by simp [lastI]
theorem lastE_at {l : List Ent} {j : Nat} {e : Ent} (h : l[j]? = some e) (hl : l.length = j + 1) : lastE l = some e.1 := by
  rw [lastE, List.getLast?_eq_getElem?, hl, Nat.add_sub_cancel, h]; rfl
theorem lastE_nil : lastE [] = none := rfl
theorem lastI_nil : lastI [] = none := rfl

/-- Whether a difference is refused. -/
def serBad (n : Int) (j lastv d : Nat) : Bool := decide (n ≤ (d : Int) ∨ n ≤ ((lastv + d : Nat) : Int) ∨ (0 < j ∧ d = 0))
theorem ser_ok {n : Int} {acc : List Int} {lastv d x x' e' : Nat} {B : List Nat} (hB : ∀ c ∈ B, c < 256) (hx : x ≤ B.length) (hl : (lastv : Int) = (lastI acc).getD 0) (h : outE (outUint B x 18446744073709551615) 0 = fin d x' e') (hb : serBad n acc.length lastv d = false) : outE (pSer n (lastI acc) B x) 0 = fin (((lastv + d : Nat) : Int)) x' e' := by
  have hb' := of_decide_eq_false hb
  by_cases he : e' = 0
  · refine pnum_ok hB hx h he ?_
    rw [if_pos, ← hl]
    · congr 1
    · rw [← hl]
      refine ⟨by omega, ?_, ?_⟩
      · have : ¬ n ≤ ((lastv + d : Nat) : Int) := fun h => hb' (Or.inr (Or.inl h))
        omega
      · by_cases ha : acc = []
        · left; rw [ha]; rfl
        · right
          intro hd
          refine hb' (Or.inr (Or.inr ⟨?_, hd⟩))
          exact List.length_pos_iff.2 ha
  · exact pnum_bad _ hB hx h he
theorem ser_bad {n : Int} {acc : List Int} {lastv d x x' e' : Nat} {B : List Nat} (y : Int) (hB : ∀ c ∈ B, c < 256) (hx : x ≤ B.length) (hl : (lastv : Int) = (lastI acc).getD 0) (h : outE (outUint B x 18446744073709551615) 0 = fin d x' e') (hb : serBad n acc.length lastv d = true) : outE (pSer n (lastI acc) B x) 0 = fin y x' (if e' = 0 then 22 else e') := by
  have hb' := of_decide_eq_true hb
  by_cases he : e' = 0
  · rw [if_pos he]
    refine pnum_no y (by decide) hB hx h he ?_
    rw [if_neg, ]
    rw [← hl]
    rintro ⟨h1, h2, h3⟩
    rcases hb' with k | k | ⟨k1, k2⟩
    · omega
    · omega
    · rcases h3 with h3 | h3
      · rw [lastI] at h3
        have : acc = [] := List.getLast?_eq_none_iff.1 h3
        rw [this] at k1
        exact absurd k1 (by decide)
      · exact h3 k2
  · rw [if_neg he]
    exact pnum_bad _ hB hx h he
theorem decPo_fin {t : List ByteArray} {n : Int} {B : List Nat} {l : List Ent} {a e : Nat} (hn : ¬ n < 0) (h : outE (pEnts t n B 0) 0 = fin l a e) : decPo t n B = if e = 0 then (if a < B.length then (4, []) else (0, l)) else (e, []) := by
  rw [outE_zero] at h
  unfold decPo pAll
  rw [if_neg hn, h]
  unfold fin
  by_cases h0 : e = 0
  · rw [if_pos h0, if_pos h0]
  · rw [if_neg h0, if_neg h0]
theorem serBad_true {n : Int} {j lastv d : Nat} (h : n ≤ (d : Int) ∨ n ≤ ((lastv + d : Nat) : Int) ∨ (0 < j ∧ d = 0)) : serBad n j lastv d = true := decide_eq_true h
theorem serBad_false {n : Int} {j lastv d : Nat} (h : ¬ (n ≤ (d : Int) ∨ n ≤ ((lastv + d : Nat) : Int) ∨ (0 < j ∧ d = 0))) : serBad n j lastv d = false := decide_eq_false h
end Go.Proofs.Ytpjfhakmffcolaa

end
