/- PbO, BytesClone, WireFn, PbQ, in one text. -/
import Derived.Test.YtpjfhakmffcolaaMrg15
import Derived.Test.YtpjfhakmffcolaaMrg9
import Derived.Test.YtpjfhakmffcolaaMrg7
import Derived.Test.YtpjfhakmffcolaaMrg2
import Derived.Test.YtpjfhakmffcolaaMrg14
import Derived.Test.YtpjfhakmffcolaaMrg12
import Derived.Test.YtpjfhakmffcolaaMrg5

section
/- Layer 15, the program's own: an entry, by a closure with a state. (Its walk is written by gen15o.py.) -/
set_option linter.unusedVariables false
set_option maxRecDepth 20000
namespace Go.Proofs.Ytpjfhakmffcolaa
open Go Go.RowKit

theorem strEnt15 : Str Try.prog 68 3 [.string ⟨#[]⟩, .string ⟨#[]⟩, .slice none 0 0] := Str.mk' Try.underlying68 rfl (by kernel_rfl) rfl
def labO (s : Option Lab) : Lab := s.getD (⟨#[]⟩, ⟨#[]⟩)
/-- The three variables of the closure. -/
structure EntSt (w : World) (y0 y1 y2 g : Nat) (s : Option Lab) : Prop where
  r : Blk w y0 [.pointer (some ⟨g, 0, none⟩)]
  first : Blk w y1 [.bool s.isNone]
  before : Blk w y2 [.string (labO s).1, .string (labO s).2]
theorem EntSt.mods {S : Nat → Prop} {w w' : World} {y0 y1 y2 g : Nat} {s : Option Lab} (h : EntSt w y0 y1 y2 g s) (hm : Mods S w w') (h0 : ¬ S y0) (h1 : ¬ S y1) (h2 : ¬ S y2) : EntSt w' y0 y1 y2 g s := ⟨hm.blk h.r h0, hm.blk h.first h1, hm.blk h.before h2⟩
theorem EntSt.below {w w' : World} {y0 y1 y2 g : Nat} {s : Option Lab} (h : EntSt w y0 y1 y2 g s) (hb : Below w.heap.size w w') : EntSt w' y0 y1 y2 g s := h.mods (Mods.of_below hb (fun _ => False)) (fun h => h) (fun h => h) (fun h => h)

set_option maxHeartbeats 16000000 in
theorem po_entry (y0 y1 y2 g q : Nat) (v : Value) (B : List Nat) (tv : Value) (t : List ByteArray) (N : Int) (a e : Nat) (s : Option Lab) (w : World) (h : PoRd w g q v B tv t N a e) (hB : ∀ c ∈ B, c < 256) (hz : B.length ≤ 100000000) (hn : t.length ≤ 1000000) (hN : 0 ≤ N ∧ N ≤ 9223372036854775807)
    (hst : EntSt w y0 y1 y2 g s) (hlw : PoLow y0 g q v B tv t) (hy : y0 < y1 ∧ y1 < y2) :
    Calls Try.prog 73 #[.pointer (some ⟨y0, 0, none⟩), .pointer (some ⟨y1, 0, none⟩), .pointer (some ⟨y2, 0, none⟩)] w fun en w' => Mods (fun k => k = q ∨ k = y1 ∨ k = y2) w w' ∧ ∃ (p : EntV) (a' e' : Nat), en = .returned (.agg #[.string p.1.1.1, .string p.1.1.2, p.2]) ∧ Rd w' 1 p.2 p.1.2.length (i64s p.1.2) ∧ (∀ k, p.2.ownBlock = some k → w.heap.size ≤ k) ∧ PoRd w' g q v B tv t N a' e' ∧ outE (pEnt t N s B a) e = fin p.1 a' e' ∧ EntSt w' y0 y1 y2 g (some p.1.1) := by
  have HB := Lib.hid hB; have HZ := Lib.hid hz; have HN := Lib.hid hN; have HTn := Lib.hid hn; have HLw := Lib.hid hlw; have HY := Lib.hid hy
  obtain ⟨w1, hw1⟩ : ∃ w1, w1 = w.alloc (.cells #[.string ⟨#[]⟩, .string ⟨#[]⟩, .slice none 0 0] 68) := ⟨_, rfl⟩
  have HW1 : Hid (w.alloc (.cells #[.string ⟨#[]⟩, .string ⟨#[]⟩, .slice none 0 0] 68) = w1) := hw1.symm
  have hb1 : Below w.heap.size w w1 := by rw [hw1]; exact (Below.refl _ w).alloc (Nat.le_refl _) _
  have hkr : Blk w1 w.heap.size [.string ⟨#[]⟩, .string ⟨#[]⟩, .slice none 0 0] := by rw [hw1]; exact Blk.new w _ _
  have HKr := Lib.hid hkr
  have HSt1 := Lib.hid (hst.below hb1)
  have HR1 := Lib.hid (h.below hb1)
  have HM1 : Hid (Mods (fun k => k = q) w w1) := Mods.of_below hb1 _
  have HY2 : Hid (y2 < w.heap.size) := hst.before.lt
  have HLb := Lib.hid (po_label g q v B tv t N a e w1 HR1.out HB.out HZ.out HTn.out)
  have z0 : (w.alloc (.cells #[.string ⟨#[]⟩, .string ⟨#[]⟩, .slice none 0 0] 68)).cell? ⟨y0, 0, none⟩ = some (.pointer (some ⟨g, 0, none⟩)) := by rw [HW1.out]; exact HSt1.out.r.cell 0
  clear h hB hz hn hN hst hlw hy hw1 hb1 hkr HR1
  go_enter Try.func73, Try.ntmps73
  go_wp2_with fail
  rw [HW1.out]
  clear HW1 z0
  refine HLb.out.mono ?_
  rintro en w2 ⟨hm2, ⟨xn, xv⟩, a1, e1, rfl, hR2, hf2⟩
  have HM2 : Hid (Mods (fun k => k = q) w w2) := HM1.out.trans hm2 (fun _ _ e => e)
  have hkr2 := hm2.blk HKr.out (fun e => by have := HLw.out.q; have := HY.out; have := HY2.out; omega)
  have hst2 := HSt1.out.mods hm2 (fun e => by have := HLw.out.q; omega) (fun e => by have := HLw.out.q; have := HY.out; omega) (fun e => by have := HLw.out.q; have := HY.out; omega)
  have HF := Lib.hid hf2
  obtain ⟨w3, hw3⟩ : ∃ w3, w3 = w2.alloc (.cells #[.string xn, .string xv] 34) := ⟨_, rfl⟩
  have HW3 : Hid (w2.alloc (.cells #[.string xn, .string xv] 34) = w3) := hw3.symm
  have hb3 : Below w2.heap.size w2 w3 := by rw [hw3]; exact (Below.refl _ w2).alloc (Nat.le_refl _) _
  have HKl : Hid (Blk w3 w2.heap.size [.string xn, .string xv]) := by show Blk _ _ _; rw [hw3]; exact Blk.new w2 _ _
  have HKr3 : Hid (Blk w3 w.heap.size [.string ⟨#[]⟩, .string ⟨#[]⟩, .slice none 0 0]) := (Mods.of_below hb3 (fun _ => False)).blk hkr2 (fun h => h)
  have HSt3 := Lib.hid (hst2.below hb3)
  have HR3 := Lib.hid (hR2.below hb3)
  have HM3 : Hid (Mods (fun k => k = q) w w3) := HM2.out.trans (Mods.of_below hb3 _) (fun _ _ e => e)
  have HS2 : Hid (w.heap.size < w2.heap.size) := hkr2.lt
  clear HLb hm2 hkr2 hst2 hR2 hf2 hw3 hb3 HM2 HKr HSt1 HM1
  have y1c : (w2.alloc (.cells #[.string xn, .string xv] 34)).cell? ⟨y1, 0, none⟩ = some (.bool s.isNone) := by rw [HW3.out]; exact HSt3.out.first.cell 0
  obtain ⟨lb, hlb⟩ : ∃ lb, w2.heap.size = lb := ⟨_, rfl⟩
  have HLbE := Lib.hid hlb
  obtain ⟨rc, hrc⟩ : ∃ rc, w.heap.size = rc := ⟨_, rfl⟩
  have HRcE := Lib.hid hrc
  rw [hlb] at HKl
  rw [hrc] at HKr3
  cases s with
  | none =>
    have y1d : (w2.alloc (.cells #[.string xn, .string xv] 34)).cell? ⟨y1, 0, none⟩ = some (.bool true) := y1c
    clear y1c
    go_wp2_with fail
    rw [HW3.out]
    have HPt : Hid (outE (pLabO t none B a) e = fin (xn, xv) a1 e1) := only_yes (by decide) HF.out rfl
    obtain ⟨e2, he2⟩ : ∃ e2, e1 = e2 := ⟨_, rfl⟩
    rw [he2] at HPt HR3
    have HRt := Lib.hid HR3.out; have HKr := Lib.hid HKr3.out; have HKl' := Lib.hid HKl.out; have HSt := Lib.hid HSt3.out; have HMt := Lib.hid HM3.out
    have HOrd : Hid (y2 < rc ∧ rc < lb) := ⟨by have := HY2.out; omega, by have := HS2.out; omega⟩
    clear HR3 HKr3 HSt3 HM3 HF HW3 y1d HKl HY2 HS2 he2 hlb hrc HLbE
    have HKl := Lib.hid HKl'.out
    clear HKl'
    generalize w3 = wt at *
    have HS : Hid (∀ w' : World, (w'.cell? ⟨lb, 0, none⟩ = some (.string xn) ∧ w'.cell? ⟨lb, 1, none⟩ = some (.string xv) ∧ True) → (w'.cell? ⟨lb, 0, none⟩ = some (.string xn) ∧ w'.cell? ⟨lb, 1, none⟩ = some (.string xv) ∧ True)) := fun _ h => h
    refine wp_normal ?_
    refine wp_region_takeH (fun w' : World => w'.cell? ⟨lb, 0, none⟩ = some (.string xn) ∧ w'.cell? ⟨lb, 1, none⟩ = some (.string xv) ∧ True) [1, 2] [0, 1, 2] (by kernel_rfl) (by kernel_rfl) (by kernel_rfl) ?_ ?_ ?_
    · intro c a a' w hd h; cases h.1
    · exact ⟨HKl.out.drew.cell 0, HKl.out.drew.cell 1, trivial⟩
    simp only [taken, List.map_cons, List.map_nil, List.getElem?_cons_succ, List.getElem?_cons_zero, Option.getD_some]
    have HKld : Hid (Blk wt.drew lb [.string xn, .string xv]) := HKl.out.drew
    have HKrd : Hid (Blk wt.drew rc [.string ⟨#[]⟩, .string ⟨#[]⟩, .slice none 0 0]) := HKr.out.drew
    have HStd : Hid (EntSt wt.drew y0 y1 y2 g (none : Option Lab)) := HSt.out.mods (Mods.drew (fun _ => False) wt) (fun h => h) (fun h => h) (fun h => h)
    have HRtd : Hid (PoRd wt.drew g q v B tv t N a1 e2) := HRt.out.mods (Mods.drew (fun _ => False) wt) (fun h => h) (fun h => h) (fun _ _ _ h => h) (fun _ _ _ h => h)
    have HMtd : Hid (Mods (fun k => k = q) w wt.drew) := HMt.out.trans (Mods.drew _ wt) (fun _ _ e => e)
    clear HKl HKr HSt HRt HMt
    generalize wt.drew = wd at *
    repeat (first
        | (refine takeH_skip rfl ?_; simp only [Act.put, List.setIfInBounds_toArray, List.set_cons_succ, List.set_cons_zero])
        | (refine takeH_blind rfl rfl ?_; apply Exists.intro; refine ⟨fun w => ?_, ?_⟩; (go_simp; try with_reducible rfl); simp only [Act.put, List.setIfInBounds_toArray, List.set_cons_succ, List.set_cons_zero])
        | (refine takeH_reads rfl rfl ?_; apply Exists.intro; refine ⟨fun w' hS => ?_, ?_⟩; (obtain ⟨d0, d1, d2⟩ := HS.out w' hS; go_simp; try with_reducible rfl); simp only [Act.put, List.setIfInBounds_toArray, List.set_cons_succ, List.set_cons_zero]))
    have d1 : wd.cell? ⟨y1, 0, none⟩ = some (.bool true) := HStd.out.first.cell 0
    have f1 : wd.frozen? ⟨y1, 0, none⟩ = false := HStd.out.first.free 0
    have hn1 : lb ≠ y1 := by have h1 := HOrd.out; have h2 := HY.out; omega
    refine takeH_call rfl rfl (fun K' hK => ?_)
    go_wp2_with fail
    have hkl4 : Blk (wd.setCell ⟨y1, 0, none⟩ (.bool false)) lb [.string xn, .string xv] := HKld.out.set_other (a := ⟨y1, 0, none⟩) hn1 _
    refine hK _ _ ⟨hkl4.cell 0, hkl4.cell 1, trivial⟩ ?_
    clear hK K' d1 f1
    have hk1 : Blk (wd.setCell ⟨y1, 0, none⟩ (.bool false)) y1 [.bool false] := by simpa using HStd.out.first.set 0 (.bool false)
    have hk2 : Blk (wd.setCell ⟨y1, 0, none⟩ (.bool false)) y2 [.string (labO (none : Option Lab)).1, .string (labO (none : Option Lab)).2] := HStd.out.before.set_other (a := ⟨y1, 0, none⟩) (by have := HY.out; show y2 ≠ y1; omega) _
    have hk0 : Blk (wd.setCell ⟨y1, 0, none⟩ (.bool false)) y0 [.pointer (some ⟨g, 0, none⟩)] := HStd.out.r.set_other (a := ⟨y1, 0, none⟩) (by have := HY.out; show y0 ≠ y1; omega) _
    have hm4 : Mods (fun k => k = y1 ∨ k = y2) wd (wd.setCell ⟨y1, 0, none⟩ (.bool false)) := Mods.set _ _ _ _ (fun _ => Or.inl rfl)
    obtain ⟨w4, hw4⟩ : ∃ w4, w4 = wd.setCell ⟨y1, 0, none⟩ (.bool false) := ⟨_, rfl⟩
    rw [← hw4] at hkl4 hk0 hk1 hk2 hm4 ⊢
    clear hw4
    repeat (first
        | (refine takeH_skip rfl ?_; simp only [Act.put, List.setIfInBounds_toArray, List.set_cons_succ, List.set_cons_zero])
        | (refine takeH_blind rfl rfl ?_; apply Exists.intro; refine ⟨fun w => ?_, ?_⟩; (go_simp; try with_reducible rfl); simp only [Act.put, List.setIfInBounds_toArray, List.set_cons_succ, List.set_cons_zero])
        | (refine takeH_reads rfl rfl ?_; apply Exists.intro; refine ⟨fun w' hS => ?_, ?_⟩; (obtain ⟨d0, d1, d2⟩ := HS.out w' hS; go_simp; try with_reducible rfl); simp only [Act.put, List.setIfInBounds_toArray, List.set_cons_succ, List.set_cons_zero]))
    obtain ⟨⟨d0, d1⟩, f0, f1⟩ := hk2.two
    have hm5 : Mods (fun k => k = y1 ∨ k = y2) wd ((w4.setCell ⟨y2, 0, none⟩ (.string xn)).setCell ⟨y2, 1, none⟩ (.string xv)) := (hm4.trans (Mods.set (fun k => k = y1 ∨ k = y2) _ ⟨y2, 0, none⟩ _ (fun _ => Or.inr rfl)) (fun _ _ e => e)).trans (Mods.set (fun k => k = y1 ∨ k = y2) _ ⟨y2, 1, none⟩ _ (fun _ => Or.inr rfl)) (fun _ _ e => e)
    have hst5 : EntSt ((w4.setCell ⟨y2, 0, none⟩ (.string xn)).setCell ⟨y2, 1, none⟩ (.string xv)) y0 y1 y2 g (some (xn, xv)) := by
      refine ⟨(hk0.set_other (a := ⟨y2, 0, none⟩) (by have := HY.out; show y0 ≠ y2; omega) _).set_other (a := ⟨y2, 1, none⟩) (by have := HY.out; show y0 ≠ y2; omega) _, (hk1.set_other (a := ⟨y2, 0, none⟩) (by have := HY.out; show y1 ≠ y2; omega) _).set_other (a := ⟨y2, 1, none⟩) (by have := HY.out; show y1 ≠ y2; omega) _, ?_⟩
      exact hk2.set2 (.string xn) (.string xv)
    have hkl5 : Blk ((w4.setCell ⟨y2, 0, none⟩ (.string xn)).setCell ⟨y2, 1, none⟩ (.string xv)) lb [.string xn, .string xv] := hm5.blk HKld.out (fun e => by have h1 := HOrd.out; have h2 := HY.out; omega)
    have HKl5 := Lib.hid hkl5
    have HKr5 : Hid (Blk ((w4.setCell ⟨y2, 0, none⟩ (.string xn)).setCell ⟨y2, 1, none⟩ (.string xv)) rc [.string ⟨#[]⟩, .string ⟨#[]⟩, .slice none 0 0]) := hm5.blk HKrd.out (fun e => by have h1 := HOrd.out; have h2 := HY.out; omega)
    have HSt5 := Lib.hid hst5
    have HR5 : Hid (PoRd ((w4.setCell ⟨y2, 0, none⟩ (.string xn)).setCell ⟨y2, 1, none⟩ (.string xv)) g q v B tv t N a1 e2) := HRtd.out.above HLw.out hm5 (fun k hk e => by have := HY.out; omega)
    have HM5 : Hid (Mods (fun k => k = q ∨ k = y1 ∨ k = y2) w ((w4.setCell ⟨y2, 0, none⟩ (.string xn)).setCell ⟨y2, 1, none⟩ (.string xv))) := (HMtd.out.mono (fun _ _ e => Or.inl e)).trans hm5 (fun _ _ e => Or.inr e)
    clear hk0 hk1 hk2 hm4 hm5 hst5 hkl4 HKld HKrd HStd HRtd HMtd hn1
    refine takeH_call rfl rfl (fun K' hK => ?_)
    go_wp2_with fail
    refine hK _ _ ⟨hkl5.cell 0, hkl5.cell 1, trivial⟩ ?_
    clear hK K' d0 d1 f0 f1 hkl5
    generalize (w4.setCell ⟨y2, 0, none⟩ (.string xn)).setCell ⟨y2, 1, none⟩ (.string xv) = w5 at *
    repeat (first
        | (refine takeH_skip rfl ?_; simp only [Act.put, List.setIfInBounds_toArray, List.set_cons_succ, List.set_cons_zero])
        | (refine takeH_blind rfl rfl ?_; apply Exists.intro; refine ⟨fun w => ?_, ?_⟩; (go_simp; try with_reducible rfl); simp only [Act.put, List.setIfInBounds_toArray, List.set_cons_succ, List.set_cons_zero])
        | (refine takeH_reads rfl rfl ?_; apply Exists.intro; refine ⟨fun w' hS => ?_, ?_⟩; (obtain ⟨d0, d1, d2⟩ := HS.out w' hS; go_simp; try with_reducible rfl); simp only [Act.put, List.setIfInBounds_toArray, List.set_cons_succ, List.set_cons_zero]))
    refine takeH_nil ⟨rfl, ?_⟩
    clear HS
    go_wp2_with fail
    have HS : Hid (∀ w' : World, (w'.cell? ⟨lb, 0, none⟩ = some (.string xn) ∧ w'.cell? ⟨lb, 1, none⟩ = some (.string xv) ∧ w'.cell? ⟨y0, 0, none⟩ = some (.pointer (some ⟨g, 0, none⟩))) → (w'.cell? ⟨lb, 0, none⟩ = some (.string xn) ∧ w'.cell? ⟨lb, 1, none⟩ = some (.string xv) ∧ w'.cell? ⟨y0, 0, none⟩ = some (.pointer (some ⟨g, 0, none⟩)))) := fun _ h => h
    refine wp_normal ?_
    refine wp_region_takeH (fun w' : World => w'.cell? ⟨lb, 0, none⟩ = some (.string xn) ∧ w'.cell? ⟨lb, 1, none⟩ = some (.string xv) ∧ w'.cell? ⟨y0, 0, none⟩ = some (.pointer (some ⟨g, 0, none⟩))) [2, 4] [0, 1, 2, 3, 4] (by kernel_rfl) (by kernel_rfl) (by kernel_rfl) ?_ ?_ ?_
    · intro c a a' w hd h; cases h.1
    · exact ⟨HKl5.out.drew.cell 0, HKl5.out.drew.cell 1, HSt5.out.r.drew.cell 0⟩
    simp only [taken, List.map_cons, List.map_nil, List.getElem?_cons_succ, List.getElem?_cons_zero, Option.getD_some]
    have HKl6 : Hid (Blk w5.drew lb [.string xn, .string xv]) := HKl5.out.drew
    have HKr6 : Hid (Blk w5.drew rc [.string ⟨#[]⟩, .string ⟨#[]⟩, .slice none 0 0]) := HKr5.out.drew
    have HSt6 : Hid (EntSt w5.drew y0 y1 y2 g (some (xn, xv))) := HSt5.out.mods (Mods.drew (fun _ => False) w5) (fun h => h) (fun h => h) (fun h => h)
    have HR6 : Hid (PoRd w5.drew g q v B tv t N a1 e2) := HR5.out.mods (Mods.drew (fun _ => False) w5) (fun h => h) (fun h => h) (fun _ _ _ h => h) (fun _ _ _ h => h)
    have HM6 : Hid (Mods (fun k => k = q ∨ k = y1 ∨ k = y2) w w5.drew) := HM5.out.trans (Mods.drew _ w5) (fun _ _ e => e)
    clear HKl5 HKr5 HSt5 HR5 HM5
    generalize w5.drew = w6 at *
    have HSe := Lib.hid (po_series g q v B tv t N a1 e2 w6 HR6.out HB.out HZ.out HN.out)
    repeat (first
        | (refine takeH_skip rfl ?_; simp only [Act.put, List.setIfInBounds_toArray, List.set_cons_succ, List.set_cons_zero])
        | (refine takeH_blind rfl rfl ?_; apply Exists.intro; refine ⟨fun w => ?_, ?_⟩; (go_simp; try with_reducible rfl); simp only [Act.put, List.setIfInBounds_toArray, List.set_cons_succ, List.set_cons_zero])
        | (refine takeH_reads rfl rfl ?_; apply Exists.intro; refine ⟨fun w' hS => ?_, ?_⟩; (obtain ⟨d0, d1, d2⟩ := HS.out w' hS; go_simp; try with_reducible rfl); simp only [Act.put, List.setIfInBounds_toArray, List.set_cons_succ, List.set_cons_zero]))
    refine takeH_call rfl rfl (fun K' hK => ?_)
    go_wp2_with fail
    refine HSe.out.mono ?_
    rintro en w7 ⟨hm7, l, r, a3, e3, rfl, hO, hR7, hf⟩
    have hkl7 := hm7.blk HKl6.out (fun e => by have h1 := HOrd.out; have h2 := HY.out; have h3 := HLw.out.q; omega)
    have hkr7 := hm7.blk HKr6.out (fun e => by have h1 := HOrd.out; have h2 := HY.out; have h3 := HLw.out.q; omega)
    have hst7 := HSt6.out.mods hm7 (fun e => by have := HLw.out.q; omega) (fun e => by have := HLw.out.q; have := HY.out; omega) (fun e => by have := HLw.out.q; have := HY.out; omega)
    refine hK _ _ ⟨hkl7.cell 0, hkl7.cell 1, hst7.r.cell 0⟩ ?_
    have HM7 : Hid (Mods (fun k => k = q ∨ k = y1 ∨ k = y2) w w7) := HM6.out.trans hm7 (fun _ _ e => Or.inl e)
    have HF7 : Hid (outE (pEnt t N (none : Option Lab) B a) e = fin ((xn, xv), l) a3 e3) := fin_pair HPt.out hf
    have HO7 := Lib.hid hO; have HR7 := Lib.hid hR7; have HSt7 := Lib.hid hst7; have HKl7 := Lib.hid hkl7; have HKr7 := Lib.hid hkr7
    have HW6 : Hid (rc < w6.heap.size ∧ w.heap.size ≤ w6.heap.size) := ⟨HKr6.out.lt, HM6.out.size⟩
    obtain ⟨p7, c7, hv7⟩ := (Rd.of_owns hO).shape
    subst hv7
    clear hK K' hm7 hO hR7 hf hst7 hkl7 hkr7 HSe HM6 HR6 HSt6 HKl6 HKr6
    repeat (first
        | (refine takeH_skip rfl ?_; simp only [Act.put, List.setIfInBounds_toArray, List.set_cons_succ, List.set_cons_zero])
        | (refine takeH_blind rfl rfl ?_; apply Exists.intro; refine ⟨fun w => ?_, ?_⟩; (go_simp; try with_reducible rfl); simp only [Act.put, List.setIfInBounds_toArray, List.set_cons_succ, List.set_cons_zero])
        | (refine takeH_reads rfl rfl ?_; apply Exists.intro; refine ⟨fun w' hS => ?_, ?_⟩; (obtain ⟨d0, d1, d2⟩ := HS.out w' hS; go_simp; try with_reducible rfl); simp only [Act.put, List.setIfInBounds_toArray, List.set_cons_succ, List.set_cons_zero]))
    obtain ⟨⟨d0, d1, d2⟩, f0, f1, f2⟩ := HKr7.out.three
    have hm8 := mods_set3 w7 rc (.string xn) (.string xv) (.slice p7 l.length c7)
    have hk8 := HKr7.out.set3 (.string xn) (.string xv) (.slice p7 l.length c7)
    have hkl8 := hm8.blk HKl7.out (fun e => by have h1 := HOrd.out; omega)
    have hst8 := HSt7.out.mods hm8 (fun e => by have h1 := HOrd.out; have h2 := HY.out; omega) (fun e => by have h1 := HOrd.out; have h2 := HY.out; omega) (fun e => by have h1 := HOrd.out; omega)
    have HR8 := Lib.hid (HR7.out.above HLw.out hm8 (fun k hk e => by have h1 := HOrd.out; have h2 := HY.out; omega))
    have HM8 := Lib.hid (HM7.out.trans hm8 (fun j hj e => by have h1 := HOrd.out; rw [← HRcE.out] at e; omega))
    have HRd8 := Lib.hid ((Rd.of_owns HO7.out).mods hm8 (fun k hk e => by have h1 := (HO7.out.lt k hk).1; have h2 := HW6.out; omega))
    have HFr : Hid (∀ k, (Value.slice p7 l.length c7).ownBlock = some k → w.heap.size ≤ k) := fun k hk => by have h1 := (HO7.out.lt k hk).1; have h2 := HW6.out; omega
    have HSt8 := Lib.hid hst8; have HK8 := Lib.hid hk8
    clear hm8 hk8 hst8 HR7 HM7 HO7 HSt7 HKl7 HKr7
    refine takeH_call rfl rfl (fun K' hK => ?_)
    go_wp2_with fail
    refine hK _ _ ⟨hkl8.cell 0, hkl8.cell 1, HSt8.out.r.cell 0⟩ ?_
    clear hK K' d0 d1 d2 f0 f1 f2 hkl8
    repeat (first
        | (refine takeH_skip rfl ?_; simp only [Act.put, List.setIfInBounds_toArray, List.set_cons_succ, List.set_cons_zero])
        | (refine takeH_blind rfl rfl ?_; apply Exists.intro; refine ⟨fun w => ?_, ?_⟩; (go_simp; try with_reducible rfl); simp only [Act.put, List.setIfInBounds_toArray, List.set_cons_succ, List.set_cons_zero])
        | (refine takeH_reads rfl rfl ?_; apply Exists.intro; refine ⟨fun w' hS => ?_, ?_⟩; (obtain ⟨d0, d1, d2⟩ := HS.out w' hS; go_simp; try with_reducible rfl); simp only [Act.put, List.setIfInBounds_toArray, List.set_cons_succ, List.set_cons_zero]))
    refine takeH_nil ⟨rfl, ?_⟩
    clear HS
    go_wp2_with fail
    refine bodyPost_ret (resultsS (p := 3) strEnt15 (by kernel_rfl) _ rc rfl [.string xn, .string xv, .slice p7 l.length c7] HK8.out rfl) rfl ?_
    exact ⟨HM8.out, (((xn, xv), l), .slice p7 l.length c7), a3, e3, rfl, HRd8.out, HFr.out, HR8.out, HF7.out, HSt8.out⟩
  | some bl =>
    obtain ⟨bn, bv⟩ := bl
    have y1d : (w2.alloc (.cells #[.string xn, .string xv] 34)).cell? ⟨y1, 0, none⟩ = some (.bool false) := y1c
    have y2c : (w2.alloc (.cells #[.string xn, .string xv] 34)).cell? ⟨y2, 0, none⟩ = some (.string bn) := by rw [HW3.out]; exact HSt3.out.before.cell 0
    have y2d : (w2.alloc (.cells #[.string xn, .string xv] 34)).cell? ⟨y2, 1, none⟩ = some (.string bv) := by rw [HW3.out]; exact HSt3.out.before.cell 1
    clear y1c
    go_wp2_with fail
    rw [HW3.out]
    refine (po_compare (xn, xv) (bn, bv) w3).mono ?_
    rintro en w4 ⟨rfl, hG⟩
    have HRq := Lib.hid (HR3.out.below hG.below); have HKr := Lib.hid (hG.blk HKr3.out); have HKl' := Lib.hid (hG.blk HKl.out); have HSt := Lib.hid (HSt3.out.below hG.below)
    have HMq : Hid (Mods (fun k => k = q) w w4) := HM3.out.trans (Mods.of_below hG.below _) (fun _ _ e => e)
    have HOrd : Hid (y2 < rc ∧ rc < lb) := ⟨by have := HY2.out; omega, by have := HS2.out; omega⟩
    clear HR3 HKr3 HSt3 HM3 HW3 y1d y2c y2d HKl HY2 HS2 hlb hrc HLbE hG
    have HKl := Lib.hid HKl'.out
    clear HKl'
    by_cases hle : cmpLab (xn, xv) (bn, bv) ≤ 0
    · have HPt : Hid (outE (pLabO t (some (bn, bv)) B a) e = fin (xn, xv) a1 (if e1 = 0 then 16 else e1)) := only_no (by decide) HF.out (by
        show ltE (bn, bv) (xn, xv) = false
        rcases Bool.eq_false_or_eq_true (ltE (bn, bv) (xn, xv)) with e | e
        · have := (ltE_gt (xn, xv) (bn, bv)).1 e; omega
        · exact e)
      have HFl := Lib.hid (po_fail g q v B tv t N a1 e1 16 w4 HRq.out)
      rw [show ((16 : Nat) : Int) = 16 from rfl] at HFl
      obtain ⟨g0, g1, g2, g3⟩ := HRq.out.cells
      have z0 : w4.cell? ⟨y0, 0, none⟩ = some (.pointer (some ⟨g, 0, none⟩)) := HSt.out.r.cell 0
      generalize cmpLab (xn, xv) (bn, bv) = cv at *
      go_wp2_with fail
      refine HFl.out.mono ?_
      rintro en wt ⟨rfl, hR5, hm5⟩
      have HRt := Lib.hid hR5
      have HMt : Hid (Mods (fun k => k = q) w wt) := HMq.out.trans hm5 (fun _ _ e => e)
      have hkl5 := hm5.blk HKl.out (fun e => by have h1 := HOrd.out; have h2 := HY.out; have h3 := HLw.out.q; omega)
      have hkr5 := hm5.blk HKr.out (fun e => by have h1 := HOrd.out; have h2 := HY.out; have h3 := HLw.out.q; omega)
      have hst5 := HSt.out.mods hm5 (fun e => by have := HLw.out.q; omega) (fun e => by have := HLw.out.q; have := HY.out; omega) (fun e => by have := HLw.out.q; have := HY.out; omega)
      clear HFl g0 g1 g2 g3 z0 hR5 hm5 HRq HMq HKl HKr HSt HF hle
      have HKl := Lib.hid hkl5; have HKr := Lib.hid hkr5; have HSt := Lib.hid hst5
      clear hkl5 hkr5 hst5
      obtain ⟨e2, he2⟩ : ∃ e2, (if e1 = 0 then 16 else e1) = e2 := ⟨_, rfl⟩
      rw [he2] at HPt HRt
      clear he2
      go_wp2_with fail
      have HS : Hid (∀ w' : World, (w'.cell? ⟨lb, 0, none⟩ = some (.string xn) ∧ w'.cell? ⟨lb, 1, none⟩ = some (.string xv) ∧ True) → (w'.cell? ⟨lb, 0, none⟩ = some (.string xn) ∧ w'.cell? ⟨lb, 1, none⟩ = some (.string xv) ∧ True)) := fun _ h => h
      refine wp_normal ?_
      refine wp_region_takeH (fun w' : World => w'.cell? ⟨lb, 0, none⟩ = some (.string xn) ∧ w'.cell? ⟨lb, 1, none⟩ = some (.string xv) ∧ True) [1, 2] [0, 1, 2] (by kernel_rfl) (by kernel_rfl) (by kernel_rfl) ?_ ?_ ?_
      · intro c a a' w hd h; cases h.1
      · exact ⟨HKl.out.drew.cell 0, HKl.out.drew.cell 1, trivial⟩
      simp only [taken, List.map_cons, List.map_nil, List.getElem?_cons_succ, List.getElem?_cons_zero, Option.getD_some]
      have HKld : Hid (Blk wt.drew lb [.string xn, .string xv]) := HKl.out.drew
      have HKrd : Hid (Blk wt.drew rc [.string ⟨#[]⟩, .string ⟨#[]⟩, .slice none 0 0]) := HKr.out.drew
      have HStd : Hid (EntSt wt.drew y0 y1 y2 g (some (bn, bv))) := HSt.out.mods (Mods.drew (fun _ => False) wt) (fun h => h) (fun h => h) (fun h => h)
      have HRtd : Hid (PoRd wt.drew g q v B tv t N a1 e2) := HRt.out.mods (Mods.drew (fun _ => False) wt) (fun h => h) (fun h => h) (fun _ _ _ h => h) (fun _ _ _ h => h)
      have HMtd : Hid (Mods (fun k => k = q) w wt.drew) := HMt.out.trans (Mods.drew _ wt) (fun _ _ e => e)
      clear HKl HKr HSt HRt HMt
      generalize wt.drew = wd at *
      repeat (first
        | (refine takeH_skip rfl ?_; simp only [Act.put, List.setIfInBounds_toArray, List.set_cons_succ, List.set_cons_zero])
        | (refine takeH_blind rfl rfl ?_; apply Exists.intro; refine ⟨fun w => ?_, ?_⟩; (go_simp; try with_reducible rfl); simp only [Act.put, List.setIfInBounds_toArray, List.set_cons_succ, List.set_cons_zero])
        | (refine takeH_reads rfl rfl ?_; apply Exists.intro; refine ⟨fun w' hS => ?_, ?_⟩; (obtain ⟨d0, d1, d2⟩ := HS.out w' hS; go_simp; try with_reducible rfl); simp only [Act.put, List.setIfInBounds_toArray, List.set_cons_succ, List.set_cons_zero]))
      have d1 : wd.cell? ⟨y1, 0, none⟩ = some (.bool false) := HStd.out.first.cell 0
      have f1 : wd.frozen? ⟨y1, 0, none⟩ = false := HStd.out.first.free 0
      have hn1 : lb ≠ y1 := by have h1 := HOrd.out; have h2 := HY.out; omega
      refine takeH_call rfl rfl (fun K' hK => ?_)
      go_wp2_with fail
      have hkl4 : Blk (wd.setCell ⟨y1, 0, none⟩ (.bool false)) lb [.string xn, .string xv] := HKld.out.set_other (a := ⟨y1, 0, none⟩) hn1 _
      refine hK _ _ ⟨hkl4.cell 0, hkl4.cell 1, trivial⟩ ?_
      clear hK K' d1 f1
      have hk1 : Blk (wd.setCell ⟨y1, 0, none⟩ (.bool false)) y1 [.bool false] := by simpa using HStd.out.first.set 0 (.bool false)
      have hk2 : Blk (wd.setCell ⟨y1, 0, none⟩ (.bool false)) y2 [.string (labO (some (bn, bv))).1, .string (labO (some (bn, bv))).2] := HStd.out.before.set_other (a := ⟨y1, 0, none⟩) (by have := HY.out; show y2 ≠ y1; omega) _
      have hk0 : Blk (wd.setCell ⟨y1, 0, none⟩ (.bool false)) y0 [.pointer (some ⟨g, 0, none⟩)] := HStd.out.r.set_other (a := ⟨y1, 0, none⟩) (by have := HY.out; show y0 ≠ y1; omega) _
      have hm4 : Mods (fun k => k = y1 ∨ k = y2) wd (wd.setCell ⟨y1, 0, none⟩ (.bool false)) := Mods.set _ _ _ _ (fun _ => Or.inl rfl)
      obtain ⟨w4, hw4⟩ : ∃ w4, w4 = wd.setCell ⟨y1, 0, none⟩ (.bool false) := ⟨_, rfl⟩
      rw [← hw4] at hkl4 hk0 hk1 hk2 hm4 ⊢
      clear hw4
      repeat (first
        | (refine takeH_skip rfl ?_; simp only [Act.put, List.setIfInBounds_toArray, List.set_cons_succ, List.set_cons_zero])
        | (refine takeH_blind rfl rfl ?_; apply Exists.intro; refine ⟨fun w => ?_, ?_⟩; (go_simp; try with_reducible rfl); simp only [Act.put, List.setIfInBounds_toArray, List.set_cons_succ, List.set_cons_zero])
        | (refine takeH_reads rfl rfl ?_; apply Exists.intro; refine ⟨fun w' hS => ?_, ?_⟩; (obtain ⟨d0, d1, d2⟩ := HS.out w' hS; go_simp; try with_reducible rfl); simp only [Act.put, List.setIfInBounds_toArray, List.set_cons_succ, List.set_cons_zero]))
      obtain ⟨⟨d0, d1⟩, f0, f1⟩ := hk2.two
      have hm5 : Mods (fun k => k = y1 ∨ k = y2) wd ((w4.setCell ⟨y2, 0, none⟩ (.string xn)).setCell ⟨y2, 1, none⟩ (.string xv)) := (hm4.trans (Mods.set (fun k => k = y1 ∨ k = y2) _ ⟨y2, 0, none⟩ _ (fun _ => Or.inr rfl)) (fun _ _ e => e)).trans (Mods.set (fun k => k = y1 ∨ k = y2) _ ⟨y2, 1, none⟩ _ (fun _ => Or.inr rfl)) (fun _ _ e => e)
      have hst5 : EntSt ((w4.setCell ⟨y2, 0, none⟩ (.string xn)).setCell ⟨y2, 1, none⟩ (.string xv)) y0 y1 y2 g (some (xn, xv)) := by
        refine ⟨(hk0.set_other (a := ⟨y2, 0, none⟩) (by have := HY.out; show y0 ≠ y2; omega) _).set_other (a := ⟨y2, 1, none⟩) (by have := HY.out; show y0 ≠ y2; omega) _, (hk1.set_other (a := ⟨y2, 0, none⟩) (by have := HY.out; show y1 ≠ y2; omega) _).set_other (a := ⟨y2, 1, none⟩) (by have := HY.out; show y1 ≠ y2; omega) _, ?_⟩
        exact hk2.set2 (.string xn) (.string xv)
      have hkl5 : Blk ((w4.setCell ⟨y2, 0, none⟩ (.string xn)).setCell ⟨y2, 1, none⟩ (.string xv)) lb [.string xn, .string xv] := hm5.blk HKld.out (fun e => by have h1 := HOrd.out; have h2 := HY.out; omega)
      have HKl5 := Lib.hid hkl5
      have HKr5 : Hid (Blk ((w4.setCell ⟨y2, 0, none⟩ (.string xn)).setCell ⟨y2, 1, none⟩ (.string xv)) rc [.string ⟨#[]⟩, .string ⟨#[]⟩, .slice none 0 0]) := hm5.blk HKrd.out (fun e => by have h1 := HOrd.out; have h2 := HY.out; omega)
      have HSt5 := Lib.hid hst5
      have HR5 : Hid (PoRd ((w4.setCell ⟨y2, 0, none⟩ (.string xn)).setCell ⟨y2, 1, none⟩ (.string xv)) g q v B tv t N a1 e2) := HRtd.out.above HLw.out hm5 (fun k hk e => by have := HY.out; omega)
      have HM5 : Hid (Mods (fun k => k = q ∨ k = y1 ∨ k = y2) w ((w4.setCell ⟨y2, 0, none⟩ (.string xn)).setCell ⟨y2, 1, none⟩ (.string xv))) := (HMtd.out.mono (fun _ _ e => Or.inl e)).trans hm5 (fun _ _ e => Or.inr e)
      clear hk0 hk1 hk2 hm4 hm5 hst5 hkl4 HKld HKrd HStd HRtd HMtd hn1
      refine takeH_call rfl rfl (fun K' hK => ?_)
      go_wp2_with fail
      refine hK _ _ ⟨hkl5.cell 0, hkl5.cell 1, trivial⟩ ?_
      clear hK K' d0 d1 f0 f1 hkl5
      generalize (w4.setCell ⟨y2, 0, none⟩ (.string xn)).setCell ⟨y2, 1, none⟩ (.string xv) = w5 at *
      repeat (first
        | (refine takeH_skip rfl ?_; simp only [Act.put, List.setIfInBounds_toArray, List.set_cons_succ, List.set_cons_zero])
        | (refine takeH_blind rfl rfl ?_; apply Exists.intro; refine ⟨fun w => ?_, ?_⟩; (go_simp; try with_reducible rfl); simp only [Act.put, List.setIfInBounds_toArray, List.set_cons_succ, List.set_cons_zero])
        | (refine takeH_reads rfl rfl ?_; apply Exists.intro; refine ⟨fun w' hS => ?_, ?_⟩; (obtain ⟨d0, d1, d2⟩ := HS.out w' hS; go_simp; try with_reducible rfl); simp only [Act.put, List.setIfInBounds_toArray, List.set_cons_succ, List.set_cons_zero]))
      refine takeH_nil ⟨rfl, ?_⟩
      clear HS
      go_wp2_with fail
      have HS : Hid (∀ w' : World, (w'.cell? ⟨lb, 0, none⟩ = some (.string xn) ∧ w'.cell? ⟨lb, 1, none⟩ = some (.string xv) ∧ w'.cell? ⟨y0, 0, none⟩ = some (.pointer (some ⟨g, 0, none⟩))) → (w'.cell? ⟨lb, 0, none⟩ = some (.string xn) ∧ w'.cell? ⟨lb, 1, none⟩ = some (.string xv) ∧ w'.cell? ⟨y0, 0, none⟩ = some (.pointer (some ⟨g, 0, none⟩)))) := fun _ h => h
      refine wp_normal ?_
      refine wp_region_takeH (fun w' : World => w'.cell? ⟨lb, 0, none⟩ = some (.string xn) ∧ w'.cell? ⟨lb, 1, none⟩ = some (.string xv) ∧ w'.cell? ⟨y0, 0, none⟩ = some (.pointer (some ⟨g, 0, none⟩))) [2, 4] [0, 1, 2, 3, 4] (by kernel_rfl) (by kernel_rfl) (by kernel_rfl) ?_ ?_ ?_
      · intro c a a' w hd h; cases h.1
      · exact ⟨HKl5.out.drew.cell 0, HKl5.out.drew.cell 1, HSt5.out.r.drew.cell 0⟩
      simp only [taken, List.map_cons, List.map_nil, List.getElem?_cons_succ, List.getElem?_cons_zero, Option.getD_some]
      have HKl6 : Hid (Blk w5.drew lb [.string xn, .string xv]) := HKl5.out.drew
      have HKr6 : Hid (Blk w5.drew rc [.string ⟨#[]⟩, .string ⟨#[]⟩, .slice none 0 0]) := HKr5.out.drew
      have HSt6 : Hid (EntSt w5.drew y0 y1 y2 g (some (xn, xv))) := HSt5.out.mods (Mods.drew (fun _ => False) w5) (fun h => h) (fun h => h) (fun h => h)
      have HR6 : Hid (PoRd w5.drew g q v B tv t N a1 e2) := HR5.out.mods (Mods.drew (fun _ => False) w5) (fun h => h) (fun h => h) (fun _ _ _ h => h) (fun _ _ _ h => h)
      have HM6 : Hid (Mods (fun k => k = q ∨ k = y1 ∨ k = y2) w w5.drew) := HM5.out.trans (Mods.drew _ w5) (fun _ _ e => e)
      clear HKl5 HKr5 HSt5 HR5 HM5
      generalize w5.drew = w6 at *
      have HSe := Lib.hid (po_series g q v B tv t N a1 e2 w6 HR6.out HB.out HZ.out HN.out)
      repeat (first
        | (refine takeH_skip rfl ?_; simp only [Act.put, List.setIfInBounds_toArray, List.set_cons_succ, List.set_cons_zero])
        | (refine takeH_blind rfl rfl ?_; apply Exists.intro; refine ⟨fun w => ?_, ?_⟩; (go_simp; try with_reducible rfl); simp only [Act.put, List.setIfInBounds_toArray, List.set_cons_succ, List.set_cons_zero])
        | (refine takeH_reads rfl rfl ?_; apply Exists.intro; refine ⟨fun w' hS => ?_, ?_⟩; (obtain ⟨d0, d1, d2⟩ := HS.out w' hS; go_simp; try with_reducible rfl); simp only [Act.put, List.setIfInBounds_toArray, List.set_cons_succ, List.set_cons_zero]))
      refine takeH_call rfl rfl (fun K' hK => ?_)
      go_wp2_with fail
      refine HSe.out.mono ?_
      rintro en w7 ⟨hm7, l, r, a3, e3, rfl, hO, hR7, hf⟩
      have hkl7 := hm7.blk HKl6.out (fun e => by have h1 := HOrd.out; have h2 := HY.out; have h3 := HLw.out.q; omega)
      have hkr7 := hm7.blk HKr6.out (fun e => by have h1 := HOrd.out; have h2 := HY.out; have h3 := HLw.out.q; omega)
      have hst7 := HSt6.out.mods hm7 (fun e => by have := HLw.out.q; omega) (fun e => by have := HLw.out.q; have := HY.out; omega) (fun e => by have := HLw.out.q; have := HY.out; omega)
      refine hK _ _ ⟨hkl7.cell 0, hkl7.cell 1, hst7.r.cell 0⟩ ?_
      have HM7 : Hid (Mods (fun k => k = q ∨ k = y1 ∨ k = y2) w w7) := HM6.out.trans hm7 (fun _ _ e => Or.inl e)
      have HF7 : Hid (outE (pEnt t N (some (bn, bv)) B a) e = fin ((xn, xv), l) a3 e3) := fin_pair HPt.out hf
      have HO7 := Lib.hid hO; have HR7 := Lib.hid hR7; have HSt7 := Lib.hid hst7; have HKl7 := Lib.hid hkl7; have HKr7 := Lib.hid hkr7
      have HW6 : Hid (rc < w6.heap.size ∧ w.heap.size ≤ w6.heap.size) := ⟨HKr6.out.lt, HM6.out.size⟩
      obtain ⟨p7, c7, hv7⟩ := (Rd.of_owns hO).shape
      subst hv7
      clear hK K' hm7 hO hR7 hf hst7 hkl7 hkr7 HSe HM6 HR6 HSt6 HKl6 HKr6
      repeat (first
        | (refine takeH_skip rfl ?_; simp only [Act.put, List.setIfInBounds_toArray, List.set_cons_succ, List.set_cons_zero])
        | (refine takeH_blind rfl rfl ?_; apply Exists.intro; refine ⟨fun w => ?_, ?_⟩; (go_simp; try with_reducible rfl); simp only [Act.put, List.setIfInBounds_toArray, List.set_cons_succ, List.set_cons_zero])
        | (refine takeH_reads rfl rfl ?_; apply Exists.intro; refine ⟨fun w' hS => ?_, ?_⟩; (obtain ⟨d0, d1, d2⟩ := HS.out w' hS; go_simp; try with_reducible rfl); simp only [Act.put, List.setIfInBounds_toArray, List.set_cons_succ, List.set_cons_zero]))
      obtain ⟨⟨d0, d1, d2⟩, f0, f1, f2⟩ := HKr7.out.three
      have hm8 := mods_set3 w7 rc (.string xn) (.string xv) (.slice p7 l.length c7)
      have hk8 := HKr7.out.set3 (.string xn) (.string xv) (.slice p7 l.length c7)
      have hkl8 := hm8.blk HKl7.out (fun e => by have h1 := HOrd.out; omega)
      have hst8 := HSt7.out.mods hm8 (fun e => by have h1 := HOrd.out; have h2 := HY.out; omega) (fun e => by have h1 := HOrd.out; have h2 := HY.out; omega) (fun e => by have h1 := HOrd.out; omega)
      have HR8 := Lib.hid (HR7.out.above HLw.out hm8 (fun k hk e => by have h1 := HOrd.out; have h2 := HY.out; omega))
      have HM8 := Lib.hid (HM7.out.trans hm8 (fun j hj e => by have h1 := HOrd.out; rw [← HRcE.out] at e; omega))
      have HRd8 := Lib.hid ((Rd.of_owns HO7.out).mods hm8 (fun k hk e => by have h1 := (HO7.out.lt k hk).1; have h2 := HW6.out; omega))
      have HFr : Hid (∀ k, (Value.slice p7 l.length c7).ownBlock = some k → w.heap.size ≤ k) := fun k hk => by have h1 := (HO7.out.lt k hk).1; have h2 := HW6.out; omega
      have HSt8 := Lib.hid hst8; have HK8 := Lib.hid hk8
      clear hm8 hk8 hst8 HR7 HM7 HO7 HSt7 HKl7 HKr7
      refine takeH_call rfl rfl (fun K' hK => ?_)
      go_wp2_with fail
      refine hK _ _ ⟨hkl8.cell 0, hkl8.cell 1, HSt8.out.r.cell 0⟩ ?_
      clear hK K' d0 d1 d2 f0 f1 f2 hkl8
      repeat (first
        | (refine takeH_skip rfl ?_; simp only [Act.put, List.setIfInBounds_toArray, List.set_cons_succ, List.set_cons_zero])
        | (refine takeH_blind rfl rfl ?_; apply Exists.intro; refine ⟨fun w => ?_, ?_⟩; (go_simp; try with_reducible rfl); simp only [Act.put, List.setIfInBounds_toArray, List.set_cons_succ, List.set_cons_zero])
        | (refine takeH_reads rfl rfl ?_; apply Exists.intro; refine ⟨fun w' hS => ?_, ?_⟩; (obtain ⟨d0, d1, d2⟩ := HS.out w' hS; go_simp; try with_reducible rfl); simp only [Act.put, List.setIfInBounds_toArray, List.set_cons_succ, List.set_cons_zero]))
      refine takeH_nil ⟨rfl, ?_⟩
      clear HS
      go_wp2_with fail
      refine bodyPost_ret (resultsS (p := 3) strEnt15 (by kernel_rfl) _ rc rfl [.string xn, .string xv, .slice p7 l.length c7] HK8.out rfl) rfl ?_
      exact ⟨HM8.out, (((xn, xv), l), .slice p7 l.length c7), a3, e3, rfl, HRd8.out, HFr.out, HR8.out, HF7.out, HSt8.out⟩
    · have HPt : Hid (outE (pLabO t (some (bn, bv)) B a) e = fin (xn, xv) a1 e1) := only_yes (by decide) HF.out (by
        show ltE (bn, bv) (xn, xv) = true
        exact (ltE_gt (xn, xv) (bn, bv)).2 (by omega))
      generalize cmpLab (xn, xv) (bn, bv) = cv at *
      go_wp2_with fail
      obtain ⟨e2, he2⟩ : ∃ e2, e1 = e2 := ⟨_, rfl⟩
      rw [he2] at HPt HRq
      have HRt := Lib.hid HRq.out; have HMt := Lib.hid HMq.out
      clear HRq HMq HF he2 hle
      generalize w4 = wt at *
      have HS : Hid (∀ w' : World, (w'.cell? ⟨lb, 0, none⟩ = some (.string xn) ∧ w'.cell? ⟨lb, 1, none⟩ = some (.string xv) ∧ True) → (w'.cell? ⟨lb, 0, none⟩ = some (.string xn) ∧ w'.cell? ⟨lb, 1, none⟩ = some (.string xv) ∧ True)) := fun _ h => h
      refine wp_normal ?_
      refine wp_region_takeH (fun w' : World => w'.cell? ⟨lb, 0, none⟩ = some (.string xn) ∧ w'.cell? ⟨lb, 1, none⟩ = some (.string xv) ∧ True) [1, 2] [0, 1, 2] (by kernel_rfl) (by kernel_rfl) (by kernel_rfl) ?_ ?_ ?_
      · intro c a a' w hd h; cases h.1
      · exact ⟨HKl.out.drew.cell 0, HKl.out.drew.cell 1, trivial⟩
      simp only [taken, List.map_cons, List.map_nil, List.getElem?_cons_succ, List.getElem?_cons_zero, Option.getD_some]
      have HKld : Hid (Blk wt.drew lb [.string xn, .string xv]) := HKl.out.drew
      have HKrd : Hid (Blk wt.drew rc [.string ⟨#[]⟩, .string ⟨#[]⟩, .slice none 0 0]) := HKr.out.drew
      have HStd : Hid (EntSt wt.drew y0 y1 y2 g (some (bn, bv))) := HSt.out.mods (Mods.drew (fun _ => False) wt) (fun h => h) (fun h => h) (fun h => h)
      have HRtd : Hid (PoRd wt.drew g q v B tv t N a1 e2) := HRt.out.mods (Mods.drew (fun _ => False) wt) (fun h => h) (fun h => h) (fun _ _ _ h => h) (fun _ _ _ h => h)
      have HMtd : Hid (Mods (fun k => k = q) w wt.drew) := HMt.out.trans (Mods.drew _ wt) (fun _ _ e => e)
      clear HKl HKr HSt HRt HMt
      generalize wt.drew = wd at *
      repeat (first
        | (refine takeH_skip rfl ?_; simp only [Act.put, List.setIfInBounds_toArray, List.set_cons_succ, List.set_cons_zero])
        | (refine takeH_blind rfl rfl ?_; apply Exists.intro; refine ⟨fun w => ?_, ?_⟩; (go_simp; try with_reducible rfl); simp only [Act.put, List.setIfInBounds_toArray, List.set_cons_succ, List.set_cons_zero])
        | (refine takeH_reads rfl rfl ?_; apply Exists.intro; refine ⟨fun w' hS => ?_, ?_⟩; (obtain ⟨d0, d1, d2⟩ := HS.out w' hS; go_simp; try with_reducible rfl); simp only [Act.put, List.setIfInBounds_toArray, List.set_cons_succ, List.set_cons_zero]))
      have d1 : wd.cell? ⟨y1, 0, none⟩ = some (.bool false) := HStd.out.first.cell 0
      have f1 : wd.frozen? ⟨y1, 0, none⟩ = false := HStd.out.first.free 0
      have hn1 : lb ≠ y1 := by have h1 := HOrd.out; have h2 := HY.out; omega
      refine takeH_call rfl rfl (fun K' hK => ?_)
      go_wp2_with fail
      have hkl4 : Blk (wd.setCell ⟨y1, 0, none⟩ (.bool false)) lb [.string xn, .string xv] := HKld.out.set_other (a := ⟨y1, 0, none⟩) hn1 _
      refine hK _ _ ⟨hkl4.cell 0, hkl4.cell 1, trivial⟩ ?_
      clear hK K' d1 f1
      have hk1 : Blk (wd.setCell ⟨y1, 0, none⟩ (.bool false)) y1 [.bool false] := by simpa using HStd.out.first.set 0 (.bool false)
      have hk2 : Blk (wd.setCell ⟨y1, 0, none⟩ (.bool false)) y2 [.string (labO (some (bn, bv))).1, .string (labO (some (bn, bv))).2] := HStd.out.before.set_other (a := ⟨y1, 0, none⟩) (by have := HY.out; show y2 ≠ y1; omega) _
      have hk0 : Blk (wd.setCell ⟨y1, 0, none⟩ (.bool false)) y0 [.pointer (some ⟨g, 0, none⟩)] := HStd.out.r.set_other (a := ⟨y1, 0, none⟩) (by have := HY.out; show y0 ≠ y1; omega) _
      have hm4 : Mods (fun k => k = y1 ∨ k = y2) wd (wd.setCell ⟨y1, 0, none⟩ (.bool false)) := Mods.set _ _ _ _ (fun _ => Or.inl rfl)
      obtain ⟨w4, hw4⟩ : ∃ w4, w4 = wd.setCell ⟨y1, 0, none⟩ (.bool false) := ⟨_, rfl⟩
      rw [← hw4] at hkl4 hk0 hk1 hk2 hm4 ⊢
      clear hw4
      repeat (first
        | (refine takeH_skip rfl ?_; simp only [Act.put, List.setIfInBounds_toArray, List.set_cons_succ, List.set_cons_zero])
        | (refine takeH_blind rfl rfl ?_; apply Exists.intro; refine ⟨fun w => ?_, ?_⟩; (go_simp; try with_reducible rfl); simp only [Act.put, List.setIfInBounds_toArray, List.set_cons_succ, List.set_cons_zero])
        | (refine takeH_reads rfl rfl ?_; apply Exists.intro; refine ⟨fun w' hS => ?_, ?_⟩; (obtain ⟨d0, d1, d2⟩ := HS.out w' hS; go_simp; try with_reducible rfl); simp only [Act.put, List.setIfInBounds_toArray, List.set_cons_succ, List.set_cons_zero]))
      obtain ⟨⟨d0, d1⟩, f0, f1⟩ := hk2.two
      have hm5 : Mods (fun k => k = y1 ∨ k = y2) wd ((w4.setCell ⟨y2, 0, none⟩ (.string xn)).setCell ⟨y2, 1, none⟩ (.string xv)) := (hm4.trans (Mods.set (fun k => k = y1 ∨ k = y2) _ ⟨y2, 0, none⟩ _ (fun _ => Or.inr rfl)) (fun _ _ e => e)).trans (Mods.set (fun k => k = y1 ∨ k = y2) _ ⟨y2, 1, none⟩ _ (fun _ => Or.inr rfl)) (fun _ _ e => e)
      have hst5 : EntSt ((w4.setCell ⟨y2, 0, none⟩ (.string xn)).setCell ⟨y2, 1, none⟩ (.string xv)) y0 y1 y2 g (some (xn, xv)) := by
        refine ⟨(hk0.set_other (a := ⟨y2, 0, none⟩) (by have := HY.out; show y0 ≠ y2; omega) _).set_other (a := ⟨y2, 1, none⟩) (by have := HY.out; show y0 ≠ y2; omega) _, (hk1.set_other (a := ⟨y2, 0, none⟩) (by have := HY.out; show y1 ≠ y2; omega) _).set_other (a := ⟨y2, 1, none⟩) (by have := HY.out; show y1 ≠ y2; omega) _, ?_⟩
        exact hk2.set2 (.string xn) (.string xv)
      have hkl5 : Blk ((w4.setCell ⟨y2, 0, none⟩ (.string xn)).setCell ⟨y2, 1, none⟩ (.string xv)) lb [.string xn, .string xv] := hm5.blk HKld.out (fun e => by have h1 := HOrd.out; have h2 := HY.out; omega)
      have HKl5 := Lib.hid hkl5
      have HKr5 : Hid (Blk ((w4.setCell ⟨y2, 0, none⟩ (.string xn)).setCell ⟨y2, 1, none⟩ (.string xv)) rc [.string ⟨#[]⟩, .string ⟨#[]⟩, .slice none 0 0]) := hm5.blk HKrd.out (fun e => by have h1 := HOrd.out; have h2 := HY.out; omega)
      have HSt5 := Lib.hid hst5
      have HR5 : Hid (PoRd ((w4.setCell ⟨y2, 0, none⟩ (.string xn)).setCell ⟨y2, 1, none⟩ (.string xv)) g q v B tv t N a1 e2) := HRtd.out.above HLw.out hm5 (fun k hk e => by have := HY.out; omega)
      have HM5 : Hid (Mods (fun k => k = q ∨ k = y1 ∨ k = y2) w ((w4.setCell ⟨y2, 0, none⟩ (.string xn)).setCell ⟨y2, 1, none⟩ (.string xv))) := (HMtd.out.mono (fun _ _ e => Or.inl e)).trans hm5 (fun _ _ e => Or.inr e)
      clear hk0 hk1 hk2 hm4 hm5 hst5 hkl4 HKld HKrd HStd HRtd HMtd hn1
      refine takeH_call rfl rfl (fun K' hK => ?_)
      go_wp2_with fail
      refine hK _ _ ⟨hkl5.cell 0, hkl5.cell 1, trivial⟩ ?_
      clear hK K' d0 d1 f0 f1 hkl5
      generalize (w4.setCell ⟨y2, 0, none⟩ (.string xn)).setCell ⟨y2, 1, none⟩ (.string xv) = w5 at *
      repeat (first
        | (refine takeH_skip rfl ?_; simp only [Act.put, List.setIfInBounds_toArray, List.set_cons_succ, List.set_cons_zero])
        | (refine takeH_blind rfl rfl ?_; apply Exists.intro; refine ⟨fun w => ?_, ?_⟩; (go_simp; try with_reducible rfl); simp only [Act.put, List.setIfInBounds_toArray, List.set_cons_succ, List.set_cons_zero])
        | (refine takeH_reads rfl rfl ?_; apply Exists.intro; refine ⟨fun w' hS => ?_, ?_⟩; (obtain ⟨d0, d1, d2⟩ := HS.out w' hS; go_simp; try with_reducible rfl); simp only [Act.put, List.setIfInBounds_toArray, List.set_cons_succ, List.set_cons_zero]))
      refine takeH_nil ⟨rfl, ?_⟩
      clear HS
      go_wp2_with fail
      have HS : Hid (∀ w' : World, (w'.cell? ⟨lb, 0, none⟩ = some (.string xn) ∧ w'.cell? ⟨lb, 1, none⟩ = some (.string xv) ∧ w'.cell? ⟨y0, 0, none⟩ = some (.pointer (some ⟨g, 0, none⟩))) → (w'.cell? ⟨lb, 0, none⟩ = some (.string xn) ∧ w'.cell? ⟨lb, 1, none⟩ = some (.string xv) ∧ w'.cell? ⟨y0, 0, none⟩ = some (.pointer (some ⟨g, 0, none⟩)))) := fun _ h => h
      refine wp_normal ?_
      refine wp_region_takeH (fun w' : World => w'.cell? ⟨lb, 0, none⟩ = some (.string xn) ∧ w'.cell? ⟨lb, 1, none⟩ = some (.string xv) ∧ w'.cell? ⟨y0, 0, none⟩ = some (.pointer (some ⟨g, 0, none⟩))) [2, 4] [0, 1, 2, 3, 4] (by kernel_rfl) (by kernel_rfl) (by kernel_rfl) ?_ ?_ ?_
      · intro c a a' w hd h; cases h.1
      · exact ⟨HKl5.out.drew.cell 0, HKl5.out.drew.cell 1, HSt5.out.r.drew.cell 0⟩
      simp only [taken, List.map_cons, List.map_nil, List.getElem?_cons_succ, List.getElem?_cons_zero, Option.getD_some]
      have HKl6 : Hid (Blk w5.drew lb [.string xn, .string xv]) := HKl5.out.drew
      have HKr6 : Hid (Blk w5.drew rc [.string ⟨#[]⟩, .string ⟨#[]⟩, .slice none 0 0]) := HKr5.out.drew
      have HSt6 : Hid (EntSt w5.drew y0 y1 y2 g (some (xn, xv))) := HSt5.out.mods (Mods.drew (fun _ => False) w5) (fun h => h) (fun h => h) (fun h => h)
      have HR6 : Hid (PoRd w5.drew g q v B tv t N a1 e2) := HR5.out.mods (Mods.drew (fun _ => False) w5) (fun h => h) (fun h => h) (fun _ _ _ h => h) (fun _ _ _ h => h)
      have HM6 : Hid (Mods (fun k => k = q ∨ k = y1 ∨ k = y2) w w5.drew) := HM5.out.trans (Mods.drew _ w5) (fun _ _ e => e)
      clear HKl5 HKr5 HSt5 HR5 HM5
      generalize w5.drew = w6 at *
      have HSe := Lib.hid (po_series g q v B tv t N a1 e2 w6 HR6.out HB.out HZ.out HN.out)
      repeat (first
        | (refine takeH_skip rfl ?_; simp only [Act.put, List.setIfInBounds_toArray, List.set_cons_succ, List.set_cons_zero])
        | (refine takeH_blind rfl rfl ?_; apply Exists.intro; refine ⟨fun w => ?_, ?_⟩; (go_simp; try with_reducible rfl); simp only [Act.put, List.setIfInBounds_toArray, List.set_cons_succ, List.set_cons_zero])
        | (refine takeH_reads rfl rfl ?_; apply Exists.intro; refine ⟨fun w' hS => ?_, ?_⟩; (obtain ⟨d0, d1, d2⟩ := HS.out w' hS; go_simp; try with_reducible rfl); simp only [Act.put, List.setIfInBounds_toArray, List.set_cons_succ, List.set_cons_zero]))
      refine takeH_call rfl rfl (fun K' hK => ?_)
      go_wp2_with fail
      refine HSe.out.mono ?_
      rintro en w7 ⟨hm7, l, r, a3, e3, rfl, hO, hR7, hf⟩
      have hkl7 := hm7.blk HKl6.out (fun e => by have h1 := HOrd.out; have h2 := HY.out; have h3 := HLw.out.q; omega)
      have hkr7 := hm7.blk HKr6.out (fun e => by have h1 := HOrd.out; have h2 := HY.out; have h3 := HLw.out.q; omega)
      have hst7 := HSt6.out.mods hm7 (fun e => by have := HLw.out.q; omega) (fun e => by have := HLw.out.q; have := HY.out; omega) (fun e => by have := HLw.out.q; have := HY.out; omega)
      refine hK _ _ ⟨hkl7.cell 0, hkl7.cell 1, hst7.r.cell 0⟩ ?_
      have HM7 : Hid (Mods (fun k => k = q ∨ k = y1 ∨ k = y2) w w7) := HM6.out.trans hm7 (fun _ _ e => Or.inl e)
      have HF7 : Hid (outE (pEnt t N (some (bn, bv)) B a) e = fin ((xn, xv), l) a3 e3) := fin_pair HPt.out hf
      have HO7 := Lib.hid hO; have HR7 := Lib.hid hR7; have HSt7 := Lib.hid hst7; have HKl7 := Lib.hid hkl7; have HKr7 := Lib.hid hkr7
      have HW6 : Hid (rc < w6.heap.size ∧ w.heap.size ≤ w6.heap.size) := ⟨HKr6.out.lt, HM6.out.size⟩
      obtain ⟨p7, c7, hv7⟩ := (Rd.of_owns hO).shape
      subst hv7
      clear hK K' hm7 hO hR7 hf hst7 hkl7 hkr7 HSe HM6 HR6 HSt6 HKl6 HKr6
      repeat (first
        | (refine takeH_skip rfl ?_; simp only [Act.put, List.setIfInBounds_toArray, List.set_cons_succ, List.set_cons_zero])
        | (refine takeH_blind rfl rfl ?_; apply Exists.intro; refine ⟨fun w => ?_, ?_⟩; (go_simp; try with_reducible rfl); simp only [Act.put, List.setIfInBounds_toArray, List.set_cons_succ, List.set_cons_zero])
        | (refine takeH_reads rfl rfl ?_; apply Exists.intro; refine ⟨fun w' hS => ?_, ?_⟩; (obtain ⟨d0, d1, d2⟩ := HS.out w' hS; go_simp; try with_reducible rfl); simp only [Act.put, List.setIfInBounds_toArray, List.set_cons_succ, List.set_cons_zero]))
      obtain ⟨⟨d0, d1, d2⟩, f0, f1, f2⟩ := HKr7.out.three
      have hm8 := mods_set3 w7 rc (.string xn) (.string xv) (.slice p7 l.length c7)
      have hk8 := HKr7.out.set3 (.string xn) (.string xv) (.slice p7 l.length c7)
      have hkl8 := hm8.blk HKl7.out (fun e => by have h1 := HOrd.out; omega)
      have hst8 := HSt7.out.mods hm8 (fun e => by have h1 := HOrd.out; have h2 := HY.out; omega) (fun e => by have h1 := HOrd.out; have h2 := HY.out; omega) (fun e => by have h1 := HOrd.out; omega)
      have HR8 := Lib.hid (HR7.out.above HLw.out hm8 (fun k hk e => by have h1 := HOrd.out; have h2 := HY.out; omega))
      have HM8 := Lib.hid (HM7.out.trans hm8 (fun j hj e => by have h1 := HOrd.out; rw [← HRcE.out] at e; omega))
      have HRd8 := Lib.hid ((Rd.of_owns HO7.out).mods hm8 (fun k hk e => by have h1 := (HO7.out.lt k hk).1; have h2 := HW6.out; omega))
      have HFr : Hid (∀ k, (Value.slice p7 l.length c7).ownBlock = some k → w.heap.size ≤ k) := fun k hk => by have h1 := (HO7.out.lt k hk).1; have h2 := HW6.out; omega
      have HSt8 := Lib.hid hst8; have HK8 := Lib.hid hk8
      clear hm8 hk8 hst8 HR7 HM7 HO7 HSt7 HKl7 HKr7
      refine takeH_call rfl rfl (fun K' hK => ?_)
      go_wp2_with fail
      refine hK _ _ ⟨hkl8.cell 0, hkl8.cell 1, HSt8.out.r.cell 0⟩ ?_
      clear hK K' d0 d1 d2 f0 f1 f2 hkl8
      repeat (first
        | (refine takeH_skip rfl ?_; simp only [Act.put, List.setIfInBounds_toArray, List.set_cons_succ, List.set_cons_zero])
        | (refine takeH_blind rfl rfl ?_; apply Exists.intro; refine ⟨fun w => ?_, ?_⟩; (go_simp; try with_reducible rfl); simp only [Act.put, List.setIfInBounds_toArray, List.set_cons_succ, List.set_cons_zero])
        | (refine takeH_reads rfl rfl ?_; apply Exists.intro; refine ⟨fun w' hS => ?_, ?_⟩; (obtain ⟨d0, d1, d2⟩ := HS.out w' hS; go_simp; try with_reducible rfl); simp only [Act.put, List.setIfInBounds_toArray, List.set_cons_succ, List.set_cons_zero]))
      refine takeH_nil ⟨rfl, ?_⟩
      clear HS
      go_wp2_with fail
      refine bodyPost_ret (resultsS (p := 3) strEnt15 (by kernel_rfl) _ rc rfl [.string xn, .string xv, .slice p7 l.length c7] HK8.out rfl) rfl ?_
      exact ⟨HM8.out, (((xn, xv), l), .slice p7 l.length c7), a3, e3, rfl, HRd8.out, HFr.out, HR8.out, HF7.out, HSt8.out⟩
end Go.Proofs.Ytpjfhakmffcolaa

end

section
/- bytes.Clone. -/
set_option linter.unusedVariables false
namespace Go.Proofs.Ytpjfhakmffcolaa
open Go Go.RowKit
set_option maxHeartbeats 400000 in
theorem bytes_clone (v : Value) (n : Nat) (vs : List Value) (w : World) (h : Rd w 1 v n vs) (h1 : ∀ u ∈ vs, u.oneCell' = true) (hn : n ≤ 140737488355328) :
    Calls Try.prog 71 #[v] w fun e w' => ∃ r, e = .returned r ∧ Made w w' 5 1 r n vs := by
  have hq : ∀ (w : World) (a : Option Addr) (n c n' c' : Nat), (binOp .eql 49 (.slice a n c) (.slice none n' c')).run Try.prog w = .ok (.bool a.isNone) w := fun w a n c n' c' => Lib.run_eql_slice_nil w _ _ a n c n' c' Try.underlying49
  obtain ⟨p, c, hv⟩ := h.shape
  subst hv
  cases p with
  | none =>
    obtain ⟨_, _, e, hl, _, _, hnil, _⟩ := h
    simp only [Value.slice.injEq] at e
    obtain ⟨rfl, _, rfl⟩ := e
    obtain ⟨rfl, rfl⟩ := hnil rfl
    obtain rfl : vs = [] := List.eq_nil_of_length_eq_zero (by simpa using hl)
    go_enter Try.func71, Try.ntmps71
    go_wp2
    go_ret
    exact ⟨_, rfl, World.ownsRow_nil _ _ _ _, Below.refl _ _⟩
  | some ad =>
    have hmax : n ≤ maxLen := by unfold maxLen; omega
    have HB : Hid (Below w.heap.size w (w.alloc (.cells #[] 5))) := (Below.refl _ _).alloc (Nat.le_refl _) _
    have HR := Lib.hid (h.below HB.out)
    clear h
    have HO : Hid ((w.alloc (.cells #[] 5)).ownsRow 0 5 1 (.slice (some ⟨w.heap.size, 0, none⟩) 0 0) 0 []) := World.ownsRow_lit (base := 0) w #[] 0 (Nat.zero_le _) (by simp [maxLen]) (by simp)
    have HL : Hid ((0 + n) * 1 ≤ 140737488355328 ∧ 0 + n ≤ maxLen) := by show _ ∧ _; omega
    go_enter Try.func71, Try.ntmps71
    go_wp2_with (at_builtin; refine wpList_extend Try.elemU8 _ _ _ _ _ _ _ HO.out HR.out h1 HL.out rfl _ _ rfl rfl rfl ?_)
    intro v' w1 hown hmods hfr
    have HM : Hid (Made w w1 5 1 v' n vs) := by
      refine ⟨?_, HB.out.trans (hmods.below HB.out.size (fun k hk e => by simp [Value.ownBlock] at e; omega))⟩
      try simp only [List.nil_append, Nat.zero_add] at hown
      exact owns_rebase hown (fun k hk => by
        rcases hfr k hk with e | e
        · simp [Value.ownBlock] at e; omega
        · have := HB.out.size; omega)
    clear hown hmods hfr
    go_wp2
    go_ret
    exact ⟨_, rfl, HM.out⟩
end Go.Proofs.Ytpjfhakmffcolaa

end

section
/- Layer 4: NewReader. -/
set_option linter.unusedVariables false
set_option maxRecDepth 20000
namespace Go.Proofs.Ytpjfhakmffcolaa
open Go Go.RowKit


theorem rd_new (v : Value) (B : List Nat) (w : World) (h : Rd w 1 v B.length (u8s B)) (hz : B.length ≤ 140737488355000) :
    Calls Try.prog 49 #[v] w fun en w' => ∃ p vr, en = .returned (.pointer (some ⟨p, 0, none⟩)) ∧ RRd w' p vr B 0 0 ∧ w.heap.size ≤ p ∧ (∀ k, vr.ownBlock = some k → w.heap.size ≤ k ∧ k < w'.heap.size) ∧ Below w.heap.size w w' := by
  have H := Lib.hid h
  obtain ⟨q, c, hv⟩ := h.shape
  subst hv
  have HL : Hid (B.length ≤ 140737488355328) := by show _ ≤ _; omega
  clear h
  go_enter Try.func49, Try.ntmps49
  go_wp2_with fail
  refine (bytes_clone _ B.length _ w H.out (u8s_oneCell _) HL.out).mono ?_
  rintro en w1 ⟨r, rfl, hM⟩
  have HB := Lib.hid hM.2
  have HM := Lib.hid hM.1
  obtain ⟨p3, c3, hr⟩ := (Rd.of_owns hM.1).shape
  subst hr
  clear hM
  go_wp2_with fail
  go_ret
  have hs := HB.out.size
  have hb : Below w.heap.size w1 (w1.alloc (.cells #[.slice p3 B.length c3, .int .i64 0, .int .i64 0] 118)) := (Below.refl _ _).alloc hs _
  refine ⟨w1.heap.size, _, rfl, ⟨Blk.new w1 _ _, ?_, fun _ k hk => ?_⟩, hs, fun k hk => ⟨(HM.out.lt k hk).1, by have := (HM.out.lt k hk).2; simp; omega⟩, HB.out.trans hb⟩
  · exact (Rd.of_owns HM.out).below ((Below.refl _ _).alloc (Nat.le_refl _) _)
  · have := (HM.out.lt k hk).2; omega
end Go.Proofs.Ytpjfhakmffcolaa

end

section
/- Layer 15, the program's own: lists of entries; Decode. -/
set_option linter.unusedVariables false
set_option maxRecDepth 20000
namespace Go.Proofs.Ytpjfhakmffcolaa
open Go Go.RowKit

set_option maxHeartbeats 16000000 in
theorem gl_entries (y0 y1 y2 g q : Nat) (v : Value) (B : List Nat) (tv : Value) (t : List ByteArray) (N : Int) (a e : Nat) (w0 w : World) (hb0 : Below w0.heap.size w0 w) (hq0 : w0.heap.size ≤ q ∧ w0.heap.size ≤ y0) (h : PoRd w g q v B tv t N a e) (hB : ∀ c ∈ B, c < 256) (hz : B.length ≤ 100000000) (hn : t.length ≤ 1000000) (hN : 0 ≤ N ∧ N ≤ 9223372036854775807)
    (hst : EntSt w y0 y1 y2 g none) (hlw : PoLow y0 g q v B tv t) (hy : y0 < y1 ∧ y1 < y2) :
    Calls Try.prog 72 #[.pointer (some ⟨g, 0, none⟩), .func (.func 73) #[] #[.pointer (some ⟨y0, 0, none⟩), .pointer (some ⟨y1, 0, none⟩), .pointer (some ⟨y2, 0, none⟩)]] w fun en w' => Mods (fun k => k = q ∨ k = y1 ∨ k = y2) w w' ∧ ∃ (M : List EntV) (r : Value) (a' e' : Nat), en = .returned r ∧ EnAt 68 w0 w' M r ∧ PoRd w' g q v B tv t N a' e' ∧ outE (pEnts t N B a) e = fin (M.map Prod.fst) a' e' := by
  have HU := Lib.hid (po_number g q v B tv t N a e w h hB hz)
  have HB := Lib.hid hB; have HZ := Lib.hid hz; have HNn0 := Lib.hid hN; have HTn := Lib.hid hn; have HA := Lib.hid h.at_; have HLw := Lib.hid hlw; have HY := Lib.hid hy; have HSt := Lib.hid hst
  have HYs : Hid (y0 < w.heap.size ∧ y1 < w.heap.size ∧ y2 < w.heap.size) := ⟨hst.r.lt, hst.first.lt, hst.before.lt⟩
  have HB0 := Lib.hid hb0; have HQ0 := Lib.hid hq0
  have hbm : (B.length : Int) ≤ 100000000 := by omega
  obtain ⟨T, hT⟩ : ∃ T, outE (pEnts t N B a) e = T := ⟨_, rfl⟩
  have HT := Lib.hid hT
  rw [hT]
  clear h hB hz hN hn hT hst hlw hy hb0 hq0
  go_enter Try.func72, Try.ntmps72
  go_wp2_with fail
  refine HU.out.mono ?_
  rintro en w1 ⟨hm, n, b, e1, rfl, hn, hR, hf, h0⟩
  have HM1 : Hid (Mods (fun k => k = q ∨ k = y1 ∨ k = y2) w w1) := hm.mono (fun _ _ e => Or.inl e)
  have HSt1 := Lib.hid (HSt.out.mods hm (fun e => by have := HLw.out.q; omega) (fun e => by have := HLw.out.q; have := HY.out; omega) (fun e => by have := HLw.out.q; have := HY.out; omega))
  have HR1 := Lib.hid hR; have HF := Lib.hid hf; have H0 := Lib.hid h0; have HNn := Lib.hid hn
  have hbl := hR.at_
  have hw : IntKind.u64.wrap ((B.length : Int) - (b : Int)) = ((B.length - b : Nat) : Int) := by rw [IntKind.wrap_u64]; omega
  obtain ⟨g0, g1, g2, g3⟩ := hR.cells
  have HAt := Lib.hid (fun k => rd_at q v B b (e1 : Int) (w1.drewN k) (HR1.out.rr.drewN k))
  obtain ⟨D, hD⟩ : ∃ D, B.length - b = D := ⟨_, rfl⟩
  have HD := Lib.hid hD
  rw [hD] at hw
  clear HU hm hR hf h0 hn hD HSt
  go_wp2_with fail
  go_quiet ((go_at_call 97; exact Calls.quiet_of_same (HAt.out _)))
  have HR2 := Lib.hid (HR1.out.below (below_drewN w1 nq))
  have HM2 : Hid (Mods (fun k => k = q ∨ k = y1 ∨ k = y2) w (w1.drewN nq)) := HM1.out.trans (Mods.drewN _ _ _) (fun _ _ e => e)
  have HSt2 := Lib.hid (HSt1.out.below (below_drewN w1 nq))
  clear HAt HM1 HR1 g0 g1 g2 g3 HSt1
  generalize w1.drewN nq = w2 at *
  obtain ⟨g0, g1, g2, g3⟩ := HR2.out.cells
  go_upto_if 22 with fail
  go_cut [22] from 10 to 28 (fun bv wx => ∃ (bb : Bool) (e2 : Nat), bv = .bool bb ∧ Hid (T = outE (pManyS (pEnt t N) (fun _ e => some e.1) B (n - 0) b none []) e2 ∧ (e2 = 0 → n ≤ 100000000)) ∧ Hid (PoRd wx g q v B tv t N b e2) ∧ Hid (Mods (fun k => k = q ∨ k = y1 ∨ k = y2) w wx) ∧ Hid (EntSt wx y0 y1 y2 g none))
  case first =>
    by_cases hlt : D < n
    · have hlt' : (D : Int) < (n : Int) := by omega
      obtain ⟨he1, hst⟩ := lsU_short (p := pEnt t N) (nx := fun _ e => some e.1) (s0 := none) HB.out HA.out HF.out H0.out (by have := HD.out; omega)
      subst he1
      have hfl := po_fail g q v B tv t N b 0 3 w2 HR2.out
      rw [if_pos rfl, show ((3 : Nat) : Int) = 3 from rfl] at hfl
      have HFl := Lib.hid hfl
      have HX : Hid (T = outE (pManyS (pEnt t N) (fun _ e => some e.1) B (n - 0) b none []) 3 ∧ ((3 : Nat) = 0 → n ≤ 100000000)) := ⟨HT.out.symm.trans hst, fun h => absurd h (by decide)⟩
      clear hst hlt hfl
      go_wp2_with fail
      refine HFl.out.mono ?_
      rintro en w3 ⟨rfl, hR3, hm3⟩
      have HR3 := Lib.hid hR3
      have HM3 := Lib.hid (HM2.out.trans hm3 (fun _ _ e => Or.inl e))
      have HSt3 := Lib.hid (HSt2.out.mods hm3 (fun e => by have := HLw.out.q; omega) (fun e => by have := HLw.out.q; have := HY.out; omega) (fun e => by have := HLw.out.q; have := HY.out; omega))
      clear HFl hR3 hm3 HSt2
      go_wp2_with fail
      go_meet
      exact ⟨_, 3, rfl, HX.out, HR3.out, HM3.out, HSt3.out⟩
    · have hlt' : ¬ (D : Int) < (n : Int) := by omega
      have HX : Hid (T = outE (pManyS (pEnt t N) (fun _ e => some e.1) B (n - 0) b none []) e1 ∧ (e1 = 0 → n ≤ 100000000)) := ⟨HT.out.symm.trans (lsU_start HB.out HA.out HF.out (by have := HD.out; omega)), fun _ => by have := HD.out; omega⟩
      go_wp2_with fail
      go_meet
      exact ⟨_, e1, rfl, HX.out, HR2.out, HM2.out, HSt2.out⟩
  case rest =>
  obtain ⟨bb, e2, rfl, HX, HR3, HM3, HSt3⟩ := hcut
  clear g0 g1 g2 g3 HR2 HM2 HD hw hbl HSt2
  go_wp2_with fail
  have HO0 : Hid (EnAt 68 w0 wc [] (.slice none 0 0)) := ⟨World.ownsRow_nil _ _ _ _, HB0.out.trans (HM3.out.below HB0.out.size (fun k hk e => by have h1 := HQ0.out; have h2 := HY.out; omega)), fun p hp => by cases hp⟩
  go_loopw [6, 29] (fun vv iv wr => ∃ (i x e' : Nat) (M : List EntV), i ≤ n ∧ iv = .int .u64 (i : Int) ∧ Hid (M.length = i ∧ (e' = 0 → n ≤ 100000000) ∧ T = outE (pManyS (pEnt t N) (fun _ e => some e.1) B (n - i) x (lastE (M.map Prod.fst)) (M.map Prod.fst)) e') ∧ Hid (EnAt 68 w0 wr M vv) ∧ Hid ((∀ k, vv.ownBlock = some k → w.heap.size ≤ k) ∧ ∀ p ∈ M, ∀ j, p.2.ownBlock = some j → w.heap.size ≤ j) ∧ Hid (Mods (fun k => k = q ∨ k = y1 ∨ k = y2) w wr) ∧ Hid (PoRd wr g q v B tv t N x e') ∧ Hid (EntSt wr y0 y1 y2 g (lastE (M.map Prod.fst)))) (fun _ iv _ => n - (intOf iv).toNat)
  case atStart => exact ⟨0, b, e2, [], Nat.zero_le _, rfl, ⟨rfl, HX.out.2, HX.out.1⟩, HO0.out, ⟨fun k hk => (by cases hk), fun p hp => (by cases hp)⟩, HM3.out, HR3.out, HSt3.out⟩
  case round =>
    obtain ⟨i, x, e', M, hi, rfl, HI, HO, HFr, HM, HR, HSr⟩ := hrel
    clear HX HR3 HM3 HO0 HSt3
    obtain ⟨pv, cv, hvv⟩ := HO.out.shape
    subst hvv
    by_cases hlt : i < n
    · have hlt' : (i : Int) < (n : Int) := by omega
      have HGt := Lib.hid (po_entry y0 y1 y2 g q v B tv t N x e' (lastE (M.map Prod.fst)) wr HR.out HB.out HZ.out HTn.out HNn0.out HSr.out HLw.out HY.out)
      go_wp2_with fail
      refine HGt.out.mono ?_
      rintro en w3 ⟨hm3, ⟨⟨⟨xn, xv⟩, s⟩, sl⟩, x3, e3, rfl, hrd3, hfr3, hR3, hf3, hst3⟩
      simp only at hrd3 hfr3
      obtain ⟨ps, cs, hsl⟩ := hrd3.shape
      subst hsl
      have HF3 := Lib.hid hf3
      have HM3 := Lib.hid (HM.out.trans hm3 (fun _ _ e => e))
      have HWs : Hid (w.heap.size ≤ wr.heap.size) := HM.out.size
      have hO3 : EnAt 68 w0 w3 M (.slice pv M.length cv) := HO.out.turned hm3 (fun j hj e => by have h1 := HFr.out.1 j hj; have h2 := HYs.out; have h3 := HLw.out.q; omega) (fun p hp j hj e => by have h1 := HFr.out.2 p hp j hj; have h2 := HYs.out; have h3 := HLw.out.q; omega) (fun j hj e => by have h1 := HQ0.out; have h2 := HY.out; omega)
      have hbA : Below w3.heap.size w3 (w3.alloc (.cells #[.string xn, .string xv, .slice ps s.length cs] 68)) := (Below.refl _ w3).alloc (Nat.le_refl _) _
      have HM4 := Lib.hid (HM3.out.trans (Mods.of_below hbA (fun k => k = q ∨ k = y1 ∨ k = y2)) (fun _ _ e => e))
      have HR4 := Lib.hid (hR3.below hbA)
      have HO4 := Lib.hid (hO3.below hbA)
      have HS4 := Lib.hid (hst3.below hbA)
      have HRd4 : Hid (Rd (w3.alloc (.cells #[.string xn, .string xv, .slice ps s.length cs] 68)) 1 (.slice ps s.length cs) s.length (i64s s)) := hrd3.below hbA
      have HOff : Hid (SerOff1 (fun j => (Value.slice pv M.length cv).ownBlock = some j) (.slice ps s.length cs) s) := fun _ j hj he => by have h1 := hfr3 j hj; have h2 := (HO.out.row.lt j he).2; omega
      have HFr3 : Hid (∀ j, (Value.slice ps s.length cs).ownBlock = some j → w.heap.size ≤ j) := fun j hj => by have h1 := hfr3 j hj; have h2 := HWs.out; omega
      have HG : Hid (Blk (w3.alloc (.cells #[.string xn, .string xv, .slice ps s.length cs] 68)) w3.heap.size [.string xn, .string xv, .slice ps s.length cs]) := Blk.new _ _ _
      have HS3 : Hid (w.heap.size ≤ w3.heap.size) := HM3.out.size
      obtain ⟨g0, g1, g2, g3⟩ := HR4.out.cells
      obtain ⟨⟨c0, c1, c2⟩, f0, f1, f2⟩ := HG.out.three
      clear HGt hm3 hR3 hf3 HO HM HR HSr HM3 hbA hrd3 hfr3 hst3 hO3
      go_wp2_with fail
      generalize w3.alloc (.cells #[.string xn, .string xv, .slice ps s.length cs] 68) = w4 at *
      obtain ⟨r, hr⟩ : ∃ r, w3.heap.size = r := ⟨_, rfl⟩
      rw [hr] at HG HS3 c0 c1 c2 f0 f1 f2 ⊢
      clear hr
      have HEr := Lib.hid (rd_err q v B x3 (e3 : Int) w4 HR4.out.rr)
      refine HEr.out.mono ?_
      rintro en w5 ⟨rfl, rfl⟩
      clear HEr
      by_cases he : e3 = 0
      · subst he
        have HI2 : Hid ((M ++ [((((xn, xv), s), .slice ps s.length cs) : EntV)]).length = i + 1 ∧ ((0 : Nat) = 0 → n ≤ 100000000) ∧ T = outE (pManyS (pEnt t N) (fun _ e => some e.1) B (n - (i + 1)) x3 (lastE ((M ++ [((((xn, xv), s), .slice ps s.length cs) : EntV)]).map Prod.fst)) ((M ++ [((((xn, xv), s), .slice ps s.length cs) : EntV)]).map Prod.fst)) 0) := by
          obtain ⟨a1, a2, a3⟩ := HI.out
          have he' : e' = 0 := (fin_ok HF3.out rfl).1
          refine ⟨by rw [List.length_append, a1]; rfl, fun _ => a2 he', ?_⟩
          rw [List.map_append, List.map_singleton, lastE_push]
          exact manyS_step hlt a3 HF3.out rfl
        have HSr2 : Hid (EntSt w5 y0 y1 y2 g (lastE ((M ++ [((((xn, xv), s), .slice ps s.length cs) : EntV)]).map Prod.fst))) := by
          show EntSt _ _ _ _ _ _
          rw [List.map_append, List.map_singleton, lastE_push]
          exact HS4.out
        have hnm : (n : Int) ≤ 100000000 := by have := HI2.out.2.1 rfl; omega
        have HLb : Hid ((M.length + 1) * 56 ≤ 140737488355328 ∧ M.length + 1 ≤ maxLen) := by show _ ∧ _; have := HI.out.1; unfold maxLen; omega
        have HOz : Hid (w5.ownsRow 0 68 3 (.slice pv M.length cv) M.length (entCells M)) := HO4.out.base0
        clear HF3 HI HG hlt HS4
        go_wp2_with (at_builtin; refine wpList_push elemEntP _ #[.string xn, .string xv, .slice ps s.length cs] _ _ _ HOz.out rfl (by simp [Value.oneCell']) HLb.out rfl _ _ rfl rfl rfl ?_)
        intro v6 w6 k1 m1 h1
        have hof : ∀ k, (Value.slice pv M.length cv).ownBlock = some k → w.heap.size ≤ k := HFr.out.1
        have HO6 : Hid (EnAt 68 w0 w6 (M ++ [((((xn, xv), s), .slice ps s.length cs) : EntV)]) v6) := HO4.out.pushed (p := (((xn, xv), s), .slice ps s.length cs)) HRd4.out HOff.out k1 m1 h1
        have HFr6 : Hid ((∀ k, v6.ownBlock = some k → w.heap.size ≤ k) ∧ ∀ p ∈ M ++ [((((xn, xv), s), .slice ps s.length cs) : EntV)], ∀ j, p.2.ownBlock = some j → w.heap.size ≤ j) := by
          refine ⟨fun k hk => ?_, fun p hp => ?_⟩
          · rcases h1 k hk with e | e
            · exact hof k e
            · have := HM4.out.size; omega
          · rcases List.mem_append.1 hp with e | e
            · exact HFr.out.2 p e
            · rw [List.mem_singleton.1 e]; exact HFr3.out
        have HM6 : Hid (Mods (fun k => k = q ∨ k = y1 ∨ k = y2) w w6) := HM4.out.trans m1 (fun j hj e => by have := hof j e; omega)
        have HR6 : Hid (PoRd w6 g q v B tv t N x3 0) := HR4.out.above (HLw.out.mono (Nat.le_of_lt HYs.out.1)) m1 (fun k hk e => by have := hof k e; omega)
        have HSr6 := Lib.hid (HSr2.out.mods m1 (fun e => by have h1 := hof y0 e; have h2 := HYs.out; omega) (fun e => by have h1 := hof y1 e; have h2 := HYs.out; omega) (fun e => by have h1 := hof y2 e; have h2 := HYs.out; omega))
        obtain ⟨p6, c6, hv6⟩ := HO6.out.shape
        subst hv6
        clear k1 m1 h1 hof HOz HO4 HM4 HR4 c0 c1 c2 f0 f1 f2 g0 g1 g2 g3 HSr2 HRd4 HOff HFr HFr3
        generalize M ++ [((((xn, xv), s), .slice ps s.length cs) : EntV)] = M2 at *
        go_wp2_with fail
        go_round
        case rel => exact ⟨i + 1, x3, 0, M2, by omega, by go_num, ⟨HI2.out.1, fun _ => HI2.out.2.1 trivial, HI2.out.2.2⟩, HO6.out, HFr6.out, HM6.out, HR6.out, HSr6.out⟩
        case measure => simp [intOf]; omega
      · have heb : ((e3 : Int) == 0) = false := by rw [beq_eq_false_iff_ne]; omega
        have HX : Hid (T = fin (M.map Prod.fst) x3 e3) := manyS_break hlt HI.out.2.2 HF3.out he
        clear HI HF3 HG he c0 c1 c2 f0 f1 f2 g0 g1 g2 g3 HS4
        go_wp2_with fail
        go_ret
        first
          | exact ⟨HM4.out, M, _, x3, e3, rfl, HO4.out, HR4.out, HX.out⟩
          | exact ⟨HM4.out, M, _, rfl, HO4.out, x3, e3, HR4.out, HX.out⟩
    · have hlt' : ¬ (i : Int) < (n : Int) := by omega
      have HX : Hid (T = fin (M.map Prod.fst) x e') := manyS_end (by omega) HI.out.2.2
      go_wp2_with fail
      go_ret
      first
        | exact ⟨HM.out, M, _, x, e', rfl, HO.out, HR.out, HX.out⟩
        | exact ⟨HM.out, M, _, rfl, HO.out, x, e', HR.out, HX.out⟩
end Go.Proofs.Ytpjfhakmffcolaa

end
