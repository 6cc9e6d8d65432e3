/- Layer 14: slices.Grow of nil and slices.Concat of two lists of lists of ints (their heads). -/
import Derived.Test.YtdhcfgbnjnidfaaRevLL
import Derived.Test.YtdhcfgbnjnidfaaLarge14
import Derived.Test.YtdhcfgbnjnidfaaMade
import Derived.Shelf.Spec.SlicesGrow
set_option linter.unusedVariables false
set_option maxRecDepth 20000
namespace Go.Proofs.Ytdhcfgbnjnidfaa
open Go Go.RowKit

theorem infoSlI : (Try.prog.info? 22).map (fun i => (i.zero, i.size, i.bytes)) = some (some (.slice none 0 0), 1, 24) := by kernel_rfl
def renLL : Go.Shelf.Ren := ⟨fun | 4 => 30 | n => n, fun | 0 => 0 | 3 => 3 | 4 => 4 | 9 => 9 | 20 => 20 | 22 => 25 | 25 => 22 | n => n, fun n => n⟩
theorem laysLL : Go.Proofs.Lays8.n4 Try.prog renLL := { mixed := by kernel_rfl, f4 := ⟨"slices.Grow[[][]int,[]int]", by decide, Try.func30.trans (congrArg some (by kernel_rfl))⟩, t0 := Try.underlying0, a0 := Try.isAgg0, z0 := Try.sizeOf0, v0 := Try.zeroValue0, t3 := Try.underlying3, a3 := Try.isAgg3, z3 := Try.sizeOf3, v3 := Try.zeroValue3, t4 := Try.underlying4, a4 := Try.isAgg4, z4 := Try.sizeOf4, v4 := Try.zeroValue4, t9 := Try.underlying9, a9 := Try.isAgg9, z9 := Try.sizeOf9, v9 := Try.zeroValue9, t20 := Try.underlying20, a20 := Try.isAgg20, z20 := Try.sizeOf20, v20 := Try.zeroValue20, t22 := Try.underlying25, a22 := Try.isAgg25, z22 := Try.sizeOf25, v22 := Try.zeroValue25 }

theorem grow_ll (n : Nat) (hn : n ≤ 1000000) (w : World) :
    Calls Try.prog 30 #[.slice none 0 0, .int .i64 (n : Int)] w fun e w' => ∃ r, e = .returned r ∧ Made w w' 22 1 r 0 [] := by
  by_cases h0 : n = 0
  · subst h0
    refine (Any8.slices_Grow_room laysLL none 0 0 0 w (Nat.le_refl _) (by omega) (by omega) (by omega)).mono ?_
    rintro e w' ⟨rfl, rfl⟩
    exact ⟨_, rfl, World.ownsRow_nil _ _ _ _, Below.refl _ _⟩
  · obtain ⟨i0, hi, hz0, hz1, hz2⟩ := info_parts infoSlI
    refine (Any8.slices_Grow_grow laysLL i0 (.slice none 0 0) hi hz0 (by omega) none 0 0 n [] w (Nat.le_refl _) (by omega) (by rw [hz2]; omega) (by omega) (by simp) (fun _ => rfl) (fun a e => by cases e)).mono ?_
    rintro e w' ⟨rfl, rfl⟩
    have hge := grownCap_ge w (0 + n) 0 22
    refine ⟨_, rfl, ⟨rfl, Or.inr ⟨w.heap.size, _, _, rfl, Nat.le_refl _, heap_alloc_new w.drew _, Nat.zero_le _, grownCap_le_maxLen w (0 + n) 0 _ (by unfold maxLen; omega), ?_, by simp⟩⟩, ?_⟩
    · have h1 : (Value.slice none 0 0).cells.size = 1 := rfl
      simp only [Array.size_append, size_zeroCells, h1, List.size_toArray, List.length_nil]
      show 0 + (0 + n - 0) * 1 + (grownCap w (0 + n) 0 22 - (0 + n)) * 1 = grownCap w (0 + n) 0 22 * 1
      omega
    · exact (Below.drew (Below.refl _ w)).alloc (Nat.le_refl _) _

set_option maxHeartbeats 2000000 in
theorem concat_ll (g : Nat) (v1 v2 : Value) (a b : List Sl) (w : World) (h1 : Rd w 1 v1 a.length (slZs a)) (h2 : Rd w 1 v2 b.length (slZs b)) (c1 : w.cell? ⟨g, 0, none⟩ = some v1) (c2 : w.cell? ⟨g, 1, none⟩ = some v2) (hn : a.length + b.length ≤ 1000000) :
    Calls Try.prog 22 #[.slice (some ⟨g, 0, none⟩) 2 2] w fun e w' => ∃ r, e = .returned r ∧ Made w w' 22 1 r (a ++ b).length (slZs (a ++ b)) := by
  have H1 := Lib.hid h1; have H2 := Lib.hid h2; have HN := Lib.hid hn
  obtain ⟨p1, k1, hv⟩ := h1.shape
  subst hv
  obtain ⟨p2, k2, hv⟩ := h2.shape
  subst hv
  have hg1 : (a.length : Int) ≤ 1000000 := by omega
  have hg2 : (b.length : Int) ≤ 1000000 := by omega
  clear h1 h2 hn
  go_enter Try.func22, Try.ntmps22
  go_wp2_with fail
  obtain ⟨N, hN⟩ : ∃ N, a.length + b.length = N := ⟨_, rfl⟩
  have hNi : (a.length : Int) + (b.length : Int) = (N : Int) := by omega
  have HNe := Lib.hid hN
  have hNb : (N : Int) ≤ 1000000 := by have := HN.out; omega
  clear hN
  go_loop [3, 11] (fun sv iv => (iv = .int .i64 0 ∧ sv = .int .i64 0) ∨ (iv = .int .i64 1 ∧ sv = .int .i64 (a.length : Int)) ∨ (iv = .int .i64 2 ∧ sv = .int .i64 (N : Int))) (fun _ iv => 2 - (intOf iv).toNat)
  case atStart => exact Or.inl ⟨rfl, rfl⟩
  case round =>
    rcases hrel with ⟨rfl, rfl⟩ | ⟨rfl, rfl⟩ | ⟨rfl, rfl⟩
    · go_wp2_with fail
      go_round
      case rel => exact Or.inr (Or.inl ⟨rfl, by go_num⟩)
      case measure => simp [intOf]
    · go_wp2_with fail
      go_round
      case rel => exact Or.inr (Or.inr ⟨rfl, by go_num⟩)
      case measure => simp [intOf]
    · have HGr := Lib.hid (grow_ll N (by have := HN.out; have := HNe.out; omega) w)
      go_wp2_with fail
      refine HGr.out.mono ?_
      rintro e w1 ⟨r1, rfl, hM⟩
      have HO1 := Lib.hid hM.1
      have HB1 := Lib.hid hM.2
      obtain ⟨p0, k0, hv⟩ := (Rd.of_owns hM.1).shape
      subst hv
      clear hM HGr
      go_wp2_with fail
      have HG : Hid (g < w.heap.size) := World.block_lt_of_cell? w _ c1
      have HC0 := Lib.hid c1; have HC1 := Lib.hid c2
      clear c1 c2
      go_loopw [6, 27] (fun rv iv wr => (iv = .int .i64 0 ∧ (∃ p k, rv = .slice p 0 k) ∧ Hid (wr.ownsRow w.heap.size 22 1 rv 0 [] ∧ Below w.heap.size w wr)) ∨ (iv = .int .i64 1 ∧ (∃ p k, rv = .slice p a.length k) ∧ Hid (wr.ownsRow w.heap.size 22 1 rv a.length (slZs a) ∧ Below w.heap.size w wr)) ∨ (iv = .int .i64 2 ∧ Hid (wr.ownsRow w.heap.size 22 1 rv (a ++ b).length (slZs (a ++ b)) ∧ Below w.heap.size w wr))) (fun _ iv _ => 2 - (intOf iv).toNat)
      case atStart => exact Or.inl ⟨rfl, ⟨_, _, rfl⟩, HO1.out, HB1.out⟩
      case round =>
        rcases hrel with ⟨rfl, ⟨p9, k9, rfl⟩, HX⟩ | ⟨rfl, ⟨p9, k9, rfl⟩, HX⟩ | ⟨rfl, HX⟩
        · skip
          have HO := Lib.hid (owns_rebase HX.out.1 (base' := 0) (fun _ _ => Nat.zero_le _))
          have HS := Lib.hid (H1.out.below HX.out.2)
          have hc : wr.cell? ⟨g, 0, none⟩ = some (.slice p1 a.length k1) := (HX.out.2.cell HG.out).trans HC0.out
          have HLb : Hid ((0 + a.length) * 24 ≤ 140737488355328 ∧ 0 + a.length ≤ maxLen) := by show _ ∧ _; unfold maxLen; have := HN.out; omega
          go_wp2_with (at_builtin; refine wpList_extend elemLL14 _ _ _ _ _ _ _ HO.out HS.out (slZs_one _) HLb.out rfl _ _ rfl rfl rfl ?_)
          intro v8 w8 hown hmods hfr
          have HX8 : Hid (w8.ownsRow w.heap.size 22 1 v8 (a).length (slZs (a)) ∧ Below w.heap.size w w8) := by
            refine ⟨?_, HX.out.2.trans (hmods.below HX.out.2.size (fun k hk e => by have := (HX.out.1.lt k e).1; omega))⟩
            refine owns_rebase (base' := w.heap.size) ?_ (fun k hk => ?_) (base := 0)
            · simpa using hown
            · rcases hfr k hk with e | e
              · exact (HX.out.1.lt k e).1
              · have := HX.out.2.size; omega
          obtain ⟨p8, k8, hv8⟩ := (Rd.of_owns hown).shape
          subst hv8
          clear hown hmods hfr HO HS hc
          go_wp2_with fail
          go_round
          case rel => exact Or.inr (Or.inl ⟨rfl, ⟨p8, k8, by simp⟩, Lib.hid (by simpa using HX8.out)⟩)
          case measure => simp [intOf]
        · skip
          have HO := Lib.hid (owns_rebase HX.out.1 (base' := 0) (fun _ _ => Nat.zero_le _))
          have HS := Lib.hid (H2.out.below HX.out.2)
          have hc : wr.cell? ⟨g, 1, none⟩ = some (.slice p2 b.length k2) := (HX.out.2.cell HG.out).trans HC1.out
          have HLb : Hid ((a.length + b.length) * 24 ≤ 140737488355328 ∧ a.length + b.length ≤ maxLen) := by show _ ∧ _; unfold maxLen; have := HN.out; omega
          go_wp2_with (at_builtin; refine wpList_extend elemLL14 _ _ _ _ _ _ _ HO.out HS.out (slZs_one _) HLb.out rfl _ _ rfl rfl rfl ?_)
          intro v8 w8 hown hmods hfr
          have HX8 : Hid (w8.ownsRow w.heap.size 22 1 v8 (a ++ b).length (slZs (a ++ b)) ∧ Below w.heap.size w w8) := by
            refine ⟨?_, HX.out.2.trans (hmods.below HX.out.2.size (fun k hk e => by have := (HX.out.1.lt k e).1; omega))⟩
            refine owns_rebase (base' := w.heap.size) ?_ (fun k hk => ?_) (base := 0)
            · rw [List.length_append, slZs_append]; exact hown
            · rcases hfr k hk with e | e
              · exact (HX.out.1.lt k e).1
              · have := HX.out.2.size; omega
          obtain ⟨p8, k8, hv8⟩ := (Rd.of_owns hown).shape
          subst hv8
          clear hown hmods hfr HO HS hc
          go_wp2_with fail
          go_round
          case rel => exact Or.inr (Or.inr ⟨rfl, Lib.hid (by simpa using HX8.out)⟩)
          case measure => simp [intOf]
        · obtain ⟨p9, k9, hv9⟩ := (Rd.of_owns HX.out.1).shape
          subst hv9
          go_wp2_with fail
          go_ret
          exact ⟨_, rfl, HX.out.1, HX.out.2⟩
end Go.Proofs.Ytdhcfgbnjnidfaa
