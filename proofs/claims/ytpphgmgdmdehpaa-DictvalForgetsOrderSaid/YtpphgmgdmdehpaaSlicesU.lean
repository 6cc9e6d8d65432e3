/- Layer 8: slices.Index, Contains, IsSorted, Reverse, Concat of values. -/
import Derived.Test.YtpphgmgdmdehpaaRef08A
import Derived.Test.YtpphgmgdmdehpaaTakeR
import Derived.OwnWalk
import Derived.BigRegion
set_option linter.unusedVariables false
set_option maxRecDepth 20000
namespace Go.Proofs.Ytpphgmgdmdehpaa
open Go Go.RowKit

set_option maxHeartbeats 2000000 in
theorem index_u64 (lv : Value) (l : List Nat) (x : Nat) (w : World) (hl : Rd w 1 lv l.length (u64s l)) (hn : l.length ≤ 1000000000000) :
    Calls Try.prog 49 #[lv, .int .u64 (x : Int)] w fun e w' => e = .returned (.int .i64 (findI l x)) ∧ w' = w := by
  have HL := Lib.hid hl; have HNn := Lib.hid hn
  obtain ⟨pl, cl, hv⟩ := hl.shape
  subst hv
  clear hl hn
  go_enter Try.func49, Try.ntmps49
  go_wp2_with fail
  go_loop [8] (fun iv => ∃ (j : Nat), j ≤ l.length ∧ iv = .int .i64 (j : Int) ∧ Hid (x ∉ l.take j)) (fun iv => l.length - (intOf iv).toNat)
  case atStart => exact ⟨0, by omega, rfl, by show _ ∉ _; simp⟩
  case round =>
    obtain ⟨j, hj, rfl, HX⟩ := hrel
    by_cases hlt : j < l.length
    · have hlt' : (j : Int) < (l.length : Int) := by omega
      have hji : (j : Int) ≤ 1000000000000 := by have := HNn.out; omega
      obtain ⟨b, off, c', e, hnc, hncm, hcell⟩ := HL.out.at (fun e => by have := congrArg List.length e; rw [u64s_length] at this; simp at this; subst this; simp at hlt)
      simp only [Value.slice.injEq] at e
      obtain ⟨rfl, _, rfl⟩ := e
      obtain ⟨y, hy⟩ : ∃ y, l[j] = y := ⟨_, rfl⟩
      have hct : w.cell? ⟨b, off + j, none⟩ = some (.int .u64 (y : Int)) := by rw [← hy]; exact hcell j _ (u64s_get l j hlt)
      have HY := Lib.hid hy
      clear hcell hnc hncm hy
      by_cases hxy : x = y
      · subst hxy
        have HF : Hid (findI l x = (j : Int)) := findI_at HX.out hlt HY.out
        go_wp2_with fail
        go_ret
        exact ⟨by rw [HF.out]; rfl, rfl⟩
      · have hvn : ¬ (x : Int) = (y : Int) := by omega
        have HX2 : Hid (x ∉ l.take (j + 1)) := by
          show _ ∉ _
          rw [List.take_add_one, List.getElem?_eq_getElem hlt, List.mem_append, not_or]
          refine ⟨HX.out, ?_⟩
          simp only [Option.toList_some, List.mem_singleton]
          rw [HY.out]; omega
        clear hxy
        go_wp2_with fail
        go_round
        case rel => exact ⟨j + 1, by omega, by go_num, HX2.out⟩
        case measure => simp [intOf]; omega
    · have hlt' : ¬ (j : Int) < (l.length : Int) := by omega
      have HF : Hid (findI l x = -1) := by
        show _ = _
        have := HX.out
        rw [List.take_of_length_le (by omega)] at this
        rw [findI, if_neg this]
      go_wp2_with fail
      go_ret
      exact ⟨by rw [HF.out]; rfl, rfl⟩
theorem contains_u64 (lv : Value) (l : List Nat) (x : Nat) (w : World) (hl : Rd w 1 lv l.length (u64s l)) (hn : l.length ≤ 1000000000000) :
    Calls Try.prog 34 #[lv, .int .u64 (x : Int)] w fun e w' => e = .returned (.bool (decide (x ∈ l))) ∧ w' = w := by
  have HI := Lib.hid (index_u64 lv l x w hl hn)
  obtain ⟨pl, cl, hv⟩ := hl.shape
  subst hv
  clear hl hn
  go_enter Try.func34, Try.ntmps34
  go_wp2_with fail
  refine HI.out.mono ?_
  rintro e w1 ⟨rfl, rfl⟩
  by_cases hm : x ∈ l
  · have hf : findI l x = (l.idxOf x : Int) := if_pos hm
    have h0 : (0 : Int) ≤ (l.idxOf x : Int) := by omega
    rw [hf]
    go_wp2_with fail
    go_ret
    exact ⟨by simp [hm], rfl⟩
  · have hf : findI l x = -1 := if_neg hm
    rw [hf]
    go_wp2_with fail
    go_ret
    exact ⟨by simp [hm], rfl⟩
theorem isnan_u64 (x : Nat) (w : World) : Calls Try.prog 58 #[.int .u64 (x : Int)] w fun e w' => e = .returned (.bool false) ∧ w' = w := by
  go_enter Try.func58, Try.ntmps58
  go_wp2_with fail
  go_ret
  exact ⟨by simp, rfl⟩
theorem less_u64 (x y : Nat) (w : World) : Calls Try.prog 50 #[.int .u64 (x : Int), .int .u64 (y : Int)] w fun e w' => e = .returned (.bool (decide ((x : Int) < (y : Int)))) ∧ w' = w := by
  go_enter Try.func50, Try.ntmps50
  go_wp2_with fail
  refine (isnan_u64 x w).mono ?_
  rintro e w1 ⟨rfl, rfl⟩
  go_wp2_with fail
  go_ret
  exact ⟨by simp, rfl⟩
set_option maxHeartbeats 2000000 in
theorem sorted_u64 (lv : Value) (l : List Nat) (w : World) (hl : Rd w 1 lv l.length (u64s l)) (hn : l.length ≤ 1000000000000) (ha : Asc l) :
    Calls Try.prog 35 #[lv] w fun e w' => e = .returned (.bool true) ∧ ∃ dd, w' = w.drewN dd := by
  have HL := Lib.hid hl; have HA := Lib.hid ha
  have hni : (l.length : Int) ≤ 1000000000000 := by omega
  obtain ⟨pl, cl, hv⟩ := hl.shape
  subst hv
  clear hl hn ha
  go_enter Try.func35, Try.ntmps35
  go_wp2_with fail
  go_loopw [3] (fun iv wr => ∃ (i : Int) (dd : Nat), -1 ≤ i ∧ i < (l.length : Int) ∧ iv = .int .i64 i ∧ Hid (wr = w.drewN dd)) (fun iv _ => (intOf iv).toNat)
  case atStart => exact ⟨(l.length : Int) - 1, 0, by omega, by omega, by go_num, by show _ = _; rfl⟩
  case round =>
    obtain ⟨i, dd, h1, h2, rfl, HW⟩ := hrel
    by_cases h0 : 0 < i
    · obtain ⟨k, rfl⟩ : ∃ k : Nat, i = (k : Int) := ⟨i.toNat, by omega⟩
      obtain ⟨m, hk⟩ : ∃ m : Nat, k = m + 1 := ⟨k - 1, by omega⟩
      have hlt : k < l.length := by omega
      have hm1 : (k : Int) - 1 = (m : Int) := by omega
      have hmi : (m : Int) < (l.length : Int) := by omega
      have hm0 : (0 : Int) ≤ (m : Int) := by omega
      have hwm : IntKind.i64.wrap (m : Int) = (m : Int) := IntWalk.i64_in _ (by omega)
      obtain ⟨b, off, c', e, hnc, hncm, hcell⟩ := HL.out.at (fun e => by have := congrArg List.length e; rw [u64s_length] at this; simp at this; subst this; simp at hlt)
      simp only [Value.slice.injEq] at e
      obtain ⟨rfl, _, rfl⟩ := e
      obtain ⟨y, hy⟩ : ∃ y, l[k] = y := ⟨_, rfl⟩
      obtain ⟨z, hz⟩ : ∃ z, l[m]'(by omega) = z := ⟨_, rfl⟩
      have hcy : wr.cell? ⟨b, off + k, none⟩ = some (.int .u64 (y : Int)) := by rw [← hy, HW.out]; exact hcell k _ (u64s_get l k hlt)
      have hcz : wr.cell? ⟨b, off + m, none⟩ = some (.int .u64 (z : Int)) := by rw [← hz, HW.out]; exact hcell m _ (u64s_get l m (by omega))
      have hzy : z < y := by rw [← hz, ← hy]; exact List.pairwise_iff_getElem.1 HA.out m k (by omega) hlt (by omega)
      have hd : decide ((y : Int) < (z : Int)) = false := decide_eq_false (by omega)
      have HK := Lib.hid hk
      clear hcell hnc hncm hy hz hk
      go_wp2_with fail
      go_quiet ((go_at_call 50; refine Calls.quiet_of_same (less_u64 _ _ _)))
      rw [hd]
      go_wp2_with fail
      go_round
      case rel => exact ⟨(m : Int), dd + nq, by omega, by omega, by go_num, by show _ = _; rw [HW.out]; exact World.drewN_drewN ..⟩
      case measure => have := HK.out; simp [intOf]; omega
    · go_wp2_with fail
      go_ret
      exact ⟨rfl, dd, HW.out⟩
/-- The list when i pairs have been exchanged. -/
def revAt (l : List Nat) (i : Nat) : List Nat := (List.range l.length).map fun k => if k < i ∨ l.length ≤ k + i then l.getD (l.length - 1 - k) 0 else l.getD k 0
theorem revAt_length (l : List Nat) (i : Nat) : (revAt l i).length = l.length := by simp [revAt]
theorem revAt_get (l : List Nat) (i k : Nat) (h : k < l.length) : (revAt l i)[k]? = some (if k < i ∨ l.length ≤ k + i then l.getD (l.length - 1 - k) 0 else l.getD k 0) := by simp [revAt, h]
theorem revAt_zero (l : List Nat) : revAt l 0 = l := by
  apply List.ext_getElem?
  intro k
  by_cases h : k < l.length
  · rw [revAt_get l 0 k h, if_neg (by omega), List.getD_eq_getElem?_getD, List.getElem?_eq_getElem h]; rfl
  · rw [List.getElem?_eq_none (by rw [revAt_length]; omega), List.getElem?_eq_none (by omega)]
theorem revAt_done (l : List Nat) (i : Nat) (h : l.length ≤ 2 * i + 1) : revAt l i = l.reverse := by
  apply List.ext_getElem?
  intro k
  by_cases hk : k < l.length
  · have hg : ∀ j, j < l.length → l.getD j 0 = l[j]! := fun j hj => by simp [List.getD_eq_getElem?_getD, hj]
    rw [revAt_get l i k hk, List.getElem?_reverse hk]
    have h1 : l.length - 1 - k < l.length := by omega
    split
    · rw [List.getElem?_eq_getElem h1, List.getD_eq_getElem?_getD, List.getElem?_eq_getElem h1]; rfl
    · next hn =>
      have e : l.length - 1 - k = k := by omega
      rw [e, List.getElem?_eq_getElem hk, List.getD_eq_getElem?_getD, List.getElem?_eq_getElem hk]; rfl
  · rw [List.getElem?_eq_none (by rw [revAt_length]; omega), List.getElem?_eq_none (by rw [List.length_reverse]; omega)]
theorem revAt_step (l : List Nat) (i j : Nat) (hj : i + j + 1 = l.length) (h : i < j) : ((revAt l i).set i (l.getD j 0)).set j (l.getD i 0) = revAt l (i + 1) := by
  apply List.ext_getElem?
  intro k
  by_cases hk : k < l.length
  · rw [revAt_get l (i + 1) k hk]
    by_cases e1 : k = j
    · subst e1
      rw [List.getElem?_set_self (by rw [List.length_set, revAt_length]; omega), if_pos (by omega), show l.length - 1 - k = i by omega]
    · rw [List.getElem?_set_ne (fun e => e1 e.symm)]
      by_cases e2 : k = i
      · subst e2
        rw [List.getElem?_set_self (by rw [revAt_length]; omega), if_pos (by omega), show l.length - 1 - k = j by omega]
      · rw [List.getElem?_set_ne (fun e => e2 e.symm), revAt_get l i k hk]
        congr 1
        by_cases e3 : k < i ∨ l.length ≤ k + i
        · rw [if_pos e3, if_pos (by omega)]
        · rw [if_neg e3, if_neg (by omega)]
  · rw [List.getElem?_eq_none (by rw [List.length_set, List.length_set, revAt_length]; omega), List.getElem?_eq_none (by rw [revAt_length]; omega)]

set_option maxHeartbeats 2000000 in
theorem reverse_u64 (base : Nat) (lv : Value) (l : List Nat) (w : World) (hl : w.ownsRow base 25 1 lv l.length (u64s l)) (hn : l.length ≤ 1000000000000) :
    Calls Try.prog 33 #[lv] w fun e w' => e = .returned (.tuple #[]) ∧ w'.ownsRow base 25 1 lv l.length (u64s l.reverse) ∧ Mods (fun k => lv.ownBlock = some k) w w' := by
  have HL := Lib.hid hl
  have hni : (l.length : Int) ≤ 1000000000000 := by omega
  obtain ⟨pl, cl, hv⟩ := (Rd.of_owns hl).shape
  subst hv
  clear hl hn
  go_enter Try.func33, Try.ntmps33
  go_wp2_with fail
  go_loopw [2, 3] (fun iv jv wr => ∃ (i : Nat) (j : Int), iv = .int .i64 (i : Int) ∧ jv = .int .i64 j ∧ (i : Int) + j + 1 = (l.length : Int) ∧ (i : Int) ≤ j + 2 ∧ Hid (wr.ownsRow base 25 1 (.slice pl l.length cl) l.length (u64s (revAt l i))) ∧ Hid (Mods (fun k => (Value.slice pl l.length cl).ownBlock = some k) w wr)) (fun iv _ _ => l.length - (intOf iv).toNat)
  case atStart => exact ⟨0, (l.length : Int) - 1, rfl, by go_num, by omega, by omega, by show World.ownsRow _ _ _ _ _ _ _; rw [revAt_zero]; exact HL.out, Mods.refl _ _⟩
  case round =>
    obtain ⟨i, j, rfl, rfl, hij, hi2, HR, HM⟩ := hrel
    by_cases hlt : (i : Int) < j
    · obtain ⟨j, rfl⟩ : ∃ m : Nat, j = (m : Int) := ⟨j.toNat, by omega⟩
      have hij2 : i + j + 1 = l.length := by omega
      have hltn : i < j := by omega
      have hil : (i : Int) < (l.length : Int) := by omega
      have hjl : (j : Int) < (l.length : Int) := by omega
      have hj0 : (0 : Int) ≤ (j : Int) := by omega
      obtain ⟨g, cap, hvv⟩ : ∃ g cap, (Value.slice pl l.length cl) = .slice (some ⟨g, 0, none⟩) l.length cap := by
        rcases owns_cases HR.out with ⟨_, h0, _⟩ | ⟨g, cap, hv, _⟩
        · omega
        · exact ⟨g, cap, hv⟩
      simp only [Value.slice.injEq] at hvv
      obtain ⟨rfl, _, rfl⟩ := hvv
      have hci : wr.cell? ⟨g, i, none⟩ = some (.int .u64 ((l.getD i 0 : Nat) : Int)) := by
        rw [HR.out.cellAt i (by omega), u64s, List.getElem?_map, revAt_get l i i (by omega), if_neg (by omega)]; rfl
      have hcj : wr.cell? ⟨g, j, none⟩ = some (.int .u64 ((l.getD j 0 : Nat) : Int)) := by
        rw [HR.out.cellAt j (by omega), u64s, List.getElem?_map, revAt_get l i j (by omega), if_neg (by omega)]; rfl
      have hfi := HR.out.frozenAt i
      have hfj := HR.out.frozenAt j
      have HSt := Lib.hid (revAt_step l i j hij2 hltn)
      have HIJ : Hid (i ≠ j ∧ i < l.length ∧ j < l.length) := by show _ ∧ _ ∧ _; omega
      generalize l.getD i 0 = x at *
      generalize l.getD j 0 = y at *
      clear hij2 hltn
      go_wp2_with fail
      go_big_region
      go_wp2_with fail
      have HF : Hid (∀ wz, wz = ((wr.setCell ⟨g, i, none⟩ (.int .u64 (y : Int))).setCell ⟨g, j, none⟩ (.int .u64 (x : Int))).drew → wz.ownsRow base 25 1 (.slice (some ⟨g, 0, none⟩) l.length cl) l.length (u64s (revAt l (i + 1))) ∧ Mods (fun k => (Value.slice (some ⟨g, 0, none⟩) l.length cl).ownBlock = some k) w wz) := by
        rintro wz rfl
        have h1 := (HR.out.stored i (.int .u64 (y : Int))).1
        have h2 := (h1.stored j (.int .u64 (x : Int))).1
        have e : ((u64s (revAt l i)).set i (.int .u64 (y : Int))).set j (.int .u64 (x : Int)) = u64s (revAt l (i + 1)) := by
          rw [← HSt.out]; simp [u64s, List.map_set]
        rw [e] at h2
        have hb : g < wr.heap.size := (HR.out.lt g rfl).2
        have m1 : Mods (fun k => (Value.slice (some ⟨g, 0, none⟩) l.length cl).ownBlock = some k) wr (wr.setCell ⟨g, i, none⟩ (.int .u64 (y : Int))) := Mods.set _ _ _ _ (fun _ => rfl)
        have m2 := Mods.set (fun k => (Value.slice (some ⟨g, 0, none⟩) l.length cl).ownBlock = some k) (wr.setCell ⟨g, i, none⟩ (.int .u64 (y : Int))) ⟨g, j, none⟩ (.int .u64 (x : Int)) (fun _ => rfl)
        have m3 := Mods.drew (fun k => (Value.slice (some ⟨g, 0, none⟩) l.length cl).ownBlock = some k) ((wr.setCell ⟨g, i, none⟩ (.int .u64 (y : Int))).setCell ⟨g, j, none⟩ (.int .u64 (x : Int)))
        exact ⟨(Mods.drew (fun _ => False) _).owns h2 (fun _ _ e => e), ((HM.out.trans m1 (fun _ _ e => e)).trans m2 (fun _ _ e => e)).trans m3 (fun _ _ e => e)⟩
      go_round
      case rel => exact ⟨i + 1, (j : Int) - 1, by go_num, by go_num, by omega, by omega, (HF.out _ rfl).1, (HF.out _ rfl).2⟩
      case measure => simp [intOf]; omega
    · have hd := revAt_done l i (by omega)
      have HD := Lib.hid hd
      clear hd
      go_wp2_with fail
      go_end0
      refine ⟨rfl, ?_, HM.out⟩
      rw [← HD.out]
      exact HR.out
end Go.Proofs.Ytpphgmgdmdehpaa
