/- Layer 14: slices.Reverse of lists of ints (their heads). -/
import Derived.Test.YtdhcfgbnjnidfaaSl
import Derived.Test.YtdhcfgbnjnidfaaMade
import Derived.Test.YtdhcfgbnjnidfaaTakeR
import Derived.OwnWalk
import Derived.BigRegion
set_option linter.unusedVariables false
set_option maxRecDepth 20000
namespace Go.Proofs.Ytdhcfgbnjnidfaa
open Go Go.RowKit

def slZ0 : Sl := (none, 0, 0)
def slZs (l : List Sl) : List Value := l.map fun s : Sl => slV s
theorem slZs_length (l : List Sl) : (slZs l).length = l.length := by simp [slZs]
theorem slZs_append (a b : List Sl) : slZs (a ++ b) = slZs a ++ slZs b := by simp [slZs]
theorem slZs_one (l : List Sl) : ∀ u ∈ slZs l, u.oneCell' = true := by
  intro u hu
  simp only [slZs, List.mem_map] at hu
  obtain ⟨x, _, rfl⟩ := hu
  rfl
def revLL (l : List Sl) (i : Nat) : List Sl := (List.range l.length).map fun k => if k < i ∨ l.length ≤ k + i then l.getD (l.length - 1 - k) slZ0 else l.getD k slZ0
theorem revLL_length (l : List Sl) (i : Nat) : (revLL l i).length = l.length := by simp [revLL]
theorem revLL_get (l : List Sl) (i k : Nat) (h : k < l.length) : (revLL l i)[k]? = some (if k < i ∨ l.length ≤ k + i then l.getD (l.length - 1 - k) slZ0 else l.getD k slZ0) := by simp [revLL, h]
theorem revLL_zero (l : List Sl) : revLL l 0 = l := by
  apply List.ext_getElem?
  intro k
  by_cases h : k < l.length
  · rw [revLL_get l 0 k h, if_neg (by omega), List.getD_eq_getElem?_getD, List.getElem?_eq_getElem h]; rfl
  · rw [List.getElem?_eq_none (by rw [revLL_length]; omega), List.getElem?_eq_none (by omega)]
theorem revLL_done (l : List Sl) (i : Nat) (h : l.length ≤ 2 * i + 1) : revLL l i = l.reverse := by
  apply List.ext_getElem?
  intro k
  by_cases hk : k < l.length
  · rw [revLL_get l i k hk, List.getElem?_reverse hk]
    have h1 : l.length - 1 - k < l.length := by omega
    split
    · rw [List.getElem?_eq_getElem h1, List.getD_eq_getElem?_getD, List.getElem?_eq_getElem h1]; rfl
    · next hn =>
      have e : l.length - 1 - k = k := by omega
      rw [e, List.getElem?_eq_getElem hk, List.getD_eq_getElem?_getD, List.getElem?_eq_getElem hk]; rfl
  · rw [List.getElem?_eq_none (by rw [revLL_length]; omega), List.getElem?_eq_none (by rw [List.length_reverse]; omega)]
theorem revLL_step (l : List Sl) (i j : Nat) (hj : i + j + 1 = l.length) (h : i < j) : ((revLL l i).set i (l.getD j slZ0)).set j (l.getD i slZ0) = revLL l (i + 1) := by
  apply List.ext_getElem?
  intro k
  by_cases hk : k < l.length
  · rw [revLL_get l (i + 1) k hk]
    by_cases e1 : k = j
    · subst e1
      rw [List.getElem?_set_self (by rw [List.length_set, revLL_length]; omega), if_pos (by omega), show l.length - 1 - k = i by omega]
    · rw [List.getElem?_set_ne (fun e => e1 e.symm)]
      by_cases e2 : k = i
      · subst e2
        rw [List.getElem?_set_self (by rw [revLL_length]; omega), if_pos (by omega), show l.length - 1 - k = j by omega]
      · rw [List.getElem?_set_ne (fun e => e2 e.symm), revLL_get l i k hk]
        congr 1
        by_cases e3 : k < i ∨ l.length ≤ k + i
        · rw [if_pos e3, if_pos (by omega)]
        · rw [if_neg e3, if_neg (by omega)]
  · rw [List.getElem?_eq_none (by rw [List.length_set, List.length_set, revLL_length]; omega), List.getElem?_eq_none (by rw [revLL_length]; omega)]

set_option maxHeartbeats 2000000 in
theorem reverse_ll (base : Nat) (lv : Value) (l : List Sl) (w : World) (hl : w.ownsRow base 22 1 lv l.length (slZs l)) (hn : l.length ≤ 1000000000000) :
    Calls Try.prog 23 #[lv] w fun e w' => e = .returned (.tuple #[]) ∧ w'.ownsRow base 22 1 lv l.length (slZs l.reverse) ∧ Mods (fun k => lv.ownBlock = some k) w w' := by
  have HL := Lib.hid hl
  have hni : (l.length : Int) ≤ 1000000000000 := by omega
  obtain ⟨pl, cl, hv⟩ := (Rd.of_owns hl).shape
  subst hv
  clear hl hn
  go_enter Try.func23, Try.ntmps23
  go_wp2_with fail
  go_loopw [2, 3] (fun iv jv wr => ∃ (i : Nat) (j : Int), iv = .int .i64 (i : Int) ∧ jv = .int .i64 j ∧ (i : Int) + j + 1 = (l.length : Int) ∧ (i : Int) ≤ j + 2 ∧ Hid (wr.ownsRow base 22 1 (.slice pl l.length cl) l.length (slZs (revLL l i))) ∧ Hid (Mods (fun k => (Value.slice pl l.length cl).ownBlock = some k) w wr)) (fun iv _ _ => l.length - (intOf iv).toNat)
  case atStart => exact ⟨0, (l.length : Int) - 1, rfl, by go_num, by omega, by omega, by show World.ownsRow _ _ _ _ _ _ _; rw [revLL_zero]; exact HL.out, Mods.refl _ _⟩
  case round =>
    obtain ⟨i, j, rfl, rfl, hij, hi2, HR, HM⟩ := hrel
    by_cases hlt : (i : Int) < j
    · obtain ⟨j, rfl⟩ : ∃ m : Nat, j = (m : Int) := ⟨j.toNat, by omega⟩
      have hij2 : i + j + 1 = l.length := by omega
      have hltn : i < j := by omega
      have hil : (i : Int) < (l.length : Int) := by omega
      have hjl : (j : Int) < (l.length : Int) := by omega
      have hj0 : (0 : Int) ≤ (j : Int) := by omega
      obtain ⟨g, cap, hvv⟩ : ∃ g cap, (Value.slice pl l.length cl) = .slice (some ⟨g, 0, none⟩) l.length cap := by
        rcases owns_cases HR.out with ⟨_, h0, _⟩ | ⟨g, cap, hv, _⟩
        · omega
        · exact ⟨g, cap, hv⟩
      simp only [Value.slice.injEq] at hvv
      obtain ⟨rfl, _, rfl⟩ := hvv
      have hci : wr.cell? ⟨g, i, none⟩ = some (.slice (l.getD i slZ0).1 (l.getD i slZ0).2.1 (l.getD i slZ0).2.2) := by
        rw [HR.out.cellAt i (by omega), slZs, List.getElem?_map, revLL_get l i i (by omega), if_neg (by omega)]; rfl
      have hcj : wr.cell? ⟨g, j, none⟩ = some (.slice (l.getD j slZ0).1 (l.getD j slZ0).2.1 (l.getD j slZ0).2.2) := by
        rw [HR.out.cellAt j (by omega), slZs, List.getElem?_map, revLL_get l i j (by omega), if_neg (by omega)]; rfl
      have hfi := HR.out.frozenAt i
      have hfj := HR.out.frozenAt j
      have HSt := Lib.hid (revLL_step l i j hij2 hltn)
      have HIJ : Hid (i ≠ j ∧ i < l.length ∧ j < l.length) := by show _ ∧ _ ∧ _; omega
      generalize l.getD i slZ0 = x at *
      generalize l.getD j slZ0 = y at *
      clear hij2 hltn
      go_wp2_with fail
      go_big_region
      go_wp2_with fail
      have HF : Hid (∀ wz, wz = ((wr.setCell ⟨g, i, none⟩ (.slice y.1 y.2.1 y.2.2)).setCell ⟨g, j, none⟩ (.slice x.1 x.2.1 x.2.2)).drew → wz.ownsRow base 22 1 (.slice (some ⟨g, 0, none⟩) l.length cl) l.length (slZs (revLL l (i + 1))) ∧ Mods (fun k => (Value.slice (some ⟨g, 0, none⟩) l.length cl).ownBlock = some k) w wz) := by
        rintro wz rfl
        have h1 := (HR.out.stored i (.slice y.1 y.2.1 y.2.2)).1
        have h2 := (h1.stored j (.slice x.1 x.2.1 x.2.2)).1
        have e : ((slZs (revLL l i)).set i (.slice y.1 y.2.1 y.2.2)).set j (.slice x.1 x.2.1 x.2.2) = slZs (revLL l (i + 1)) := by
          rw [← HSt.out]; simp [slZs, List.map_set]
        rw [e] at h2
        have hb : g < wr.heap.size := (HR.out.lt g rfl).2
        have m1 : Mods (fun k => (Value.slice (some ⟨g, 0, none⟩) l.length cl).ownBlock = some k) wr (wr.setCell ⟨g, i, none⟩ (.slice y.1 y.2.1 y.2.2)) := Mods.set _ _ _ _ (fun _ => rfl)
        have m2 := Mods.set (fun k => (Value.slice (some ⟨g, 0, none⟩) l.length cl).ownBlock = some k) (wr.setCell ⟨g, i, none⟩ (.slice y.1 y.2.1 y.2.2)) ⟨g, j, none⟩ (.slice x.1 x.2.1 x.2.2) (fun _ => rfl)
        have m3 := Mods.drew (fun k => (Value.slice (some ⟨g, 0, none⟩) l.length cl).ownBlock = some k) ((wr.setCell ⟨g, i, none⟩ (.slice y.1 y.2.1 y.2.2)).setCell ⟨g, j, none⟩ (.slice x.1 x.2.1 x.2.2))
        exact ⟨(Mods.drew (fun _ => False) _).owns h2 (fun _ _ e => e), ((HM.out.trans m1 (fun _ _ e => e)).trans m2 (fun _ _ e => e)).trans m3 (fun _ _ e => e)⟩
      go_round
      case rel => exact ⟨i + 1, (j : Int) - 1, by go_num, by go_num, by omega, by omega, (HF.out _ rfl).1, (HF.out _ rfl).2⟩
      case measure => simp [intOf]; omega
    · have hd := revLL_done l i (by omega)
      have HD := Lib.hid hd
      clear hd
      go_wp2_with fail
      go_end0
      refine ⟨rfl, ?_, HM.out⟩
      rw [← HD.out]
      exact HR.out
end Go.Proofs.Ytdhcfgbnjnidfaa
