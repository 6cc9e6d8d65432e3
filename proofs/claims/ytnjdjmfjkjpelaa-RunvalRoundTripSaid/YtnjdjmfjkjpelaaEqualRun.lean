/- Layer 7: slices.Equal of two rows of the same runs. -/
import Derived.Test.YtnjdjmfjkjpelaaRunI
set_option linter.unusedVariables false
namespace Go.Proofs.Ytnjdjmfjkjpelaa
open Go Go.RowKit

theorem runCells_length (rs : List (Nat × Int)) : (runCells rs).length = rs.length * 2 := by
  induction rs with
  | nil => rfl
  | cons r rs ih => rw [runCells, List.flatMap_cons, List.length_append, ← runCells, ih, List.length_cons]; simp; omega
theorem runCells_append (a b : List (Nat × Int)) : runCells (a ++ b) = runCells a ++ runCells b := by simp [runCells, List.flatMap_append]
theorem runCells_get (rs : List (Nat × Int)) (j : Nat) (x : Nat) (c : Int) (h : rs[j]? = some (x, c)) : (runCells rs)[j * 2]? = some (.int .u64 (x : Int)) ∧ (runCells rs)[j * 2 + 1]? = some (.int .i64 c) := by
  induction rs generalizing j with
  | nil => simp at h
  | cons r rs ih =>
    have e : runCells (r :: rs) = [.int .u64 (r.1 : Int), .int .i64 r.2] ++ runCells rs := by simp [runCells]
    cases j with
    | zero =>
      simp at h
      subst h
      rw [e]
      exact ⟨rfl, rfl⟩
    | succ j =>
      obtain ⟨h1, h2⟩ := ih j (by simpa using h)
      rw [e, show (j + 1) * 2 = j * 2 + 2 by omega]
      exact ⟨by simpa using h1, by simpa using h2⟩

set_option maxHeartbeats 1000000 in
theorem equal_run (a b : Value) (l : List (Nat × Int)) (w : World) (hn : l.length ≤ 1000000) (ha : Rd w 2 a l.length (runCells l)) (hb : Rd w 2 b l.length (runCells l)) :
    Calls Try.prog 31 #[a, b] w fun e w' => e = .returned (.bool true) ∧ Below w.heap.size w w' := by
  have HA := Lib.hid ha; have HB := Lib.hid hb
  obtain ⟨pa, ca, hv⟩ := ha.shape
  subst hv
  obtain ⟨pb, cb, hv⟩ := hb.shape
  subst hv
  have hmx : (l.length : Int) ≤ 1000000 := by omega
  clear ha hb hn
  go_enter Try.func31, Try.ntmps31
  go_wp2_with fail
  go_loopw [13] (fun i wr => ∃ j : Nat, j ≤ l.length ∧ i = .int .i64 (j : Int) ∧ Hid (Below w.heap.size w wr)) (fun i _ => l.length - (intOf i).toNat)
  case atStart => exact ⟨0, by omega, rfl, Below.refl _ _⟩
  case round =>
    obtain ⟨j, hj, rfl, HBw⟩ := hrel
    by_cases hlt : j < l.length
    · have hlt' : (j : Int) < (l.length : Int) := by omega
      have hji : (j : Int) ≤ 1000000 := by omega
      have hca := (HA.out.below HBw.out)
      have hcb := (HB.out.below HBw.out)
      have hne : runCells l ≠ [] := fun e => by have := congrArg List.length e; rw [runCells_length, List.length_nil] at this; omega
      obtain ⟨b1, o1, c1, e, m1, m2, hc1⟩ := hca.at hne
      simp only [Value.slice.injEq] at e
      obtain ⟨rfl, _, rfl⟩ := e
      obtain ⟨b2, o2, c2, e, m3, m4, hc2⟩ := hcb.at hne
      simp only [Value.slice.injEq] at e
      obtain ⟨rfl, _, rfl⟩ := e
      obtain ⟨x, c, hxc⟩ : ∃ x c, l[j] = (x, c) := ⟨_, _, rfl⟩
      obtain ⟨g1, g2⟩ := runCells_get l j x c (by rw [List.getElem?_eq_getElem hlt, hxc])
      have h1 := hc1 _ _ g1
      have h2 := hc1 _ _ g2
      have h3 := hc2 _ _ g1
      have h4 := hc2 _ _ g2
      clear hc1 hc2 hca hcb m1 m2 m3 m4 hxc g1 g2 hne
      rw [← Nat.add_assoc] at h2 h4
      go_wp2_with fail
      go_quiet (fail)
      have HB2 : Hid (Below w.heap.size w (wr.drewN nq)) := HBw.out.trans ⟨rfl, rfl, rfl, Nat.le_refl _, fun _ _ => rfl⟩
      clear h1 h2 h3 h4
      generalize wr.drewN nq = w2 at *
      go_wp2_with fail
      go_round
      case rel => exact ⟨j + 1, by omega, by go_num, HB2.out⟩
      case measure => simp [intOf]; omega
    · have hnl : ¬ (j : Int) < (l.length : Int) := by omega
      go_wp2_with fail
      go_ret
      exact ⟨rfl, HBw.out⟩
end Go.Proofs.Ytnjdjmfjkjpelaa
