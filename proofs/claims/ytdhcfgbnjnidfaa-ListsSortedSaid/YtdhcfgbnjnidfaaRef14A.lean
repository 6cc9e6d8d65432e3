/- Layer 14: the reference's IsSorted, Has, Difference, Complement. -/
import Derived.Test.YtdhcfgbnjnidfaaListP
import Derived.Test.YtdhcfgbnjnidfaaI64s
import Derived.Test.YtdhcfgbnjnidfaaOwn1
import Derived.Test.YtdhcfgbnjnidfaaMade
import Derived.Test.YtdhcfgbnjnidfaaRef14H
set_option linter.unusedVariables false
set_option maxRecDepth 20000
namespace Go.Proofs.Ytdhcfgbnjnidfaa
open Go Go.RowKit
theorem asc_take {l : List Int} {i : Nat} {x y : Int} (hx : l[i]? = some x) (hy : l[i + 1]? = some y) (h : AscB ltI (l.take (i + 1))) : AscB ltI (l.take (i + 1 + 1)) ↔ x < y := by
  have hlt := (List.getElem?_eq_some_iff.1 hy).1
  have e1 : l.take (i + 1 + 1) = l.take (i + 1) ++ [y] := by rw [List.take_add_one, hy]; rfl
  have e2 : l.take (i + 1) = l.take i ++ [x] := by rw [List.take_add_one, hx]; rfl
  rw [e1]
  constructor
  · intro h2
    have := (List.pairwise_append.1 h2).2.2 x (by rw [e2]; simp) y (by simp)
    simpa [ltI] using this
  · intro hxy
    refine List.pairwise_append.2 ⟨h, List.pairwise_singleton _ _, fun a ha b hb => ?_⟩
    simp only [List.mem_singleton] at hb
    subst hb
    rw [e2] at ha h
    rcases List.mem_append.1 ha with e | e
    · have := (List.pairwise_append.1 h).2.2 a e x (by simp)
      simp only [ltI, decide_eq_true_eq] at this ⊢
      omega
    · simp only [List.mem_singleton] at e; subst e; simpa [ltI] using hxy

set_option maxHeartbeats 2000000 in
theorem ref_sorted14 (lv : Value) (l : List Int) (w : World) (hl : Rd w 1 lv l.length (i64s l)) :
    Calls Try.prog 11 #[lv] w fun e w' => e = .returned (.bool (decide (AscB ltI l))) ∧ Below w.heap.size w w' := by
  have HL := Lib.hid hl
  obtain ⟨pl, cl, hv⟩ := hl.shape
  subst hv
  have hmx : (l.length : Int) ≤ 9223372036854775807 := by have := hl.le; unfold maxLen at this; omega
  clear hl
  go_enter Try.func11, Try.ntmps11
  go_wp2_with fail
  go_loopw [3] (fun iv wr => ∃ (i : Nat), iv = .int .i64 ((i + 1 : Nat) : Int) ∧ (i = 0 ∨ i + 1 ≤ l.length) ∧ Hid (AscB ltI (l.take (i + 1))) ∧ Hid (Below w.heap.size w wr)) (fun iv _ => l.length - (intOf iv).toNat)
  case atStart => exact ⟨0, rfl, Or.inl rfl, (by show AscB _ _; cases l with
    | nil => exact List.Pairwise.nil
    | cons x l => exact List.pairwise_singleton _ _), Below.refl _ _⟩
  case round =>
    obtain ⟨i, rfl, hi, HA, HB⟩ := hrel
    obtain ⟨j, hj⟩ : ∃ j, i + 1 = j := ⟨_, rfl⟩
    have HJ := Lib.hid hj
    have hjm : (j : Int) ≤ 9223372036854775808 := by omega
    rw [hj] at HA ⊢
    clear hj
    by_cases hlt : j < l.length
    · have hlt' : (j : Int) < (l.length : Int) := by omega
      have hji : (j : Int) - 1 = (i : Int) := by have := HJ.out; omega
      have hj0 : (0 : Int) ≤ (i : Int) := by omega
      have hil : (i : Int) < (l.length : Int) := by have := HJ.out; omega
      obtain ⟨y, hy⟩ : ∃ y, l[j]? = some y := ⟨_, List.getElem?_eq_getElem hlt⟩
      obtain ⟨x, hx⟩ : ∃ x, l[i]? = some x := ⟨_, List.getElem?_eq_getElem (by have := HJ.out; omega)⟩
      obtain ⟨b, off, e, hcell⟩ := rdI_at HL.out hy
      subst e
      obtain ⟨b2, off2, e, hcell2⟩ := rdI_at HL.out hx
      simp only [Option.some.injEq, Addr.mk.injEq] at e
      obtain ⟨rfl, rfl, _⟩ := e
      have c0 := hcell wr HB.out
      have c1 := hcell2 wr HB.out
      have HAt : Hid (AscB ltI (l.take (j + 1)) ↔ x < y) := by
        have h := HA.out
        have hyy := hy
        rw [← HJ.out] at h hyy ⊢
        exact asc_take hx hyy h
      clear hx hy hcell hcell2 hi
      by_cases hxy : x < y
      · have hle : ¬ y ≤ x := by omega
        have HA2 := Lib.hid (HAt.out.2 hxy)
        clear hxy
        go_wp2_with fail
        go_quiet (fail)
        have HB2 : Hid (Below w.heap.size w (wr.drewN nq)) := HB.out.trans ⟨rfl, rfl, rfl, Nat.le_refl _, fun _ _ => rfl⟩
        clear c0 c1
        generalize wr.drewN nq = w2 at *
        go_wp2_with fail
        go_round
        case rel => exact ⟨j, by go_num, Or.inr (by omega), HA2.out, HB2.out⟩
        case measure => simp [intOf]; omega
      · have hle : y ≤ x := by omega
        have HD : Hid (decide (AscB ltI l) = false) := decide_eq_false fun h => hxy (HAt.out.1 (List.Pairwise.sublist (List.take_sublist _ _) h))
        clear hxy
        go_wp2_with fail
        go_quiet (fail)
        have HB2 : Hid (Below w.heap.size w (wr.drewN nq)) := HB.out.trans ⟨rfl, rfl, rfl, Nat.le_refl _, fun _ _ => rfl⟩
        clear c0 c1
        generalize wr.drewN nq = w2 at *
        go_wp2_with fail
        go_ret
        exact ⟨by rw [HD.out]; rfl, HB2.out⟩
    · have hlt' : ¬ (j : Int) < (l.length : Int) := by omega
      have HD : Hid (decide (AscB ltI l) = true) := decide_eq_true (by have h := HA.out; rwa [List.take_of_length_le (by omega)] at h)
      go_wp2_with fail
      go_ret
      exact ⟨by rw [HD.out]; rfl, HB.out⟩
end Go.Proofs.Ytdhcfgbnjnidfaa
