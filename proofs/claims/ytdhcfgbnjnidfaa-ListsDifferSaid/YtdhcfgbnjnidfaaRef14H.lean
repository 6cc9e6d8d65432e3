/- Layer 14: the reference's Has. -/
import Derived.Test.YtdhcfgbnjnidfaaListP
import Derived.Test.YtdhcfgbnjnidfaaI64s
import Derived.Test.YtdhcfgbnjnidfaaOwn1
import Derived.Test.YtdhcfgbnjnidfaaMade
set_option linter.unusedVariables false
set_option maxRecDepth 20000
namespace Go.Proofs.Ytdhcfgbnjnidfaa
open Go Go.RowKit


theorem elemInt14 : Elem Try.prog 22 3 1 8 := Elem.mk' (z := .int .i64 0) Try.underlying22 (by kernel_rfl) rfl (by decide)

abbrev OwnI := Own1 3 (fun x : Int => Value.int .i64 x)

/-- A number of a list that is read. -/
theorem rdI_at {w : World} {p : Option Addr} {n c : Nat} {l : List Int} (h : Rd w 1 (.slice p n c) l.length (i64s l)) {i : Nat} {x : Int} (hx : l[i]? = some x) : ∃ b off, p = some ⟨b, off, none⟩ ∧ ∀ w', Below w.heap.size w w' → w'.cell? ⟨b, off + i, none⟩ = some (.int .i64 x) := by
  have hlt := (List.getElem?_eq_some_iff.1 hx).1
  obtain ⟨b, off, c', e, _, _, hc⟩ := h.at (fun e => by have := congrArg List.length e; rw [i64s_length] at this; rw [this] at hlt; simp at hlt)
  simp only [Value.slice.injEq] at e
  have hcell := hc i _ (by rw [i64s, List.getElem?_map, hx]; rfl)
  exact ⟨b, off, e.1, fun w' hb => (hb.cell (World.block_lt_of_cell? w _ hcell)).trans hcell⟩

set_option maxHeartbeats 2000000 in
theorem ref_has14 (lv : Value) (l : List Int) (x : Int) (w : World) (hl : Rd w 1 lv l.length (i64s l)) :
    Calls Try.prog 26 #[lv, .int .i64 x] w fun e w' => e = .returned (.bool (decide (x ∈ l))) ∧ w' = w := by
  have HL := Lib.hid hl
  obtain ⟨pl, cl, hv⟩ := hl.shape
  subst hv
  have hmx : (l.length : Int) ≤ 9223372036854775807 := by have := hl.le; unfold maxLen at this; omega
  clear hl
  go_enter Try.func26, Try.ntmps26
  go_wp2_with fail
  go_loopw [5] (fun iv wr => ∃ (i : Nat), i ≤ l.length ∧ iv = .int .i64 (i : Int) ∧ Hid (x ∉ l.take i) ∧ wr = w) (fun iv _ => l.length - (intOf iv).toNat)
  case atStart => exact ⟨0, Nat.zero_le _, rfl, (by show x ∉ _; simp), rfl⟩
  case round =>
    obtain ⟨i, hi, rfl, HF, rfl⟩ := hrel
    have him : (i : Int) ≤ 9223372036854775807 := by omega
    by_cases hlt : i < l.length
    · have hlt' : (i : Int) < (l.length : Int) := by omega
      obtain ⟨y, hy⟩ : ∃ y, l[i]? = some y := ⟨_, List.getElem?_eq_getElem hlt⟩
      obtain ⟨b, off, e, hcell⟩ := rdI_at HL.out hy
      subst e
      have c0 := hcell wr (Below.refl _ _)
      have HTk : Hid (l.take (i + 1) = l.take i ++ [y]) := by show _ = _; rw [List.take_add_one, hy]; rfl
      have HMy : Hid (y ∈ l) := List.mem_of_getElem? hy
      clear hy hcell
      by_cases hxy : y = x
      · have HD : Hid (decide (x ∈ l) = true) := decide_eq_true (hxy ▸ HMy.out)
        subst hxy
        go_wp2_with fail
        go_ret
        exact ⟨by rw [HD.out]; rfl, rfl⟩
      · have hxb : (y == x) = false := by rw [beq_eq_false_iff_ne]; exact hxy
        have HF2 : Hid (x ∉ l.take (i + 1)) := by
          show x ∉ _
          rw [HTk.out]
          intro h
          rcases List.mem_append.1 h with e | e
          · exact HF.out e
          · simp only [List.mem_singleton] at e; exact hxy e.symm
        clear hlt
        go_wp2_with fail
        go_round
        case rel => exact ⟨i + 1, by omega, by go_num, HF2.out, trivial⟩
        case measure => simp [intOf]; omega
    · have hlt' : ¬ (i : Int) < (l.length : Int) := by omega
      have HD : Hid (decide (x ∈ l) = false) := decide_eq_false (by have h := HF.out; rwa [List.take_of_length_le (by omega)] at h)
      go_wp2_with fail
      go_ret
      exact ⟨by rw [HD.out]; rfl, rfl⟩
end Go.Proofs.Ytdhcfgbnjnidfaa
