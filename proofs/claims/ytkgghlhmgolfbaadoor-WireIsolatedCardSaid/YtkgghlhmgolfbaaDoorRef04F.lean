/- Layer 4: the reference's reader with an error. -/
import Derived.Test.YtkgghlhmgolfbaaDoorRef04A
set_option linter.unusedVariables false
namespace Go.Proofs.YtkgghlhmgolfbaaDoor
open Go Go.RowKit

theorem rr_uint_err (q : Nat) (v : Value) (B : List Nat) (a : Nat) (e : Int) (x : Value) (w : World) (h : RRd w q v B a e) (he : e ≠ 0) :
    Calls Tryd.prog 35 #[.pointer (some ⟨q, 0, none⟩), x] w fun en w' => en = .returned (.int .u64 0) ∧ w = w' := by
  obtain ⟨c0, c1, c2, f1, f2⟩ := h.cells
  clear h
  have heb : (e == 0) = false := by rw [beq_eq_false_iff_ne]; exact he
  go_enter Tryd.func35, Tryd.ntmps35
  go_wp2_with fail
  go_ret
  exact ⟨rfl, rfl⟩
theorem rr_take_err (q : Nat) (v : Value) (B : List Nat) (a : Nat) (e : Int) (x : Value) (w : World) (h : RRd w q v B a e) (he : e ≠ 0) :
    Calls Tryd.prog 36 #[.pointer (some ⟨q, 0, none⟩), x] w fun en w' => en = .returned (.slice none 0 0) ∧ w = w' := by
  obtain ⟨c0, c1, c2, f1, f2⟩ := h.cells
  clear h
  have heb : (e == 0) = false := by rw [beq_eq_false_iff_ne]; exact he
  go_enter Tryd.func36, Tryd.ntmps36
  go_wp2_with fail
  go_ret
  exact ⟨rfl, rfl⟩
theorem rr_string_err (q : Nat) (v : Value) (B : List Nat) (a : Nat) (e : Int) (x : Value) (w : World) (h : RRd w q v B a e) (he : e ≠ 0) :
    Calls Tryd.prog 37 #[.pointer (some ⟨q, 0, none⟩), x] w fun en w' => en = .returned (.string ⟨#[]⟩) ∧ w = w' := by
  obtain ⟨c0, c1, c2, f1, f2⟩ := h.cells
  clear h
  have heb : (e == 0) = false := by rw [beq_eq_false_iff_ne]; exact he
  go_enter Tryd.func37, Tryd.ntmps37
  go_wp2_with fail
  go_ret
  exact ⟨rfl, rfl⟩
theorem rr_section_err (q : Nat) (v : Value) (B : List Nat) (a : Nat) (e : Int) (x : Value) (w : World) (h : RRd w q v B a e) (he : e ≠ 0) :
    Calls Tryd.prog 38 #[.pointer (some ⟨q, 0, none⟩), x] w fun en w' => en = .returned (.slice none 0 0) ∧ w = w' := by
  obtain ⟨c0, c1, c2, f1, f2⟩ := h.cells
  clear h
  have heb : (e == 0) = false := by rw [beq_eq_false_iff_ne]; exact he
  go_enter Tryd.func38, Tryd.ntmps38
  go_wp2_with fail
  go_ret
  exact ⟨rfl, rfl⟩
end Go.Proofs.YtkgghlhmgolfbaaDoor
