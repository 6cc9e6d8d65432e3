/- Layer 2: what is read at an offset within the bytes. No program in sight. -/
import Derived.Test.YtkgghlhmgolfbaaDoorGroups
namespace Go.Proofs.YtkgghlhmgolfbaaDoor

theorem readAt_cases {l : List Nat} (hl : ∀ c ∈ l, c < 256) {i : Nat} (hi : i ≤ l.length) :
    (∃ e, e ≠ 0 ∧ readAt l (i : Int) = (0, 0, e)) ∨
    (∃ x n, readAt l (i : Int) = (x, ((i + n : Nat) : Int), 0) ∧ 0 < n ∧ i + n ≤ l.length ∧ (l.take (i + n)).drop i = groups x ∧ x < 18446744073709551616) := by
  obtain ⟨a, n, e, h⟩ : ∃ a n e, readFrom (l.drop i) 0 0 = (a, n, e) := ⟨_, _, _, rfl⟩
  have hd : ∀ c ∈ l.drop i, c < 256 := fun c hc => hl c (List.mem_of_mem_drop hc)
  by_cases he : e = 0
  · subst he
    obtain ⟨y, h1, h2, _, h4, h5, h6⟩ := readFrom_ok hd (Nat.zero_le 9) (show (readFrom (l.drop i) 0 0).2.2 = 0 by rw [h])
    rw [h] at h1 h2 h5 h6
    simp only [Nat.sub_zero, Nat.mul_zero, Nat.pow_zero, Nat.mul_one, Nat.zero_add] at h1 h2 h4 h5 h6
    rw [List.length_drop] at h6
    refine .inr ⟨y, n, ?_, h5, by omega, ?_, by simpa using h4⟩
    · rw [readAt_in hi h, h2]; simp
    · rw [List.drop_take, Nat.add_sub_cancel_left]; exact h1
  · obtain ⟨h1, h2⟩ := readFrom_err (show (readFrom (l.drop i) 0 0).2.2 ≠ 0 by rw [h]; exact he)
    rw [h] at h1 h2
    refine .inl ⟨e, he, ?_⟩
    rw [readAt_in hi h, if_neg he, show a = 0 from h1]
end Go.Proofs.YtkgghlhmgolfbaaDoor
