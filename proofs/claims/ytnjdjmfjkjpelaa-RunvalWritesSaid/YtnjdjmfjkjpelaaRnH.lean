/- Layer 7: the program's Get. -/
import Derived.Test.YtnjdjmfjkjpelaaRnE
import Derived.Test.YtnjdjmfjkjpelaaRnF
import Derived.Test.YtnjdjmfjkjpelaaRnG
set_option linter.unusedVariables false
set_option maxRecDepth 20000
namespace Go.Proofs.Ytnjdjmfjkjpelaa
open Go Go.RowKit

/-- Whether a run should have been part of the one before. -/
def contR (rs : List (Nat × Nat)) (x : Nat) : Bool := match rs.getLast? with
  | some (v, c) => v == x && decide (c < 128)
  | none => false

set_option maxHeartbeats 2000000 in
theorem continues_any (lv : Value) (rs : List (Nat × Nat)) (x : Nat) (c : Int) (w : World) (h : Rd w 2 lv rs.length (rnCells rs)) :
    Calls Try.prog 49 #[lv, .agg #[.int .u64 (x : Int), .int .i64 c]] w fun e w' => e = .returned (.bool (contR rs x)) ∧ Below w.heap.size w w' := by
  have HL := Lib.hid h
  rcases cases_last rs with rfl | ⟨ps, v, n, rfl⟩
  · obtain ⟨p, c2, hv⟩ := h.shape
    subst hv
    clear h
    simp only [List.length_nil] at *
    go_enter Try.func49, Try.ntmps49
    go_wp2_with fail
    go_ret
    exact ⟨rfl, (Below.refl _ w).alloc (Nat.le_refl _) _⟩
  · have e1 : (rnCells (ps ++ [(v, n)]))[ps.length * 2]? = some (.int .u64 (v : Int)) ∧ (rnCells (ps ++ [(v, n)]))[ps.length * 2 + 1]? = some (.int .i64 (n : Int)) := by
      have := runCells_at (runsI (ps ++ [(v, n)])) ps.length v (n : Int) (by simp [runsI])
      rw [rnCells_eq]; exact this
    obtain ⟨b, off, c', e, _, _, hcl⟩ := h.at (fun e => by rw [e] at e1; cases e1.1)
    subst e
    have HC0 := Lib.hid (hcl _ _ e1.1)
    have HC1 : Hid (w.cell? ⟨b, off + ps.length * 2 + 1, none⟩ = some (.int .i64 (n : Int))) := hcl _ _ e1.2
    have hb : b < w.heap.size := World.block_lt_of_cell? w _ (hcl _ _ e1.1)
    have HR : Hid (contR (ps ++ [(v, n)]) x = ((v == x) && decide (n < 128))) := by show _ = _; simp [contR]
    rw [HR.out]
    have hle := h.le
    have hlen : (ps ++ [(v, n)]).length = ps.length + 1 := by simp
    rw [hlen] at hle ⊢
    have hm : (ps.length : Int) ≤ 9223372036854775806 := by unfold maxLen at hle; omega
    clear h e1 hcl HL hlen hle
    generalize ps.length = m at *
    obtain ⟨w1, hw1⟩ : ∃ w1, w.alloc (.cells #[.int .u64 (x : Int), .int .i64 c] 31) = w1 := ⟨_, rfl⟩
    have hK1 : Blk w1 w.heap.size [.int .u64 (x : Int), .int .i64 c] := by rw [← hw1]; exact Blk.new w _ _
    have HB1 : Hid (Below w.heap.size w w1) := by rw [← hw1]; exact (Below.refl _ w).alloc (Nat.le_refl _) _
    have c0 : w1.cell? ⟨b, off + m * 2, none⟩ = some (.int .u64 (v : Int)) := (HB1.out.cell hb).trans HC0.out
    have c1 : w1.cell? ⟨b, off + m * 2 + 1, none⟩ = some (.int .i64 (n : Int)) := (HB1.out.cell hb).trans HC1.out
    obtain ⟨w2, hw2⟩ : ∃ w2, w1.alloc (.cells #[.int .u64 (v : Int), .int .i64 (n : Int)] 31) = w2 := ⟨_, rfl⟩
    have hK2 : Blk w2 w1.heap.size [.int .u64 (v : Int), .int .i64 (n : Int)] := by rw [← hw2]; exact Blk.new w1 _ _
    have hB2 : Below w1.heap.size w1 w2 := by rw [← hw2]; exact (Below.refl _ w1).alloc (Nat.le_refl _) _
    have HB2 : Hid (Below w.heap.size w w2) := HB1.out.trans (hB2.mono HB1.out.size)
    obtain ⟨⟨d0, d1⟩, _⟩ := (hK1.of_same (hB2.block _ hK1.lt)).two
    obtain ⟨⟨e0, e1⟩, _⟩ := hK2.two
    have HE : Hid ((v == x) = ((v : Int) == (x : Int))) := by
      show _ = _
      rcases Decidable.em (v = x) with h | h
      · subst h; simp
      · have h2 : ¬ (v : Int) = (x : Int) := by omega
        rw [beq_eq_false_iff_ne.2 h, beq_eq_false_iff_ne.2 h2]
    have HE2 : Hid (decide (n < 128) = decide ((n : Int) < 128)) := by show _ = _; rw [decide_eq_decide]; omega
    rw [HE.out, HE2.out]
    clear hK1 hK2 hb hB2
    obtain ⟨B1, hb1⟩ : ∃ B1, ((v : Int) == (x : Int)) = B1 := ⟨_, rfl⟩
    obtain ⟨B2, hb2⟩ : ∃ B2, decide ((n : Int) < 128) = B2 := ⟨_, rfl⟩
    rw [hb1, hb2]
    cases B1
    · go_enter Try.func49, Try.ntmps49
      go_wp2_with fail
      go_ret
      exact ⟨rfl, HB2.out⟩
    · cases B2
      · go_enter Try.func49, Try.ntmps49
        go_wp2_with fail
        go_ret
        exact ⟨rfl, HB2.out⟩
      · go_enter Try.func49, Try.ntmps49
        go_wp2_with fail
        go_ret
        exact ⟨rfl, HB2.out⟩
end Go.Proofs.Ytnjdjmfjkjpelaa
