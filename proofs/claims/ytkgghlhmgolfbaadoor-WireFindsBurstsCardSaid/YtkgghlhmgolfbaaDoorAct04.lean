/- Layer 4: the law's steps, as data. -/
import Derived.Test.YtkgghlhmgolfbaaDoorProg
import Derived.Test.YtkgghlhmgolfbaaDoorOpen
import Derived.Lib.SmallJoins
namespace Go.Proofs.YtkgghlhmgolfbaaDoor
open Go Go.RowKit

theorem flat_struct4 {P : Program} {e : TypeId} {f0 f1 f2 f3 : Field} {s0 s1 s2 s3 : Nat} {α β γ δ : Type} {g0 : α → List Value} {g1 : β → List Value} {g2 : γ → List Value} {g3 : δ → List Value} {k0 : α → Prop} {k1 : β → Prop} {k2 : γ → Prop} {k3 : δ → Prop}
    (he : P.underlying e = some (.struct #[f0, f1, f2, f3])) (hc : P.cellsOf e = s0 + s1 + s2 + s3) (o0 : f0.offset = 0) (o1 : f1.offset = s0) (o2 : f2.offset = s0 + s1) (o3 : f3.offset = s0 + s1 + s2)
    (h0 : Flat P f0.type s0 g0 k0) (h1 : Flat P f1.type s1 g1 k1) (h2 : Flat P f2.type s2 g2 k2) (h3 : Flat P f3.type s3 g3 k3) :
    Flat P e (s0 + s1 + s2 + s3) (fun a : α × β × γ × δ => g0 a.1 ++ g1 a.2.1 ++ g2 a.2.2.1 ++ g3 a.2.2.2) (fun a => k0 a.1 ∧ k1 a.2.1 ∧ k2 a.2.2.1 ∧ k3 a.2.2.2) :=
  ⟨hc, fun H enc w base spare held fuel cs x hx => by
    obtain ⟨y0, y1, y2, y3, n, _, hl, t0, t1, t2, t3⟩ := Joins.trod_struct4 he hx
    rw [o0, h0.1] at t0
    rw [o1, h1.1] at t1
    rw [o2, h2.1] at t2
    rw [o3, h3.1] at t3
    obtain ⟨a, ha, ea⟩ := h0.2 H enc w base spare held n _ _ t0
    obtain ⟨b, hb, eb⟩ := h1.2 H enc w base spare held n _ _ t1
    obtain ⟨c, hcc, ec⟩ := h2.2 H enc w base spare held n _ _ t2
    obtain ⟨d, hd, ed⟩ := h3.2 H enc w base spare held n _ _ t3
    refine ⟨(a, b, c, d), ⟨ha, hb, hcc, hd⟩, ?_⟩
    show cs = g0 a ++ g1 b ++ g2 c ++ g3 d
    rw [← ea, ← eb, ← ec, ← ed]
    rw [hc] at hl
    have e3 : (cs.drop (s0 + s1 + s2)).take s3 = cs.drop (s0 + s1 + s2) := List.take_of_length_le (by rw [List.length_drop, hl]; omega)
    have e2 : (cs.drop (s0 + s1)).take s2 ++ cs.drop (s0 + s1 + s2) = cs.drop (s0 + s1) := by
      have h := List.take_append_drop s2 (cs.drop (s0 + s1))
      rwa [List.drop_drop] at h
    have e1 : (cs.drop s0).take s1 ++ cs.drop (s0 + s1) = cs.drop s0 := by
      have h := List.take_append_drop s1 (cs.drop s0)
      rwa [List.drop_drop] at h
    rw [List.drop_zero, e3, List.append_assoc, List.append_assoc, e2, e1, List.take_append_drop]⟩

/-- A step's cells. -/
def actCells (a : Int × Int × Nat × Nat) : List Value := [.int .i64 a.1, .int .i64 a.2.1, .int .u64 (a.2.2.1 : Int), .int .u8 (a.2.2.2 : Int)]
def actOk (a : Int × Int × Nat × Nat) : Prop := (-9223372036854775808 ≤ a.1 ∧ a.1 < 9223372036854775808) ∧ (-9223372036854775808 ≤ a.2.1 ∧ a.2.1 < 9223372036854775808) ∧ a.2.2.1 < 18446744073709551616 ∧ a.2.2.2 < 256
theorem flat_act : Flat Tryd.prog 41 4 actCells actOk :=
  (flat_struct4 Tryd.underlying41 (by kernel_rfl) rfl rfl rfl rfl (flat_i64 Tryd.underlying3 (by kernel_rfl)) (flat_i64 Tryd.underlying3 (by kernel_rfl)) (flat_u64 Tryd.underlying39 (by kernel_rfl)) (flat_u8 Tryd.underlying5 (by kernel_rfl))).map fun a h => ⟨a, h, rfl⟩
end Go.Proofs.YtkgghlhmgolfbaaDoor
