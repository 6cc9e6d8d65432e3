/- A reader and variables of two cells. -/
import Derived.Test.YtpphgmgdmdehpaaRis
import Derived.Test.YtpphgmgdmdehpaaStruct
set_option linter.unusedVariables false
namespace Go.Proofs.Ytpphgmgdmdehpaa
open Go Go.RowKit

theorem field_two (n : Nat) (bs : List Bool) : field n bs = ⟨3, 0, bs⟩ ∨ ∃ x c, field n bs = ⟨0, x, c⟩ ∧ x < 2 ^ n := by
  have := field_lt n bs
  rw [field] at this ⊢
  split
  · exact Or.inl rfl
  · next h => rw [if_neg h] at this; exact Or.inr ⟨_, _, rfl, this⟩

/-- A variable of the call's own of two cells is stored into behind the reads. -/
theorem rp_set2 {p : Nat} {v : Value} {bs : List Nat} {r0 r : List Bool} {w w1 : World} {B : Nat} (h0 : RIs p v bs r0 w) (h : RP p v bs r w w1) (hB : w.heap.size ≤ B) (x y : Value) : RP p v bs r w ((w1.setCell ⟨B, 0, none⟩ x).setCell ⟨B, 1, none⟩ y) :=
  rp_more h0 h ((Mods.set (fun k => k = B) w1 ⟨B, 0, none⟩ x (fun _ => rfl)).trans (Mods.set (fun k => k = B) _ ⟨B, 1, none⟩ y (fun _ => rfl)) (fun _ _ e => e)) (fun k e => by omega)
theorem Blk.set2 {w : World} {g : Nat} {a b : Value} (h : Blk w g [a, b]) (x y : Value) : Blk ((w.setCell ⟨g, 0, none⟩ x).setCell ⟨g, 1, none⟩ y) g [x, y] := by
  simpa using (h.set 0 x).set 1 y
theorem Blk.two {w : World} {g : Nat} {a b : Value} (h : Blk w g [a, b]) : (w.cell? ⟨g, 0, none⟩ = some a ∧ w.cell? ⟨g, 1, none⟩ = some b) ∧ (w.frozen? ⟨g, 0, none⟩ = false ∧ w.frozen? ⟨g, 1, none⟩ = false) :=
  ⟨⟨by rw [h.cell]; rfl, by rw [h.cell]; rfl⟩, h.free 0, h.free 1⟩
end Go.Proofs.Ytpphgmgdmdehpaa
