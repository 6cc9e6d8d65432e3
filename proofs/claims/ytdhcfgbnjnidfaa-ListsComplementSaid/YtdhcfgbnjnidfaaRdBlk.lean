/- A row in a block is a row that is read. No program in sight. -/
import Derived.Test.YtdhcfgbnjnidfaaSlice
set_option linter.unusedVariables false
set_option maxRecDepth 100000
namespace Go.Proofs.Ytdhcfgbnjnidfaa
open Go Go.RowKit


/-- A whole block, read as a slice. -/
theorem Rd.of_blk {w : World} {b n : Nat} {vs : List Value} {sz : Nat} (h : Blk w b vs) (hl : vs.length = n * sz) (hn : n ≤ maxLen) : Rd w sz (.slice (some ⟨b, 0, none⟩) n n) n vs := by
  refine ⟨_, _, rfl, hl, Nat.le_refl _, hn, (fun e => by cases e), fun ad e j u hu => ?_⟩
  cases e
  have e : (⟨b, 0, none⟩ : Addr).add j = ⟨b, j, none⟩ := by unfold Addr.add; split <;> simp_all
  rw [e, h.cell]
  exact hu
end Go.Proofs.Ytdhcfgbnjnidfaa
