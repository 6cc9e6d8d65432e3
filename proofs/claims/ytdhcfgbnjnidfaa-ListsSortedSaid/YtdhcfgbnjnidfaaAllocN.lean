/- Worlds after literals. No program in sight. -/
import Derived.Test.YtdhcfgbnjnidfaaHeap
set_option linter.unusedVariables false
set_option maxRecDepth 20000
namespace Go.Proofs.Ytdhcfgbnjnidfaa
open Go Go.RowKit

variable {G : Nat} {T : World → Prop}

theorem alloc_next {w w' : World} {n : Nat} {cs : Array Value} {t : TypeId} (hw : w' = w.alloc (.cells cs t)) (hs : w.heap.size = n) : Blk w' n cs.toList ∧ w'.heap.size = n + 1 ∧ Below w.heap.size w w' := by
  subst hw; subst hs
  exact ⟨Blk.new w cs t, by simp, (Mods.alloc (fun _ => False) w _).below (Nat.le_refl _) (fun _ _ e => e)⟩

theorem Blk.below {w w' : World} {b : Nat} {cs : List Value} (h : Blk w b cs) (hb : Below w.heap.size w w') : Blk w' b cs := h.of_same (hb.block _ h.lt)
end Go.Proofs.Ytdhcfgbnjnidfaa
