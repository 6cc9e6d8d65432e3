/- A writer in the rounds of a range over a function. -/
import Derived.Test.YtnjdjmfjkjpelaaBitioB
import Derived.Test.YtnjdjmfjkjpelaaRange
namespace Go.Proofs.Ytnjdjmfjkjpelaa
open Go Go.RowKit Go.Shelf

/-- Where Put stands between two rounds. -/
def PutIn (p : Nat) (v : Value) (W0 : World) (out : List Bool) (W : World) : Prop := ∃ v', WriterIn W p v' out ∧ Upd W0 W p v v'
theorem putIn_own {β : Type} {B : Nat} {W0 : World} (hB : W0.heap.size ≤ B) (p : Nat) (v : Value) (f : β → List Bool) : OwnFrom B (fun s W => PutIn p v W0 (f s) W) := by
  rintro s W W' row ⟨v', h1, h2⟩ hg hr
  have hr' : ∀ r, row = some r → ∃ o : Obj, W.heap[r]? = some o ∧ o.isCells = false := fun r e => (hr r e).2
  exact ⟨v', ⟨own_blk p (fun _ : Unit => [.int .i64 (f s).length, v']) () W W' row h1.blk hg hr', owns_abides h1.own hg hr', h1.ne⟩, ⟨ownFrom_mods hB () W W' row h2.mods hg hr, h2.fresh⟩⟩
/-- A stretch of the body: the writer's own blocks alone may turn. -/
theorem putIn_keeps {p : Nat} {v' : Value} {W W' : World} {out : List Bool} (h : WriterIn W p v' out) (hm : Mods (fun k => k = p ∨ v'.ownBlock = some k) W W') : KeepsOthers W W' := by
  refine KeepsOthers.of_mods hm (fun k o hk ho => ?_)
  rcases hk with rfl | hk
  · obtain ⟨t, ht⟩ := h.blk
    rw [ht] at ho
    cases ho; rfl
  · exact owns_isCells h.own k o hk ho
end Go.Proofs.Ytnjdjmfjkjpelaa
