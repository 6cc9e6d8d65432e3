/- An iterator that reads memory between two rounds: the blocks that must stay as they were. No program in sight. -/
import Derived.Test.YtdhcfgbnjnidfaaRange
namespace Go.Proofs.Ytdhcfgbnjnidfaa
open Go Go.RowKit Go.Shelf

/-- The blocks K are as they were. -/
def KeepAt (K : Nat → Prop) (A B : World) : Prop := ∀ k, K k → B.heap[k]? = A.heap[k]?
theorem keepAt_t {K : Nat → Prop} {A B C : World} (h : KeepAt K A B) (k : KeepAt K B C) : KeepAt K A C := fun j hj => (k j hj).trans (h j hj)
theorem keepAt_b {K : Nat → Prop} {w : World} (hK : ∀ k, K k → k < w.heap.size) (W : World) (l : Nat) (o o' : Obj) (hl : w.heap.size ≤ l) (h : W.heap[l]? = some o) (_ : o.isCells = false) (_ : o.isWalk = false) : KeepAt K W (W.putObj l o') := fun k hk => by
  have h1 := hK k hk
  have h2 := (Array.getElem?_eq_some_iff.1 h).1
  exact (grownBy_putObj' W l o').block k (by omega) (fun e => by cases e; omega)
theorem KeepAt.cell {K : Nat → Prop} {A B : World} (h : KeepAt K A B) {b : Nat} (hb : K b) (i : Nat) : B.cell? ⟨b, i, none⟩ = A.cell? ⟨b, i, none⟩ := by
  unfold World.cell?
  rw [h b hb]
theorem KeepAt.rd {K : Nat → Prop} {A B : World} (h : KeepAt K A B) {sz : Nat} {v : Value} {n : Nat} {xs : List Value} (hr : Rd A sz v n xs) (hv : ∀ k, v.ownBlock = some k → K k) : Rd B sz v n xs := by
  refine hr.of_cells fun a u hu ⟨p, hp, hab⟩ => ?_
  have hk : K a.block := hv _ (by rw [hp, hab]; rfl)
  rw [← hu]
  exact World.cell?_of_block (h _ hk)

theorem grown_drewN (w : World) (n : Nat) : w.grownBy (w.drewN n) none := ⟨rfl, rfl, rfl, Nat.le_refl _, fun _ _ _ => rfl⟩
theorem grown_below {w w' : World} (h : Below w.heap.size w w') : w.grownBy w' none := ⟨h.os, h.tape, h.output, h.size, fun k hk _ => h.block k hk⟩
theorem keepAt_below {K : Nat → Prop} {w A B : World} (h : KeepAt K w A) (hK : ∀ k, K k → k < w.heap.size) (hb : Below A.heap.size A B) : KeepAt K w B := fun k hk => by
  have h1 := h k hk
  obtain ⟨o, ho⟩ : ∃ o, w.heap[k]? = some o := ⟨_, Array.getElem?_eq_getElem (hK k hk)⟩
  rw [ho] at h1
  exact (hb.block k (Array.getElem?_eq_some_iff.1 h1).1).trans (h k hk)
end Go.Proofs.Ytdhcfgbnjnidfaa
