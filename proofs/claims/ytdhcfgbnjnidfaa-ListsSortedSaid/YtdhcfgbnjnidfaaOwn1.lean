/- A list in a row of the call's own, one cell an element. No program in sight. -/
import Derived.Test.YtdhcfgbnjnidfaaSlice
import Derived.Test.YtdhcfgbnjnidfaaOpen
set_option linter.unusedVariables false
namespace Go.Proofs.Ytdhcfgbnjnidfaa
open Go Go.RowKit

structure Own1 (t : TypeId) {α : Type} (f : α → Value) (w wr : World) (d : List α) (v : Value) : Prop where
  row : wr.ownsRow w.heap.size t 1 v d.length (d.map f)
  bel : Below w.heap.size w wr
variable {t : TypeId} {α : Type} {f : α → Value}
theorem Own1.nil (w : World) : Own1 t f w w [] (.slice none 0 0) := ⟨World.ownsRow_nil _ _ _ _, Below.refl _ _⟩
theorem Own1.drewN {w wr : World} {d : List α} {v : Value} (h : Own1 t f w wr d v) (n : Nat) : Own1 t f w (wr.drewN n) d v :=
  ⟨(Mods.drewN (fun _ => False) wr n).owns h.row (fun _ _ e => e), h.bel.trans ((Mods.drewN (fun _ => False) wr n).below h.bel.size (fun _ _ e => e))⟩
theorem Own1.below {w wr w1 : World} {d : List α} {v : Value} (h : Own1 t f w wr d v) (hb : Below wr.heap.size wr w1) : Own1 t f w w1 d v :=
  ⟨(Mods.of_below hb (fun _ => False)).owns h.row (fun _ _ e => e), h.bel.trans (hb.mono h.bel.size)⟩
theorem Own1.pushed {w wr w1 : World} {d : List α} {v v1 : Value} {x : α} (h : Own1 t f w wr d v) (k : w1.ownsRow 0 t 1 v1 (d.length + 1) (d.map f ++ [f x])) (m : Mods (fun k => v.ownBlock = some k) wr w1) (hf : Fresh wr.heap.size v v1) : Own1 t f w w1 (d ++ [x]) v1 := by
  refine ⟨?_, h.bel.trans (m.below h.bel.size (fun k hk e => by have := (h.row.lt k e).1; omega))⟩
  rw [List.length_append, List.map_append]
  refine owns_rebase k (fun k hk => ?_)
  rcases hf k hk with e | e
  · exact (h.row.lt k e).1
  · have := h.bel.size; omega
theorem Own1.extended {w wr w1 : World} {d e : List α} {v v1 : Value} (h : Own1 t f w wr d v) (k : w1.ownsRow 0 t 1 v1 (d.length + e.length) (d.map f ++ e.map f)) (m : Mods (fun k => v.ownBlock = some k) wr w1) (hf : Fresh wr.heap.size v v1) : Own1 t f w w1 (d ++ e) v1 := by
  refine ⟨?_, h.bel.trans (m.below h.bel.size (fun k hk e => by have := (h.row.lt k e).1; omega))⟩
  rw [List.length_append, List.map_append]
  refine owns_rebase k (fun k hk => ?_)
  rcases hf k hk with e | e
  · exact (h.row.lt k e).1
  · have := h.bel.size; omega
theorem Own1.shape {w wr : World} {d : List α} {v : Value} (h : Own1 t f w wr d v) : ∃ p c, v = .slice p d.length c := (Rd.of_owns h.row).shape
theorem Own1.rd {w wr : World} {d : List α} {v : Value} (h : Own1 t f w wr d v) : Rd wr 1 v d.length (d.map f) := Rd.of_owns h.row
theorem Own1.base0 {w wr : World} {d : List α} {v : Value} (h : Own1 t f w wr d v) : wr.ownsRow 0 t 1 v d.length (d.map f) := owns_rebase h.row (fun _ _ => Nat.zero_le _)
theorem Own1.stored {w wr : World} {d e : List α} {g n c i : Nat} {y : α} (h : Own1 t f w wr d (.slice (some ⟨g, 0, none⟩) n c)) (he : d.set i y = e) : Own1 t f w (wr.setCell ⟨g, i, none⟩ (f y)) e (.slice (some ⟨g, 0, none⟩) n c) := by
  subst he
  have hn : n = d.length := by
    obtain ⟨p, c', h'⟩ := (Rd.of_owns h.row).shape
    simp only [Value.slice.injEq] at h'
    exact h'.2.1
  subst hn
  have hm : Mods (fun k => k = g) wr (wr.setCell ⟨g, i, none⟩ (f y)) := Mods.set _ _ _ _ (fun _ => rfl)
  have hg := (h.row.lt g rfl).1
  refine ⟨?_, h.bel.trans (hm.below h.bel.size (fun k hk e => by omega))⟩
  rw [List.length_set, List.map_set]
  exact (h.row.stored i _).1
theorem Own1.cell {w wr : World} {d : List α} {g n c i : Nat} (h : Own1 t f w wr d (.slice (some ⟨g, 0, none⟩) n c)) (hi : i < d.length) : wr.cell? ⟨g, i, none⟩ = some (f d[i]) ∧ wr.frozen? ⟨g, i, none⟩ = false := by
  have hn : n = d.length := by
    obtain ⟨p, c', h'⟩ := (Rd.of_owns h.row).shape
    simp only [Value.slice.injEq] at h'
    exact h'.2.1
  subst hn
  refine ⟨?_, h.row.frozenAt _⟩
  rw [h.row.cellAt i (by omega)]
  simp [hi]
/-- Cell i of a list that is read. -/
theorem rd1_cell {w : World} {b off c n : Nat} {d : List α} (h : Rd w 1 (.slice (some ⟨b, off, none⟩) n c) n (d.map f)) {i : Nat} (hi : i < d.length) : w.cell? ⟨b, off + i, none⟩ = some (f d[i]) := by
  obtain ⟨b2, o2, c2, e, _, _, hc⟩ := h.at (fun e => by have := congrArg List.length e; simp at this; subst this; simp at hi)
  simp only [Value.slice.injEq, Option.some.injEq, Addr.mk.injEq] at e
  obtain ⟨⟨rfl, rfl, _⟩, _, rfl⟩ := e
  exact hc i _ (by simp [hi])

theorem shift_setG (d : List α) (k : Nat) (y z : α) (hk : k ≤ d.length) : (d.take k ++ y :: d.drop k).set k z = d.take k ++ z :: d.drop k := by
  have hl : (d.take k).length = k := by rw [List.length_take]; omega
  rw [List.set_append_right _ _ (by omega), hl, Nat.sub_self, List.set_cons_zero]
theorem shift_eqG (d : List α) (k : Nat) (hk : k < d.length) (z : α) (hz : d[k] = z) : d.take (k + 1) ++ z :: d.drop (k + 1) = d.take k ++ z :: d.drop k := by
  have e : d.drop k = z :: d.drop (k + 1) := by rw [← hz, List.getElem_cons_drop]
  rw [List.take_add_one, List.getElem?_eq_getElem hk, hz, e, List.append_assoc]
  rfl
end Go.Proofs.Ytdhcfgbnjnidfaa
