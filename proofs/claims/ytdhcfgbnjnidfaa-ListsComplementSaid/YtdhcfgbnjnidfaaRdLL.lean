/- Layer 14: lists of lists of numbers that are read. No program in sight. -/
import Derived.Test.YtdhcfgbnjnidfaaI64s
import Derived.Test.YtdhcfgbnjnidfaaOwn1
set_option linter.unusedVariables false
namespace Go.Proofs.Ytdhcfgbnjnidfaa
open Go Go.RowKit

structure RdLL (w : World) (v : Value) (m : List (List Int)) : Prop where
  ex : ∃ hs : List Value, Rd w 1 v hs.length hs ∧ hs.length = m.length ∧ ∀ (i : Nat) (h : Value) (l : List Int), hs[i]? = some h → m[i]? = some l → Rd w 1 h l.length (i64s l)
theorem RdLL.below {w w' : World} {v : Value} {m : List (List Int)} (k : RdLL w v m) (hb : Below w.heap.size w w') : RdLL w' v m := by
  obtain ⟨hs, h1, h2, h3⟩ := k.ex
  exact ⟨hs, h1.below hb, h2, fun i h s hi hj => (h3 i h s hi hj).below hb⟩
theorem RdLL.shape {w : World} {v : Value} {m : List (List Int)} (k : RdLL w v m) : ∃ p c, v = .slice p m.length c := by
  obtain ⟨hs, h1, h2, _⟩ := k.ex
  rw [← h2]
  exact h1.shape
theorem RdLL.le {w : World} {v : Value} {m : List (List Int)} (k : RdLL w v m) : m.length ≤ maxLen := by
  obtain ⟨hs, h1, h2, _⟩ := k.ex
  rw [← h2]
  exact h1.le
/-- List i of a list, in every later world. -/
theorem RdLL.always {w : World} {p : Option Addr} {n c : Nat} {m : List (List Int)} (k : RdLL w (.slice p n c) m) {i : Nat} {l : List Int} (hi : m[i]? = some l) :
    ∃ blk off p1 c1, p = some ⟨blk, off, none⟩ ∧ ∀ w', Below w.heap.size w w' → w'.cell? ⟨blk, off + i, none⟩ = some (.slice p1 l.length c1) ∧ Rd w' 1 (.slice p1 l.length c1) l.length (i64s l) := by
  obtain ⟨hs, h1, h2, h3⟩ := k.ex
  have hlt := (List.getElem?_eq_some_iff.1 hi).1
  obtain ⟨h, hh⟩ : ∃ h, hs[i]? = some h := ⟨_, List.getElem?_eq_getElem (by omega)⟩
  have hr := h3 i h l hh hi
  obtain ⟨p1, c1, rfl⟩ := hr.shape
  obtain ⟨b, off, c', e, _, _, hc⟩ := h1.at (fun e => by rw [e] at hh; simp at hh)
  simp only [Value.slice.injEq] at e
  have hcell := hc i _ hh
  exact ⟨b, off, p1, c1, e.1, fun w' hb => ⟨(hb.cell (World.block_lt_of_cell? w _ hcell)).trans hcell, hr.below hb⟩⟩
theorem RdLL.single {w : World} {v h : Value} {l : List Int} (h1 : Rd w 1 v 1 [h]) (h2 : Rd w 1 h l.length (i64s l)) : RdLL w v [l] :=
  ⟨[h], h1, rfl, fun i h' l' hi hj => by
    cases i with
    | zero => simp at hi hj; subst hi hj; exact h2
    | succ i => simp at hi⟩
theorem RdLL.pair {w : World} {v h g : Value} {l k : List Int} (h1 : Rd w 1 v 2 [h, g]) (h2 : Rd w 1 h l.length (i64s l)) (h3 : Rd w 1 g k.length (i64s k)) : RdLL w v [l, k] :=
  ⟨[h, g], h1, rfl, fun i h' l' hi hj => by
    match i with
    | 0 => simp at hi hj; subst hi hj; exact h2
    | 1 => simp at hi hj; subst hi hj; exact h3
    | i + 2 => simp at hi⟩
end Go.Proofs.Ytdhcfgbnjnidfaa
