/- Layer 14: a list of lists under way, in a row of the call's own, whose lists lie elsewhere. -/
import Derived.Test.YtdhcfgbnjnidfaaRdLL
import Derived.Test.YtdhcfgbnjnidfaaMade
set_option linter.unusedVariables false
set_option maxRecDepth 20000
namespace Go.Proofs.Ytdhcfgbnjnidfaa
open Go Go.RowKit

theorem i64s_ne14 {l : List Int} (h : i64s l ≠ []) : l ≠ [] := fun e => h (by subst e; rfl)
theorem getElem?_snoc14 {α : Type} {l : List α} {x y : α} {i : Nat} (h : (l ++ [x])[i]? = some y) : l[i]? = some y ∨ (i = l.length ∧ y = x) := by
  by_cases hi : i < l.length
  · rw [List.getElem?_append_left hi] at h; exact Or.inl h
  · rw [List.getElem?_append_right (by omega)] at h
    have : i - l.length = 0 := by
      rcases Nat.eq_zero_or_pos (i - l.length) with e | e
      · exact e
      · rw [List.getElem?_eq_none (by simp; omega)] at h; cases h
    rw [this] at h
    simp at h
    exact Or.inr ⟨by omega, h.symm⟩
def IntOff (S : Nat → Prop) (h : Value) (s : List Int) : Prop := i64s s ≠ [] → ∀ k, h.ownBlock = some k → ¬ S k
structure ArAt (t : TypeId) (w wr : World) (hs : List Value) (m : List (List Int)) (v : Value) : Prop where
  row : Own1 t (fun h : Value => h) w wr hs v
  len : hs.length = m.length
  ser : ∀ (i : Nat) (h : Value) (s : List Int), hs[i]? = some h → m[i]? = some s → Rd wr 1 h s.length (i64s s) ∧ IntOff (fun k => v.ownBlock = some k) h s
theorem ArAt.nil {t : TypeId} (w : World) : ArAt t w w [] [] (.slice none 0 0) := ⟨Own1.nil w, rfl, fun i h s hi _ => by simp at hi⟩
theorem ArAt.below {t : TypeId} {w wr w1 : World} {hs : List Value} {m : List (List Int)} {v : Value} (k : ArAt t w wr hs m v) (hb : Below wr.heap.size wr w1) : ArAt t w w1 hs m v :=
  ⟨k.row.below hb, k.len, fun i h s hi hj => ⟨(k.ser i h s hi hj).1.below hb, (k.ser i h s hi hj).2⟩⟩
theorem ArAt.rd {t : TypeId} {w wr : World} {hs : List Value} {m : List (List Int)} {v : Value} (k : ArAt t w wr hs m v) : RdLL wr v m :=
  ⟨⟨hs, by have h := k.row.rd; rwa [List.map_id'] at h, k.len, fun i h s hi hj => (k.ser i h s hi hj).1⟩⟩
/-- An append. -/
theorem ArAt.pushed {t : TypeId} {w wr w1 : World} {hs : List Value} {m : List (List Int)} {v v1 : Value} {h : Value} {s : List Int} (k : ArAt t w wr hs m v) (hsr : Rd wr 1 h s.length (i64s s)) (ho : IntOff (fun j => v.ownBlock = some j) h s)
    (k1 : w1.ownsRow 0 t 1 v1 (hs.length + 1) (hs ++ [h])) (hm : Mods (fun j => v.ownBlock = some j) wr w1) (hf : Fresh wr.heap.size v v1) : ArAt t w w1 (hs ++ [h]) (m ++ [s]) v1 := by
  have hoff : ∀ (h : Value) (s : List Int), Rd wr 1 h s.length (i64s s) → IntOff (fun j => v.ownBlock = some j) h s → Rd w1 1 h s.length (i64s s) ∧ IntOff (fun j => v1.ownBlock = some j) h s := fun h s a b => by
    refine ⟨a.mods' hm b, fun e j hj hv => ?_⟩
    rcases hf j hv with f | f
    · exact b e j hj f
    · have := a.lt e j hj; omega
  refine ⟨k.row.pushed (by rw [List.map_id']; exact k1) hm hf, by simp [k.len], fun i h' s' hi hj => ?_⟩
  rcases getElem?_snoc14 hi with e | ⟨e, rfl⟩
  · rcases getElem?_snoc14 hj with f | ⟨f, _⟩
    · exact hoff _ _ (k.ser i h' s' e f).1 (k.ser i h' s' e f).2
    · have := (List.getElem?_eq_some_iff.1 e).1; have := k.len; omega
  · rcases getElem?_snoc14 hj with f | ⟨_, rfl⟩
    · have := (List.getElem?_eq_some_iff.1 f).1; have := k.len; omega
    · exact hoff _ _ hsr ho
end Go.Proofs.Ytdhcfgbnjnidfaa
