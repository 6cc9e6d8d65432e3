/- Layer 14: lists of lists by their heads; turned. No program in sight. -/
import Derived.Test.YtdhcfgbnjnidfaaRdLL
import Derived.Test.YtdhcfgbnjnidfaaRevLL
import Derived.Test.YtdhcfgbnjnidfaaListP
set_option linter.unusedVariables false
namespace Go.Proofs.Ytdhcfgbnjnidfaa
open Go Go.RowKit

/-- A list of lists that is read, by its heads. -/
theorem RdLL.heads {w : World} {v : Value} {q : List (List Int)} (h : RdLL w v q) : ∃ M : List (Sl × List Int), M.map Prod.snd = q ∧ Rd w 1 v M.length (slZs (M.map Prod.fst)) ∧ ∀ p ∈ M, Rd w 1 (slV p.1) p.2.length (i64s p.2) := by
  obtain ⟨hs, h1, h2, h3⟩ := h.ex
  have key : ∀ (hs : List Value) (q : List (List Int)), hs.length = q.length → (∀ (i : Nat) (h : Value) (s : List Int), hs[i]? = some h → q[i]? = some s → Rd w 1 h s.length (i64s s)) → ∃ M : List (Sl × List Int), M.map Prod.snd = q ∧ slZs (M.map Prod.fst) = hs ∧ ∀ p ∈ M, Rd w 1 (slV p.1) p.2.length (i64s p.2) := by
    intro hs
    induction hs with
    | nil => intro q hl _; obtain rfl : q = [] := List.eq_nil_of_length_eq_zero hl.symm; exact ⟨[], rfl, rfl, fun p hp => by cases hp⟩
    | cons h hs ih =>
      intro q hl hr
      cases q with
      | nil => simp at hl
      | cons s q =>
        obtain ⟨M, e1, e2, e3⟩ := ih q (by simpa using hl) (fun i h' s' a b => hr (i + 1) h' s' (by simpa using a) (by simpa using b))
        have h0 := hr 0 h s rfl rfl
        obtain ⟨p, c, e⟩ := h0.shape
        subst e
        refine ⟨((p, s.length, c), s) :: M, by simp [e1], by simp only [List.map_cons]; rw [show slZs ((p, s.length, c) :: M.map Prod.fst) = slV (p, s.length, c) :: slZs (M.map Prod.fst) from rfl, e2], fun x hx => ?_⟩
        rcases List.mem_cons.1 hx with rfl | hx
        · exact h0
        · exact e3 x hx
  obtain ⟨M, e1, e2, e3⟩ := key hs q h2 h3
  have hl : M.length = hs.length := by rw [← e2, slZs_length, List.length_map]
  exact ⟨M, e1, by rw [hl, e2]; exact h1, e3⟩
theorem RdLL.of_heads {w : World} {v : Value} {M : List (Sl × List Int)} (h : Rd w 1 v M.length (slZs (M.map Prod.fst))) (hm : ∀ p ∈ M, Rd w 1 (slV p.1) p.2.length (i64s p.2)) : RdLL w v (M.map Prod.snd) := by
  refine ⟨slZs (M.map Prod.fst), by rw [slZs_length, List.length_map]; exact h, by rw [slZs_length, List.length_map, List.length_map], fun i x s hx hs => ?_⟩
  rw [slZs, List.map_map, List.getElem?_map] at hx
  rw [List.getElem?_map] at hs
  obtain ⟨p, hp, rfl⟩ := Option.map_eq_some_iff.1 hx
  rw [hp] at hs
  cases hs
  exact hm p (List.mem_of_getElem? hp)
theorem slZs_drop (l : List Sl) (i : Nat) : (slZs l).drop i = slZs (l.drop i) := by simp [slZs, List.map_drop]
theorem slZs_take (l : List Sl) (i : Nat) : (slZs l).take i = slZs (l.take i) := by simp [slZs, List.map_take]
/-- Turned: the last part first, and all in opposite order. -/
def turnM {α : Type} (M : List α) (i : Nat) : List α := (M.drop i ++ M.take i).reverse
theorem turn_perm {α : Type} (M : List α) (i : Nat) : (turnM M i).Perm M := by
  refine (List.reverse_perm _).trans (List.perm_append_comm.trans ?_)
  rw [List.take_append_drop]
theorem turn_map {α β : Type} (f : α → β) (M : List α) (i : Nat) : (turnM M i).map f = turnM (M.map f) i := by simp [turnM, List.map_drop, List.map_take]
end Go.Proofs.Ytdhcfgbnjnidfaa
