/- Layer 14: lists of lists of numbers as arguments. -/
import Derived.Test.YtdhcfgbnjnidfaaRdLL
import Derived.Test.YtdhcfgbnjnidfaaMade
import Derived.Test.YtdhcfgbnjnidfaaOpenW
namespace Go.Proofs.Ytdhcfgbnjnidfaa
open Go Go.RowKit
abbrev IntsA := Value × List Int
def intsCell (a : IntsA) : List Value := [a.1]
def intsOk (w : World) (a : IntsA) : Prop := (∀ x ∈ a.2, -9223372036854775808 ≤ x ∧ x < 9223372036854775808) ∧ Rd w 1 a.1 a.2.length (a.2.flatMap fun z : Int => [Value.int .i64 z])
theorem flat_ints : FlatW Try.prog 22 1 intsCell intsOk :=
  flatW_slice (by decide) (flat_i64 Try.underlying3 (by kernel_rfl)).wide Try.underlying22 (by kernel_rfl)
theorem intss_in {w : World} {v : Value} {l : List IntsA} (ok : ∀ a ∈ l, intsOk w a) (hr : Rd w 1 v l.length (l.flatMap intsCell)) : ∃ m : List (List Int), (∀ l ∈ m, ∀ x ∈ l, -9223372036854775808 ≤ x ∧ x < 9223372036854775808) ∧ RdLL w v m := by
  have e : l.flatMap intsCell = l.map Prod.fst := by
    induction l with
    | nil => rfl
    | cons a l ih =>
      rw [List.flatMap_cons, List.map_cons]
      have h : ∀ (l : List IntsA), l.flatMap intsCell = l.map Prod.fst := fun l => by
        induction l with
        | nil => rfl
        | cons a l ih => rw [List.flatMap_cons, List.map_cons, ih]; rfl
      rw [h l]; rfl
  rw [e] at hr
  refine ⟨l.map Prod.snd, fun s hs => ?_, ⟨l.map Prod.fst, by rw [List.length_map]; exact hr, by simp, fun i h s hi hj => ?_⟩⟩
  · obtain ⟨a, ha, rfl⟩ := List.mem_map.1 hs
    exact (ok a ha).1
  · rw [List.getElem?_map] at hi hj
    cases e : l[i]? with
    | none => rw [e] at hi; cases hi
    | some a =>
      rw [e] at hi hj; cases hi; cases hj
      have h := (ok a (List.mem_of_getElem? e)).2
      rw [flatMap_one] at h
      exact h
end Go.Proofs.Ytdhcfgbnjnidfaa
