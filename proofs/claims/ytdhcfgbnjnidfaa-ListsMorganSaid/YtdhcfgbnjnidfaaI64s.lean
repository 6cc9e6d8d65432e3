/- Rows of integers. No program in sight. -/
import Derived.Test.YtdhcfgbnjnidfaaSlice
set_option linter.unusedVariables false
namespace Go.Proofs.Ytdhcfgbnjnidfaa
open Go Go.RowKit


def i64s (l : List Int) : List Value := l.map fun x => .int .i64 x

theorem i64s_length (l : List Int) : (i64s l).length = l.length := by simp [i64s]

theorem i64s_append (a b : List Int) : i64s (a ++ b) = i64s a ++ i64s b := by simp [i64s]

theorem i64s_get (l : List Int) (i : Nat) (h : i < l.length) : (i64s l)[i]? = some (.int .i64 l[i]) := by simp [i64s, h]

theorem i64s_one (l : List Int) : ∀ u ∈ i64s l, u.oneCell' = true := by
  intro u hu
  simp only [i64s, List.mem_map] at hu
  obtain ⟨n, _, rfl⟩ := hu
  rfl
end Go.Proofs.Ytdhcfgbnjnidfaa
