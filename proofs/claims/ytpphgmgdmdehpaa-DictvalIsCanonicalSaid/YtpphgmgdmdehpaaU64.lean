/- Lists of words as rows. -/
import Derived.Test.YtpphgmgdmdehpaaCode
import Derived.Test.YtpphgmgdmdehpaaRef01A
set_option linter.unusedVariables false
namespace Go.Proofs.Ytpphgmgdmdehpaa
open Go Go.RowKit

def u64s (l : List Nat) : List Value := l.map fun x : Nat => .int .u64 (x : Int)
theorem u64s_length (l : List Nat) : (u64s l).length = l.length := by simp [u64s]
theorem u64s_append (a b : List Nat) : u64s (a ++ b) = u64s a ++ u64s b := by simp [u64s]
theorem u64s_get (l : List Nat) (i : Nat) (h : i < l.length) : (u64s l)[i]? = some (.int .u64 (l[i] : Int)) := by simp [u64s, h]
theorem u64s_one (l : List Nat) : ∀ u ∈ u64s l, u.oneCell' = true := by
  intro u hu
  simp only [u64s, List.mem_map] at hu
  obtain ⟨n, _, rfl⟩ := hu
  rfl
theorem Try.infoU64 : (Try.prog.info? 25).map (fun i => (i.zero, i.size, i.bytes)) = some (some (.int .u64 0), 1, 8) := by kernel_rfl
theorem Try.elemU64 : Elem Try.prog 22 25 1 8 := Elem.mk' Try.underlying22 Try.infoU64 rfl (by decide)

end Go.Proofs.Ytpphgmgdmdehpaa
