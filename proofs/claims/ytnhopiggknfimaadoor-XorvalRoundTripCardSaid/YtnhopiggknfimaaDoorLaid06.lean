/- Layer 6: the library's table of trailing zeros, as the statements list it, gives the walks what they ask. -/
import Derived.Test.YtnhopiggknfimaaDoorRows
import Derived.Test.YtnhopiggknfimaaDoorXvA
import Derived.Lib.LaidTab
import Derived.LaidMore
import Derived.LaidHandle
import Derived.Lay
namespace Go.Proofs.YtnhopiggknfimaaDoor
open Go Go.RowKit

/-- What the statements list. -/
def listed : List (String × DataW Unit) := [("math/bits.deBruijn64tab", Rows.laid_math_bits_deBruijn64tab)]

theorem gZeros : Tryd.prog.globalNamed "math/bits.deBruijn64tab" = some 0 := by kernel_rfl
theorem tZeros : (Tryd.prog.globals[0]?).map (·.type) = some 108 := by kernel_rfl

theorem tab_of_laid {W : World} (h : laidMetH Tryd.prog listed W) : TabZ W := by
  rw [MakeChecks.laidMetH_plain _ _ _ (by kernel_rfl)] at h
  have hT : Lib.TabIs Tryd.prog W "math/bits.deBruijn64tab" .u8 (Lib.deBruijn64tab.map fun n : Nat => (n : Int)) :=
    Lib.tabIs_of_head gZeros tZeros Tryd.underlying108 Tryd.underlying5 (by kernel_rfl) (by kernel_rfl) (rest := []) h
  intro i hi
  have := hT.cell gZeros i (by simpa using hi)
  rw [this]
  have e : (Lib.deBruijn64tab.map fun n : Nat => (n : Int)).getD i 0 = ((Lib.deBruijn64tab.getD i 0 : Nat) : Int) := by
    simp only [List.getD_eq_getElem?_getD, List.getElem?_map]
    cases Lib.deBruijn64tab[i]? <;> rfl
  rw [e]

theorem start_met (os : Os) (args : Array Value) : laidMetH Tryd.prog listed ((World.laidAll Tryd.prog os listed).forCall (fun _ _ => 0) ⟨#[], args, []⟩).memory := by
  rw [MakeChecks.laidMetH_plain _ _ _ (by kernel_rfl)]
  exact laidMet_laidAll args (by kernel_rfl) (by kernel_rfl)
theorem start_shaped (os : Os) (args : Array Value) : ((World.laidAll Tryd.prog os listed).forCall (fun _ _ => 0) ⟨#[], args, []⟩).Shaped Tryd.prog := World.shaped_of_ZipB (by kernel_rfl) (by kernel_rfl)
end Go.Proofs.YtnhopiggknfimaaDoor
