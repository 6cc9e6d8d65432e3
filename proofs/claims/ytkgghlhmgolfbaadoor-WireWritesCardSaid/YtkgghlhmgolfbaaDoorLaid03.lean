/- Layer 3: the program's table, as the statements list it, gives the walks what they ask. -/
import Derived.Test.YtkgghlhmgolfbaaDoorRows
import Derived.Test.YtkgghlhmgolfbaaDoorCrc03A
import Derived.Lib.LaidTab
import Derived.LaidMore
import Derived.LaidHandle
import Derived.Lay
namespace Go.Proofs.YtkgghlhmgolfbaaDoor
open Go Go.RowKit

/-- What the statements list. -/
def listed : List (String × DataW Unit) := [("tsblock/crc.fourShifts", Rows.laid_tsblock_crc_fourShifts)]

theorem gFours : Tryd.prog.globalNamed "tsblock/crc.fourShifts" = some 0 := by kernel_rfl
theorem tFours : (Tryd.prog.globals[0]?).map (·.type) = some 94 := by kernel_rfl

theorem tab_of_laid {W : World} (h : laidMetH Tryd.prog listed W) : Tab W := by
  rw [MakeChecks.laidMetH_plain _ _ _ (by kernel_rfl)] at h
  have hT : Lib.TabIs Tryd.prog W "tsblock/crc.fourShifts" .u32 (fours.map fun n : Nat => (n : Int)) :=
    Lib.tabIs_of_head gFours tFours Tryd.underlying94 Tryd.underlying52 (by kernel_rfl) (by kernel_rfl) (rest := []) h
  intro i hi
  have := hT.cell gFours i (by simpa [fours] using hi)
  rw [this]
  have e : (fours.map fun n : Nat => (n : Int)).getD i 0 = ((fours.getD i 0 : Nat) : Int) := by
    simp only [List.getD_eq_getElem?_getD, List.getElem?_map]
    cases fours[i]? <;> rfl
  rw [e]

theorem start_met (os : Os) (args : Array Value) : laidMetH Tryd.prog listed ((World.laidAll Tryd.prog os listed).forCall (fun _ _ => 0) ⟨#[], args, []⟩).memory := by
  rw [MakeChecks.laidMetH_plain _ _ _ (by kernel_rfl)]
  exact laidMet_laidAll args (by kernel_rfl) (by kernel_rfl)
theorem start_shaped (os : Os) (args : Array Value) : ((World.laidAll Tryd.prog os listed).forCall (fun _ _ => 0) ⟨#[], args, []⟩).Shaped Tryd.prog := World.shaped_of_ZipB (by kernel_rfl) (by kernel_rfl)
end Go.Proofs.YtkgghlhmgolfbaaDoor
