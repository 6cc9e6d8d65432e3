/- Texts 20. -/
import Derived.Test.YtdcgbgecbeegmaaGreatDoorMgSA
import Derived.Test.YtdcgbgecbeegmaaGreatDoorMgS19
set_option linter.unusedVariables false
set_option linter.unusedSimpArgs false
set_option maxHeartbeats 400000000
set_option maxRecDepth 100000
section
namespace Go.Proofs.YtdcgbgecbeegmaaGreatDoor
open Go Go.RowKit
theorem mn:Re Tryz.prog 33 25 4 (.slice none 0 0):=Re.mk' Tryz.underlying33 (by kernel_rfl) (by kernel_rfl) Tryz.underlying25 rfl
end Go.Proofs.YtdcgbgecbeegmaaGreatDoor
end
