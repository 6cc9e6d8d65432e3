/- Slices as triples: where, how many, what room. No program in sight. -/
import Derived.Test.YtdhcfgbnjnidfaaHeap
set_option linter.unusedVariables false
set_option maxRecDepth 20000
namespace Go.Proofs.Ytdhcfgbnjnidfaa
open Go Go.RowKit


/-- The two heads of a series: where, how many, what room. -/
abbrev Sl := Option Addr × Nat × Nat

abbrev slV (s : Sl) : Value := .slice s.1 s.2.1 s.2.2
end Go.Proofs.Ytdhcfgbnjnidfaa
