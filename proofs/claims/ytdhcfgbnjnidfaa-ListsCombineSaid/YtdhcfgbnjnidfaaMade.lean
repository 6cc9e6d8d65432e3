/- What a call makes; the tactics. -/
import Derived.Test.YtdhcfgbnjnidfaaProg
import Derived.Test.YtdhcfgbnjnidfaaSlice
import Derived.WalkSpells
import Derived.WalkLawsBesides
import Derived.Outline
import Derived.Lib.Hide
import Derived.Deep.QuietTactic
import Derived.BigQuiet
import Derived.StillTailTactics
import Derived.Laws.IdiomStrings
import Derived.Lib.SlBytesConst
namespace Go.Proofs.Ytdhcfgbnjnidfaa
open Go Go.RowKit

/-- A slice that the call has made. -/
def Made (w w' : World) (e : TypeId) (sz : Nat) (r : Value) (n : Nat) (vs : List Value) : Prop := w'.ownsRow w.heap.size e sz r n vs ∧ Below w.heap.size w w'
end Go.Proofs.Ytdhcfgbnjnidfaa
