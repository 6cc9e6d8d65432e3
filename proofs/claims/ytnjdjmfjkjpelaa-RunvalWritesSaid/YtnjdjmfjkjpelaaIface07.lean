/- Layer 7: the program's Put, Get, Size, Split and Join meet what the walks ask. -/
import Derived.Test.YtnjdjmfjkjpelaaRnC
import Derived.Test.YtnjdjmfjkjpelaaRnD
import Derived.Test.YtnjdjmfjkjpelaaRnE
import Derived.Test.YtnjdjmfjkjpelaaRnJ
set_option linter.unusedVariables false
namespace Go.Proofs.Ytnjdjmfjkjpelaa
open Go Go.RowKit

theorem runval : RIf 0 (fun _ => True) where
  keeps := fun _ _ _ => trivial
  low := fun _ => Nat.zero_le _
  put := fun p v lv bits l w _ hW _ _ hl ok hap hz => runval_put p v lv bits l w hW hl ok hap hz
  putNil := fun lv l w _ hl => runval_put_nilw lv l w hl
  getNil := fun n w _ _ _ => runval_get_nil n w
  get := fun p v i n bs w _ h _ hn _ => runval_get p v n bs _ w (ris_of h) hn
  getNeg := fun p v i n bs w _ h _ hn hm => runval_get_neg p v i n bs w h hn hm
  size := fun lv l w _ hl ok hz => runval_size lv l w hl ok hz
  split := fun lv l w _ hl ok hn => runval_split lv l w hl ok hn
  join := fun rv rs w _ hl ok hn => (runval_join rv rs w hl ok hn).mono fun e w' ⟨r, h1, h2, _, h3⟩ => ⟨r, h1, h2, h3⟩
end Go.Proofs.Ytnjdjmfjkjpelaa
