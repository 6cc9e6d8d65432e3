/- Layer 14: the program's lists are as the walks ask. -/
import Derived.Test.YtdhcfgbnjnidfaaLiI
import Derived.Test.YtdhcfgbnjnidfaaLsD
set_option linter.unusedVariables false
namespace Go.Proofs.Ytdhcfgbnjnidfaa
open Go Go.RowKit
theorem listsMet : LiIf 0 (fun _ => True) where
  keeps := fun _ _ _ => trivial
  low := fun _ => Nat.zero_le _
  isSorted := fun lv l w _ hl _ => lists_sorted lv l w hl
  inter := fun mv m w _ hm hs => lists_inter mv m w hm hs.asc hs.flat
  union := fun mv m w _ hm hs => lists_union mv m w hm hs.asc hs.flat
  diff := fun av bv a b w _ ha hb oa ob sa sb => lists_diff av bv a b w ha hb oa ob (by have := sa.1; have := sb.1; omega)
  compl := fun lv l n w _ hl ol sl h0 h1 => lists_compl lv l n w hl ol sl.1 h0 h1
end Go.Proofs.Ytdhcfgbnjnidfaa
