/- Layer 5: the program's Put, Get and Size meet what the walks ask. -/
import Derived.Test.YtjgiaibpipgjjaaDoorTimesPu
import Derived.Test.YtjgiaibpipgjjaaDoorTimesGt
set_option linter.unusedVariables false
namespace Go.Proofs.YtjgiaibpipgjjaaDoor
open Go Go.RowKit

theorem times : TIf (0 + 1) TabF where
  keeps := fun h hm hk => h.block (hm.block _ h.lt (hk _ (Nat.lt_succ_self _)))
  low := fun h => h.lt
  put := fun p v lv bits l w hT hW hgp hgv hl ok hap hz => by
    match l, hl, hap, hz with
    | [], hl, _, _ =>
      rw [show encT [] = [] from rfl, List.append_nil]
      exact times_put_nil p v lv bits w hW hl
    | t :: tl, hl, hap, hz => exact times_put_cons p v lv bits (t :: tl) t tl rfl w hT hW hgp hgv hl (hap (by simp)) hz
  putNil := fun w _ => times_put_nilw w
  get := fun p v i n bs w hT h hgp hn _ => times_get p v n bs _ w (ris_of h) hT (by omega) hn
  getNeg := fun p v i n bs w _ h _ hn hm => times_get_neg p v i n bs w h hn hm
  size := fun lv l w hT hl ok hz => by
    match l, hl, hz with
    | [], hl, _ => exact times_size_nil w lv hl
    | t :: tl, hl, hz => exact times_size_cons lv (t :: tl) t tl rfl w hT hl hz
end Go.Proofs.YtjgiaibpipgjjaaDoor
