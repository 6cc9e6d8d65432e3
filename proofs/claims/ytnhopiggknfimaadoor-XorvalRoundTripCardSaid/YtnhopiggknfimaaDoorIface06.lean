/- Layer 6: the program's Put, Get and Size meet what the walks ask. -/
import Derived.Test.YtnhopiggknfimaaDoorXvG
import Derived.Test.YtnhopiggknfimaaDoorXvH
import Derived.Test.YtnhopiggknfimaaDoorXvM
set_option linter.unusedVariables false
namespace Go.Proofs.YtnhopiggknfimaaDoor
open Go Go.RowKit

theorem xorval : VIf (0 + 1) TabZ where
  keeps := fun h hm hk => h.block (hm.block _ h.lt (hk _ (Nat.lt_succ_self _)))
  low := fun h => h.lt
  put := fun p v lv bits l w hT hW hgp hgv hl ok hap hz => by
    match l, hl, ok, hap, hz with
    | [], hl, _, _, _ =>
      rw [show encV [] = [] from rfl, List.append_nil]
      exact xorval_put_nil p v lv bits w hW hl
    | t :: tl, hl, ok, hap, hz => exact xorval_put_cons p v lv bits (t :: tl) t tl rfl w hT hW (by omega) (fun e => by have := hgv _ e; omega) hl ok (hap (by simp)) hz
  putNil := fun w _ => xorval_put_nilw w
  get := fun p v i n bs w hT h hgp hn _ => xorval_get p v n bs _ w (ris_of h) hT (by omega) hn
  getNeg := fun p v i n bs w _ h _ hn hm => xorval_get_neg p v i n bs w h hn hm
  size := fun lv l w hT hl ok hz => by
    match l, hl, ok, hz with
    | [], hl, _, _ => exact xorval_size_nil w lv hl
    | t :: tl, hl, ok, hz => exact xorval_size_cons lv (t :: tl) t tl rfl w hT hl ok hz
end Go.Proofs.YtnhopiggknfimaaDoor
