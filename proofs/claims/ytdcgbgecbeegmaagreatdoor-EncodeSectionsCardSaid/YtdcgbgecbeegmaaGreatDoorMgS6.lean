/- Texts 6. -/
import Derived.Test.YtdcgbgecbeegmaaGreatDoorMgSA
import Derived.Test.YtdcgbgecbeegmaaGreatDoorMgS5
import Derived.RowKit
set_option linter.unusedVariables false
set_option linter.unusedSimpArgs false
set_option maxHeartbeats 400000000
set_option maxRecDepth 100000
section
namespace Go.Proofs.YtdcgbgecbeegmaaGreatDoor
open Go.RowKit
theorem Qo (x:Int):wrap64 x=(x+9223372036854775808) % 18446744073709551616-9223372036854775808:=by rw [wrap64]
theorem yg (x:Int) : -9223372036854775808≤wrap64 x∧wrap64 x<9223372036854775808:=by rw [Qo];omega
def jC (x:Int):Prop:=-9223372036854775808≤x∧x<9223372036854775808
def AT (x:Int):Nat:=if x=0 then 0 else if -64≤x∧x≤63 then 1 else if -2048≤x∧x≤2047 then 2 else if -2147483648≤x∧x≤2147483647 then 3 else 4
def Bw:Nat→Nat
 | 0=>0
 | 1=>7
 | 2=>12
 | 3=>32
 | _=>64
def ZH:Nat→List Bool
 | 0=>[false]
 | 1=>[true,false]
 | 2=>[true,true,false]
 | 3=>[true,true,true,false]
 | _=>[true,true,true,true]
theorem NI (x:Int):AT x≤4:=by unfold AT;split<;>(try split)<;>(try split)<;>(try split)<;>omega
theorem Qp (k:Nat):Bw k≤64:=by unfold Bw;split<;>omega
def DG (u w:Nat):Int:=if 2 ^ (w-1)≤u then (u:Int)-2 ^ w else (u:Int)
def G2 (x:Int):List Bool:=ZH (AT x)++Aa (Nj x) (Bw (AT x))
def F5 (last d:Int):List Int→List Bool
 | []=>[]
 | t::l=>G2 (wrap64 (wrap64 (t-last)-d))++F5 t (wrap64 (t-last)) l
def FL:List Int→List Bool
 | []=>[]
 | t::l=>Aa (Nj t) 64++F5 t 0 l
theorem ji (k:Nat):(ZH k).length≤4:=by unfold ZH;split<;>decide
theorem Zo (x:Int):(G2 x).length≤68:=by
 rw [G2,zAB,Ae]
 have:=ji (AT x);have:=Qp (AT x);omega
theorem Zj (last d:Int) (l:List Int):(F5 last d l).length≤68*l.length:=by
 induction l generalizing last d with
 | nil=>exact zAD _
 | cons t l ih=>
  rw [F5,zAB,zAH]
  have:=Zo (wrap64 (wrap64 (t-last)-d));have:=ih t (wrap64 (t-last));omega
theorem NB (l:List Int):(FL l).length≤68*l.length:=by
 match l with
 | []=>exact zAD _
 | t::l=>
  rw [FL,zAB,Ae,zAH]
  have:=Zj t 0 l;omega
end Go.Proofs.YtdcgbgecbeegmaaGreatDoor
end
section
namespace Go.Proofs.YtdcgbgecbeegmaaGreatDoor
open Go Go.RowKit
theorem pP (x:Int) (w:World):Calls Tryz.prog 115 #[.int .i64 x] w fun e w'=>e = .returned (.int .i64 (AT x:Int))∧w'=w:=by
 by_cases h0:x=0
 ·subst h0
  go_enter Tryz.func115,Tryz.ntmps115
  go_wp2
  go_ret
  exact ⟨rfl,rfl⟩
 ·have hb:(x == 0)=false:=by rw [zAQ];exact h0
  by_cases hp:0≤x
  ·have a1:(-64:Int)≤x:=by omega
   have a2:(-2048:Int)≤x:=by omega
   have a3:(-2147483648:Int)≤x:=by omega
   by_cases b1:x≤63
   ·have HF:Hid (AT x=1):=by show _=_;unfold AT;(repeat (first | rw [if_pos (by omega)] | rw [if_neg (by omega)]))
    go_enter Tryz.func115,Tryz.ntmps115
    go_wp2
    go_ret
    exact ⟨by rw [HF.out];rfl,rfl⟩
   ·by_cases b2:x≤2047
    ·have HF:Hid (AT x=2):=by show _=_;unfold AT;(repeat (first | rw [if_pos (by omega)] | rw [if_neg (by omega)]))
     go_enter Tryz.func115,Tryz.ntmps115
     go_wp2
     go_ret
     exact ⟨by rw [HF.out];rfl,rfl⟩
    ·by_cases b3:x≤2147483647
     ·have HF:Hid (AT x=3):=by show _=_;unfold AT;(repeat (first | rw [if_pos (by omega)] | rw [if_neg (by omega)]))
      go_enter Tryz.func115,Tryz.ntmps115
      go_wp2
      go_ret
      exact ⟨by rw [HF.out];rfl,rfl⟩
     ·have HF:Hid (AT x=4):=by show _=_;unfold AT;(repeat (first | rw [if_pos (by omega)] | rw [if_neg (by omega)]))
      go_enter Tryz.func115,Tryz.ntmps115
      go_wp2
      go_ret
      exact ⟨by rw [HF.out];rfl,rfl⟩
  ·have b1:x≤63:=by omega
   have b2:x≤2047:=by omega
   have b3:x≤2147483647:=by omega
   by_cases a1:(-64:Int)≤x
   ·have HF:Hid (AT x=1):=by show _=_;unfold AT;(repeat (first | rw [if_pos (by omega)] | rw [if_neg (by omega)]))
    go_enter Tryz.func115,Tryz.ntmps115
    go_wp2
    go_ret
    exact ⟨by rw [HF.out];rfl,rfl⟩
   ·by_cases a2:(-2048:Int)≤x
    ·have HF:Hid (AT x=2):=by show _=_;unfold AT;(repeat (first | rw [if_pos (by omega)] | rw [if_neg (by omega)]))
     go_enter Tryz.func115,Tryz.ntmps115
     go_wp2
     go_ret
     exact ⟨by rw [HF.out];rfl,rfl⟩
    ·by_cases a3:(-2147483648:Int)≤x
     ·have HF:Hid (AT x=3):=by show _=_;unfold AT;(repeat (first | rw [if_pos (by omega)] | rw [if_neg (by omega)]))
      go_enter Tryz.func115,Tryz.ntmps115
      go_wp2
      go_ret
      exact ⟨by rw [HF.out];rfl,rfl⟩
     ·have HF:Hid (AT x=4):=by show _=_;unfold AT;(repeat (first | rw [if_pos (by omega)] | rw [if_neg (by omega)]))
      go_enter Tryz.func115,Tryz.ntmps115
      go_wp2
      go_ret
      exact ⟨by rw [HF.out];rfl,rfl⟩
end Go.Proofs.YtdcgbgecbeegmaaGreatDoor
end
