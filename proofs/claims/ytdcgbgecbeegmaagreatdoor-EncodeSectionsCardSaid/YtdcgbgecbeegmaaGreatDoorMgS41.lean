/- Texts 41. -/
import Derived.Test.YtdcgbgecbeegmaaGreatDoorMgSA
import Derived.Test.YtdcgbgecbeegmaaGreatDoorMgS35
import Derived.Test.YtdcgbgecbeegmaaGreatDoorMgS36
import Derived.Test.YtdcgbgecbeegmaaGreatDoorMgS37
import Derived.Test.YtdcgbgecbeegmaaGreatDoorMgS40
import Derived.Deep.OwnRows
import Derived.Deep.CutRange
set_option linter.unusedVariables false
set_option linter.unusedSimpArgs false
set_option maxHeartbeats 400000000
set_option maxRecDepth 100000
section
namespace Go.Proofs.YtdcgbgecbeegmaaGreatDoor
open Go Go.RowKit
def T9 (w:World):Prop:=Nu w∧JP w
def G9:Nat:=max 1 3 + 1
theorem ZA {k:Nat} (h:G9≤k) : 1 + 1≤k:=by unfold G9 at h;omega
theorem ZB {k:Nat} (h:G9≤k) : 3 + 1≤k:=by unfold G9 at h;omega
theorem T9.low {w:World} (h:T9 w):G9≤w.heap.size:=by have h1:=h.1.lt;have h2:=h.2.lt;unfold G9;omega
theorem T9.keeps {S:Nat→Prop} {w w':World} (h:T9 w) (hm:Ac S w w') (hk:∀k,k<G9→¬S k):T9 w':=
 ⟨h.1.block (hm.block _ h.1.lt (hk _ (by unfold G9;omega))),h.2.block (hm.block _ h.2.lt (hk _ (by unfold G9;omega)))⟩
theorem T9.below {w w':World} (h:T9 w) (hb:Below w.heap.size w w'):T9 w':=h.keeps (Ac.Ah hb (fun _=>False)) (fun _ _ h=>h)
theorem j6 (p:Nat) (v lv:Value) (bits:List Bool) (l:List Int) (w:World) (hT:T9 w) (hW:Ay w p v bits) (hp:G9≤p) (hv:∀k,v.ownBlock=some k→G9≤k) (hl:Rd w 1 lv l.length (A1 l)) (ok:∀t∈l,jC t)
  (Dz:l≠[]→∀k,lv.ownBlock=some k→k≠p∧v.ownBlock≠some k) (hz:bits.length+68*l.length≤70368744177000) :
  Calls Tryz.prog 138 #[.pointer (some ⟨p,0,none⟩),lv] w fun e w'=>e = .returned (.int .i64 0)∧Cy p v (bits++FL l) w w':=by
 match l,hl,Dz,hz with
 | [],hl,_,_=>
  rw [show FL []=[] from rfl,zBR]
  exact U5 p v lv bits w hW hl
 | t::tl,hl,Dz,hz=>exact TJ p v lv bits (t::tl) t tl rfl w hT.1 hW (ZA hp) (fun k hk=>ZA (hv k hk)) hl (Dz (by simp)) hz
def fT (tag:Nat) (f:FuncId):Prop:=∀(p:Nat) (v lv:Value) (bits:List Bool) (l:List Nat) (w:World),T9 w→Ay w p v bits→G9≤p→(∀k,v.ownBlock=some k→G9≤k)→Rd w 1 lv l.length (AL l)→(∀t∈l,C4 t)→
 (l≠[]→∀k,lv.ownBlock=some k→k≠p∧v.ownBlock≠some k)→l.length≤1000000→bits.length+8199+78*l.length≤70368744177000→
 Calls Tryz.prog f #[.pointer (some ⟨p,0,none⟩),lv] w fun e w'=>e = .returned (.int .i64 (if q7 tag l then 0 else 7))∧Cy p v (bits++Fz tag l) w w'
def WA (tag:Nat) (f:FuncId):Prop:=∀(lv:Value) (l:List Nat) (w:World),T9 w→Rd w 1 lv l.length (AL l)→(∀t∈l,C4 t)→l.length≤1000000→
 Calls Tryz.prog f #[lv] w fun e w'=>e = .returned (.int .i64 (AO tag l))∧Below w.heap.size w w'
theorem puts1:fT 1 185:=fun p v lv bits l w hT hW hp hv hl ok Dz hn hz=>by
 show Calls _ _ _ _ fun e w'=>e = .returned (.int .i64 0)∧Cy p v (bits++G1 l) w w'
 match l,hl,ok,Dz,hz with
 | [],hl,_,_,_=>
  rw [show G1 []=[] from rfl,zBR]
  exact TU p v lv bits w hW hl
 | t::tl,hl,ok,Dz,hz=>exact RN p v lv bits (t::tl) t tl rfl w hT.2 hW (by have:=ZB hp;omega) (fun e=>by have:=ZB (hv _ e);omega) hl ok (Dz (by simp)) (by omega)
theorem puts2:fT 2 188:=fun p v lv bits l w hT hW hp hv hl ok Dz hn hz=>e7 p v lv bits l w hW hl ok Dz (by omega)
theorem puts3:fT 3 191:=fun p v lv bits l w hT hW hp hv hl ok Dz hn hz=>Zf p v lv bits l w hW hl ok Dz (by omega) (by omega)
theorem xY:WA 1 184:=fun lv l w hT hl ok hn=>by
 show Calls _ _ _ _ fun e w'=>e = .returned (.int .i64 ((G1 l).length:Int))∧Below w.heap.size w w'
 match l,hl,ok,hn with
 | [],hl,_,_=>exact RO w lv hl
 | t::tl,hl,ok,hn=>exact Qt lv (t::tl) t tl rfl w hT.2 hl ok (by omega)
theorem xZ:WA 2 187:=fun lv l w hT hl ok hn=>aX lv l w hl ok (by omega)
theorem x4:WA 3 190:=fun lv l w hT hl ok hn=>(WN lv l w hl ok (by omega)).mono fun e w' q=>by
 refine ⟨?_,q.2⟩
 rw [q.1,Q7,AO]
 show _=Ending.returned (.int .i64 (if RZ l=true then ((Lt l).length:Int) else -1))
 split
 ·next h=>rw [XJ h]
 ·rfl
def Vu (f:FuncId):Value:=.func (.func f) #[] #[]
def De:List Value:=[.nilFunc,.nilFunc,.nilFunc,Vu 184,Vu 185,Vu 186,Vu 187,Vu 188,Vu 189,Vu 190,Vu 191,Vu 192]
theorem TD:Pz Tryz.prog 197 12 (List.replicate 12 .nilFunc):=Pz.mk' Tryz.underlying197 rfl (by kernel_rfl) rfl
theorem Wg:Pz Tryz.prog 239 3 [.int .i64 0,.int .i64 0,.int .i64 0]:=Pz.mk' Tryz.underlying239 rfl (by kernel_rfl) rfl
theorem Mq (w:World):Calls Tryz.prog 139 #[] w fun e w'=>e = .returned (.agg De.toArray)∧Below w.heap.size w w':=by
 go_enter Tryz.func139,Tryz.ntmps139
 go_wp2_with (refine CT TD rfl rfl ?_)
 intro w1 hK hB hs
 have HK:=zAA hK;have HB:=zAA hB;have HS:=zAA hs
 clear hK hB hs
 go_wp2_with (refine Dn TD rfl _ _ rfl w.heap.size rfl De _ rfl HK.out rfl rfl (by simp [De,Vu,Value.oneCell']) ?_)
 intro w2 hK hM hs
 have E4:=zAA hK
 have AP:Hid (Below w.heap.size w w2):=HB.out.trans (hM.below (by have:=HS.out;omega) (fun k hk e=>by omega))
 clear hK hM hs
 go_wp2_with fail
 refine zCB (Di (p:=0) TD (by kernel_rfl) _ w.heap.size rfl De E4.out rfl) rfl ⟨rfl,AP.out⟩
def u0:Nat→FuncId
 | 0=>184
 | 1=>187
 | _=>190
theorem qo (i:Nat):∀(args:Array Value) (w:World),(callFunc (u0 i) args).run Tryz.prog w = .ok (.enter (u0 i) args) w:=by
 intro args w
 match i with
 | 0=>rfl
 | 1=>rfl
 | _+2=>rfl
theorem kJ (i:Nat) (h:i<3):WA (i+1) (u0 i):=by
 match i,h with
 | 0,_=>exact xY
 | 1,_=>exact xZ
 | 2,_=>exact x4
def pF:Nat→FuncId
 | 0=>185
 | 1=>188
 | _=>191
def gF:Nat→FuncId
 | 0=>186
 | 1=>189
 | _=>192
theorem wF (i:Nat) (h:i<3):De[3+i*3]? = some (Vu (u0 i))∧De[3+i*3+1]? = some (Vu (pF i))∧De[3+i*3+2]? = some (Vu (gF i)):=by
 match i,h with
 | 0,_=>exact ⟨rfl,rfl,rfl⟩
 | 1,_=>exact ⟨rfl,rfl,rfl⟩
 | 2,_=>exact ⟨rfl,rfl,rfl⟩
theorem x5:Pz Tryz.prog 196 3 [.nilFunc,.nilFunc,.nilFunc]:=Pz.mk' Tryz.underlying196 rfl (by kernel_rfl) rfl
def x7 (l:List Nat) (i:Nat):List Value:=[.int .i64 (if 0<i then AO 1 l else 0),.int .i64 (if 1<i then AO 2 l else 0),.int .i64 (if 2<i then AO 3 l else 0)]
theorem tO (l:List Nat) (i:Nat) (h:i<3):(x7 l i).set i (.int .i64 (AO (i+1) l))=x7 l (i+1):=by
 match i,h with
 | 0,_=>rfl
 | 1,_=>rfl
 | 2,_=>rfl
structure iy (w wr:World) (l:List Nat) (g b i:Nat):Prop where
 AA:Below w.heap.size w wr
 own:Ao wr g (x7 l i)
 enc:Ao wr b De
 res:Ao wr w.heap.size [.int .i64 0,.int .i64 0,.int .i64 0]
theorem Y3 (lv:Value) (l:List Nat) (w:World) (hT:T9 w) (hl:Rd w 1 lv l.length (AL l)) (ok:∀t∈l,C4 t) (hn:l.length≤1000000) :
  Calls Tryz.prog 180 #[lv] w fun e w'=>e = .returned (.agg #[.int .i64 (AO 1 l),.int .i64 (AO 2 l),.int .i64 (AO 3 l)])∧Below w.heap.size w w':=by
 have HT:=zAA hT;have HL:=zAA hl;have Fj:=zAA ok;have Mk:=zAA hn
 obtain ⟨q,c,hv⟩:=hl.shape
 subst hv
 clear hT hl ok hn
 go_enter Tryz.func180,Tryz.ntmps180
 go_wp2_with (refine CT Wg rfl rfl ?_)
 intro w1 hK hB hs
 have A6:=zAA hB
 have TX:=zAA hK
 have HS1:Hid (w.heap.size<w1.heap.size):=by show _<_;omega
 clear hK hB hs
 go_wp2_with (refine CT Wg rfl rfl ?_)
 intro w2 hK hB hs
 have E4:Hid (Ao w2 w1.heap.size (x7 l 0)):=hK
 have AP:=zAA (A6.out.trans (hB.mono A6.out.size))
 have KK:Hid (Ao w2 w.heap.size [.int .i64 0,.int .i64 0,.int .i64 0]):=TX.out.of_same (hB.block _ TX.out.lt)
 have HS2:Hid (w1.heap.size<w2.heap.size):=by show _<_;omega
 clear hK hB hs A6 TX
 generalize w1.heap.size=g at *
 go_wp2_with fail
 refine (Mq w2).mono ?_
 rintro e w3 ⟨rfl,hB⟩
 have GF:Hid (Ao w3 g (x7 l 0)):=E4.out.of_same (hB.block _ E4.out.lt)
 have Ft:Hid (Ao w3 w.heap.size [.int .i64 0,.int .i64 0,.int .i64 0]):=KK.out.of_same (hB.block _ KK.out.lt)
 have BS:=zAA (AP.out.trans (hB.mono AP.out.size))
 have Fu:Hid (g<w3.heap.size):=by have:=HS2.out;have:=hB.size;show _<_;omega
 clear hB E4 KK
 go_wp2_with (refine CT TD rfl rfl ?_)
 intro w4 hK hB hs
 have yl:=zAA hK
 have KP:Hid (Ao w4 g (x7 l 0)):=GF.out.of_same (hB.block _ GF.out.lt)
 have R8:Hid (Ao w4 w.heap.size [.int .i64 0,.int .i64 0,.int .i64 0]):=Ft.out.of_same (hB.block _ Ft.out.lt)
 have CF:=zAA (BS.out.trans (hB.mono BS.out.size))
 clear hK hB hs BS GF Ft AP
 generalize w3.heap.size=b at *
 have HN:Hid (w.heap.size<g∧g<b):=⟨HS1.out,Fu.out⟩
 clear HS1 HS2 Fu
 go_wp2_with (refine Dn TD rfl _ _ rfl b rfl De _ rfl yl.out rfl rfl (by simp [De,Vu,Value.oneCell']) ?_)
 intro w5 hK hM hs
 have lJ:Hid (iy w w5 l g b 0):=⟨CF.out.trans (hM.below (CF.out.size) (fun k hk e=>by have:=HN.out;omega)),hM.AM KP.out (fun e=>by have:=HN.out;omega),hK,hM.AM R8.out (fun e=>by have:=HN.out;omega)⟩
 clear hK hM hs yl KP CF R8
 go_wp2_with fail
 go_loopw [10] (fun iv wr=>∃(i:Nat),i≤3∧iv = .int .i64 (i:Int)∧Hid (iy w wr l g b i)) (fun iv _=>3-(intOf iv).toNat)
 case atStart=>exact ⟨0,zAJ _,rfl,lJ.out⟩
 case round=>
  obtain ⟨i,hi,rfl,HI⟩:=hrel
  by_cases Aq:i<3
  ·have AF:(i:Int)<3:=by omega
   obtain ⟨e0,e1,e2⟩:=wF i Aq
   have c0:wr.cell? ⟨b,3+i*3,none⟩=some (.func (.func (u0 i)) #[] #[]):=(HI.out.enc.cell _).trans e0
   have c1:wr.cell? ⟨b,3+i*3+1,none⟩=some (.func (.func (pF i)) #[] #[]):=(HI.out.enc.cell _).trans e1
   have c2:wr.cell? ⟨b,3+i*3+2,none⟩=some (.func (.func (gF i)) #[] #[]):=(HI.out.enc.cell _).trans e2
   have EQ:=zAA (kJ i Aq)
   have sA:=qo i
   have BH:=zAA (tO l i Aq)
   clear e0 e1 e2
   generalize u0 i=sf at *
   generalize pF i=pf at *
   generalize gF i=gf at *
   go_wp2_with (refine CT x5 rfl rfl ?_)
   intro w6 hK hB hs
   have hI6:iy w w6 l g b i:=⟨HI.out.AA.trans (hB.mono HI.out.AA.size),HI.out.own.of_same (hB.block _ HI.out.own.lt),HI.out.enc.of_same (hB.block _ HI.out.enc.lt),HI.out.res.of_same (hB.block _ HI.out.res.lt)⟩
   have Yf:=zAA hK
   have MG:=zAA hI6
   have rt:Hid (b<wr.heap.size):=HI.out.enc.lt
   clear hK hB hs hI6 c0 c1 c2 HI
   generalize wr.heap.size=h6 at *
   go_wp2_with (refine Dn x5 rfl _ _ rfl h6 rfl [.func (.func sf) #[] #[],.func (.func pf) #[] #[],.func (.func gf) #[] #[]] _ rfl Yf.out rfl rfl (by simp [Value.oneCell']) ?_)
   intro w7 hK hM hs
   have Ri:Hid (iy w w7 l g b i):=⟨MG.out.AA.trans (hM.below MG.out.AA.size (fun k hk e=>by have:=rt.out;have:=HN.out;omega)),hM.AM MG.out.own (fun e=>by have:=rt.out;have:=HN.out;omega),hM.AM MG.out.enc (fun e=>by have:=rt.out;omega),hM.AM MG.out.res (fun e=>by have:=rt.out;have:=HN.out;omega)⟩
   have c0:=hK.three.1.1
   clear hK hM hs Yf MG
   go_wp2_with fail
   refine (EQ.out _ l w7 (HT.out.below Ri.out.AA) (HL.out.below Ri.out.AA) Fj.out Mk.out).mono ?_
   rintro e w8 ⟨rfl,hB⟩
   have hI8:iy w w8 l g b i:=⟨Ri.out.AA.trans (hB.mono Ri.out.AA.size),Ri.out.own.of_same (hB.block _ Ri.out.own.lt),Ri.out.enc.of_same (hB.block _ Ri.out.enc.lt),Ri.out.res.of_same (hB.block _ Ri.out.res.lt)⟩
   have bI:=zAA hI8
   clear hB hI8 Ri c0 EQ sA
   have cg:∃v,w8.cell? ⟨g,i,none⟩=some v:=by
    rw [bI.out.own.cell]
    exact ⟨_,zAC (by simpa [x7] using Aq)⟩
   obtain ⟨vg,cg⟩:=cg
   have fg:=bI.out.own.free i
   have HI9:Hid (iy w (w8.setCell ⟨g,i,none⟩ (.int .i64 (AO (i+1) l))) l g b (i+1)):=by
    have hn:=HN.out
    refine ⟨bI.out.AA.trans ((Ac.set (fun k=>k=g) w8 ⟨g,i,none⟩ _ (fun _=>rfl)).below bI.out.AA.size (fun k hk e=>by omega)),?_,bI.out.enc.Ci (by show b≠g;omega) _,bI.out.res.Ci (by show w.heap.size≠g;omega) _⟩
    have:=bI.out.own.set i (.int .i64 (AO (i+1) l))
    rwa [BH.out] at this
   clear bI BH
   generalize AO (i+1) l=S at *
   go_wp2_with fail
   go_round
   case rel=>exact ⟨i+1,by omega,by go_num,HI9.out⟩
   case measure=>simp [intOf];omega
  ·have AF:¬(i:Int)<3:=by omega
   obtain rfl:i=3:=by omega
   have h3:Ao wr g [.int .i64 (AO 1 l),.int .i64 (AO 2 l),.int .i64 (AO 3 l)]:=HI.out.own
   obtain ⟨⟨c0,c1,c2⟩,_⟩:=h3.three
   clear h3
   go_wp2_with (refine Dn Wg rfl _ _ rfl w.heap.size rfl [.int .i64 (AO 1 l),.int .i64 (AO 2 l),.int .i64 (AO 3 l)] _ rfl HI.out.res rfl rfl (by simp [Value.oneCell']) ?_)
   intro w7 hK hM hs
   have HK:=zAA hK
   have HB:Hid (Below w.heap.size w w7):=HI.out.AA.trans (hM.below HI.out.AA.size (fun k hk e=>by omega))
   clear hK hM hs
   go_wp2_with fail
   refine zCB (Di (p:=2) Wg (by kernel_rfl) _ w.heap.size rfl _ HK.out rfl) rfl ⟨rfl,HB.out⟩
theorem mo:Re Tryz.prog 239 3 3 (.int .i64 0):=Re.mk' Tryz.underlying239 rfl (by kernel_rfl) Tryz.underlying3 rfl
def Uj (l:List Nat):Nat→Nat
 | 0=>0
 | i+1=>if 0≤AO (i+1) l∧AO (i+1) l<AO (Uj l i+1) l then i else Uj l i
theorem wA (l:List Nat) (i:Nat):Uj l i≤i:=by
 induction i with
 | zero=>exact zAD _
 | succ i ih=>
  rw [Uj]
  split<;>omega
theorem ms (l:List Nat) (i:Nat) (h:i≤3):Uj l i<3:=by
 match i,h with
 | 0,_=>exact Nat.zero_lt_succ _
 | i+1,h=>
  rw [Uj]
  have:=wA l i
  split<;>omega
theorem kB (l:List Nat):0≤AO 2 l:=by
 rw [AO,show q7 2 l=true from rfl,if_pos rfl]
 omega
theorem cQ (l:List Nat):1+Uj l 3=Bl l:=by
 have h2:=kB l
 have b1:Uj l 1=0:=by rw [Uj,Uj];split<;>rfl
 have b2:Uj l 2=if AO 2 l<AO 1 l then 1 else 0:=by
  rw [Uj,b1]
  by_cases h:AO 2 l<AO 1 l
  ·rw [if_pos ⟨h2,h⟩,if_pos h]
  ·rw [if_neg (fun e=>h e.2),if_neg h]
 rw [Uj,Bl,b2]
 by_cases h:AO 2 l<AO 1 l
 ·rw [if_pos h,if_pos h]
  split<;>rfl
 ·rw [if_neg h,if_neg h]
  split<;>rfl
def x8 (l:List Nat):List Value:=[.int .i64 (AO 1 l),.int .i64 (AO 2 l),.int .i64 (AO 3 l)]
theorem g6 (l:List Nat) (i:Nat) (h:i<3):(x8 l)[i]? = some (.int .i64 (AO (i+1) l)):=by
 match i,h with
 | 0,_=>rfl
 | 1,_=>rfl
 | 2,_=>rfl
structure zc (w wr:World) (l:List Nat) (g:Nat):Prop where
 AA:Below w.heap.size w wr
 own:Ao wr g (x8 l)
theorem WG (lv:Value) (l:List Nat) (w:World) (hT:T9 w) (hl:Rd w 1 lv l.length (AL l)) (ok:∀t∈l,C4 t) (hn:l.length≤1000000) :
  Calls Tryz.prog 135 #[lv] w fun e w'=>e = .returned (.int .i64 (Bl l:Int))∧Below w.heap.size w w':=by
 have EQ:=zAA (Y3 lv l w hT hl ok hn)
 rw [← cQ]
 clear hT hl ok hn
 go_enter Tryz.func135,Tryz.ntmps135
 go_wp2_with fail
 refine EQ.out.mono ?_
 rintro e w1 ⟨rfl,hB⟩
 have A6:=zAA hB
 clear hB EQ
 go_wp2_with (refine CT Wg rfl rfl ?_)
 intro w2 hK hB hs
 have E4:=zAA hK
 have AP:=zAA (A6.out.trans (hB.mono A6.out.size))
 have HG:Hid (w.heap.size≤w1.heap.size):=A6.out.size
 clear hK hB hs A6
 generalize w1.heap.size=g at *
 go_wp2_with (refine Dn Wg rfl _ _ rfl g rfl (x8 l) _ rfl E4.out rfl rfl (by simp [x8,Value.oneCell']) ?_)
 intro w3 hK hM hs
 have Uf:Hid (zc w w3 l g):=⟨AP.out.trans (hM.below AP.out.size (fun k hk e=>by have:=HG.out;omega)),hK⟩
 obtain ⟨⟨c0,c1,c2⟩,_⟩:=hK.three
 clear hK hM hs E4 AP
 go_wp2_with fail
 clear c0 c1 c2
 go_loopw [4,10] (fun bv iv wr=>∃(i:Nat),i≤3∧iv = .int .i64 (i:Int)∧bv = .int .i64 (Uj l i:Int)∧Hid (zc w wr l g)) (fun _ iv _=>3-(intOf iv).toNat)
 case atStart=>exact ⟨0,zAJ _,rfl,rfl,Uf.out⟩
 case round=>
  obtain ⟨i,hi,rfl,rfl,HI⟩:=hrel
  by_cases Aq:i<3
  ·have AF:(i:Int)<3:=by omega
   have HV:=zAA (g6 l i Aq)
   have ZD:=ms l i hi
   have cb:wr.cell? ⟨g,Uj l i,none⟩=some (.int .i64 (AO (Uj l i+1) l)):=(HI.out.own.cell _).trans (g6 l _ ZD)
   have BH:Hid (Uj l (i+1)=if 0≤AO (i+1) l∧AO (i+1) l<AO (Uj l i+1) l then i else Uj l i):=rfl
   generalize Uj l i=B at *
   generalize AO (i+1) l=s at *
   generalize AO (B+1) l=t at *
   by_cases h0:0≤s
   ·by_cases h1:s<t
    ·go_wp2_with (refine Fr mo rfl _ _ rfl (x8 l) rfl i rfl Aq _ HV.out ?_)
     go_round
     case rel=>exact ⟨i+1,by omega,by go_num,by rw [BH.out,if_pos ⟨h0,h1⟩],HI.out⟩
     case measure=>simp [intOf];omega
    ·have h2:t≤s:=by omega
     go_wp2_with (refine Fr mo rfl _ _ rfl (x8 l) rfl i rfl Aq _ HV.out ?_)
     go_round
     case rel=>exact ⟨i+1,by omega,by go_num,by rw [BH.out,if_neg (fun e=>h1 e.2)],HI.out⟩
     case measure=>simp [intOf];omega
   ·have HS2:Hid (Uj l (i+1)=B):=by show _=_;rw [BH.out,if_neg (fun e=>h0 e.1)]
    go_wp2_with (refine Fr mo rfl _ _ rfl (x8 l) rfl i rfl Aq _ HV.out ?_)
    go_round
    case rel=>exact ⟨i+1,by omega,by go_num,by rw [HS2.out],HI.out⟩
    case measure=>simp [intOf];omega
  ·have AF:¬(i:Int)<3:=by omega
   obtain rfl:i=3:=by omega
   have ZD:=ms l 3 (zAD _)
   go_wp2_with fail
   go_ret
   refine ⟨by go_num,HI.out.AA⟩
def Kt {α:Type} (z:α) (A:List α) (i:Nat):List α:=A.take i++List.replicate (A.length-i) z
theorem JY {α:Type} (z:α) (A:List α):Kt z A 0=List.replicate A.length z:=by simp [Kt]
theorem Sv {α:Type} (z:α) (A:List α):Kt z A A.length=A:=by simp [Kt]
theorem NF {α:Type} (z:α) (A:List α) (i:Nat) (h:i≤A.length):(Kt z A i).length=A.length:=by simp [Kt];omega
theorem Vq {α:Type} (z:α) (A:List α) (i:Nat) (x:α) (h:A[i]? = some x):(Kt z A i).set i x=Kt z A (i+1):=by
 have hi:i<A.length:=(zAE.1 h).1
 have e:A.length-i=(A.length-(i+1))+1:=by omega
 rw [Kt,Kt,e,List.replicate_succ,zAL,h]
 rw [zDQ _ _ (by simp;omega)]
 simp [zFW (zEQ hi)]
theorem nR (l:List Int) (i:Nat) (x:Int):(A1 l).set i (.int .i64 x)=A1 (l.set i x):=by simp [A1,zGO]
theorem kU (l:List Nat) (i x:Nat):(AL l).set i (.int .u64 (x:Int))=AL (l.set i x):=by simp [AL,zGO]
structure Nt (w wr:World) (l:List (Int × Nat)) (bt bv i:Nat):Prop where
 AA:Below w.heap.size w wr
 ts:Ao wr bt (A1 (Kt 0 (BN l) i))
 vs:Ao wr bv (AL (Kt 0 (AQ l) i))
theorem Nt.step {w wr:World} {l:List (Int × Nat)} {bt bv i:Nat} {t:Int} {x:Nat} (h:Nt w wr l bt bv i) (hd:bt≠bv∧w.heap.size≤bt∧w.heap.size≤bv) (ht:(BN l)[i]? = some t) (hx:(AQ l)[i]? = some x) :
  Nt w ((wr.setCell ⟨bt,i,none⟩ (.int .i64 t)).setCell ⟨bv,i,none⟩ (.int .u64 (x:Int))).drew l bt bv (i+1):=by
 have m1:=Ac.set (fun k=>k=bt) wr ⟨bt,i,none⟩ (.int .i64 t) (fun _=>rfl)
 have m2:=Ac.set (fun k=>k=bv) (wr.setCell ⟨bt,i,none⟩ (.int .i64 t)) ⟨bv,i,none⟩ (.int .u64 (x:Int)) (fun _=>rfl)
 have k1:=h.ts.set i (.int .i64 t)
 have k2:=(h.vs.Ci (a:=⟨bt,i,none⟩) (fun e=>hd.1 e.symm) (.int .i64 t)).set i (.int .u64 (x:Int))
 rw [nR,Vq _ _ _ _ ht] at k1
 rw [kU,Vq _ _ _ _ hx] at k2
 refine ⟨?_,k1.Ci (fun e=>hd.1 e) _,k2⟩
 have b1:=m1.below h.AA.size (fun k hk e=>by omega)
 have b2:=m2.below (zAW h.AA.size m1.size) (fun k hk e=>by omega)
 exact ((h.AA.trans b1).trans b2).trans ⟨rfl,rfl,rfl,zAD _,fun _ _=>rfl⟩
theorem qn:Pz Tryz.prog 110 2 [.int .i64 0,.int .u64 0]:=Pz.mk' Tryz.underlying110 rfl (by kernel_rfl) rfl
theorem Ao.twoS {w:World} {g:Nat} {a b:Value} (h:Ao w g [a,b]):(w.cell? ⟨g,0,none⟩=some a∧w.cell? ⟨g,1,none⟩=some b):=⟨by rw [h.cell];rfl,by rw [h.cell];rfl⟩
theorem Em (l:List (Int × Nat)):(BN l).length=l.length:=by simp [BN]
theorem DI (l:List (Int × Nat)):(AQ l).length=l.length:=by simp [AQ]
theorem VA (n:Nat):A1 (List.replicate n 0)=List.replicate n (.int .i64 0):=by simp [A1]
theorem Wm (n:Nat):AL (List.replicate n 0)=List.replicate n (.int .u64 0):=by simp [AL]
theorem Z9 (z:Value) (n:Nat):(madeCells #[z] n).toList=List.replicate n z:=toList_madeCells_one z n
theorem ff (w:World) (n:Nat) (l:List (Int × Nat)) (h:l.length=n):Nt w ((w.alloc (.cells (madeCells #[.int .i64 0] n) 2)).alloc (.cells (madeCells #[.int .u64 0] n) 81)).drew l w.heap.size (w.heap.size+1) 0:=by
 have h1:=(Ao.new w (madeCells #[.int .i64 0] n) 2).alloc (.cells (madeCells #[.int .u64 0] n) 81)
 have h2:=Ao.new (w.alloc (.cells (madeCells #[.int .i64 0] n) 2)) (madeCells #[.int .u64 0] n) 81
 rw [Z9] at h1 h2
 refine ⟨((((zAM _ w).alloc (zAD _) _).alloc (by simp) _).trans ⟨rfl,rfl,rfl,zAD _,fun _ _=>rfl⟩),?_,?_⟩
 ·rw [JY,Em,h,VA];exact h1
 ·rw [JY,DI,h,Wm]
  have e:(w.alloc (.cells (madeCells #[.int .i64 0] n) 2)).heap.size=w.heap.size+1:=by simp
  rw [e] at h2
  exact h2
theorem fh (w:World) (n:Nat) (l:List (Int × Nat)) (h:l.length=n):Nt w ((w.alloc (.cells (madeCells #[.int .u64 0] n) 81)).alloc (.cells (madeCells #[.int .i64 0] n) 2)).drew l (w.heap.size+1) w.heap.size 0:=by
 have h1:=(Ao.new w (madeCells #[.int .u64 0] n) 81).alloc (.cells (madeCells #[.int .i64 0] n) 2)
 have h2:=Ao.new (w.alloc (.cells (madeCells #[.int .u64 0] n) 81)) (madeCells #[.int .i64 0] n) 2
 rw [Z9] at h1 h2
 refine ⟨((((zAM _ w).alloc (zAD _) _).alloc (by simp) _).trans ⟨rfl,rfl,rfl,zAD _,fun _ _=>rfl⟩),?_,?_⟩
 ·rw [JY,Em,h,VA]
  have e:(w.alloc (.cells (madeCells #[.int .u64 0] n) 81)).heap.size=w.heap.size+1:=by simp
  rw [e] at h2
  exact h2
 ·rw [JY,DI,h,Wm];exact h1
theorem Sj (lv:Value) (l:List (Int × Nat)) (w:World) (hl:Rd w 2 lv l.length (Al l)) (hn:l.length≤1000000) :
  Calls Tryz.prog 134 #[lv] w fun e w'=>∃tv vv,e = .returned (.tuple #[tv,vv])∧Rd w' 1 tv l.length (A1 (BN l))∧Rd w' 1 vv l.length (AL (AQ l))∧(∀k,tv.ownBlock=some k→w.heap.size≤k)∧(∀k,vv.ownBlock=some k→w.heap.size≤k)∧Below w.heap.size w w':=by
 have HL:=zAA hl;have HN:=zAA hn
 obtain ⟨pl,cl,hv⟩:=hl.shape
 subst hv
 obtain ⟨n,hn'⟩:∃n,l.length=n:=⟨_,rfl⟩
 have DP:=zAA hn'
 rw [hn'] at HL HN ⊢
 have hn2:n≤1000000:=by rw [← hn'];exact hn
 have hmk1:=run_make_row' (P:=Tryz.prog) 112 2 (.int .i64 0) 8 Tryz.underlying112 Tryz.infoI64 rfl .i64 .i64 n (by omega) (by omega)
 have Xj:=run_make_row' (P:=Tryz.prog) 113 81 (.int .u64 0) 8 Tryz.underlying113 Tryz.infoU64 rfl .i64 .i64 n (by omega) (by omega)
 clear hl hn hn' hn2
 go_enter Tryz.func134,Tryz.ntmps134
 go_wp2_with fail
 go_upto_region 1 with fail
 go_cut [4,5] from 8 to 13 (fun tv vv wx=>∃bt bv,tv = .slice (some ⟨bt,0,none⟩) n n∧vv = .slice (some ⟨bv,0,none⟩) n n∧Hid (Nt w wx l bt bv 0∧bt≠bv∧w.heap.size≤bt∧w.heap.size≤bv))
 case first=>
  go_region
  ·go_wp2_with fail
   go_meet
   exact ⟨_,_,rfl,rfl,ff w n l DP.out,by omega,by omega,by omega⟩
  ·go_wp2_with fail
   go_meet
   exact ⟨_,_,rfl,rfl,fh w n l DP.out,by omega,by omega,by omega⟩
 case rest=>
 obtain ⟨bt,bv,rfl,rfl,Vd⟩:=hcut
 clear hmk1 Xj
 have HD:Hid (bt≠bv∧w.heap.size≤bt∧w.heap.size≤bv):=Vd.out.2
 go_wp2_with fail
 go_loopw [16] (fun iv wr=>∃(i:Nat),i≤n∧iv = .int .i64 (i:Int)∧Hid (Nt w wr l bt bv i)) (fun iv _=>n-(intOf iv).toNat)
 case atStart=>exact ⟨0,zAJ _,rfl,Vd.out.1⟩
 case round=>
  obtain ⟨i,hi,rfl,HI⟩:=hrel
  clear Vd
  have bQ:(i:Int)≤1000000:=by have:=HN.out;omega
  by_cases Aq:i<n
  ·have AF:(i:Int)<(n:Int):=by omega
   obtain ⟨t,x,xI⟩:∃t x,l[i]? = some (t,x):=⟨_,_,zAC (by rw [DP.out];exact Aq)⟩
   obtain ⟨g1,g2⟩:=Pe l i t x xI
   obtain ⟨b,off,c',e,T3,KG,Aj⟩:=(HL.out.below HI.out.AA).at (fun e=>by rw [e] at g1;cases g1)
   simp only [zAN] at e
   obtain ⟨rfl,_,rfl⟩:=e
   have h1:=Aj _ _ g1
   have h2:=Aj _ _ g2
   rw [← zDH] at h2
   have HT:Hid ((BN l)[i]? = some t):=by show _=_;simp [BN,xI]
   have HV:Hid ((AQ l)[i]? = some x):=by show _=_;simp [AQ,xI]
   clear Aj T3 KG g1 g2 xI
   go_wp2_with (refine CT qn rfl rfl ?_)
   intro w6 hK hB hs
   have Yf:=zAA hK
   have MG:Hid (Nt w w6 l bt bv i):=⟨HI.out.AA.trans (hB.mono HI.out.AA.size),HI.out.ts.of_same (hB.block _ HI.out.ts.lt),HI.out.vs.of_same (hB.block _ HI.out.vs.lt)⟩
   have HH:Hid (bt<wr.heap.size∧bv<wr.heap.size∧w.heap.size≤wr.heap.size):=⟨HI.out.ts.lt,HI.out.vs.lt,HI.out.AA.size⟩
   clear hK hB hs HI h1 h2
   generalize wr.heap.size=h6 at *
   go_wp2_with (refine Dn qn rfl _ _ rfl h6 rfl [.int .i64 t,.int .u64 (x:Int)] _ rfl Yf.out rfl rfl (by simp [Value.oneCell']) ?_)
   intro w7 hK hM hs
   have Ri:Hid (Nt w w7 l bt bv i):=⟨MG.out.AA.trans (hM.below MG.out.AA.size (fun k hk e=>by have:=HH.out;omega)),hM.AM MG.out.ts (fun e=>by have:=HH.out;omega),hM.AM MG.out.vs (fun e=>by have:=HH.out;omega)⟩
   obtain ⟨c0,c1⟩:=hK.twoS
   clear hK hM hs Yf MG
   have Lf:bt≠bv:=HD.out.1
   have hn2:h6≠bt:=by have:=HH.out;omega
   have hn3:h6≠bv:=by have:=HH.out;omega
   obtain ⟨vt,ct⟩:∃v,w7.cell? ⟨bt,i,none⟩=some v:=by
    rw [Ri.out.ts.cell]
    exact ⟨_,zAC (by rw [Ce,NF _ _ _ (by rw [Em,DP.out];exact hi),Em,DP.out];exact Aq)⟩
   obtain ⟨vv,cv⟩:∃v,w7.cell? ⟨bv,i,none⟩=some v:=by
    rw [Ri.out.vs.cell]
    exact ⟨_,zAC (by rw [BP,NF _ _ _ (by rw [DI,DP.out];exact hi),DI,DP.out];exact Aq)⟩
   have ft:=Ri.out.ts.free i
   have fv:=Ri.out.vs.free i
   go_wp2_with fail
   go_region
   go_wp2_with fail
   go_round
   case rel=>
    exact ⟨i+1,by omega,by go_num,Ri.out.step HD.out HT.out HV.out⟩
   case measure=>simp [intOf];omega
  ·have AF:¬(i:Int)<(n:Int):=by omega
   obtain rfl:i=n:=by omega
   go_wp2_with fail
   go_ret2
   have ht:=HI.out.ts
   have hv:=HI.out.vs
   rw [show i=(BN l).length by rw [Em,DP.out],Sv] at ht
   rw [show i=(AQ l).length by rw [DI,DP.out],Sv] at hv
   exact ⟨_,_,rfl,Rd.FQ ht (by rw [Ce,Em,DP.out];omega) (by have:=HN.out;unfold maxLen;omega),Rd.FQ hv (by rw [BP,DI,DP.out];omega) (by have:=HN.out;unfold maxLen;omega),(fun k e=>by cases e;exact HD.out.2.1),(fun k e=>by cases e;exact HD.out.2.2),HI.out.AA⟩
section
section
variable {P:Program} {ops:Array Oper} {rest:List Oper} {o:Oper} {a:Act} {w:World} {Q:Exit→Act→World→Prop} {t e:TypeId} {n N:Nat} {zs:List Value}
theorem U9 (hA:Pz P e n zs) (ht:P.underlying t=some (.array N e)) (BT:o.guard=none) (x y:Operand) (ho:o.op = .index t x y) (cs:List Value) (hx:a.eval x = .agg cs.toArray) (i:Nat) (hy:a.eval y = .int .i64 (i:Int)) (hi:i<N) (sub:List Value) (SJ:(cs.drop (i*n)).take n=sub)
  (h:wpList P ops Q rest (a.put o.dst (.agg sub.toArray)) w):wpList P ops Q (o::rest) a w:=by
 obtain ⟨ie,hie,_,hs⟩:=hA.hi
 obtain ⟨d,hd,hmany⟩:=hA.ht
 refine zGQ BT fun K hK=>?_
 have hag:(isAgg e).run P w = .ok true w:=by
  unfold isAgg
  rw [zCK,zDG hd w]
  cases d<;>simp_all [DN]
 have hp:(part e cs.toArray (i*n)).run P w = .ok (.agg sub.toArray) w:=by
  unfold part
  subst SJ
  simp [zCK,hag,sizeOf,typeInfo,hie,hs,zFG]
 have hr:(Instr.index t (.agg cs.toArray) (.int .i64 (i:Int))).run P w = .ok (.agg sub.toArray) w:=by
  have Ct:((i:Int)<(N:Int)):=by omega
  simp [Instr.index,asIntOf,zCK,zDG ht w,sizeOf,typeInfo,hie,hs,hp,hi]
 unfold Oper.wp execOp
 simp only [ho,hx,hy,zCK,hr,zCG]
 exact hK _ _ h
theorem U7 {fs} {ft:TypeId} {d:TypeDesc} (ht:P.underlying t=some (.struct fs)) (k off:Nat) (hf:(fs[k]?).map (fun f=>(f.type,f.offset))=some (ft,off)) (hd:P.underlying ft=some d) (hm:DN d=false)
  (BT:o.guard=none) (x:Operand) (ho:o.op = .field t x k) (cs:List Value) (hx:a.eval x = .agg cs.toArray) (v:Value) (hv:cs[off]? = some v)
  (h:wpList P ops Q rest (a.put o.dst v) w):wpList P ops Q (o::rest) a w:=by
 refine zGQ BT fun K hK=>?_
 obtain ⟨f,gr,jk⟩:=zDN.1 hf
 simp only [zHD] at jk
 obtain ⟨jk,hf3⟩:=jk
 have hag:(isAgg ft).run P w = .ok false w:=by
  unfold isAgg
  rw [zCK,zDG hd w]
  cases d<;>simp_all [DN]
 have hr:(Instr.field t (.agg cs.toArray) k).run P w = .ok v w:=by
  have hp:(part ft cs.toArray off).run P w = .ok v w:=by
   unfold part
   simp [zCK,hag,hv]
  simp [Instr.field,zCK,zDG ht w,gr,jk,hf3,asAgg,hp]
 unfold Oper.wp execOp
 simp only [ho,hx,zCK,hr,zCG]
 exact hK _ _ h
end
theorem se (tag:Nat) (h:1≤tag∧tag≤3):(De.drop (tag*3)).take 3=[Vu (u0 (tag-1)),Vu (pF (tag-1)),Vu (gF (tag-1))]:=by
 match tag,h with
 | 1,_=>rfl
 | 2,_=>rfl
 | 3,_=>rfl
theorem tj (i:Nat):∀(args:Array Value) (w:World),(callFunc (pF i) args).run Tryz.prog w = .ok (.enter (pF i) args) w:=by
 intro args w
 match i with
 | 0=>rfl
 | 1=>rfl
 | _+2=>rfl
theorem tk (tag:Nat) (h:1≤tag∧tag≤3):fT tag (pF (tag-1)):=by
 match tag,h with
 | 1,_=>exact puts1
 | 2,_=>exact puts2
 | 3,_=>exact puts3
theorem wE : Tryz.prog.underlying 197 = some (.array 4 196):=Tryz.underlying197
theorem VQ (x:Nat) (h:x<256) (bits:List Bool):Bi (Aa x 8++bits)=x::Bi bits:=by
 refine TL (XF _) (fun y hy=>?_) ?_
 ·rcases zAS.1 hy with rfl | hy
  ·exact h
  ·exact XF _ y hy
 ·rw [Rc,GW,Rc,zAK]
  have e:8*(((Aa x 8++bits).length+7) / 8)-(Aa x 8++bits).length=8*((bits.length+7) / 8)-bits.length:=by
   rw [zAB,Ae]
   omega
  rw [e]
structure YA (w wr:World) (B p:Nat) (v:Value) (bits:List Bool) (tv vv:Value) (ts:List Int) (xs:List Nat):Prop where
 AA:Below w.heap.size w wr
 wi:Ay wr p v bits
 tr:Rd wr 1 tv ts.length (A1 ts)
 vr:Rd wr 1 vv xs.length (AL xs)
 tb:T9 wr
 low:∀k,v.ownBlock=some k→B≤k
theorem YA.put {w wr wr':World} {B p:Nat} {v:Value} {bits out:List Bool} {tv vv:Value} {ts:List Int} {xs:List Nat} (h:YA w wr B p v bits tv vv ts xs) (hB:w.heap.size≤B∧G9≤B∧B≤p∧B≤wr.heap.size) (ht:∀k,tv.ownBlock=some k→k<B) (hv:∀k,vv.ownBlock=some k→k<B)
  (hp:Cy p v out wr wr'):∃v',YA w wr' B p v' out tv vv ts xs∧B≤wr'.heap.size:=by
 obtain ⟨v',h1,h2⟩:=hp
 have hS:∀k,k<B→¬(k=p∨v.ownBlock=some k):=fun k hk e=>by
  rcases e with e | e
  ·omega
  ·have:=h.low k e;omega
 have Ed:=h2.Ai.size
 exact ⟨v',⟨h.AA.trans (h2.Ai.below h.AA.size (fun k hk=>hS k (by omega))),h1,h.tr.Ai h2.Ai (fun k hk=>hS k (ht k hk)),h.vr.Ai h2.Ai (fun k hk=>hS k (hv k hk)),h.tb.keeps h2.Ai (fun k hk=>hS k (by omega)),fun k hk=>by
  rcases h2.fresh k hk with e | e
  ·exact h.low k e
  ·omega⟩,by omega⟩
theorem Um (lv:Value) (l:List (Int × Nat)) (w:World) (hT:T9 w) (hl:Rd w 2 lv l.length (Al l)) (ok:∀s∈l,EK s) (hn:l.length≤1000000) :
  Calls Tryz.prog 97 #[lv] w fun e w'=>∃r,e = .returned (.tuple #[r,.int .i64 ((B0 l).2:Int)])∧Rd w' 1 r (B0 l).1.length (B9 (B0 l).1)∧(∀k,r.ownBlock=some k→w.heap.size≤k)∧Below w.heap.size w w':=by
 have HT:=zAA hT
 have HL:=zAA hl;have HO:=zAA ok
 obtain ⟨pl,cl,hv⟩:=hl.shape
 subst hv
 have lT:=zAA (Sj _ l w hl hn)
 clear hl ok hT
 by_cases h0:l.length=0
 ·have hz:(l.length:Int)=0:=by omega
  have HE:Hid (B0 l=([],21)):=by show _=_;rw [B0,if_pos (zAI h0)]
  clear h0 hn lT
  go_enter Tryz.func97,Tryz.ntmps97
  go_wp2_with fail
  go_ret2
  rw [HE.out]
  exact ⟨_,rfl,Rd.nil _ _,fun k hk=>(by cases hk),zAM _ _⟩
 ·have hz:¬(l.length:Int)=0:=by omega
  have hzb:((l.length:Int) == 0)=false:=by rw [zAQ];exact hz
  have BC:l≠[]:=fun e=>h0 (by rw [e];rfl)
  by_cases W8:120<l.length
  ·have m5:(120:Int)<(l.length:Int):=by omega
   have HE:Hid (B0 l=([],7)):=by show _=_;rw [B0,if_neg BC,if_pos W8]
   clear h0 hn lT BC W8
   go_enter Tryz.func97,Tryz.ntmps97
   go_wp2_with fail
   go_ret2
   rw [HE.out]
   exact ⟨_,rfl,Rd.nil _ _,fun k hk=>(by cases hk),zAM _ _⟩
  ·have m5:¬(120:Int)<(l.length:Int):=by omega
   have HE:Hid (B0 l=(Bl (AQ l)::(l.length-1)::Bi (FL (BN l)++Fz (Bl (AQ l)) (AQ l)),0)):=by show _=_;rw [B0,if_neg BC,if_neg W8]
   have HN:Hid (0<l.length∧l.length≤120):=by show _∧_;omega
   have vX:Hid (∀t∈BN l,jC t):=fun t ht=>by
    obtain ⟨s,hs,rfl⟩:=zBU.1 ht
    exact (HO.out s hs).1
   have zweA:Hid (∀x∈AQ l,C4 x):=fun x hx=>by
    obtain ⟨s,hs,rfl⟩:=zBU.1 hx
    exact (HO.out s hs).2
   have l6:Hid ((BN l).length=l.length):=Em l
   have RQ:Hid ((AQ l).length=l.length):=DI l
   have Fj:=zAA (iI (AQ l))
   have gB:(l.length:Int)-1=((l.length-1:Nat):Int):=by omega
   have EC:IntKind.u64.wrap ((l.length:Int)-1)=((l.length-1:Nat):Int):=by rw [zBB];omega
   clear h0 hn BC W8
   generalize BN l=ts at *
   generalize AQ l=xs at *
   go_enter Tryz.func97,Tryz.ntmps97
   go_wp2_with fail
   refine lT.out.mono ?_
   rintro e w1 ⟨tv,vv,rfl,Xl,DA,htk,hvk,hB⟩
   have A6:=zAA hB
   rw [← l6.out] at Xl
   rw [← RQ.out] at DA
   have JL:=zAA Xl
   have vY:=zAA DA
   have rG:=zAA (HT.out.below hB)
   have yC:Hid (∀k,tv.ownBlock=some k→k<w1.heap.size):=Xl.lt (fun e=>by have:=congrArg List.length e;rw [Ce,l6.out,zBG] at this;have:=HN.out;omega)
   have rI:Hid (∀k,vv.ownBlock=some k→k<w1.heap.size):=DA.lt (fun e=>by have:=congrArg List.length e;rw [BP,RQ.out,zBG] at this;have:=HN.out;omega)
   obtain ⟨pt,ct,he⟩:=Xl.shape
   subst he
   obtain ⟨pv,cv,he⟩:=DA.shape
   subst he
   clear Xl DA hB lT htk hvk
   go_wp2_with fail
   refine (WG _ xs w1 rG.out vY.out zweA.out (by rw [RQ.out];have:=HN.out;omega)).mono ?_
   rintro e w2 ⟨rfl,hB⟩
   have AP:=zAA (A6.out.trans (hB.mono A6.out.size))
   have GA:=zAA (JL.out.below hB)
   have rH:=zAA (vY.out.below hB)
   have HTb2:=zAA (rG.out.below hB)
   have HBB:Hid (w.heap.size≤w1.heap.size∧G9≤w1.heap.size∧w1.heap.size≤w2.heap.size):=⟨A6.out.size,rG.out.low,hB.size⟩
   have ub:Hid (1≤Bl xs∧Bl xs≤3):=by show _∧_;have:=MQ xs;omega
   clear hB A6 JL vY rG
   generalize Bl xs=tag at *
   generalize w1.heap.size=B at *
   have Cg:IntKind.u64.wrap (tag:Int)=(tag:Int):=by rw [zBB];have:=ub.out;omega
   go_wp2_with fail
   refine (d7 w2).mono ?_
   rintro e w3 ⟨rfl,hW,hB⟩
   have Uf:Hid (YA w w3 B w2.heap.size (.slice none 0 0) [] (.slice pt ts.length ct) (.slice pv xs.length cv) ts xs):=⟨AP.out.trans (hB.mono AP.out.size),hW,GA.out.below hB,rH.out.below hB,HTb2.out.below hB,fun k e=>by cases e⟩
   have vP:Hid (w.heap.size≤B∧G9≤B∧B≤w2.heap.size∧B≤w3.heap.size):=by have:=HBB.out;have:=hB.size;show _∧_;omega
   clear hW hB AP GA rH HTb2 HBB
   generalize w2.heap.size=p at *
   go_wp2_with fail
   refine (KA p _ [] tag 8 w3 Uf.out.wi (by omega) (by simp)).mono ?_
   rintro e w4 ⟨rfl,hP⟩
   obtain ⟨v4,hI,hb⟩:=Uf.out.put vP.out yC.out rI.out hP
   have bH:=zAA hI
   have HP4:Hid (w.heap.size≤B∧G9≤B∧B≤p∧B≤w4.heap.size):=by have:=vP.out;show _∧_;omega
   clear hP hI hb Uf vP
   go_wp2_with fail
   refine (KA p _ ([]++Aa tag 8) (l.length-1) 8 w4 bH.out.wi (by omega) (by rw [zBK,Ae];omega)).mono ?_
   rintro e w5 ⟨rfl,hP⟩
   obtain ⟨v5,hI,hb⟩:=bH.out.put HP4.out yC.out rI.out hP
   have lJ:=zAA hI
   have yz:Hid (w.heap.size≤B∧G9≤B∧B≤p∧B≤w5.heap.size):=by have:=HP4.out;show _∧_;omega
   have bE:Hid (∀k,v5.ownBlock=some k→G9≤k):=fun k hk=>by have:=lJ.out.low k hk;have:=yz.out;omega
   have bW:=zAA (j6 p v5 _ _ ts w5 lJ.out.tb lJ.out.wi (by have:=yz.out;omega) bE.out lJ.out.tr vX.out (fun _ k hk=>⟨by have:=yC.out k hk;have:=yz.out;omega,fun e=>by have:=yC.out k hk;have:=lJ.out.low k e;omega⟩) (by rw [zAB,zAB,Ae,Ae,l6.out];have:=HN.out;simp;omega))
   clear hP hI hb bH HP4 Cg EC gB
   go_wp2_with fail
   refine bW.out.mono ?_
   rintro e w6 ⟨rfl,hP⟩
   obtain ⟨v6,hI,hb⟩:=lJ.out.put yz.out yC.out rI.out hP
   have MG:=zAA hI
   have HP6:Hid (w.heap.size≤B∧G9≤B∧B≤p∧B≤w6.heap.size):=by have:=yz.out;show _∧_;omega
   clear hP hI hb lJ yz bE bW
   go_wp2_with fail
   refine (Mq w6).mono ?_
   rintro e w7 ⟨rfl,hB⟩
   have Ri:Hid (YA w w7 B p v6 _ (.slice pt ts.length ct) (.slice pv xs.length cv) ts xs):=⟨MG.out.AA.trans (hB.mono MG.out.AA.size),MG.out.wi.below hB,MG.out.tr.below hB,MG.out.vr.below hB,MG.out.tb.below hB,MG.out.low⟩
   have HP7:Hid (w.heap.size≤B∧G9≤B∧B≤p∧B≤w7.heap.size):=by have:=HP6.out;have:=hB.size;show _∧_;omega
   have HA7:Hid (∀k,v6.ownBlock=some k→G9≤k):=fun k hk=>by have:=Ri.out.low k hk;have:=HP7.out;omega
   have fK:Hid ((FL ts).length≤8160):=by show _≤_;have:=NB ts;have:=l6.out;have:=HN.out;omega
   have bW:=zAA (tk tag ub.out p v6 _ _ xs w7 Ri.out.tb Ri.out.wi (by have:=HP7.out;omega) HA7.out Ri.out.vr zweA.out (fun _ k hk=>⟨by have:=rI.out k hk;have:=HP7.out;omega,fun e=>by have:=rI.out k hk;have:=Ri.out.low k e;omega⟩) (by rw [RQ.out];have:=HN.out;omega) (by rw [zAB,zAB,zAB,Ae,Ae,RQ.out];have:=HN.out;have:=fK.out;simp;omega))
   have sA:=tj (tag-1)
   have HSub:=zAA (se tag ub.out)
   clear hB MG HP6 HA7
   generalize u0 (tag-1)=sf at *
   generalize pF (tag-1)=pf at *
   generalize gF (tag-1)=gf at *
   go_wp2_with (first
    | refine U9 x5 wE rfl _ _ rfl De rfl tag rfl (by have:=ub.out;omega) _ HSub.out ?_
    | refine U7 Tryz.underlying196 1 1 rfl Tryz.underlying193 rfl rfl _ rfl [Vu sf,Vu pf,Vu gf] rfl (.func (.func pf) #[] #[]) rfl ?_)
   refine bW.out.mono ?_
   rintro e w8 ⟨rfl,hP⟩
   obtain ⟨v8,hI,hb⟩:=Ri.out.put HP7.out yC.out rI.out hP
   have bI:=zAA hI
   clear hP hI hb Ri HP7 bW sA HSub
   have Yq:([]++Aa tag 8++Aa (l.length-1) 8++FL ts++Fz tag xs).length≤1125899906842624:=by
    rw [zAB,zAB,zAB,zAB,Ae,Ae]
    have:=LK tag xs;have:=fK.out;have:=RQ.out;have:=HN.out
    simp;omega
   have HPk:Hid (Bi ([]++Aa tag 8++Aa (l.length-1) 8++FL ts++Fz tag xs)=tag::(l.length-1)::Bi (FL ts++Fz tag xs)):=by
    show _=_
    rw [zBK,zAK,zAK,VQ _ (by have:=ub.out;omega),VQ _ (by have:=HN.out;omega)]
   go_wp2_with fail
   refine (yh p v8 _ w8 bI.out.wi Yq).mono ?_
   rintro e w9 ⟨r,rfl,hM⟩
   have HR:Hid (Rd w9 1 r (tag::(l.length-1)::Bi (FL ts++Fz tag xs)).length (B9 (tag::(l.length-1)::Bi (FL ts++Fz tag xs)))):=by
    have:=Rd.Ad hM.1
    rw [HPk.out] at this
    exact this
   have HF9:Hid (∀k,r.ownBlock=some k→w.heap.size≤k):=fun k hk=>zAW bI.out.AA.size (hM.1.lt k hk).1
   have vj:Hid (Below w.heap.size w w9):=bI.out.AA.trans (hM.2.mono bI.out.AA.size)
   obtain ⟨p8,c8,MY⟩:=HR.out.shape
   subst MY
   clear hM HPk Yq bI
   go_wp2_with fail
   go_ret2
   rw [HE.out]
   exact ⟨_,rfl,HR.out,HF9.out,vj.out⟩
end
end Go.Proofs.YtdcgbgecbeegmaaGreatDoor
end
