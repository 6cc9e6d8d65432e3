/- Texts 35. -/
import Derived.Test.YtdcgbgecbeegmaaGreatDoorMgSA
import Derived.Test.YtdcgbgecbeegmaaGreatDoorMgS34
set_option linter.unusedVariables false
set_option linter.unusedSimpArgs false
set_option maxHeartbeats 400000000
set_option maxRecDepth 100000
section
namespace Go.Proofs.YtdcgbgecbeegmaaGreatDoor
open Go Go.RowKit
theorem qe (u:Nat) (hu:u<18446744073709551616) (w:World) :
  Calls Tryz.prog 268 #[.int .u64 (u:Int),.int .i64 0] w fun e w'=>e = .returned (.int .i64 (DG (u % 2 ^ 0) 0))∧w=w':=by
 have HE:Hid (wrap64 (IntKind.u64.wrap ((u:Int)*18446744073709551616)) / 18446744073709551616=DG (u % 2 ^ 0) 0):=by
  show _=_
  simp only [DG,zBB,Qo]
  omega
 go_enter Tryz.func268,Tryz.ntmps268
 go_wp2_with fail
 go_ret
 exact ⟨by rw [← HE.out];rfl,rfl⟩
theorem qf (u:Nat) (hu:u<18446744073709551616) (w:World) :
  Calls Tryz.prog 268 #[.int .u64 (u:Int),.int .i64 7] w fun e w'=>e = .returned (.int .i64 (DG (u % 2 ^ 7) 7))∧w=w':=by
 have HE:Hid (wrap64 (IntKind.u64.wrap ((u:Int)*144115188075855872)) / 144115188075855872=DG (u % 2 ^ 7) 7):=by
  show _=_
  simp only [DG,zBB,Qo]
  omega
 go_enter Tryz.func268,Tryz.ntmps268
 go_wp2_with fail
 go_ret
 exact ⟨by rw [← HE.out];rfl,rfl⟩
theorem ky (u:Nat) (hu:u<18446744073709551616) (w:World) :
  Calls Tryz.prog 268 #[.int .u64 (u:Int),.int .i64 12] w fun e w'=>e = .returned (.int .i64 (DG (u % 2 ^ 12) 12))∧w=w':=by
 have HE:Hid (wrap64 (IntKind.u64.wrap ((u:Int)*4503599627370496)) / 4503599627370496=DG (u % 2 ^ 12) 12):=by
  show _=_
  simp only [DG,zBB,Qo]
  omega
 go_enter Tryz.func268,Tryz.ntmps268
 go_wp2_with fail
 go_ret
 exact ⟨by rw [← HE.out];rfl,rfl⟩
theorem kz (u:Nat) (hu:u<18446744073709551616) (w:World) :
  Calls Tryz.prog 268 #[.int .u64 (u:Int),.int .i64 32] w fun e w'=>e = .returned (.int .i64 (DG (u % 2 ^ 32) 32))∧w=w':=by
 have HE:Hid (wrap64 (IntKind.u64.wrap ((u:Int)*4294967296)) / 4294967296=DG (u % 2 ^ 32) 32):=by
  show _=_
  simp only [DG,zBB,Qo]
  omega
 go_enter Tryz.func268,Tryz.ntmps268
 go_wp2_with fail
 go_ret
 exact ⟨by rw [← HE.out];rfl,rfl⟩
theorem kA (u:Nat) (hu:u<18446744073709551616) (w:World) :
  Calls Tryz.prog 268 #[.int .u64 (u:Int),.int .i64 64] w fun e w'=>e = .returned (.int .i64 (DG (u % 2 ^ 64) 64))∧w=w':=by
 have HE:Hid (wrap64 (u:Int)=DG (u % 2 ^ 64) 64):=by
  show _=_
  simp only [DG,Qo]
  omega
 go_enter Tryz.func268,Tryz.ntmps268
 go_wp2_with fail
 go_ret
 exact ⟨by rw [← HE.out];rfl,rfl⟩
theorem fj (u k:Nat) (hk:k≤4) (hu:u<18446744073709551616) (w:World) :
  Calls Tryz.prog 268 #[.int .u64 (u:Int),.int .i64 (Bw k:Int)] w fun e w'=>e = .returned (.int .i64 (DG (u % 2 ^ Bw k) (Bw k)))∧w=w':=by
 match k,hk with
 | 0,_=>exact qe u hu w
 | 1,_=>exact qf u hu w
 | 2,_=>exact ky u hu w
 | 3,_=>exact kz u hu w
 | 4,_=>exact kA u hu w
def QV:Nat→Nat
 | 0=>0
 | 1=>2
 | 2=>6
 | 3=>14
 | _=>15
def D4:Nat→Nat
 | 0=>1
 | 1=>2
 | 2=>3
 | _=>4
def Jt (k:Nat):List Value:=[.int .u64 (QV k:Int),.int .i64 (D4 k:Int),.int .i64 (Bw k:Int)]
def mV (k:Nat):Value:=.agg (Jt k).toArray
theorem jO {k:Nat} (hk:k≤4):Aa (QV k) (D4 k)=ZH k:=by
 match k,hk with
 | 0,_=>rfl
 | 1,_=>rfl
 | 2,_=>rfl
 | 3,_=>rfl
 | 4,_=>rfl
theorem dU (k:Nat):D4 k≤4:=by unfold D4;split<;>omega
theorem mO {x:Int} {k:Nat} (hk:k≤3):(DG (Nj x % 2 ^ Bw k) (Bw k)=x)↔AT x≤k:=by
 match k,hk with
 | 0,_=>
  simp only [Bw,DG,Nj,AT]
  repeat' split
  all_goals omega
 | 1,_=>
  simp only [Bw,DG,Nj,AT]
  repeat' split
  all_goals omega
 | 2,_=>
  simp only [Bw,DG,Nj,AT]
  repeat' split
  all_goals omega
 | 3,_=>
  simp only [Bw,DG,Nj,AT]
  repeat' split
  all_goals omega
theorem XI (x:Int) (k:Nat) (hk:k≤3) (w:World) :
  Calls Tryz.prog 226 #[mV k,.int .i64 x] w fun e w'=>e = .returned (.bool (decide (AT x≤k)))∧Below w.heap.size w w':=by
 have HX:Hid (DG (Nj x % 2 ^ Bw k) (Bw k)=x↔AT x≤k):=mO hk
 have HS:=fun w=>zAA (fj (Nj x) k (by omega) (ed x) w)
 have hwr:=LI x
 have HC:Hid (mV k = .agg (Jt k).toArray):=rfl
 go_enter Tryz.func226,Tryz.ntmps226
 go_wp2_with (refine GX rfl 250 (.tmp 0) rfl (Jt k) rfl ?_)
 intro w1 hb hB hs
 have HB:=zAA hB
 have c2:w1.cell? ⟨w.heap.size,2,none⟩=some (.int .i64 (Bw k:Int)):=by rw [hb.cell];rfl
 clear hb hB hs
 go_wp2_with fail
 refine (HS w1).out.mono ?_
 rintro e w2 ⟨rfl,rfl⟩
 generalize DG (Nj x % 2 ^ Bw k) (Bw k)=y at *
 go_wp2_with fail
 go_ret
 refine ⟨pS ?_,HB.out⟩
 by_cases h:y=x
 ·have:=HX.out.1 h
  simp [h,this]
 ·have:¬AT x≤k:=fun e=>h (HX.out.2 e)
  simp [h,this]
def Nu (w:World):Prop:=∀k,k≤4→w.cell? ⟨1,k*3,none⟩=some (.int .u64 (QV k:Int))∧w.cell? ⟨1,k*3+1,none⟩=some (.int .i64 (D4 k:Int))∧w.cell? ⟨1,k*3+2,none⟩=some (.int .i64 (Bw k:Int))
theorem Nu.block {w w':World} (h:Nu w) (hb:w'.heap[1]? = w.heap[1]?):Nu w':=fun k hk=>by
 have:=h k hk
 unfold World.cell? at this ⊢
 rw [hb]
 exact this
theorem Nu.lt {w:World} (h:Nu w) : 1 < w.heap.size:=zAP w _ (h 0 (by decide)).1
theorem Nu.below {w w':World} {B:Nat} (h:Nu w) (hb:Below B w w') (hB:w.heap.size≤B):Nu w':=h.block (hb.block _ (zAO h.lt hB))
theorem gZ:Pz Tryz.prog 250 3 [.int .u64 0,.int .i64 0,.int .i64 0]:=Pz.mk' Tryz.underlying250 rfl (by kernel_rfl) rfl
theorem dw (x:Int) (w:World) (hT:Nu w) :
  Calls Tryz.prog 183 #[.int .i64 x] w fun e w'=>e = .returned (mV (AT x))∧Below w.heap.size w w':=by
 have hf4:=NI x
 go_enter Tryz.func183,Tryz.ntmps183
 go_wp2_with fail
 obtain ⟨w1,Cg⟩:∃w1,w.alloc (.cells #[.int .u64 0,.int .i64 0,.int .i64 0] 250)=w1:=⟨_,rfl⟩
 have Je:Hid (Ao w1 w.heap.size [.int .u64 0,.int .i64 0,.int .i64 0]):=by rw [← Cg];exact Ao.new w _ _
 have A6:Hid (Below w.heap.size w w1):=by rw [← Cg];exact (zAM _ w).alloc (zAD _) _
 have HS1:Hid (w1.heap.size=w.heap.size+1):=by rw [← Cg];show _=_;simp
 have JL:=zAA (hT.below A6.out (zAD _))
 rw [Cg]
 clear Cg hT
 go_loopw [3,4] (fun i c wr=>∃k:Nat,k≤4∧k≤AT x∧c = .int .i64 (k:Int)∧Hid (Below w1.heap.size w1 wr)) (fun _ c _=>4-(intOf c).toNat)
 case atStart=>exact ⟨0,by omega,by omega,rfl,zAM _ _⟩
 case round=>
  obtain ⟨k,yR,hkf,rfl,tT⟩:=hrel
  by_cases Aq:k<4
  ·have AF:(k:Int)<4:=by omega
   have hlt5:(k:Int)<5:=by omega
   have qK:=zAA (JL.out.below tT.out (zAD _))
   obtain ⟨t0,t1,t2⟩:=qK.out k (by omega)
   have HP:=zAA (XI x k (by omega) wr)
   go_wp2_with fail
   refine HP.out.mono ?_
   rintro e w2 ⟨rfl,EP⟩
   have AP:=zAA (tT.out.trans (EP.mono tT.out.size))
   have GA:=zAA (qK.out.below EP (zAD _))
   clear EP t0 t1 t2
   by_cases hp:AT x≤k
   ·obtain ⟨t0,t1,t2⟩:=GA.out k (by omega)
    have hd:decide (AT x≤k)=true:=by simpa using hp
    have E4:Hid (Ao w2 w.heap.size [.int .u64 0,.int .i64 0,.int .i64 0]):=Je.out.of_same (AP.out.block _ (by have:=HS1.out;omega))
    obtain ⟨⟨c0,c1,c2⟩,f0,f1,f2⟩:=E4.out.three
    rw [hd]
    go_wp2_with fail
    have he:AT x=k:=by omega
    rw [he]
    refine zCB (Di (p:=2) gZ (by kernel_rfl) _ w.heap.size rfl (Jt k) (E4.out.fi _ _ _) rfl) rfl ⟨rfl,?_⟩
    have h1:=A6.out;have h2:=AP.out
    exact (h1.trans (h2.mono h1.size)).trans ((Er _ _ _ _ _).below (zAW h1.size h2.size) (fun j hj e=>by omega))
   ·have hd:decide (AT x≤k)=false:=by simpa using hp
    rw [hd]
    go_wp2_with fail
    go_round
    case rel=>exact ⟨k+1,by omega,by omega,by go_num,AP.out⟩
    case measure=>simp [intOf];omega
  ·have AF:¬(k:Int)<4:=by omega
   have he:AT x=4:=by omega
   have qK:=zAA (JL.out.below tT.out (zAD _))
   have t0:wr.cell? ⟨1,12,none⟩=some (.int .u64 15):=(qK.out 4 (by omega)).1
   have t1:wr.cell? ⟨1,13,none⟩=some (.int .i64 4):=(qK.out 4 (by omega)).2.1
   have t2:wr.cell? ⟨1,14,none⟩=some (.int .i64 64):=(qK.out 4 (by omega)).2.2
   have E4:Hid (Ao wr w.heap.size [.int .u64 0,.int .i64 0,.int .i64 0]):=Je.out.of_same (tT.out.block _ (by have:=HS1.out;omega))
   obtain ⟨⟨c0,c1,c2⟩,f0,f1,f2⟩:=E4.out.three
   have HE:=zAA he
   clear he
   go_wp2_with fail
   rw [HE.out]
   refine zCB (Di (p:=2) gZ (by kernel_rfl) _ w.heap.size rfl (Jt 4) (E4.out.fi _ _ _) rfl) rfl ⟨rfl,?_⟩
   have h1:=A6.out;have h2:=tT.out
   exact (h1.trans (h2.mono h1.size)).trans ((Er _ _ _ _ _).below (zAW h1.size h2.size) (fun j hj e=>by omega))
theorem WY (x:Int) (w:World) (hT:Nu w) :
  Calls Tryz.prog 183 #[.int .i64 x] w fun e w'=>e = .returned (.agg #[.int .u64 (QV (AT x):Int),.int .i64 (D4 (AT x):Int),.int .i64 (Bw (AT x):Int)])∧Below w.heap.size w w':=
 dw x w hT
end Go.Proofs.YtdcgbgecbeegmaaGreatDoor
end
section
namespace Go.Proofs.YtdcgbgecbeegmaaGreatDoor
open Go Go.RowKit Go.Shelf
attribute [local go_sem] Oper.semAt_some
def BW (last d:Int):List Int→List Int
 | []=>[]
 | t::l=>wrap64 (wrap64 (t-last)-d)::BW t (wrap64 (t-last)) l
theorem Rt (last d:Int) (l:List Int):F5 last d l=(BW last d l).flatMap G2:=by
 induction l generalizing last d with
 | nil=>rfl
 | cons t l ih=>rw [F5,BW,zBN,ih]
theorem Ro (last d:Int) (l:List Int):(BW last d l).length=l.length:=by
 induction l generalizing last d with
 | nil=>rfl
 | cons t l ih=>rw [BW,zAH,zAH,ih]
theorem aj (p:Option Addr) (m c:Nat) (w:World) (n:Nat) :
  CallsIn Fence.wide n Tryz.prog 182 #[.slice p m c] w fun e w'=>e = .returned (.func (.func 225) #[] #[.pointer (some ⟨w.heap.size,0,none⟩)])∧w'=w.alloc (.cells #[.slice p m c] 112):=by
 refine zCQ.2 ?_
 go_enter Tryz.func182,Tryz.ntmps182
 go_wp2_with fail
 go_ret
 exact ⟨rfl,rfl⟩
theorem Uk (n:Nat) (hn:1≤n) (b:Nat) (lv:Value) (ls:List Int) (t0:Int) (tl:List Int) (els:ls=t0::tl) (w:World) (hc:w.cell? ⟨b,0,none⟩=some lv) (hl:Rd w 1 lv ls.length (A1 ls)) :
  SeqStopsK Fence.wide n Tryz.prog 225 #[.pointer (some ⟨b,0,none⟩)] (fun x:Int=>#[.int .i64 x]) (Bs (fun k=>k=b∨lv.ownBlock=some k)) (fun ys=>ys=BW t0 0 tl) (fun _=>True) (BW t0 0 tl).length w:=by
 intro l J Jx W hW hJ hJx hY h0
 have hb:b<w.heap.size:=zAP w _ hc
 have bT:Hid (Bs (fun k=>k=b∨lv.ownBlock=some k) w W):=fun k hk=>hW.block k (by
  rcases hk with e | e
  ·omega
  ·exact hl.lt (by rw [els];simp [A1]) k e)
 have HC:=zAA hc;have HL:=zAA hl
 have HJ:=zAA hJ;have YD:=zAA els
 have HY:=zAA hY;have HN:Hid (ls.length=tl.length+1):=by show _=_;rw [els];rfl
 have Xi:(ls.length:Int)≤9223372036854775807:=by have:=hl.le;unfold maxLen at this;omega
 clear hc hJ els hY
 obtain ⟨p,c,hv⟩:=hl.shape
 subst hv
 clear hl
 obtain ⟨K,hK⟩:∃K:Nat→Prop,(fun k=>k=b∨(Value.slice p ls.length c).ownBlock=some k)=K:=⟨_,rfl⟩
 have bU:Hid (K b):=by rw [← hK];exact Or.inl rfl
 have vC:Hid (∀k,(Value.slice p ls.length c).ownBlock=some k→K k):=by rw [← hK];exact fun k hk=>Or.inr hk
 rw [hK] at bT HY
 clear hK
 refine zGC Tryz.func225 rfl trivial ?_ rfl
 simp only [Tryz.ntmps225,zCC,zAH,zBG,Nat.reduceAdd,Nat.reduceSub,zCL,zCM,zCV,zCO,zBK,zBX]
 gi_wp2
 gi_loopw [3,4] (fun dv iv wr=>∃(i k:Nat) (pre:List Int) (last d:Int),i=k+1∧i≤ls.length∧iv = .int .i64 (i:Int)∧dv = .int .i64 d∧Hid (ls[k]? = some last∧BW t0 0 tl=pre++BW last d (ls.drop i))∧Hid (J pre wr∧Bs K w wr)) (fun _ iv _=>ls.length-(intOf iv).toNat)
 case atStart=>exact ⟨1,0,[],t0,0,rfl,by rw [HN.out];omega,rfl,rfl,by rw [YD.out];exact ⟨rfl,rfl⟩,h0,bT.out⟩
 case round=>
  obtain ⟨i,k,pre,last,d,PC,h2,rfl,rfl,HP,HI⟩:=hrel
  have cb:=(HI.out.2.cell bU.out 0).trans HC.out
  by_cases h:i<ls.length
  ·have Aq:(i:Int)<(ls.length:Int):=by omega
   have sE:(i:Int)-1=(k:Int):=by omega
   have Fl:(k:Int)<(ls.length:Int):=by omega
   have HR:=zAA (HI.out.2.rd HL.out vC.out)
   obtain ⟨b0,off,c',e,_,_,FH⟩:=HR.out.at (fun e=>by have:=congrArg List.length e;rw [Ce] at this;simp at this;subst this;simp at h)
   simp only [zAN] at e
   obtain ⟨rfl,_,rfl⟩:=e
   have c1:=FH i (.int .i64 ls[i]) (by simp [A1,h])
   have c2:=FH k (.int .i64 last) (by rw [A1,zBQ,HP.out.1];rfl)
   have HD:Hid (ls.drop i=ls[i]::ls.drop (i+1)):=zBV h
   have Yg:Hid (ls[i]? = some ls[i]):=zAC h
   generalize ls[i]=t at *
   clear FH HR PC
   gi_wp2
   refine wpIn_wide.2 ?_
   go_quiet (fail)
   have Ue:Hid (J pre (wr.drewN nq)∧Bs K w (wr.drewN nq)):=⟨HJ.out pre wr _ none HI.out.1 (Ld wr nq) (fun r e=>by cases e),HI.out.2⟩
   clear HI cb c1 c2 sE Fl
   have hex:Hid (BW t0 0 tl=pre++wrap64 (wrap64 (t-last)-d)::BW t (wrap64 (t-last)) (ls.drop (i+1))):=by
    have:=HP.out.2
    rw [HD.out,BW] at this
    exact this
   obtain ⟨fn,tmps,assign,body,jz,hR⟩:=HY.out pre (wrap64 (wrap64 (t-last)-d)) (wr.drewN nq) Ue.out.1 (by rw [hex.out,zAB,zAH];omega)
   have hex2:Hid (BW t0 0 tl=(pre++[wrap64 (wrap64 (t-last)-d)])++BW t (wrap64 (t-last)) (ls.drop (i+1))):=by show _=_;rw [hex.out,zAK];rfl
   have li:=zAA hR
   clear HP HD hR hex
   generalize wr.drewN nq=wy at *
   gi_wp2
   refine li.out.mono ?_
   rintro e W3 (⟨rfl,Uv,Xf⟩ | ⟨rfl,P0⟩)
   ·have Uf:=zAA (And.intro Uv (D2 Ue.out.2 Xf))
    clear Uv Xf
    gi_wp2
    go_roundw
    case rel=>exact ⟨i+1,i,_,t,wrap64 (t-last),rfl,by omega,by go_num,rfl,⟨Yg.out,hex2.out⟩,Uf.out⟩
    case measure=>simp [intOf];omega
   ·gi_wp2
    refine zCB (zDZ rfl _ _ _) rfl ?_
    exact ⟨⟨_,rfl⟩,.inr ⟨_,trivial,P0⟩⟩
  ·have Aq:¬(i:Int)<(ls.length:Int):=by omega
   have HE:Hid (BW t0 0 tl=pre):=by
    show _=_
    rw [HP.out.2,zBF (by omega),BW,zBR]
   clear HP PC
   gi_wp2
   go_end0
   refine ⟨⟨_,rfl⟩,.inl ?_⟩
   have:=HI.out.1
   rw [← HE.out] at this
   exact this
end Go.Proofs.YtdcgbgecbeegmaaGreatDoor
end
section
namespace Go.Proofs.YtdcgbgecbeegmaaGreatDoor
open Go Go.RowKit
theorem WS (t0:Int) (tl:List Int):FL (t0::tl)=Aa (Nj t0) 64++(BW t0 0 tl).flatMap G2:=by rw [FL,Rt]
theorem mJ (ys:List Int):(ys.flatMap G2).length≤68*ys.length:=by
 induction ys with
 | nil=>exact zAD _
 | cons y ys ih=>rw [zBN,zAB,zAH];have:=Zo y;omega
theorem sP {w:World} {lv:Value} {l:List Int} (hl:Rd w 1 lv l.length (A1 l)):l≠[]→∀k,lv.ownBlock=some k→k<w.heap.size:=fun BC=>hl.lt (fun e=>BC (by simpa [A1] using e))
end Go.Proofs.YtdcgbgecbeegmaaGreatDoor
end
section
namespace Go.Proofs.YtdcgbgecbeegmaaGreatDoor
open Go Go.RowKit Go.Shelf
attribute [local go_sem] Oper.semAt_some
theorem iV (x:Int):G2 x=Aa (QV (AT x)) (D4 (AT x))++Aa (Nj x) (Bw (AT x)):=by
 rw [jO (NI x)];rfl
theorem U5 (p:Nat) (v lv:Value) (bits:List Bool) (w:World) (hW:Ay w p v bits) (h:Rd w 1 lv 0 []) :
  Calls Tryz.prog 138 #[.pointer (some ⟨p,0,none⟩),lv] w fun e w'=>e = .returned (.int .i64 0)∧Cy p v bits w w':=by
 have HW:=zAA hW
 clear hW
 obtain ⟨q,c,hv⟩:=h.shape
 subst hv
 go_enter Tryz.func138,Tryz.ntmps138
 go_wp2_with fail
 go_ret
 refine ⟨rfl,v,HW.out.below ((zAM _ _).alloc (zAD _) _),?_⟩
 exact ⟨Ac.alloc _ _ _,AG.refl _ _⟩
theorem TJ (p:Nat) (v lv:Value) (bits:List Bool) (ls:List Int) (t0:Int) (tl:List Int) (els:ls=t0::tl) (w:World) (hT:Nu w) (hW:Ay w p v bits) (nn : 1 + 1≤p) (yM:∀k,v.ownBlock=some k→1 + 1≤k)
  (hl:Rd w 1 lv ls.length (A1 ls)) (Dz:∀k,lv.ownBlock=some k→k≠p∧v.ownBlock≠some k) (hz:bits.length+68*ls.length≤70368744177000) :
  Calls Tryz.prog 138 #[.pointer (some ⟨p,0,none⟩),lv] w fun e w'=>e = .returned (.int .i64 0)∧Cy p v (bits++FL ls) w w':=by
 have HLT:=zAA (sP hl)
 obtain ⟨b0,off,c,e,_,_,FH⟩:=hl.at (by rw [els];simp [A1])
 subst e
 have HL:=zAA hl;have HT:=zAA hT;have YD:=zAA els;have HW:=zAA hW
 have BC:(ls.length:Int)≠0:=by rw [els];simp only [zAH];omega
 have RB:(0:Int)<(ls.length:Int):=by omega
 have Yw:((ls.length:Int) == 0)=false:=by rw [zAQ];exact BC
 have HZ:Hid (bits.length+68*(BW t0 0 tl).length+68≤70368744177000):=by show _≤_;rw [Ro];rw [els,zAH] at hz;omega
 have DW:w.cell? ⟨b0,off,none⟩=some (.int .i64 t0):=by have:=FH 0 (.int .i64 t0) (by rw [els];rfl);simpa using this
 have Nm:Hid (b0≠p∧v.ownBlock≠some b0∧b0<w.heap.size):=⟨(Dz b0 rfl).1,(Dz b0 rfl).2,zAP w _ DW⟩
 have HG:Hid (1 + 1≤p∧∀k,v.ownBlock=some k→1 + 1≤k):=⟨nn,yM⟩
 have hwr:=LI t0
 clear hl hT els hz FH hW Dz nn yM
 refine (zCQ (n:=9)).1 ?_
 refine callsIn_of_wp_marks Tryz.func138 rfl trivial ?_ rfl
 simp only [Tryz.ntmps138,zCC,zAH,zBG,Nat.reduceAdd,Nat.reduceSub,zCL,zCM,zCV,zCO,zBK,zBX]
 gi_wp2_with fail
 obtain ⟨w1,Cg⟩:∃w1,w.alloc (.cells #[.pointer (some ⟨p,0,none⟩)] 189)=w1:=⟨_,rfl⟩
 have Lg:w1.heap.size=w.heap.size+1:=by rw [← Cg];simp
 have NK:Below w.heap.size w w1:=by rw [← Cg];exact (zAM _ w).alloc (zAD _) _
 have ZP:Ao w1 w.heap.size [.pointer (some ⟨p,0,none⟩)]:=by rw [← Cg];exact Ao.new w _ _
 rw [Cg]
 clear Cg
 have hW1:=HW.out.below NK
 have rz:Hid (p<w.heap.size∧∀k,v.ownBlock=some k→k<w.heap.size):=⟨HW.out.AM.lt,Ef HW.out.own⟩
 have HWB:=zAA (KA p v bits (Nj t0) 64 w1.drew (hW1.Ai (Ac.drew (fun _=>False) w1) (fun e=>e) (fun _ _ e=>e)) (by omega) (by have:=HZ.out;omega))
 have d0:w1.cell? ⟨w.heap.size,0,none⟩=some (.pointer (some ⟨p,0,none⟩)):=by rw [ZP.cell];rfl
 have d1:w1.cell? ⟨b0,off,none⟩=some (.int .i64 t0):=(NK.cell Nm.out.2.2).trans DW
 have Ua:=zAA d1
 have TY:=zAA ZP;have HS1:=zAA Lg;have A6:=zAA NK
 have HC:Hid (∀w':World,(w'.cell? ⟨w.heap.size,0,none⟩=some (.pointer (some ⟨p,0,none⟩))∧w'.cell? ⟨b0,off,none⟩=some (.int .i64 t0)∧True)→(w'.cell? ⟨w.heap.size,0,none⟩=some (.pointer (some ⟨p,0,none⟩))∧w'.cell? ⟨b0,off,none⟩=some (.int .i64 t0)∧True)):=fun _ h=>h
 clear hW1 ZP Lg NK DW
 refine wpIn_wide.2 (Gh ?_)
 have hposN:0<ls.length:=by omega
 refine AI (fun w':World=>w'.cell? ⟨w.heap.size,0,none⟩=some (.pointer (some ⟨p,0,none⟩))∧w'.cell? ⟨b0,off,none⟩=some (.int .i64 t0)∧True) [5] [0,1,2,3,4,5] (by kernel_rfl) (by kernel_rfl) (by kernel_rfl) ?_ ?_ ?_
 ·intro c a a' w hd h;cases h.1
 ·exact ⟨d0,d1,trivial⟩
 clear d0 d1
 simp only [Cj,zBC,zCP,zBE,zAY,zBM]
 repeat (first
        | (refine takeH_skip rfl ?_; simp only [Act.put, List.setIfInBounds_toArray, List.set_cons_succ, List.set_cons_zero])
        | (refine takeH_blind rfl rfl ?_; apply Exists.intro; refine ⟨fun w => ?_, ?_⟩; (go_simp; try with_reducible rfl); simp only [Act.put, List.setIfInBounds_toArray, List.set_cons_succ, List.set_cons_zero])
        | (refine takeH_reads rfl rfl ?_; apply Exists.intro; refine ⟨fun w' hS => ?_, ?_⟩; (obtain ⟨d0, d1, d2⟩ := HC.out w' hS; go_simp; try with_reducible rfl); simp only [Act.put, List.setIfInBounds_toArray, List.set_cons_succ, List.set_cons_zero]))
 refine AY rfl rfl (fun K' hK=>?_)
 go_wp2_with fail
 refine HWB.out.mono ?_
 rintro e w2 ⟨rfl,v2,RV,Xa⟩
 have Py:Hid (JE w1 w2 p v v2):=⟨(Ac.drew (fun k=>k=p∨v.ownBlock=some k) w1).trans Xa.Ai (fun _ _ e=>e),Xa.fresh⟩
 have F3:=zAA RV
 have xM:¬(w.heap.size=p∨v.ownBlock=some w.heap.size):=fun e=>by
  rcases e with e | e
  ·have:=rz.out.1;omega
  ·have:=rz.out.2 _ e;omega
 have C1:=zAA (Py.out.Ai.AM TY.out xM)
 have GA:Hid (Nu w2):=(HT.out.below A6.out (zAD _)).block (Py.out.Ai.block _ (by have:=HT.out.lt;have:=HS1.out;omega) (fun e=>by
  rcases e with e | e
  ·have:=HG.out.1;omega
  ·have:=HG.out.2 _ e;omega))
 have gz:∀k,(Value.slice (some ⟨b0,off,none⟩) ls.length c).ownBlock=some k→¬(k=p∨v.ownBlock=some k):=fun k hk e=>by
  obtain rfl:b0=k:=by simpa [Value.ownBlock] using hk
  rcases e with e | e
  ·exact Nm.out.1 e
  ·exact Nm.out.2.1 e
 have Jf:=zAA ((HL.out.below A6.out).Ai Py.out.Ai gz)
 refine hK _ _ ⟨by rw [C1.out.cell];rfl,?_,trivial⟩ ?_
 ·exact Py.out.Ai.cell Ua.out (gz b0 rfl)
 clear hK K' RV Xa HWB xM gz
 refine Bv ⟨rfl,?_⟩
 gi_wp2_with (refine ⟨trivial,?_⟩;gi_at_call 182;refine (aj _ _ c _ _).mono ?_;rintro e w' ⟨rfl,rfl⟩)
 obtain ⟨W0,Gr⟩:∃W0,w2.alloc (.cells #[.slice (some ⟨b0,off,none⟩) ls.length c] 112)=W0:=⟨_,rfl⟩
 have T4:W0.heap.size=w2.heap.size+1:=by rw [← Gr];simp
 have MV:Below w2.heap.size w2 W0:=by rw [← Gr];exact (zAM _ w2).alloc (zAD _) _
 have GD:W0.cell? ⟨w2.heap.size,0,none⟩=some (.slice (some ⟨b0,off,none⟩) ls.length c):=by
  have:=(Ao.new w2 #[.slice (some ⟨b0,off,none⟩) ls.length c] 112).cell 0
  rw [Gr] at this
  simpa using this
 rw [Gr]
 clear Gr
 have qM:=zAA (C1.out.of_same (MV.block _ C1.out.lt))
 have qJ:=zAA (GA.out.below MV (zAD _))
 have HW0:=zAA (F3.out.below MV)
 have TW:Hid (p<w2.heap.size∧(∀k,v2.ownBlock=some k→k<w2.heap.size)∧w1.heap.size≤w2.heap.size):=⟨F3.out.AM.lt,Ef F3.out.own,Py.out.Ai.size⟩
 have rH:Hid (∀k,v2.ownBlock=some k→v.ownBlock=some k∨w1.heap.size≤k):=fun k hk=>Py.out.fresh k hk
 have Ug:Hid (∀k,(k=w2.heap.size∨(Value.slice (some ⟨b0,off,none⟩) ls.length c).ownBlock=some k)→k≠p∧v2.ownBlock≠some k∧k<W0.heap.size):=fun k hk=>by
  have h1:=TW.out.1;have h2:=rz.out.1;have h3:=HS1.out;have h4:=TW.out.2.2;have h5:=Nm.out
  rcases hk with e | e
  ·exact ⟨by omega,fun e2=>by have:=TW.out.2.1 k e2;omega,by omega⟩
  ·obtain rfl:b0=k:=by simpa [Value.ownBlock] using e
   refine ⟨h5.1,fun e2=>?_,by omega⟩
   rcases rH.out b0 e2 with e3 | e3
   ·exact h5.2.1 e3
   ·omega
 have wk:Hid (¬(w.heap.size=p∨v2.ownBlock=some w.heap.size)):=fun e=>by
  have h1:=rz.out.1;have h3:=HS1.out
  rcases e with e | e
  ·omega
  ·rcases rH.out _ e with e3 | e3
   ·have:=rz.out.2 _ e3;omega
   ·omega
 have HGn:Hid (¬(1 = p∨v2.ownBlock=some 1)):=fun e=>by
  have h1:=HG.out.1;have h3:=HS1.out;have h4:=HT.out.lt
  rcases e with e | e
  ·omega
  ·rcases rH.out _ e with e3 | e3
   ·have:=HG.out.2 _ e3;omega
   ·omega
 have No:=zAA (Uk 8 (by omega) w2.heap.size _ ls t0 tl YD.out W0 GD (Jf.out.below MV))
 have R9:=zAA T4;have T8:=zAA MV
 clear GD T4 MV
 obtain ⟨K,hK⟩:∃K:Nat→Prop,(fun k=>k=w2.heap.size∨(Value.slice (some ⟨b0,off,none⟩) ls.length c).ownBlock=some k)=K:=⟨_,rfl⟩
 have R7:Hid (∀k,K k→k≠p∧v2.ownBlock≠some k∧k<W0.heap.size):=by rw [← hK];exact Ug.out
 rw [hK] at No
 clear hK Ug
 obtain ⟨ys,uS⟩:∃ys,BW t0 0 tl=ys:=⟨_,rfl⟩
 have HE:Hid (bits++FL ls=(bits++Aa (Nj t0) 64)++ys.flatMap G2):=by show _=_;rw [YD.out,WS,uS,zAK]
 have HO:Hid ((bits++Aa (Nj t0) 64).length=bits.length+64):=by show _=_;rw [zAB,Ae]
 rw [uS] at No HZ
 clear uS
 generalize bits++Aa (Nj t0) 64=out0 at *
 refine wpIn_rangeFunc_ownG rfl (by omega) (gf:=225) (lb:=#[.pointer (some ⟨w2.heap.size,0,none⟩)]) rfl trivial (enters_of Tryz.func225 (by kernel_rfl) rfl)
  No.out (fun h k=>D2 h k) (fun W l o o' h1 h2 h3 h4=>Lj (fun k hk=>(R7.out k hk).2.2) W l o o' h1 h2 h3 h4) (zAM _ _) (fun _=>rfl)
  (fun pre W=>mf p v2 W0 (out0++pre.flatMap G2) W)
  (fun _ _ _=>False)
  (LU (zAD _) p v2 (fun pre:List Int=>out0++pre.flatMap G2))
  (fun _ _ _ _ _ hs _ _=>hs)
  ⟨v2,by simpa using HW0.out,JE.refl _ _ _⟩
  (fun x=>{ tmps:=#[.pointer (some ⟨p,0,none⟩),.slice (some ⟨b0,off,none⟩) ls.length c,.pointer (some ⟨w.heap.size,0,none⟩),undef,.int .i64 0,.int .i64 x,undef,.pointer (some ⟨p,0,none⟩),.bool false,.slice (some ⟨b0,off,none⟩) ls.length c,.int .i64 (ls.length:Int),.bool false,.pointer (some ⟨p,0,none⟩),.slice (some ⟨b0,off,none⟩) ls.length c,.pointer (some ⟨b0,off,none⟩),.int .i64 t0,.int .u64 (Nj t0:Int),.int .i64 0,.slice (some ⟨b0,off,none⟩) ls.length c,.func (.func 225) #[] #[.pointer (some ⟨w2.heap.size,0,none⟩)],.int .i64 x,undef,undef,undef,undef,undef,undef,undef,undef,undef,undef,undef,undef,undef,undef],defers:=[] }) ?assign ?body ?done ?stop
 case assign=>
  intro l x W K hK
  simp only [zEN,zEC,zED,zEA,zDP,zFA,zAZ,zBL,zBT]
  gi_wp2
  exact hK
 case body=>
  rintro l pre x W ⟨v',hW',hU'⟩ Bg
  have HTW:=zAA (qJ.out.block (hU'.Ai.block _ qJ.out.lt HGn.out))
  have HXW:=zAA (hU'.Ai.AM qM.out wk.out)
  have HF:=zAA (WY x W HTW.out)
  have h1:=dU (AT x)
  have h2:=Qp (AT x)
  have vw:=zAA (iV x)
  have hwx:=LI x
  have RR:Hid ((out0++pre.flatMap G2).length+136≤1125899906842624):=by show _≤_;have:=mJ pre;have:=HZ.out;have:=HO.out;rw [zAB];omega
  have HW':=zAA hW';have HU':=zAA hU'
  have io:Hid (out0++(pre++[x]).flatMap G2=(out0++pre.flatMap G2)++G2 x):=by show _=_;rw [zBO,zBN,zEM,zBR,zAK]
  clear hW' hU'
  generalize G2 x=EX at *
  generalize QV (AT x)=m1 at *
  generalize D4 (AT x)=m2 at *
  generalize Bw (AT x)=m3 at *
  generalize Nj x=ux at *
  have HPw:Hid (p<W.heap.size∧(∀k,v'.ownBlock=some k→k<W.heap.size)∧W0.heap.size≤W.heap.size):=⟨HW'.out.AM.lt,Ef HW'.out.own,HU'.out.Ai.size⟩
  have Yl:Hid (w.heap.size<W.heap.size):=HXW.out.lt
  have HXv:Hid (¬(w.heap.size=p∨v'.ownBlock=some w.heap.size)):=fun e=>by
   rcases e with e | e
   ·exact wk.out (Or.inl e)
   ·rcases HU'.out.fresh _ e with e2 | e2
    ·exact wk.out (Or.inr e2)
    ·have:=qM.out.lt;omega
  gi_wp2_with fail
  refine ⟨trivial,(CallsIn.inRound l (zCQ.2 HF.out)).mono ?_⟩
  rintro e w3 ⟨rfl,FG⟩
  have Ys:=HW'.out.below (FG.trans (((zAM _ w3).alloc (zAD _) (.cells #[.int .u64 (m1:Int),.int .i64 (m2:Int),.int .i64 (m3:Int)] 250)).mono FG.size))
  have HWB4:=zAA (KA p v' _ m1 m2 _ Ys (by omega) (by have:=RR.out;omega))
  have hx3:=HXW.out.of_same (FG.block _ HXW.out.lt)
  have c0:w3.cell? ⟨w.heap.size,0,none⟩=some (.pointer (some ⟨p,0,none⟩)):=by rw [hx3.cell];rfl
  have hlt3:=hx3.lt
  have fR:Hid (Ao (w3.alloc (.cells #[.int .u64 (m1:Int),.int .i64 (m2:Int),.int .i64 (m3:Int)] 250)) w.heap.size [.pointer (some ⟨p,0,none⟩)]):=hx3.alloc _
  have HF4:Hid (Ao (w3.alloc (.cells #[.int .u64 (m1:Int),.int .i64 (m2:Int),.int .i64 (m3:Int)] 250)) w3.heap.size [.int .u64 (m1:Int),.int .i64 (m2:Int),.int .i64 (m3:Int)]):=Ao.new w3 _ _
  have ij:Hid (¬(w3.heap.size=p∨v'.ownBlock=some w3.heap.size)):=fun e=>by
   have h1:=HPw.out;have h2:=FG.size
   rcases e with e | e
   ·omega
   ·have:=h1.2.1 _ e;omega
  have bJ:Hid (Ac (fun k=>k=p∨v'.ownBlock=some k) W (w3.alloc (.cells #[.int .u64 (m1:Int),.int .i64 (m2:Int),.int .i64 (m3:Int)] 250))):=(Ac.Ah FG _).trans (Ac.alloc _ _ _) (fun _ _ e=>e)
  clear FG Ys hx3 HF
  gi_wp2_with fail
  refine ⟨trivial,(CallsIn.inRound l (zCQ.2 HWB4.out)).mono ?_⟩
  rintro e w5 ⟨rfl,v5,hW5,sp⟩
  have y8:=sp.Ai.AM fR.out HXv.out
  have hf5:=sp.Ai.AM HF4.out ij.out
  have c5:w5.cell? ⟨w.heap.size,0,none⟩=some (.pointer (some ⟨p,0,none⟩)):=by rw [y8.cell];rfl
  have d5:w5.cell? ⟨w3.heap.size,2,none⟩=some (.int .i64 (m3:Int)):=by rw [hf5.cell];rfl
  have l9:=zAA (KA p v5 _ ux m3 _ hW5 (by omega) (by have:=RR.out;rw [zAB,Ae];omega))
  have HU5:=zAA sp
  clear y8 hf5 sp hW5 HWB4 c0
  gi_wp2_with fail
  refine ⟨trivial,(CallsIn.inRound l (zCQ.2 l9.out)).mono ?_⟩
  rintro e w6 ⟨rfl,v6,qS,hU6⟩
  have hU:JE W w6 p v' v6:=JE.trans (⟨bJ.out,AG.refl _ _⟩:JE W (w3.alloc (.cells #[.int .u64 (m1:Int),.int .i64 (m2:Int),.int .i64 (m3:Int)] 250)) p v' v') (HU5.out.trans hU6)
  have Ww:=zAA hU;have HWf:=zAA qS
  clear hU qS hU6 l9 HU5 bJ fR HF4
  gi_wp2_with fail
  refine ⟨(QZ HW'.out Ww.out.Ai).from _,fun k hk=>?_,v6,?_,HU'.out.trans Ww.out⟩
  ·have h1:=R7.out k hk
   refine Ww.out.Ai.block k (by have:=HPw.out.2.2;omega) (fun e=>?_)
   rcases e with e | e
   ·exact h1.1 e
   ·rcases HU'.out.fresh k e with e2 | e2
    ·exact h1.2.1 e2
    ·omega
  ·have h:=HWf.out
   rw [zAK] at h
   rw [io.out,vw.out]
   exact h
 case done=>
  rintro D zs W hD rfl hI hK
  have HI:=zAA hI
  clear hI No
  gi_wp2
  refine ⟨by simp,.inl ⟨_,_,rfl,run_takeDeferred hK,?_⟩⟩
  refine ⟨_,results_tmp rfl _ _ _,rfl,?_⟩
  obtain ⟨v',hW',hU'⟩:=LU (β:=Unit) (zAD W0.heap.size) p v2 (fun _=>out0++zs.flatMap G2) () W (W.putObj D (.deferred none)) (some D) HI.out (grownBy_putObj' _ _ _) (fun r e=>by cases e;exact ⟨hD,_,hK,rfl⟩)
  have u1:JE w w1 p v v:=⟨Ac.Ah A6.out _,AG.refl _ _⟩
  have u2:JE w2 W0 p v2 v2:=⟨Ac.Ah T8.out _,AG.refl _ _⟩
  rw [HE.out]
  exact ⟨v',hW',u1.trans (Py.out.trans (u2.trans hU'))⟩
 case stop=>
  rintro D c pre W _ _ h _
  exact h.elim
end Go.Proofs.YtdcgbgecbeegmaaGreatDoor
end
