/- Texts 29. -/
import Derived.Test.YtdcgbgecbeegmaaGreatDoorMgSA
import Derived.Test.YtdcgbgecbeegmaaGreatDoorMgS22
set_option linter.unusedVariables false
set_option linter.unusedSimpArgs false
set_option maxHeartbeats 400000000
set_option maxRecDepth 100000
section
namespace Go.Proofs.YtdcgbgecbeegmaaGreatDoor
open Go Go.RowKit
theorem Tryz.uj:Re Tryz.prog 168 81 5 (.int .u64 0):=Re.mk' Tryz.underlying168 (by kernel_rfl) (by kernel_rfl) Tryz.underlying81 rfl
theorem Tryz.fX:Re Tryz.prog 92 3 5 (.int .i64 0):=Re.mk' Tryz.underlying92 (by kernel_rfl) (by kernel_rfl) Tryz.underlying3 rfl
def Mh:Nat→Nat
 | 0=>0
 | 1=>2
 | 2=>6
 | 3=>14
 | _=>15
def Mf:Nat→Nat
 | 0=>1
 | 1=>2
 | 2=>3
 | 3=>4
 | _=>4
theorem dA {k:Nat} (h:k≤4):ZH k=Aa (Mh k) (Mf k):=by
 match k,h with
 | 0,_=>rfl
 | 1,_=>rfl
 | 2,_=>rfl
 | 3,_=>rfl
 | 4,_=>rfl
def me (bs:List Bool) (l:List Int) (j:Nat) (d:Int) (B:List Bool):Prop:=
 (j=0∧d=0∧B=bs)∨(∃k last,j=k+1∧l[k]? = some last∧B++F5 last d (l.drop j)=bs++FL l)
theorem tu (k:Nat):Mh k<16:=by unfold Mh;split<;>decide
theorem s8 (k:Nat):Mf k≤4:=by unfold Mf;split<;>decide
def aC:List Value:=[.int .u64 0,.int .u64 2,.int .u64 6,.int .u64 14,.int .u64 15]
def Z0:List Value:=[.int .i64 1,.int .i64 2,.int .i64 3,.int .i64 4,.int .i64 4]
def TM:List Value:=[.int .i64 0,.int .i64 7,.int .i64 12,.int .i64 32,.int .i64 64]
theorem N9 {k:Nat} (h:k≤4):aC[k]? = some (.int .u64 (Mh k:Int)):=by
 match k,h with
 | 0,_=>rfl
 | 1,_=>rfl
 | 2,_=>rfl
 | 3,_=>rfl
 | 4,_=>rfl
theorem NZ {k:Nat} (h:k≤4):Z0[k]? = some (.int .i64 (Mf k:Int)):=by
 match k,h with
 | 0,_=>rfl
 | 1,_=>rfl
 | 2,_=>rfl
 | 3,_=>rfl
 | 4,_=>rfl
theorem LD {k:Nat} (h:k≤4):TM[k]? = some (.int .i64 (Bw k:Int)):=by
 match k,h with
 | 0,_=>rfl
 | 1,_=>rfl
 | 2,_=>rfl
 | 3,_=>rfl
 | 4,_=>rfl
def bR (n1 n2 n3 K:Nat) (w:World):Prop:=w.cell? ⟨n1,K,none⟩=some (.int .u64 (Mh K:Int))∧w.cell? ⟨n2,K,none⟩=some (.int .i64 (Mf K:Int))∧w.cell? ⟨n3,K,none⟩=some (.int .i64 (Bw K:Int))
theorem kh (v lv:Value) (bs:List Bool) (l:List Int) (w:World) (h:GY w v bs) (hl:Rd w 1 lv l.length (A1 l)) (Ct:∀t∈l,jC t) (Dz:l≠[]→∀k,lv.ownBlock=some k→v.ownBlock≠some k) (hz:bs.length+68*l.length≤70368744177000) :
  Calls Tryz.prog 74 #[v,lv] w fun e w'=>∃v',e = .returned v'∧Ag v (bs++FL l) w v' w':=by
 have H:=zAA h
 have HL:=zAA hl
 obtain ⟨pl,cl,hv⟩:=hl.shape
 subst hv
 clear h hl
 go_enter Tryz.func74,Tryz.ntmps74
 go_wp2_with (refine BU Tryz.uj rfl rfl ?_)
 intro w1 RW NK Lg
 have Je:=zAA RW;have A6:=zAA NK;have HS1:=zAA Lg
 clear RW NK Lg
 go_wp2_with (refine Cv Tryz.uj rfl _ _ rfl w.heap.size rfl aC _ rfl Je.out (by simp) rfl (by decide) ?_)
 intro w2 LQ m8 KN
 have E4:=zAA LQ
 have AP:Hid (Below w.heap.size w w2):=A6.out.trans (m8.below A6.out.size (fun k hk e=>by omega))
 have HS2:Hid (w2.heap.size=w.heap.size+1):=by show _=_;rw [KN,HS1.out]
 clear LQ m8 KN Je A6 HS1
 go_wp2_with (refine BU Tryz.fX rfl rfl ?_)
 intro w3 Uw FG qX
 have GF:=zAA Uw
 have Fu:Hid (w3.heap.size=w.heap.size+2):=by show _=_;rw [qX,HS2.out]
 have HKa:=zAA (E4.out.of_same (FG.block _ (by rw [HS2.out];omega)))
 have BS:=zAA (AP.out.trans (FG.mono AP.out.size))
 clear Uw FG qX AP E4
 go_wp2_with (refine Cv Tryz.fX rfl _ _ rfl w2.heap.size rfl Z0 _ rfl GF.out (by simp) rfl (by decide) ?_)
 intro w4 qT ut jt
 have KP:=zAA qT
 have bU:=zAA (ut.AM HKa.out (by rw [HS2.out];omega))
 have CF:Hid (Below w.heap.size w w4):=BS.out.trans (ut.below BS.out.size (fun k hk e=>by have:=HS2.out;omega))
 have JK:Hid (w4.heap.size=w.heap.size+2):=by show _=_;rw [jt,Fu.out]
 clear qT ut jt GF HKa BS Fu
 go_wp2_with (refine BU Tryz.fX rfl rfl ?_)
 intro w5 sw W9 yY
 have Ve:=zAA sw
 have iq:Hid (w5.heap.size=w.heap.size+3):=by show _=_;rw [yY,JK.out]
 have HKc:=zAA (bU.out.of_same (W9.block _ (by rw [JK.out];omega)))
 have HKd:=zAA (KP.out.of_same (W9.block _ (by rw [JK.out,HS2.out];omega)))
 have KC:=zAA (CF.out.trans (W9.mono CF.out.size))
 clear sw W9 yY CF bU KP
 go_wp2_with (refine Cv Tryz.fX rfl _ _ rfl w4.heap.size rfl TM _ rfl Ve.out (by simp) rfl (by decide) ?_)
 intro w6 hb6 hM6 hs6
 have ir:=zAA hb6
 have JL:=zAA (hM6.AM HKc.out (by rw [JK.out];omega))
 have GA:=zAA (hM6.AM HKd.out (by rw [JK.out,HS2.out];omega))
 have Jl:Hid (Below w.heap.size w w6):=KC.out.trans (hM6.below KC.out.size (fun k hk e=>by have:=JK.out;omega))
 have HBA:Hid (w.heap.size≤w2.heap.size∧w.heap.size≤w4.heap.size):=⟨by rw [HS2.out];omega,by rw [JK.out];omega⟩
 clear hb6 hM6 hs6 Ve HKc HKd KC iq JK HS2
 have Jg:Hid (GY w6 v bs):=(Ac.Ah Jl.out (fun _=>False)).owns H.out (fun _ _ e=>e)
 have vD:=zAA (HL.out.below Jl.out)
 have HV:Hid (∀k,v.ownBlock=some k→k<w.heap.size):=Ef H.out
 generalize Lf:w.heap.size=n1 at *
 have z7:=zAA Lf
 clear Lf
 generalize w2.heap.size=n2 at *
 generalize w4.heap.size=n3 at *
 go_wp2_with fail
 go_loopw [0,8,9] (fun v2 d c wr=>∃(j:Nat) (dd:Int) (B:List Bool),j≤l.length∧c = .int .i64 (j:Int)∧d = .int .i64 dd∧me bs l j dd B∧Hid (Ag v B w6 v2 wr)) (fun _ _ c _=>l.length-(intOf c).toNat)
 case atStart=>exact ⟨0,0,bs,by omega,rfl,rfl,Or.inl ⟨rfl,rfl,rfl⟩,Jg.out,Ac.refl _ _,AG.refl _ _⟩
 case round=>
  obtain ⟨j,dd,B,hj,rfl,rfl,hP,HW⟩:=hrel
  by_cases Aq:j<l.length
  ·have AF:(j:Int)<(l.length:Int):=by omega
   have Yh:=zAA (vD.out.Ai HW.out.Ai (fun k hk e=>Dz (fun e0=>by rw [e0] at Aq;simp at Aq) k hk e))
   obtain ⟨b,off,c',e,T3,_,Aj⟩:=Yh.out.at (fun e=>by have:=congrArg List.length e;rw [Ce] at this;simp at this;subst this;simp at Aq)
   simp only [zAN] at e
   obtain ⟨rfl,_,rfl⟩:=e
   obtain ⟨t,ht⟩:∃t,l[j]=t:=⟨_,rfl⟩
   have Ry:wr.cell? ⟨b,off+j,none⟩=some (.int .i64 t):=by rw [← ht];exact Aj j _ (ZQ l j Aq)
   have ni:l.drop j=t::l.drop (j+1):=by rw [← ht];exact zBV Aq
   have ZO:jC t:=ht ▸ Ct _ (zDI Aq)
   obtain ⟨p0,c0,Yy⟩:=(Rd.Ad HW.out.own).shape
   subst Yy
   rcases hP with ⟨rfl,rfl,rfl⟩ | ⟨k,last,xo,SG,Yq⟩
   ·have HE:Hid (∀B',B'=B++Aa (Nj t) 64→me B l 1 0 B'):=fun B' e=>by
     refine Or.inr ⟨0,t,rfl,by rw [zAC Aq,ht],?_⟩
     rw [List.drop_zero] at ni
     rw [e,zAK]
     congr 1
     conv=>rhs;rw [ni]
     rw [FL]
    have hwt:IntKind.u64.wrap t=(Nj t:Int):=LI t
    have HN:Hid (B.length+64≤70368744177664):=by show _≤_;omega
    have hct0:wr.cell? ⟨b,off,none⟩=some (.int .i64 t):=Ry
    have hlt0:(0:Int)<(l.length:Int):=AF
    clear ni Aj ht Ry
    go_wp2_with fail
    refine (Bn _ B (Nj t) 64 _ HW.out.own (ed t) (by omega) HN.out).mono ?_
    rintro en w7 ⟨v7,rfl,hR⟩
    have HR:Hid (Ag v (B++Aa (Nj t) 64) w6 v7 w7):=HW.out.then hR
    clear hR
    go_wp2_with fail
    go_round
    case rel=>exact ⟨1,0,_,by omega,rfl,rfl,HE.out _ rfl,HR.out⟩
    case measure=>simp [intOf];omega
   ·have Fl:k<l.length:=by omega
    have TZ:wr.cell? ⟨b,off+k,none⟩=some (.int .i64 last):=Aj k _ (by rw [ZQ l k Fl];rw [zAC Fl] at SG;rw [zDT SG])
    obtain ⟨x,hx⟩:∃x,wrap64 (wrap64 (t-last)-dd)=x:=⟨_,rfl⟩
    obtain ⟨d2,uA⟩:∃d2,wrap64 (t-last)=d2:=⟨_,rfl⟩
    have hxin:jC x:=hx ▸ yg _
    rw [ni,F5,hx,uA] at Yq
    rw [uA] at hx
    have HDx:=zAA hx;have vp:=zAA uA
    clear hx uA
    have HE:Hid (∀B',B'=B++G2 x→me bs l (j+1) d2 B'):=fun B' e=>by
     refine Or.inr ⟨j,t,rfl,by rw [zAC Aq,ht],?_⟩
     rw [e,zAK];exact Yq
    have HN:Hid (B.length+68≤70368744177660):=by
     show _≤_
     have h1:=congrArg List.length Yq
     simp only [zAB] at h1
     have h2:=NB l
     omega
    have HX:Hid (G2 x=Aa (Mh (AT x)) (Mf (AT x))++Aa (Nj x) (Bw (AT x))):=by show _=_;rw [G2,dA (NI x)]
    have yR:=NI x
    have HFm:=zAA (pP x)
    have hk5:((AT x:Nat):Int)<5:=by omega
    have HK:Hid (AT x≤4):=yR
    have tX:Hid (Mh (AT x)<16):=tu _
    have rk:Hid (Mf (AT x)≤4):=s8 _
    have HKw:Hid (Bw (AT x)≤64):=Qp _
    have zu:Hid (wr.cell? ⟨n1,AT x,none⟩=some (.int .u64 (Mh (AT x):Int))):=(HW.out.Ai.AM JL.out (fun e=>by have:=HV.out _ e;omega)).cell _ |>.trans (N9 yR)
    have TV:Hid (wr.cell? ⟨n2,AT x,none⟩=some (.int .i64 (Mf (AT x):Int))):=(HW.out.Ai.AM GA.out (fun e=>by have:=HV.out _ e;have:=HBA.out;omega)).cell _ |>.trans (NZ yR)
    have HCw:Hid (wr.cell? ⟨n3,AT x,none⟩=some (.int .i64 (Bw (AT x):Int))):=(HW.out.Ai.AM ir.out (fun e=>by have:=HV.out _ e;have:=HBA.out;omega)).cell _ |>.trans (LD yR)
    generalize AT x=K at *
    have yQ:(j:Int)-1=(k:Int):=by omega
    have hjb:(j == 0)=false:=by rw [zAQ];omega
    have hjb2:((j:Int) == 0)=false:=by rw [zAQ];omega
    have hk':(k:Int)<(l.length:Int):=by omega
    clear ni Aj ht SG Yq xo Fl yR
    go_wp2_with fail
    go_quiet (fail)
    have Wx:Hid (Ag v B w6 (Value.slice p0 B.length c0) (wr.drewN nq)):=HW.out.drewN _
    have hcta:(wr.drewN nq).cell? ⟨b,off+j,none⟩=some (.int .i64 t):=Ry
    have hcka:(wr.drewN nq).cell? ⟨b,off+k,none⟩=some (.int .i64 last):=TZ
    have zw:Hid ((wr.drewN nq).cell? ⟨n1,K,none⟩=some (.int .u64 (Mh K:Int))):=zu.out
    have zr:Hid ((wr.drewN nq).cell? ⟨n2,K,none⟩=some (.int .i64 (Mf K:Int))):=TV.out
    have zy:Hid ((wr.drewN nq).cell? ⟨n3,K,none⟩=some (.int .i64 (Bw K:Int))):=HCw.out
    clear Ry TZ zu TV HCw HW Yh
    generalize wr.drewN nq=wa at *
    go_wp2_with fail
    go_quiet (fail)
    have HWb:Hid (Ag v B w6 (Value.slice p0 B.length c0) (wa.drewN nq)):=Wx.out.drewN _
    have zx:Hid ((wa.drewN nq).cell? ⟨n1,K,none⟩=some (.int .u64 (Mh K:Int))):=zw.out
    have zt:Hid ((wa.drewN nq).cell? ⟨n2,K,none⟩=some (.int .i64 (Mf K:Int))):=zr.out
    have zz:Hid ((wa.drewN nq).cell? ⟨n3,K,none⟩=some (.int .i64 (Bw K:Int))):=zy.out
    clear hcta hcka zw zr zy Wx
    generalize wa.drewN nq=wb at *
    go_wp2_with fail
    rw [vp.out,HDx.out]
    refine (HFm.out _).mono ?_
    rintro en w7 ⟨rfl,rfl⟩
    go_wp2_with fail
    have HC:Hid (∀w':World,bR n1 n2 n3 K w'→w'.cell? ⟨n1,K,none⟩=some (.int .u64 (Mh K:Int))∧w'.cell? ⟨n2,K,none⟩=some (.int .i64 (Mf K:Int))∧w'.cell? ⟨n3,K,none⟩=some (.int .i64 (Bw K:Int))):=fun _ h=>h
    refine AI (bR n1 n2 n3 K) [7] [0,1,2,3,4,5,6,7,8] (by kernel_rfl) (by kernel_rfl) (by kernel_rfl) ?_ ?_ ?_
    ·intro c a a' w hd h;exact ⟨hd ▸ h.1,h.2⟩
    ·exact ⟨zx.out,zt.out,zz.out⟩
    simp only [Cj,zBC,zCP,zBE,zAY,zBM]
    repeat (first
        | (refine takeH_skip rfl ?_; simp only [Act.put, List.setIfInBounds_toArray, List.set_cons_succ, List.set_cons_zero])
        | (refine takeH_blind rfl rfl ?_; apply Exists.intro; refine ⟨fun w => ?_, ?_⟩; (go_simp; try with_reducible rfl); simp only [Act.put, List.setIfInBounds_toArray, List.set_cons_succ, List.set_cons_zero])
        | (refine takeH_reads rfl rfl ?_; apply Exists.intro; refine ⟨fun w' hS => ?_, ?_⟩; (obtain ⟨d0, d1, d2⟩ := HC.out w' hS; go_simp; try with_reducible rfl); simp only [Act.put, List.setIfInBounds_toArray, List.set_cons_succ, List.set_cons_zero]))
    refine AY rfl rfl (fun K' hK=>?_)
    go_wp2_with fail
    have HWc:Hid (Ag v B w6 (Value.slice p0 B.length c0) w7.drew):=HWb.out.drew
    refine (Bn _ B (Mh K) (Mf K) _ HWc.out.own (by have:=tX.out;omega) (by have:=rk.out;omega) (by have:=HN.out;omega)).mono ?_
    rintro en w8 ⟨v8,rfl,hR⟩
    have l8:Hid (Ag v (B++Aa (Mh K) (Mf K)) w6 v8 w8):=HWc.out.then hR
    have HX8:Hid (B++G2 x=(B++Aa (Mh K) (Mf K))++Aa (Nj x) (Bw K)):=by show _=_;rw [HX.out,zAK]
    have HN8:Hid ((B++Aa (Mh K) (Mf K)).length+64≤70368744177664):=by
     show _≤_
     have:=HN.out;have:=rk.out
     rw [zAB,Ae];omega
    clear hR
    generalize B++Aa (Mh K) (Mf K)=L8 at l8 HX8 HN8
    have HC8:Hid (bR n1 n2 n3 K w8):=⟨((l8.out.Ai.AM JL.out (fun e=>by have:=HV.out _ e;omega)).cell _).trans (N9 HK.out),((l8.out.Ai.AM GA.out (fun e=>by have:=HV.out _ e;have:=HBA.out;omega)).cell _).trans (NZ HK.out),((l8.out.Ai.AM ir.out (fun e=>by have:=HV.out _ e;have:=HBA.out;omega)).cell _).trans (LD HK.out)⟩
    obtain ⟨p8,c8,MY⟩:=(Rd.Ad l8.out.own).shape
    subst MY
    refine hK _ _ HC8.out ?_
    clear hK K' HWb HWc zx zt zz
    refine takeH_blind rfl rfl ?_
    apply Exists.intro
    refine ⟨fun w=>?_,?_⟩
    (go_simp;try with_reducible rfl)
    simp only [Act.put,zAZ,zBL]
    refine Bv ?_
    clear HC
    have gq:=HC8.out.2.2
    have hwx:IntKind.u64.wrap x=(Nj x:Int):=LI x
    go_wp2_with fail
    refine (Bn _ _ (Nj x) (Bw K) w8 l8.out.own (ed x) HKw.out HN8.out).mono ?_
    rintro en w9 ⟨v9,rfl,hR⟩
    have HW9:Hid (Ag v (B++G2 x) w6 v9 w9):=by
     show Ag _ _ _ _ _
     rw [HX8.out]
     exact l8.out.then hR
    clear hR l8 HC8 gq hwx
    go_wp2_with fail
    go_round
    case rel=>exact ⟨j+1,d2,_,by omega,by go_num,rfl,HE.out _ rfl,HW9.out⟩
    case measure=>simp [intOf];omega
  ·have xx:¬(j:Int)<(l.length:Int):=by omega
   obtain rfl:j=l.length:=by omega
   have HE:Hid (B=bs++FL l):=by
    rcases hP with ⟨h0,_,rfl⟩ | ⟨k,last,_,_,Yq⟩
    ·have:l=[]:=zAI h0
     subst this
     show B=B++[]
     rw [zBR]
    ·rw [List.drop_length,F5,zBR] at Yq
     exact Yq
   rw [HE.out] at HW
   go_wp2_with fail
   go_ret
   exact ⟨_,rfl,HW.out.own,(Ac.Ah (by rw [z7.out];exact Jl.out) _).trans HW.out.Ai (fun _ _ e=>e),fun k hk=>by
    rcases HW.out.fresh k hk with e | e
    ·exact Or.inl e
    ·have:=Jl.out.size;have:=z7.out;exact Or.inr (by omega)⟩
end Go.Proofs.YtdcgbgecbeegmaaGreatDoor
end
