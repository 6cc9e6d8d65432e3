/- Texts 48. -/
import Derived.Test.YtdcgbgecbeegmaaGreatDoorMgSA
import Derived.Test.YtdcgbgecbeegmaaGreatDoorMgS34
set_option linter.unusedVariables false
set_option linter.unusedSimpArgs false
set_option maxHeartbeats 400000000
set_option maxRecDepth 100000
section
namespace Go.Proofs.YtdcgbgecbeegmaaGreatDoor
open Go Go.RowKit
theorem Rl (w0:World) (v:Value) (l:List Nat) (id:Nat) (d:Value) (D:List Nat) (w:World) (hT:Yn w) (h:JH w0 w l v) (hid:id<256) (hD:Rd w 1 d D.length (B9 D)) (Aq:∀c∈D,c<256) (hn:l.length+D.length≤140737488354000) :
  Calls Tryz.prog 85 #[v,.agg #[.int .u8 (id:Int),d]] w fun en w'=>∃v',en = .returned v'∧AR w0 w' (l++AH id D) v'∧Ac (fun k=>v.ownBlock=some k) w w'∧AG w.heap.size v v':=by
 have H:=zAA h
 have HD:=zAA hD
 have HT:=zAA hT
 obtain ⟨q0,c0,hv⟩:=h.shape
 subst hv
 obtain ⟨qd,cd,hv⟩:=hD.shape
 subst hv
 have Ed:(w.alloc (.cells #[.int .u8 (id:Int),.slice qd D.length cd] 137)).heap.size=w.heap.size+1:=by simp
 have ly:Hid (Below w.heap.size w ((w.alloc (.cells #[.int .u8 (id:Int),.slice qd D.length cd] 137)).alloc (.cells #[.int .u8 (id:Int)] 5))):=((zAM _ _).alloc (zAD _) _).alloc (by omega) _
 have Wu:Hid (((w.alloc (.cells #[.int .u8 (id:Int),.slice qd D.length cd] 137)).alloc (.cells #[.int .u8 (id:Int)] 5)).ownsRow 0 5 1 (.slice (some ⟨w.heap.size+1,0,none⟩) 1 1) 1 (B9 [id])):=by
  have h:((w.alloc (.cells #[.int .u8 (id:Int),.slice qd D.length cd] 137)).alloc (.cells #[.int .u8 (id:Int)] 5)).ownsRow 0 5 1 (.slice (some ⟨(w.alloc (.cells #[.int .u8 (id:Int),.slice qd D.length cd] 137)).heap.size,0,none⟩) 1 1) 1 (B9 [id]):=zCZ (base:=0) (w.alloc (.cells #[.int .u8 (id:Int),.slice qd D.length cd] 137)) #[.int .u8 (id:Int)] 1 (zAJ _) (by simp [maxLen]) (by simp)
  rw [Ed] at h
  exact h
 have HDa:=zAA (HD.out.below ly.out)
 have vW:=zAA (HT.out.below ly.out (zAD _))
 have HM:=zAA Aq
 have Bg:=CX D
 have jw:=AE (x:=D.length) (by omega)
 have Ei:Hid ((Ab D.length).length≤10∧(bytesOf D).length=(Ab D.length).length+D.length):=⟨by omega,Bg⟩
 have hwD:IntKind.u64.wrap (D.length:Int)=(D.length:Int):=by rw [zBB];omega
 have cI:((w.alloc (.cells #[.int .u8 (id:Int),.slice qd D.length cd] 137)).alloc (.cells #[.int .u8 (id:Int)] 5)).cell? ⟨w.heap.size,1,none⟩=some (.slice qd D.length cd):=((Ao.new w #[.int .u8 (id:Int),.slice qd D.length cd] 137).alloc _).cell 1
 have HcI:=zAA cI
 have lA:Hid (w.heap.size<((w.alloc (.cells #[.int .u8 (id:Int),.slice qd D.length cd] 137)).alloc (.cells #[.int .u8 (id:Int)] 5)).heap.size):=by show _<_;simp;omega
 clear h hD hT Ed Aq Bg jw
 go_enter Tryz.func85,Tryz.ntmps85
 go_wp2_with fail
 refine (Gk _ 1 [id] D.length (by omega) _ Wu.out (by omega)).mono ?_
 rintro e w1 ⟨r,rfl,hP⟩
 obtain ⟨p1,c1,hr⟩:=(Rd.Ad hP.own).shape
 subst hr
 have Dd:=zAA hP.own
 have vx:Hid (∀k,(Value.slice p1 (1+(Ab D.length).length) c1).ownBlock=some k→w.heap.size+1≤k):=fun k hk=>by
  rcases hP.fresh k hk with e | e
  ·have e':w.heap.size+1=k:=zDT e
   omega
  ·have:=lA.out;omega
 have A6:=zAA (ly.out.trans (hP.below (B:=w.heap.size) ly.out.size (fun k hk=>by have e:=zDT hk;simp at e;omega)))
 have Ua:=zAA (HD.out.below A6.out)
 have cX:w1.cell? ⟨w.heap.size,1,none⟩=some (.slice qd D.length cd):=hP.Ai.cell HcI.out (fun e=>by have e':w.heap.size+1=w.heap.size:=zDT e;omega)
 have Kn:Hid ((1+(Ab D.length).length+D.length)*1≤140737488355328∧1+(Ab D.length).length+D.length≤maxLen):=by
  show _∧_
  have:=Ei.out.1
  unfold maxLen
  omega
 clear hP Wu HDa vW cI HcI
 go_wp2_with (at_builtin;refine At Tryz.CG _ _ _ _ _ _ _ Dd.out Ua.out (A3 _) Kn.out rfl _ _ rfl rfl rfl ?_)
 intro v2 w2 Au AU DK
 have eL:B9 ([id]++Ab D.length)++B9 D=B9 (id::bytesOf D):=by rw [← Cb,bytesOf,zAK];rfl
 have Au:w2.ownsRow 0 5 1 v2 (1+(Ab D.length).length+D.length) (B9 (id::bytesOf D)):=by rw [← eL];exact Au
 have AP:=zAA (A6.out.trans (AU.below A6.out.size (fun k hk e=>by have:=vx.out k e;omega)))
 have GA:=zAA (HT.out.below AP.out (zAD _))
 have Pu:(id::bytesOf D).length=1+(Ab D.length).length+D.length:=by rw [zAH,Ei.out.2];omega
 obtain ⟨p2,c2,Ji⟩:=(Rd.Ad Au).shape
 subst Ji
 have KK:Hid (Rd w2 1 (.slice p2 (1+(Ab D.length).length+D.length) c2) (id::bytesOf D).length (B9 (id::bytesOf D))):=by
  show Rd _ _ _ _ _
  rw [Pu]
  exact Rd.Ad Au
 have zX:Hid (∀z∈id::bytesOf D,z<256):=fun z hzm=>by
  rcases zAS.1 hzm with rfl | h1
  ·exact hid
  ·exact MN HM.out z h1
 have lQ:Hid ((id::bytesOf D).length≤140737488355000):=by
  show _≤_
  have:=Ei.out.1
  rw [Pu]
  omega
 clear Au AU DK eL Pu cX Dd vx Kn Ua lA
 go_wp2_with fail
 refine (Sk _ (id::bytesOf D) _ GA.out KK.out zX.out lQ.out).mono ?_
 rintro e w3 ⟨r,rfl,hM⟩
 obtain ⟨p3,c3,hr⟩:=(Rd.Ad hM.1).shape
 subst hr
 have Ft:Hid (Rd w3 1 (.slice p3 (AH id D).length c3) (AH id D).length (B9 (AH id D))):=Rd.Ad hM.1
 have BS:=zAA (AP.out.trans (hM.2.mono AP.out.size))
 have kX:=zAA (H.out.below BS.out)
 have jl:=Ez id D
 have Ej:Hid (AH id D≠[]):=fun e=>by have:=congrArg List.length e;rw [jl] at this;simp at this
 have Np:Hid ((l.length+(AH id D).length)*1≤140737488355328∧l.length+(AH id D).length≤maxLen):=by
  show _∧_
  have h3:=Ei.out
  unfold maxLen
  omega
 have efr:(Db (id::bytesOf D)).length=(AH id D).length:=rfl
 rw [efr]
 clear hM KK GA zX efr jl
 go_wp2_with (at_builtin;refine TP Tryz.CG w0 _ _ _ l (AH id D) kX.out Ft.out Ej.out Np.out rfl _ _ rfl rfl rfl ?_)
 intro v4 w4 k4 m4 f4
 have GG:=zAA k4
 have bJ:Hid (Ac (fun k=>(Value.slice q0 l.length c0).ownBlock=some k) w w4):=(Ac.Ah BS.out (fun k=>(Value.slice q0 l.length c0).ownBlock=some k)).trans m4 (fun _ _ e=>e)
 have HF4:Hid (AG w.heap.size (.slice q0 l.length c0) v4):=fun k hk=>by
  rcases f4 k hk with h | h
  ·exact Or.inl h
  ·have:=BS.out.size;exact Or.inr (by omega)
 clear k4 m4 f4
 go_wp2_with fail
 go_ret
 exact ⟨_,rfl,GG.out,bJ.out,HF4.out⟩
theorem Z7 (v:Value) (l:List Nat) (w:World) (h:Rd w 1 v l.length (SZ l)) (h5:l.length≤5) (hb:∀x∈l,x<9223372036854775808) :
  Calls Tryz.prog 52 #[v] w fun e w'=>∃r,e = .returned r∧AR w w' (Bf l) r:=by
 have HB:=zAA hb
 have HL:=zAA h5
 have H:=zAA h
 have hN:(l.length:Int)≤5:=by omega
 have HZ:Hid (AR w w (Bf (l.take 0)) (.slice none 0 0)):=Cp.nil w
 obtain ⟨p,c,hv⟩:=h.shape
 subst hv
 clear h hb h5
 go_enter Tryz.func52,Tryz.ntmps52
 go_wp2_with fail
 go_loopw [3,8] (fun vv iv wr=>∃(i:Nat),i≤l.length∧iv = .int .i64 (i:Int)∧Hid (AR w wr (Bf (l.take i)) vv)) (fun _ iv _=>l.length-(intOf iv).toNat)
 case atStart=>exact ⟨0,zAJ _,rfl,HZ.out⟩
 case round=>
  obtain ⟨i,hi,rfl,HO⟩:=hrel
  clear HZ
  obtain ⟨pv,cv,DB⟩:=HO.out.shape
  subst DB
  by_cases Aq:i<l.length
  ·have AF:(i:Int)<(l.length:Int):=by omega
   obtain ⟨x,hx⟩:∃x,l[i]? = some x:=⟨_,zAC Aq⟩
   obtain ⟨b,off,c',e,_,_,hc⟩:=(H.out.below HO.out.AA).at (fun e=>by have:=congrArg List.length e;rw [QX] at this;simp at this;subst this;simp at Aq)
   simp only [zAN] at e
   obtain ⟨rfl,_,rfl⟩:=e
   have Aj:=hc i _ (ag hx)
   have xM:=HB.out x (zAG hx)
   have hw:IntKind.u64.wrap (x:Int)=(x:Int):=by rw [zBB];omega
   have BH:=zAA (Uq hx)
   have DP:Hid ((Bf (l.take i)).length≤50):=by
    show _≤_
    have h1:=Rr (l:=l.take i) (fun y hy=>by have:=HB.out y (zEE hy);omega)
    have h2:(l.take i).length≤i:=by rw [zAR];omega
    have:=HL.out
    omega
   clear hx hc
   generalize Bf (l.take i)=acc at *
   obtain ⟨acc2,m9⟩:∃acc2,Bf (l.take (i+1))=acc2:=⟨_,rfl⟩
   have G0:=zAA m9
   rw [m9] at BH
   clear m9
   have HC:=zAA (Gk _ _ acc x (by omega) wr HO.out.Cz (by have:=DP.out;omega))
   have hxi:(x:Int)<9223372036854775808:=by omega
   go_wp2_with fail
   refine HC.out.mono ?_
   rintro en w2 ⟨v2,rfl,hP⟩
   have BG:Hid (AR w w2 acc2 v2):=by
    show AR _ _ _ _
    rw [BH.out]
    exact HO.out.extended (e:=Ab x) (by have k:=hP.own;rw [Cb] at k;exact k) hP.Ai hP.fresh
   obtain ⟨p2,c2,Ji⟩:=BG.out.shape
   subst Ji
   clear hP HC HO BH hw Aj
   go_wp2_with fail
   go_round
   case rel=>exact ⟨i+1,by omega,by go_num,(by show AR _ _ _ _;rw [G0.out];exact BG.out)⟩
   case measure=>simp [intOf];omega
  ·have AF:¬(i:Int)<(l.length:Int):=by omega
   have HE:Hid (Bf (l.take i)=Bf l):=by show _=_;rw [zAF (by omega)]
   go_wp2_with fail
   go_ret
   exact ⟨_,rfl,by rw [← HE.out];exact HO.out⟩
theorem Z8 (w0:World) (v:Value) (L:List Nat) (id:Nat) (d:Value) (D:List Nat) (w:World) (hT:Yn w) (h:JH w0 w L v) (hid:id<256) (hD:Rd w 1 d D.length (B9 D)) (Aq:∀c∈D,c<256) (hn:L.length+D.length≤140737488354000) :
  Calls Tryz.prog 51 #[v,.int .i64 (id:Int),d] w fun en w'=>∃v',en = .returned v'∧AR w0 w' (L++AH id D) v'∧Ac (fun k=>v.ownBlock=some k) w w'∧AG w.heap.size v v':=by
 have HC:=zAA (Rl w0 v L id d D w hT h hid hD Aq hn)
 have hw:IntKind.u8.wrap (id:Int)=(id:Int):=by rw [IntKind.wrap_u8];omega
 obtain ⟨p,c,hv⟩:=h.shape
 subst hv
 obtain ⟨pd,cd,hv⟩:=hD.shape
 subst hv
 clear hT h hD Aq hn
 go_enter Tryz.func51,Tryz.ntmps51
 go_wp2_with fail
 refine HC.out.mono ?_
 rintro en w2 ⟨v2,rfl,k,m,f⟩
 have HK:=zAA k;have HM:=zAA m;have HF:=zAA f
 clear k m f HC
 go_wp2_with fail
 go_ret
 exact ⟨_,rfl,HK.out,HM.out,HF.out⟩
theorem arrS:Re Tryz.prog 34 25 4 (.slice none 0 0):=Re.mk' Tryz.underlying34 (by kernel_rfl) (by kernel_rfl) Tryz.underlying25 rfl
theorem arrO4:Re Tryz.prog 88 3 4 (.int .i64 0):=Re.mk' Tryz.underlying88 (by kernel_rfl) (by kernel_rfl) Tryz.underlying3 rfl
def iB (S:List (List Nat)) (i:Nat):List Nat:=EU 1 5 (S.take i)++List.replicate (4-i) 0
theorem rR {S:List (List Nat)} (i:Nat) (h:i≤S.length) (h5:i≤4):(iB S i).length=4:=by rw [iB,zAB,GP,zAR,zFU];omega
theorem mq {S:List (List Nat)} {i:Nat} {d:List Nat} (h:S[i]? = some d) (h5:i<4):(iB S i).set i (Fx S i).length=iB S (i+1):=by
 have hi:=(zAE.1 h).1
 have e:S.take (i+1)=S.take i++[d]:=by rw [zAL,h];rfl
 have hl:(EU 1 5 (S.take i)).length=i:=by rw [GP,zAR];omega
 rw [iB,iB,e,jW,PL,zDQ _ _ (by omega),hl,zFD,show 4-i=(4-(i+1))+1 by omega,List.replicate_succ,zBL,zAK]
 rfl
theorem mp {S:List (List Nat)} (h4:S.length=4):iB S 4=EU 1 5 S:=by
 rw [iB,zAF (by omega)];simp
theorem Z6 (vs:List Value) (S:List (List Nat)) (w:World) (hT:Yn w) (h:cj w vs S) (h4:S.length=4) (ok:pD S) (hE:(FJ S).length≤140737488352000) :
  Calls Tryz.prog 25 #[.agg vs.toArray] w fun e w'=>∃r,e = .returned r∧AR w w' (FJ S) r:=by
 have HT:=zAA hT
 have H:=zAA h;have H4:=zAA h4;have Fj:=zAA ok;have Gi:=zAA hE
 have tY:Hid (vs.length=4):=h.len.trans h4
 clear h h4 ok hE hT
 go_enter Tryz.func25,Tryz.ntmps25
 go_wp2_with (refine GX rfl _ _ rfl vs rfl ?_)
 intro w1 hK hB hS
 have HK:=zAA hK;have A6:=zAA hB;have HS1:=zAA hS
 obtain ⟨g,hg⟩:∃g,w.heap.size=g:=⟨_,rfl⟩
 have HG:=zAA hg
 rw [hg] at HK HS1 ⊢
 clear hK hB hS hg
 have kc:=fun (w:World) (C:Array Value) (n c:Nat)=>Lib.run_convert_bytes_const (P:=Tryz.prog) w 25 5 C n c Tryz.underlying25 Tryz.underlying5
 have SD:Below w1.heap.size w1 (w1.alloc (.cells #[.int .u8 84,.int .u8 83,.int .u8 66,.int .u8 75,.int .u8 1] 5 (5,6))):=(zAM _ _).alloc (zAD _) _
 have nK:(w1.alloc (.cells #[.int .u8 84,.int .u8 83,.int .u8 66,.int .u8 75,.int .u8 1] 5 (5,6))).heap.size=w1.heap.size+1:=by simp
 have nI:=Z3 w1 #[.int .u8 84,.int .u8 83,.int .u8 66,.int .u8 75,.int .u8 1] (5,6) QJ 5 rfl rfl (by decide)
 have G0:Hid (JH w (w1.alloc (.cells #[.int .u8 84,.int .u8 83,.int .u8 66,.int .u8 75,.int .u8 1] 5 (5,6))) QJ (.slice (some ⟨w1.heap.size,0,none⟩) 5 5)):=
  ⟨nI,fun k hk=>by have e:w1.heap.size=k:=zDT hk;have:=A6.out.size;omega,A6.out.trans (SD.mono A6.out.size),Or.inr ⟨by decide,_,rfl⟩⟩
 have E4:=zAA (HK.out.of_same (SD.block g HK.out.lt))
 have Rj:Hid (g<w1.heap.size∧(w1.alloc (.cells #[.int .u8 84,.int .u8 83,.int .u8 66,.int .u8 75,.int .u8 1] 5 (5,6))).heap.size=w1.heap.size+1):=⟨HK.out.lt,nK⟩
 clear SD nK nI HK A6 HS1
 go_wp2_with (refine BU arrO4 rfl rfl ?_)
 intro w3 qO FG hS3
 have sn:=FG
 rw [← Rj.out.2] at sn
 have kX:=zAA (G0.out.below sn)
 have GF:=zAA (E4.out.of_same (sn.block g E4.out.lt))
 have HJ3:=zAA qO
 have vZ:Hid (∀k,(Value.slice (some ⟨w1.heap.size,0,none⟩) 5 5).ownBlock=some k→g<k∧k≠w1.heap.size+1):=fun k hk=>by have e:w1.heap.size=k:=zDT hk;have:=Rj.out.1;omega
 obtain ⟨h0,hh0⟩:∃h0,w1.heap.size+1=h0:=⟨_,rfl⟩
 rw [hh0] at HJ3 vZ ⊢
 have HH:Hid (g<h0):=by show _<_;have:=Rj.out.1;omega
 obtain ⟨lb,gz⟩:∃lb,w1.heap.size=lb:=⟨_,rfl⟩
 rw [gz] at kX vZ ⊢
 clear qO FG sn hS3 hh0 gz G0 E4 Rj kc
 go_wp2_with (refine Gc arrS rfl _ rfl g rfl _ GF.out tY.out ?_)
 go_loopw [3,10] (fun vv iv wr=>∃(i:Nat),i≤4∧iv = .int .i64 (i:Int)∧Hid (JH w wr (Fx S i) vv)∧Hid (Ao wr g vs)∧Hid (Ao wr h0 (SZ (iB S i)))∧Hid (∀k,vv.ownBlock=some k→g<k∧k≠h0)) (fun _ iv _=>4-(intOf iv).toNat)
 case atStart=>exact ⟨0,zAJ _,rfl,kX.out,GF.out,HJ3.out,vZ.out⟩
 case round=>
  obtain ⟨i,hi,rfl,HA,HKr,tW,HV⟩:=hrel
  clear kX GF HJ3 vZ
  obtain ⟨pv,cv,DB⟩:=HA.out.shape
  subst DB
  have KM:(i:Int)≤4:=by omega
  by_cases Aq:i<4
  ·have AF:(i:Int)<4:=by omega
   obtain ⟨d,hd⟩:∃d,S[i]? = some d:=⟨_,zAC (by have:=H4.out;omega)⟩
   obtain ⟨p,c,hv,hr⟩:=H.out.get hd
   have Yk:=zAA hr
   have hvi:=hv
   have l4:=zAA (Sd hd)
   have T7:=zAA (mq hd Aq)
   have Pu:=zAA (zAW (xX hd) Gi.out)
   have lS:=zAA (Fj.out d (zAG hd))
   have jl:=Ez (1+i) d
   have ij:Hid (AH (1+i) d≠[]∧d.length≤140737488352000):=⟨fun e=>by have:=congrArg List.length e;rw [jl] at this;simp at this,by have:=Pu.out;omega⟩
   have Ex:=rR (S:=S) i (by have:=H4.out;omega) (by omega)
   obtain ⟨x0,GD⟩:∃x0,(iB S i)[i]? = some x0:=⟨_,zAC (by omega)⟩
   have h0c:wr.cell? ⟨h0,i,none⟩=some (.int .i64 (x0:Int)):=by rw [tW.out.cell,ag GD]
   have h0f:wr.frozen? ⟨h0,i,none⟩=false:=tW.out.free i
   have rl:Hid ((Fx S i).length≤140737488352000):=by show _≤_;have:=Pu.out;omega
   obtain ⟨L,hL⟩:∃L,Fx S i=L:=⟨_,rfl⟩
   rw [hL] at HA l4 T7 Pu rl HV ⊢
   have sG:(L.length:Int)≤140737488352000:=by have:=rl.out;omega
   have hM:Ac (fun k=>k=h0) wr (wr.setCell ⟨h0,i,none⟩ (.int .i64 (L.length:Int))):=Ac.set _ _ _ _ (fun _=>rfl)
   have G0:=zAA (HA.out.Ai hM (fun k hk=>(HV.out k hk).2) (fun k hk=>by have:=HG.out;have:=HH.out;omega))
   have E4:=zAA (hM.AM HKr.out (fun e=>by have:=HH.out;omega))
   have vA:Hid (Ao (wr.setCell ⟨h0,i,none⟩ (.int .i64 (L.length:Int))) h0 (SZ (iB S (i+1)))):=by
    have h:=tW.out.set i (.int .i64 (L.length:Int))
    have e:(SZ (iB S i)).set i (.int .i64 (L.length:Int))=SZ (iB S (i+1)):=by rw [← T7.out];simp [SZ,zGO]
    rw [e] at h
    exact h
   have g0:(wr.setCell ⟨h0,i,none⟩ (.int .i64 (L.length:Int))).cell? ⟨g,i,none⟩=some (.slice p d.length c):=by rw [E4.out.cell];exact hv
   have GA:=zAA (HT.out.below G0.out.AA (zAD _))
   have Yd:Hid (Calls Tryz.prog 51 #[.slice pv L.length cv,.int .i64 (1+(i:Int)),.slice p d.length c] (wr.setCell ⟨h0,i,none⟩ (.int .i64 (L.length:Int))) fun en w'=>∃v',en = .returned v'∧AR w w' (L++AH (1+i) d) v'∧Ac (fun k=>(Value.slice pv L.length cv).ownBlock=some k) (wr.setCell ⟨h0,i,none⟩ (.int .i64 (L.length:Int))) w'∧AG (wr.setCell ⟨h0,i,none⟩ (.int .i64 (L.length:Int))).heap.size (.slice pv L.length cv) v'):=
    (by rw [show (1+(i:Int))=((1+i:Nat):Int) by omega];exact Z8 w _ L (1+i) _ d _ GA.out G0.out (by omega) (Yk.out.below G0.out.AA) lS.out.1 (by have h1:=Pu.out;have h2:=Ez (1+i) d;have h3:=CX d;omega))
   clear hd hv hr jl Ex GD hL hM HA HKr tW
   have zweA:Hid (vs[i]? = some (.slice p d.length c)):=hvi
   go_wp2_with (refine Fr arrS rfl _ _ rfl vs rfl i rfl Aq _ zweA.out ?_)
   generalize wr.setCell ⟨h0,i,none⟩ (.int .i64 (L.length:Int))=w4 at *
   refine Yd.out.mono ?_
   rintro en w6 ⟨v6,rfl,k6,m6,f6⟩
   obtain ⟨L2,Fk⟩:∃L2,Fx S (i+1)=L2:=⟨_,rfl⟩
   have Jf:=zAA Fk
   have Jg:Hid (JH w w6 L2 v6):=by show JH _ _ _ _;rw [← Fk,l4.out];exact JH.of k6
   have Yf:=zAA (m6.AM E4.out (fun e=>by have:=(HV.out g e).1;omega))
   have HJ6:=zAA (m6.AM vA.out (fun e=>(HV.out h0 e).2 rfl))
   have HV6:Hid (∀k,v6.ownBlock=some k→g<k∧k≠h0):=fun k hk=>by
    rcases f6 k hk with e | e
    ·exact HV.out k e
    ·have:=E4.out.lt;have:=vA.out.lt;omega
   obtain ⟨p6,c6,jx⟩:=Jg.out.shape
   subst jx
   clear k6 m6 f6 G0 E4 vA HV Pu ij T7 l4 Fk GA Yd g0 h0c h0f
   go_wp2_with fail
   go_round
   case rel=>exact ⟨i+1,by omega,by go_num,(by show JH _ _ _ _;rw [Jf.out];exact Jg.out),Yf.out,HJ6.out,HV6.out⟩
   case measure=>simp [intOf];omega
  ·have AF:¬(i:Int)<4:=by omega
   have hi4:i=4:=by omega
   subst hi4
   have bZ:Hid (S.take 4=S):=zAF (by have:=H4.out;omega)
   have hA4:=mp H4.out
   have NQ:=YW S 4
   have fK:Hid ((Kr S).length+8=(FJ S).length):=by show _=_;rw [FJ,zAB,Cf];rfl
   rw [hA4] at tW
   have ho4:(EU 1 5 S).length=4:=by rw [GP];exact H4.out
   have fO:=zAA (fun x hx=>by
    have hl:=PL S 4
    rw [bZ.out] at hl
    have:=gN S 1 5 x hx;have:=Gi.out;omega:∀x∈EU 1 5 S,x<9223372036854775808)
   have kZ:Hid (Kr S=Fx S 4++AH 5 (Bf (EU 1 5 S))):=by show _=_;rw [Kr,cH H4.out]
   have TV:=zAA (QD (EU 1 5 S))
   obtain ⟨O,hO⟩:∃O,EU 1 5 S=O:=⟨_,rfl⟩
   rw [hO] at kZ TV tW ho4 fO
   have qH:Hid (Rd wr 1 (.slice (some ⟨h0,0,none⟩) 4 4) O.length (SZ O)):=by
    show Rd _ _ _ _ _
    rw [ho4]
    exact Rd.FQ tW.out (by rw [QX,ho4]) (by unfold maxLen;omega)
   have HC:=zAA (Z7 _ O wr qH.out (by omega) fO.out)
   obtain ⟨C,hC⟩:∃C,Bf O=C:=⟨_,rfl⟩
   rw [hC] at HC kZ TV
   obtain ⟨L,hL⟩:∃L,Fx S 4=L:=⟨_,rfl⟩
   rw [hL] at HA kZ HV ⊢
   have jl:=Ez 5 C
   have kY:Hid (L.length+(AH 5 C).length=(Kr S).length∧(Kr S).length+8≤140737488352000∧L.length+C.length≤140737488352000):=by
    have h1:=congrArg List.length kZ.out
    rw [zAB] at h1
    exact ⟨h1.symm,by have:=fK.out;have:=Gi.out;omega,by have:=fK.out;have:=Gi.out;have:=CX C;omega⟩
   clear NQ hC hL jl hO hA4 ho4
   go_wp2_with fail
   refine HC.out.mono ?_
   rintro en w4 ⟨r4,rfl,hO⟩
   have R8:=zAA hO.rd
   have L5:=zAA (HA.out.below hO.AA)
   have bZ:=zAA (HT.out.below L5.out.AA (zAD _))
   obtain ⟨p4,c4,nM⟩:=hO.shape
   subst nM
   clear hO HC HA tW HKr qH
   go_wp2_with fail
   refine (Z8 w _ L 5 (.slice p4 C.length c4) C w4 bZ.out L5.out (by decide) R8.out TV.out (by have:=kY.out;omega)).mono ?_
   rintro en w6 ⟨v6,rfl,k6,m6,f6⟩
   rw [← kZ.out] at k6
   have Jg:=zAA k6
   obtain ⟨p6,c6,jx⟩:=k6.shape
   subst jx
   have HOl:=zAA (mr H4.out Fj.out)
   clear k6 m6 f6 HV kZ R8 L5
   obtain ⟨Bd,hBd⟩:∃Bd,Kr S=Bd:=⟨_,rfl⟩
   have zi:Hid (FJ S=Db Bd++qp):=by show _=_;rw [FJ,hBd]
   rw [hBd] at Jg HOl kY ⊢
   clear hBd
   go_wp2_with fail
   refine (Sk _ Bd w6 (HT.out.below Jg.out.AA (zAD _)) Jg.out.rd HOl.out (by have:=kY.out;omega)).mono ?_
   rintro en w7 ⟨r7,rfl,hMd⟩
   have Vb:Hid (Below w.heap.size w w7):=Jg.out.AA.trans (hMd.2.mono Jg.out.AA.size)
   have YJ:=zAA (Af hMd.1 (base':=0) (fun _ _=>zAJ _))
   have lN:Hid (∀k,r7.ownBlock=some k→w.heap.size≤k):=fun k hk=>zAW Jg.out.AA.size (hMd.1.lt k hk).1
   obtain ⟨p7,c7,UB⟩:=(Rd.Ad hMd.1).shape
   subst UB
   have Nn:Hid (((Db Bd).length+(⟨#[75,66,83,84]⟩:ByteArray).size)*1≤140737488355328∧(Db Bd).length+(⟨#[75,66,83,84]⟩:ByteArray).size≤maxLen):=by
    show _∧_
    have h:=kY.out
    rw [Cf,show (⟨#[75,66,83,84]⟩:ByteArray).size=4 from rfl]
    unfold maxLen;omega
   clear hMd Jg
   go_wp2_with (at_builtin;refine Fh Tryz.CG Tryz.underlying9 _ _ _ _ YJ.out ⟨#[75,66,83,84]⟩ Nn.out rfl _ _ rfl rfl rfl ?_)
   intro v8 w8 Au AU DK
   have bM:Hid (AR w w8 (FJ S) v8):=by
    refine ⟨?_,Vb.out.trans (AU.below Vb.out.size (fun k hk e=>by have:=lN.out k e;omega))⟩
    show w8.ownsRow _ _ 1 v8 (FJ S).length (B9 (FJ S))
    rw [zi.out,zAB,Cb]
    refine Af Au (fun k hk=>?_)
    rcases DK k hk with e | e
    ·exact lN.out k e
    ·have:=Vb.out.size;omega
   obtain ⟨p8,c8,MY⟩:∃p c,v8 = .slice p ((Db Bd).length+(⟨#[75,66,83,84]⟩:ByteArray).size) c:=(Rd.Ad Au).shape
   subst MY
   clear Au AU DK YJ Nn
   go_wp2_with fail
   go_ret
   exact ⟨_,rfl,bM.out⟩
theorem Yn.low {w:World} (h:Yn w) : 0 + 1≤w.heap.size:=zAP w _ (h 0 (by decide))
theorem Yn.Ai {S:Nat→Prop} {w w':World} (h:Yn w) (hm:Ac S w w') (hs:∀k,k < 0 + 1→¬S k):Yn w':=fun i hi=>hm.cell (h i hi) (hs _ (Nat.lt_succ_self _))
end Go.Proofs.YtdcgbgecbeegmaaGreatDoor
end
