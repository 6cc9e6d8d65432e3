/- Texts 31. -/
import Derived.Test.YtdcgbgecbeegmaaGreatDoorMgSA
import Derived.Test.YtdcgbgecbeegmaaGreatDoorMgS26
import Derived.Test.YtdcgbgecbeegmaaGreatDoorMgS24
set_option linter.unusedVariables false
set_option linter.unusedSimpArgs false
set_option maxHeartbeats 400000000
set_option maxRecDepth 100000
section
namespace Go.Proofs.YtdcgbgecbeegmaaGreatDoor
open Go Go.RowKit
theorem XP (tv lv:Value) (t:List ByteArray) (l:List zFSA) (w:World) (ht:Rd w 1 tv t.length (BM t)) (Yx:t.length≤1000000) (hl:mg w lv l) (JG:l.length≤1000000) (hs:∀e∈l,AN ET e.2∧e.2.length≤1000000∧∀x∈e.2,0≤x∧x<1000000000) (hE:(Bt t l).length≤1000000000) :
  Calls Tryz.prog 36 #[tv,lv] w (EV w (Cl t l)):=by
 have HT:=zAA ht;have KL:=zAA Yx;have HL:=zAA hl;have DP:=zAA JG;have HS:=zAA hs;have Gi:=zAA hE
 obtain ⟨pt,ct,hv⟩:=ht.shape
 subst hv
 obtain ⟨pl,cl,hv⟩:=hl.shape
 subst hv
 have xu:(l.length:Int)≤1000000:=by omega
 have qF:=zAA (fun W=>DE l.length (by omega) W)
 have xJ:IntKind.u64.wrap (l.length:Int)=(l.length:Int):=by rw [zBB];omega
 clear ht Yx hl JG hs hE
 go_enter Tryz.func36,Tryz.ntmps36
 go_wp2_with fail
 refine (qF.out w).mono ?_
 rintro en w1 ⟨r1,rfl,hM⟩
 have Dd:Hid (AR w w1 (E8 t l 0) r1):=by
  show AR w w1 (Ab l.length++(l.take 0).flatMap (Dw t)) r1
  rw [zDX,zEM,zBR]
  exact ⟨hM.1,hM.2⟩
 obtain ⟨p1,c1,DA⟩:=Dd.out.shape
 subst DA
 clear hM qF xJ
 go_wp2_with fail
 go_loopw [6,7] (fun vv iv wr=>∃(i:Nat),i≤l.length∧iv = .int .i64 (i:Int)∧Hid (AR w wr (E8 t l i) vv)∧Hid (∀e∈l.take i,CV t e.1)) (fun _ iv _=>l.length-(intOf iv).toNat)
 case atStart=>exact ⟨0,zAJ _,rfl,Dd.out,(by intro e he;simp at he)⟩
 case round=>
  obtain ⟨i,hi,rfl,HO,Km⟩:=hrel
  have KM:(i:Int)≤1000000:=by omega
  obtain ⟨pv,cv,DB⟩:=HO.out.shape
  subst DB
  by_cases Aq:i<l.length
  ·have AF:(i:Int)<(l.length:Int):=by omega
   obtain ⟨⟨⟨n1,v1⟩,s⟩,hr⟩:∃r,l[i]? = some r:=⟨_,zAC Aq⟩
   obtain ⟨AM,off,q1,k1,e,Jv⟩:=HL.out.always hr
   subst e
   have T7:=zAA Jv
   simp only at T7
   have Ch:=zAG hr
   have KD:Hid (AN ET s∧s.length≤1000000∧∀x∈s,0≤x∧x<1000000000):=HS.out _ Ch
   have qZ:(s.length:Int)≤1000000:=by have:=KD.out.2.1;omega
   have Nq:Hid ((E8 t l i).length+(Ab (Df t n1)).length+(Ab (Df t v1)).length+(Ab s.length).length+(BF s s.length).length≤1000000000):=zAW (Vl hr) Gi.out
   have Gy:Hid (E8 t l (i+1)=E8 t l i++Ab (Df t n1)++Ab (Df t v1)++Ab s.length++BF s s.length):=PX hr
   have EZ:Hid (¬CV t (n1,v1)→Cl t l=(14,[])):=fun h=>Vm Ch h
   have R6:Hid (CV t (n1,v1)→∀e∈l.take (i+1),CV t e.1):=fun h e he=>by
    rw [zAL,hr] at he
    rcases zBJ.1 he with f | f
    ·exact Km.out e f
    ·simp at f;subst f;exact h
   have YF:=zAA (fun x W h=>Q3 (.slice pt t.length ct) t x W h (by have:=KL.out;omega))
   have Px:Hid (Rd wr 1 (.slice pt t.length ct) t.length (BM t)):=HT.out.below HO.out.AA
   obtain ⟨E0,gi⟩:∃E0,E8 t l i=E0:=⟨_,rfl⟩
   rw [gi] at HO Nq Gy ⊢
   obtain ⟨⟨d0,d1,d2⟩,_⟩:=T7.out wr HO.out.AA
   clear hr Jv Ch gi Km
   have zV:Hid (E0.length≤1000000000):=by show _≤_;have:=Nq.out;omega
   go_wp2_with fail
   refine (YF.out n1 wr Px.out).mono ?_
   rintro en w5 ⟨rfl,rfl⟩
   go_wp2_with fail
   refine (YF.out v1 w5 Px.out).mono ?_
   rintro en w6 ⟨rfl,rfl⟩
   clear YF Px
   by_cases hn:n1∈t
   ·obtain ⟨jn,JF,nw⟩:=Ey hn
    have k8:Hid (jn<9223372036854775808):=by show _<_;have:=(zAE.1 nw).1;have:=KL.out;omega
    have Ct:Df t n1=jn:=by rw [Df,JF];rfl
    rw [JF]
    rw [Ct] at Gy Nq
    have hjn0:¬(jn:Int)<0:=by omega
    clear JF nw Ct
    by_cases gE:v1∈t
    ·obtain ⟨jv,xq,ny⟩:=Ey gE
     have yr:Hid (jv<9223372036854775808):=by show _<_;have:=(zAE.1 ny).1;have:=KL.out;omega
     have hiv:Df t v1=jv:=by rw [Df,xq];rfl
     rw [xq]
     rw [hiv] at Gy Nq
     have hjv0:¬(jv:Int)<0:=by omega
     have Ws:Hid (∀e∈l.take (i+1),CV t e.1):=R6.out ⟨hn,gE⟩
     clear xq ny hiv hn gE EZ R6
     have jy:IntKind.u64.wrap (jn:Int)=(jn:Int):=by rw [zBB];have:=k8.out;omega
     have tV:=zAA (fun W=>DE jn (by have:=k8.out;omega) W)
     have zO:Hid ((E0.length+(Ab jn).length)*1≤140737488355328∧E0.length+(Ab jn).length≤maxLen):=by show _∧_;have:=AE (x:=jn) (by have:=k8.out;omega);have:=zV.out;unfold maxLen;omega
     go_wp2_with fail
     refine (tV.out w6).mono ?_
     rintro en wxa ⟨rr,rfl,hM⟩
     have vI:=zAA (HO.out.below hM.2)
     have zA:=zAA (Rd.Ad hM.1)
     have HOza:=zAA vI.out.Cz
     obtain ⟨qa,da,DA⟩:=(Rd.Ad hM.1).shape
     subst DA
     clear hM tV HO jy
     go_wp2_with (at_builtin;refine At Tryz.CG _ _ _ _ _ _ _ HOza.out zA.out (A3 _) zO.out rfl _ _ rfl rfl rfl ?_)
     intro v2 wa k1 m1 f1
     obtain ⟨L1,Yr⟩:∃X,E0++Ab jn=X:=⟨_,rfl⟩
     have vM:Hid (AR w wa L1 v2):=by
      show AR _ _ _ _
      rw [← Yr]
      exact vI.out.extended (e:=Ab jn) k1 m1 f1
     obtain ⟨pa,ca,Ji⟩:=vM.out.shape
     subst Ji
     have Kn:=zAA Yr
     clear k1 m1 f1 HOza zA zO vI Yr
     have zT:Hid (L1.length≤1000000000):=by show _≤_;rw [← Kn.out,zAB];have:=Nq.out;omega
     have hwb:IntKind.u64.wrap (jv:Int)=(jv:Int):=by rw [zBB];have:=yr.out;omega
     have HEb:=zAA (fun W=>DE jv (by have:=yr.out;omega) W)
     have zP:Hid ((L1.length+(Ab jv).length)*1≤140737488355328∧L1.length+(Ab jv).length≤maxLen):=by show _∧_;have:=AE (x:=jv) (by have:=yr.out;omega);have:=zT.out;unfold maxLen;omega
     go_wp2_with fail
     refine (HEb.out wa).mono ?_
     rintro en wxb ⟨rr,rfl,hM⟩
     have vJ:=zAA (vM.out.below hM.2)
     have zB:=zAA (Rd.Ad hM.1)
     have HOzb:=zAA vJ.out.Cz
     obtain ⟨qb,db,DA⟩:=(Rd.Ad hM.1).shape
     subst DA
     clear hM HEb vM hwb
     go_wp2_with (at_builtin;refine At Tryz.CG _ _ _ _ _ _ _ HOzb.out zB.out (A3 _) zP.out rfl _ _ rfl rfl rfl ?_)
     intro v2 wb k1 m1 f1
     obtain ⟨L2,Fk⟩:∃X,L1++Ab jv=X:=⟨_,rfl⟩
     have Uh:Hid (AR w wb L2 v2):=by
      show AR _ _ _ _
      rw [← Fk]
      exact vJ.out.extended (e:=Ab jv) k1 m1 f1
     obtain ⟨pb,cb,Ji⟩:=Uh.out.shape
     subst Ji
     have Jf:=zAA Fk
     clear k1 m1 f1 HOzb zB zP vJ Fk
     have zU:Hid (L2.length≤1000000000):=by show _≤_;rw [← Jf.out,← Kn.out,zAB,zAB];have:=Nq.out;omega
     clear d0 d1 d2
     obtain ⟨⟨d0,d1,d2⟩,_⟩:=T7.out wb Uh.out.AA
     have hwc:IntKind.u64.wrap (s.length:Int)=(s.length:Int):=by rw [zBB];have:=KD.out.2.1;omega
     have zI:=zAA (fun W=>DE s.length (by have:=KD.out.2.1;omega) W)
     have zQ:Hid ((L2.length+(Ab s.length).length)*1≤140737488355328∧L2.length+(Ab s.length).length≤maxLen):=by show _∧_;have:=AE (x:=s.length) (by have:=KD.out.2.1;omega);have:=zU.out;unfold maxLen;omega
     go_wp2_with fail
     refine (zI.out wb).mono ?_
     rintro en wxc ⟨rr,rfl,hM⟩
     have vK:=zAA (Uh.out.below hM.2)
     have zC:=zAA (Rd.Ad hM.1)
     have HOzc:=zAA vK.out.Cz
     obtain ⟨qc,dc,DA⟩:=(Rd.Ad hM.1).shape
     subst DA
     clear hM zI Uh hwc
     go_wp2_with (at_builtin;refine At Tryz.CG _ _ _ _ _ _ _ HOzc.out zC.out (A3 _) zQ.out rfl _ _ rfl rfl rfl ?_)
     intro v2 wc k1 m1 f1
     obtain ⟨L3,wO⟩:∃X,L2++Ab s.length=X:=⟨_,rfl⟩
     have lg:Hid (AR w wc L3 v2):=by
      show AR _ _ _ _
      rw [← wO]
      exact vK.out.extended (e:=Ab s.length) k1 m1 f1
     obtain ⟨pc,cc,Ji⟩:=lg.out.shape
     subst Ji
     have Np:=zAA wO
     clear k1 m1 f1 HOzc zC zQ vK wO
     have HLnc:Hid (L3.length+(BF s s.length).length≤1000000000):=by show _≤_;rw [← Np.out,← Jf.out,← Kn.out,zAB,zAB,zAB];have:=Nq.out;omega
     have HNx2:Hid (E8 t l (i+1)=L3++BF s s.length):=by show _=_;rw [Gy.out,Kn.out,Jf.out,Np.out]
     have yx:Hid (AR w wc (L3++BF s 0) (.slice pc L3.length cc)):=by
      show AR _ _ _ _
      have h:=lg.out
      rwa [show BF s 0=[] from rfl,zBR]
     clear d0 d1 d2 Gy Nq Kn Jf Np zV zT zU lg
     go_wp2_with fail
     go_loopw [6,10,11] (fun vv zv kv wr2=>∃(k:Nat),k≤s.length∧kv = .int .i64 (k:Int)∧zv = .int .i64 (Kw s k)∧Hid (AR w wr2 (L3++BF s k) vv)) (fun _ _ kv _=>s.length-(intOf kv).toNat)
     case atStart=>exact ⟨0,zAJ _,rfl,rfl,yx.out⟩
     case round=>
      obtain ⟨k,hk,rfl,rfl,JD⟩:=hrel
      have Xg:(k:Int)≤1000000:=by omega
      obtain ⟨p7,c7,UB⟩:=JD.out.shape
      subst UB
      obtain ⟨⟨d0,d1,d2⟩,uM⟩:=T7.out wr JD.out.AA
      clear d0 d1
      by_cases Fl:k<s.length
      ·have Rz:(k:Int)<(s.length:Int):=by omega
       obtain ⟨x,hx⟩:∃x,s[k]? = some x:=⟨_,zAC Fl⟩
       obtain ⟨gc,oc,e,Aj⟩:=Th uM hx
       subst e
       have n0:=Aj wr (zAM _ _)
       have qI:Hid (L3++BF s (k+1)=L3++BF s k++Ab (x-Kw s k).toNat):=by show _=_;rw [Tw hx,zAK]
       have HZn:Hid (Kw s (k+1)=x):=J3 hx
       have hz:=ZX hx KD.out.1 (fun y hy=>(KD.out.2.2 y hy).1)
       have xM:=(KD.out.2.2 x (zAG hx)).2
       have zW:Hid ((L3++BF s k).length≤2000000000):=by show _≤_;rw [zAB];have h1:=HLnc.out;have h2:=V9 s k;omega
       obtain ⟨z,hze⟩:∃z,Kw s k=z:=⟨_,rfl⟩
       rw [hze] at hz qI ⊢
       obtain ⟨df,hdf⟩:∃df:Nat,x-z=(df:Int):=⟨(x-z).toNat,by omega⟩
       have HDf:Hid (df<1000000000):=by show _<_;omega
       have hdw:IntKind.i64.wrap (x-z)=(df:Int):=by rw [← hdf];exact zEZ _ (by omega)
       rw [hdf,zCA] at qI
       obtain ⟨E7,hE7⟩:∃E7,L3++BF s k=E7:=⟨_,rfl⟩
       rw [hE7] at JD zW qI ⊢
       have HX:=zAA hx
       clear hx Aj uM hze hE7 Fl
       have sM:IntKind.u64.wrap (df:Int)=(df:Int):=by rw [zBB];have:=HDf.out;omega
       have HEd:=zAA (fun W=>DE df (by have:=HDf.out;omega) W)
       have zR:Hid ((E7.length+(Ab df).length)*1≤140737488355328∧E7.length+(Ab df).length≤maxLen):=by show _∧_;have:=AE (x:=df) (by have:=HDf.out;omega);have:=zW.out;unfold maxLen;omega
       go_wp2_with fail
       refine (HEd.out wr).mono ?_
       rintro en wxd ⟨rr,rfl,hM⟩
       have vL:=zAA (JD.out.below hM.2)
       have zD:=zAA (Rd.Ad hM.1)
       have HOzd:=zAA vL.out.Cz
       obtain ⟨qd,dd,DA⟩:=(Rd.Ad hM.1).shape
       subst DA
       clear hM HEd JD sM
       go_wp2_with (at_builtin;refine At Tryz.CG _ _ _ _ _ _ _ HOzd.out zD.out (A3 _) zR.out rfl _ _ rfl rfl rfl ?_)
       intro v2 wd k1 m1 f1
       obtain ⟨L8,hL8⟩:∃X,E7++Ab df=X:=⟨_,rfl⟩
       have lS:Hid (AR w wd L8 v2):=by
        show AR _ _ _ _
        rw [← hL8]
        exact vL.out.extended (e:=Ab df) k1 m1 f1
       obtain ⟨pd,cd,Ji⟩:=lS.out.shape
       subst Ji
       have HL8:=zAA hL8
       clear k1 m1 f1 HOzd zD zR vL hL8
       clear d2 n0
       obtain ⟨⟨d0,d1,d2⟩,uM⟩:=T7.out wd lS.out.AA
       obtain ⟨gc',oc',e,Aj⟩:=Th uM HX.out
       cases e
       have n0:=Aj wd (zAM _ _)
       clear d0 d1 uM Aj
       go_wp2_with fail
       go_round
       case rel=>exact ⟨k+1,by omega,by go_num,by rw [HZn.out],(by show AR _ _ _ _;rw [qI.out,HL8.out];exact lS.out)⟩
       case measure=>simp [intOf];omega
      ·have Rz:¬(k:Int)<(s.length:Int):=by omega
       have hke:k=s.length:=by omega
       have zH:Hid (L3++BF s k=E8 t l (i+1)):=by show _=_;rw [hke,HNx2.out]
       clear hke uM Fl
       go_wp2_with fail
       go_round
       case rel=>exact ⟨i+1,by omega,by go_num,(by show AR _ _ _ _;rw [← zH.out];exact JD.out),Ws.out⟩
       case measure=>simp [intOf];omega
    ·rw [E9 gE]
     have HB:=zAA (EZ.out (fun k=>gE k.2))
     have Dq:=zAA HO.out.AA
     clear gE hn
     go_wp2_with fail
     go_ret2
     exact EV.Ep Dq.out HB.out
   ·rw [E9 hn]
    have HB:=zAA (EZ.out (fun k=>hn k.1))
    have Dq:=zAA HO.out.AA
    clear hn
    go_wp2_with fail
    go_ret2
    exact EV.Ep Dq.out HB.out
  ·have AF:¬(i:Int)<(l.length:Int):=by omega
   have zh:Hid (∀e∈l,CV t e.1):=by have h:=Km.out;rwa [zAF (by omega)] at h
   have tV:Hid (E8 t l i=Bt t l):=Zi _ _ _ (by omega)
   go_wp2_with fail
   go_ret2
   exact ⟨⟨_,by rw [So zh.out];rfl,by rw [So zh.out,← tV.out];exact HO.out.row⟩,HO.out.AA⟩
end Go.Proofs.YtdcgbgecbeegmaaGreatDoor
end
