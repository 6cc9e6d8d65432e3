/- Texts 15. -/
import Derived.Test.YtdcgbgecbeegmaaGreatDoorMgSA
import Derived.Test.YtdcgbgecbeegmaaGreatDoorMgS14
set_option linter.unusedVariables false
set_option linter.unusedSimpArgs false
set_option maxHeartbeats 400000000
set_option maxRecDepth 100000
section
namespace Go.Proofs.YtdcgbgecbeegmaaGreatDoor
open Go Go.RowKit
instance {α:Type} (lt:α→α→Bool) (l:List α):Decidable (AN lt l):=inferInstanceAs (Decidable (List.Pairwise _ _))
def Bp (l:List ByteArray):List ByteArray:=Kh CB l
def Rf (t:List ByteArray):Prop:=∀s∈t,s.size≤65535
instance (t:List ByteArray):Decidable (Rf t):=inferInstanceAs (Decidable (∀s∈t,_))
def Ks (t:List ByteArray):List Nat:=Ab t.length++t.flatMap fun s=>bytesOf (A8 s)
def BR (t:List ByteArray):Nat × List Nat:=if ¬Rf t then (7,[]) else if ¬AN CB t then (16,[]) else (0,Ks t)
theorem Vn {t:List ByteArray} (h1:Rf t) (h2:AN CB t):BR t=(0,Ks t):=by
 unfold BR
 rw [if_neg (zCI h1),if_neg (zCI h2)]
theorem mG (t:List ByteArray):∀c∈Ks t,c<256:=fun c hc=>by
 rcases zBJ.1 hc with h | h
 ·exact Gf _ c h
 ·obtain ⟨s,_,h⟩:=zBZ.1 h
  exact MN (jV s) c h
theorem kL (l:List ByteArray) (x:ByteArray):Bp (l++[x])=BL CB x (Bp l):=Wi l x
theorem aP (lv:Value) (l:List ByteArray) (w:World) (hl:Rd w 1 lv l.length (BM l)) (hn:l.length≤1000000000) :
  Calls Tryz.prog 48 #[lv] w fun e w'=>∃v,e = .returned v∧FI w w' (Bp l) v:=by
 have HL:=zAA hl;have Mk:=zAA hn
 obtain ⟨pl,cl,hv⟩:=hl.shape
 subst hv
 clear hl hn
 go_enter Tryz.func48,Tryz.ntmps48
 go_wp2_with fail
 go_loopw [3,4] (fun vv iv wr=>∃(j:Nat),j≤l.length∧iv = .int .i64 (j:Int)∧Hid (FI w wr (Bp (l.take j)) vv)) (fun _ iv _=>l.length-(intOf iv).toNat)
 case atStart=>exact ⟨0,by omega,rfl,Cp.nil w⟩
 case round=>
  obtain ⟨j,hj,rfl,HO⟩:=hrel
  by_cases Aq:j<l.length
  ·have AF:(j:Int)<(l.length:Int):=by omega
   have T1:(j:Int)≤1000000000:=by have:=Mk.out;omega
   obtain ⟨b,off,c',e,_,_,_⟩:=HL.out.at (fun e=>by have:=congrArg List.length e;rw [BE] at this;simp at this;subst this;simp at Aq)
   simp only [zAN] at e
   obtain ⟨rfl,_,rfl⟩:=e
   obtain ⟨x,hx⟩:∃x,l[j]=x:=⟨_,rfl⟩
   have lD:Hid (∀w',Below w.heap.size w w'→w'.cell? ⟨b,off+j,none⟩=some (.string x)):=fun w' hb=>by
    rw [← hx];exact Gt (HL.out.below hb) Aq
   have BH:Hid (Bp (l.take (j+1))=BL CB x (Bp (l.take j))):=by show _=_;rw [zAL,zAC Aq,hx];exact kL _ _
   have wK:(Bp (l.take j)).length≤1000000000:=by have:=TG (lt:=CB) (l.take j);rw [zAR] at this;have:=Mk.out;unfold Bp;omega
   have HA:Hid (AN CB (Bp (l.take j))):=Gw Bz (l.take j)
   clear hx
   generalize Bp (l.take j)=d at *
   obtain ⟨pv,cv,DB⟩:=(Rd.Ad HO.out.row).shape
   subst DB
   obtain ⟨N,hN⟩:∃N,d.length=N:=⟨_,rfl⟩
   rw [hN] at wK HO ⊢
   have Ej:Hid (d.length=N):=hN
   clear hN
   have HD:=zAA wK
   have hNi:(N:Int)≤1000000000:=by omega
   clear wK
   go_wp2_with fail
   go_loopw [5] (fun kv wr2=>∃(k:Nat),k≤N∧kv = .int .i64 (k:Int)∧Hid (∀z∈d.take k,CB z x=true)∧Hid (FI w wr2 d (.slice pv N cv))) (fun kv _=>N-(intOf kv).toNat)
   case atStart=>exact ⟨0,zAJ _,rfl,(by intro z hz;simp at hz),HO.out⟩
   case round=>
    obtain ⟨k,hkN,rfl,Vf,BG⟩:=hrel
    have gx:(k:Int)≤1000000000:=by omega
    have Mt:=lD.out wr BG.out.AA
    by_cases hk:k<N
    ·have hk':(k:Int)<(N:Int):=by omega
     obtain ⟨g0,cap0,Yy⟩:∃g cap,(Value.slice pv N cv) = .slice (some ⟨g,0,none⟩) N cap:=by
      rcases BA BG.out.row with ⟨_,h0,_⟩ | ⟨g,cap,hv,_⟩
      ·have:=Ej.out;omega
      ·rw [Ej.out] at hv;exact ⟨g,cap,hv⟩
     simp only [zAN] at Yy
     obtain ⟨rfl,_,rfl⟩:=Yy
     obtain ⟨y,hy⟩:∃y,d[k]'(by have:=Ej.out;omega)=y:=⟨_,rfl⟩
     have sB:wr.cell? ⟨g0,k,none⟩=some (.string y):=by rw [← hy];exact (BG.out.cell (i:=k) (by have:=Ej.out;omega)).1
     have HY:Hid (d[k]'(by have:=Ej.out;omega)=y):=hy
     have HYd:Hid (d.drop k=y::d.drop (k+1)):=by show _=_;rw [← hy,zEG]
     have HYt:Hid (d.take (k+1)=d.take k++[y]):=by show _=_;rw [zAL,zAC (by have:=Ej.out;omega),hy];rfl
     clear hy
     by_cases Xm:CB y x=true
     ·have je:Op.bytesLess y.toList x.toList=true:=Xm
      have vE:Hid (∀z∈d.take (k+1),CB z x=true):=by
       show ∀z∈_,_
       rw [HYt.out]
       intro z hz
       rcases zBJ.1 hz with e | e
       ·exact Vf.out z e
       ·simp only [zCF] at e;subst e;exact Xm
      clear Xm
      go_wp2_with fail
      go_quiet (fail)
      have Ew:=zAA (BG.out.drewN nq)
      clear Mt sB BG Vf
      generalize wr.drewN nq=wn at *
      go_wp2_with fail
      go_round
      case rel=>exact ⟨k+1,by omega,by go_num,vE.out,Ew.out⟩
      case measure=>simp [intOf];omega
     ·have Vx:CB y x=false:=by simpa using Xm
      have je:Op.bytesLess y.toList x.toList=false:=Vx
      have HYX:=zAA Vx
      clear Vx
      clear Xm
      by_cases nk:y=x
      ·subst nk
       have HS2:Hid (Bp (l.take (j+1))=d):=by
        show _=_
        rw [BH.out]
        have e:=gH Bz.toLtPre y (d.take k) (d.drop (k+1)) Vf.out
        rw [← HYd.out,zBD] at e
        exact e
       have dE:(y.toList == y.toList)=true:=by simp
       go_wp2_with fail
       go_quiet (fail)
       have Ew:=zAA (BG.out.drewN nq)
       have jg:(wr.drewN nq).cell? ⟨b,off+j,none⟩=some (.string y):=Mt
       have xc:(wr.drewN nq).cell? ⟨g0,k,none⟩=some (.string y):=sB
       clear Mt sB BG
       generalize wr.drewN nq=wn at *
       go_wp2_with fail
       go_quiet (fail)
       have GG:=zAA (Ew.out.drewN nq)
       clear jg xc Ew
       generalize wn.drewN nq=wq at *
       go_wp2_with fail
       go_round
       case rel=>exact ⟨j+1,by omega,by go_num,by rw [HS2.out];exact GG.out⟩
       case measure=>simp [intOf];omega
      ·have dE:(y.toList == x.toList)=false:=by rw [eqS];simpa using nk
       have HHi:Hid (∀z,(d.drop k).head? = some z→CB x z=true):=by
        intro z hz
        rw [HYd.out] at hz
        cases hz
        rcases zBH (CB x y) with e | e
        ·exact e
        ·exact absurd (Bz.kQ y x HYX.out e) nk
       clear nk
       go_wp2_with fail
       go_quiet (fail)
       have Ew:=zAA (BG.out.drewN nq)
       have jg:(wr.drewN nq).cell? ⟨b,off+j,none⟩=some (.string x):=Mt
       have xc:(wr.drewN nq).cell? ⟨g0,k,none⟩=some (.string y):=sB
       clear Mt sB BG
       generalize wr.drewN nq=wn at *
       go_wp2_with fail
       go_quiet (fail)
       have Uh:=zAA (Ew.out.drewN nq)
       clear jg xc Ew
       generalize wn.drewN nq=wb at *
       have HP:Hid (BL CB x d=d.take k++x::d.drop k):=by
        have e:=J1 Bz.toLtPre x (d.take k) (d.drop k) Vf.out HHi.out
        rwa [zBD] at e
       have C0:Hid ((N+1)*16≤140737488355328∧N+1≤maxLen):=by show _∧_;have:=HD.out;unfold maxLen;omega
       have FT:Hid (wb.ownsRow 0 9 1 (.slice (some ⟨g0,0,none⟩) N cv) N (BM d)):=by
        have h:=Af Uh.out.row (base':=0) (fun _ _=>zAJ _)
        rw [Ej.out] at h
        exact h
       go_wp2_with (at_builtin;refine AD Tryz.JW _ #[.string ⟨#[]⟩] _ _ _ FT.out rfl (CC _ rfl) C0.out rfl _ _ rfl rfl rfl ?_)
       intro v1 w1 k1 m1 f1
       have Dd:Hid (FI w w1 (d++[⟨#[]⟩]) v1):=Uh.out.B5 (by rw [Ej.out];exact k1) m1 f1
       obtain ⟨g,c1,DA⟩:∃g cap,v1 = .slice (some ⟨g,0,none⟩) (N+1) cap:=by
        rcases BA k1 with ⟨_,h0,_⟩ | ⟨g,cap,hv,_⟩
        ·omega
        ·exact ⟨g,cap,hv⟩
       subst DA
       clear k1 m1 f1 FT Uh
       go_wp2_with fail
       go_loopw [6] (fun mv wr2=>∃(m:Nat) (y:ByteArray),k≤m∧m≤N∧mv = .int .i64 (m:Int)∧Hid (FI w wr2 (d.take m++y::d.drop m) (.slice (some ⟨g,0,none⟩) (N+1) c1))) (fun mv _=>(intOf mv).toNat)
       case atStart=>exact ⟨N,⟨#[]⟩,hkN,zAD _,rfl,by
        show FI _ _ _ _
        rw [zBF (by have:=Ej.out;omega),zAF (by have:=Ej.out;omega)]
        exact Dd.out⟩
       case round=>
        obtain ⟨m,y,Xg,xw,rfl,BG⟩:=hrel
        have Bg:(d.take m++y::d.drop m).length=N+1:=by
         rw [zAB,zAH,zAR,zCN];have:=Ej.out;omega
        have Ei:=zAA Bg
        have hmi:(m:Int)≤1000000000:=by have:=HD.out;omega
        have hmN':(m:Int)<(N:Int)+1:=by omega
        have hfm:=(BG.out.cell (i:=m) (by have:=Ei.out;omega)).2
        have ZE:=(BG.out.cell (i:=m) (by have:=Ei.out;omega)).1
        have Mt:=lD.out wr BG.out.AA
        generalize (d.take m++y::d.drop m)[m]=yy at ZE
        clear Bg
        by_cases hmk:k<m
        ·have hmk':(k:Int)<(m:Int):=by omega
         obtain ⟨q,rfl⟩:∃q,m=q+1:=⟨m-1,by omega⟩
         obtain ⟨z,hz⟩:∃z,d[q]? = some z:=⟨_,zAC (by have:=Ej.out;omega)⟩
         have uf:=zAA hz
         have hcz:wr.cell? ⟨g,q,none⟩=some (.string z):=by
          rw [(BG.out.cell (i:=q) (by have:=Ei.out;omega)).1,← (zAE.1 hz).2]
          congr 2
          rw [List.getElem_append_left (by rw [zAR];have:=Ej.out;omega),zGA]
         have hqs:((q+1:Nat):Int)-1=(q:Int):=by omega
         have yV:(0:Int)≤(q:Int):=by omega
         have HKM:Hid (k≤q+1∧k<q+1∧q+1≤N):=⟨Xg,hmk,xw⟩
         have hqi:(q:Int)≤999999999:=by omega
         clear hz Xg hmk xw hmi
         have Vc:Hid (FI w (wr.setCell ⟨g,q+1,none⟩ (.string z)) (d.take q++z::d.drop q) (.slice (some ⟨g,0,none⟩) (N+1) c1)):=by
          show FI _ _ _ _
          rw [← ku d q (by have:=Ej.out;have:=HKM.out;omega) z (zAE.1 uf.out).2]
          exact BG.out.stored (Nh d (q+1) y z (by have:=Ej.out;have:=HKM.out;omega))
         clear BG
         go_wp2_with fail
         go_round
         case rel=>exact ⟨q,z,by have:=HKM.out;omega,by have:=HKM.out;omega,by go_num,Vc.out⟩
         case measure=>simp [intOf]
        ·have Xj:m=k:=by omega
         have hmk':¬(k:Int)<(m:Int):=by omega
         have Fj:Hid (FI w wr (d.take k++y::d.drop k) (.slice (some ⟨g,0,none⟩) (N+1) c1)):=by
          have h:=BG.out
          rw [Xj] at h
          exact h
         clear ZE hfm
         have Bg:(d.take k++y::d.drop k).length=N+1:=by have h:=Ei.out;rw [Xj] at h;exact h
         have uB:=(Fj.out.cell (i:=k) (by omega)).2
         have TZ:=(Fj.out.cell (i:=k) (by omega)).1
         have hkN2:(k:Int)<(N:Int)+1:=by omega
         generalize (d.take k++y::d.drop k)[k]=yk at TZ
         have Vc:Hid (FI w (wr.setCell ⟨g,k,none⟩ (.string x)) (BL CB x d) (.slice (some ⟨g,0,none⟩) (N+1) c1)):=by
          show FI _ _ _ _
          rw [HP.out]
          exact Fj.out.stored (Nh d k y x (by have:=Ej.out;omega))
         clear Xj Bg Fj Xg hmk xw
         clear BG
         go_wp2_with fail
         go_round
         case rel=>exact ⟨j+1,by omega,by go_num,by rw [BH.out];exact Vc.out⟩
         case measure=>simp [intOf];omega
    ·obtain rfl:N=k:=by omega
     have hk':¬(N:Int)<(N:Int):=by omega
     have HHi:Hid (∀z,(d.drop N).head? = some z→CB x z=true):=by
      intro z hz
      rw [zBF (by have:=Ej.out;omega)] at hz
      cases hz
     go_wp2_with fail
     go_quiet (fail)
     have Ew:=zAA (BG.out.drewN nq)
     clear Mt BG
     generalize wr.drewN nq=wn at *
     go_wp2_with fail
     go_quiet (fail)
     have Uh:=zAA (Ew.out.drewN nq)
     clear Ew
     generalize wn.drewN nq=wb at *
     have HP:Hid (BL CB x d=d.take N++x::d.drop N):=by
      have e:=J1 Bz.toLtPre x (d.take N) (d.drop N) Vf.out HHi.out
      rwa [zBD] at e
     have C0:Hid ((N+1)*16≤140737488355328∧N+1≤maxLen):=by show _∧_;have:=HD.out;unfold maxLen;omega
     have FT:Hid (wb.ownsRow 0 9 1 (.slice pv N cv) N (BM d)):=by
      have h:=Af Uh.out.row (base':=0) (fun _ _=>zAJ _)
      rw [Ej.out] at h
      exact h
     go_wp2_with (at_builtin;refine AD Tryz.JW _ #[.string ⟨#[]⟩] _ _ _ FT.out rfl (CC _ rfl) C0.out rfl _ _ rfl rfl rfl ?_)
     intro v1 w1 k1 m1 f1
     have Dd:Hid (FI w w1 (d++[⟨#[]⟩]) v1):=Uh.out.B5 (by rw [Ej.out];exact k1) m1 f1
     obtain ⟨g,c1,DA⟩:∃g cap,v1 = .slice (some ⟨g,0,none⟩) (N+1) cap:=by
      rcases BA k1 with ⟨_,h0,_⟩ | ⟨g,cap,hv,_⟩
      ·omega
      ·exact ⟨g,cap,hv⟩
     subst DA
     clear k1 m1 f1 FT Uh
     go_wp2_with fail
     go_loopw [6] (fun mv wr2=>∃(m:Nat) (y:ByteArray),N≤m∧m≤N∧mv = .int .i64 (m:Int)∧Hid (FI w wr2 (d.take m++y::d.drop m) (.slice (some ⟨g,0,none⟩) (N+1) c1))) (fun mv _=>(intOf mv).toNat)
     case atStart=>exact ⟨N,⟨#[]⟩,zAD _,zAD _,rfl,by
      show FI _ _ _ _
      rw [zBF (by have:=Ej.out;omega),zAF (by have:=Ej.out;omega)]
      exact Dd.out⟩
     case round=>
      obtain ⟨m,y,hNm,xw,rfl,BG⟩:=hrel
      have Bg:(d.take m++y::d.drop m).length=N+1:=by
       rw [zAB,zAH,zAR,zCN];have:=Ej.out;omega
      have Ei:=zAA Bg
      have hmi:(m:Int)≤1000000000:=by have:=HD.out;omega
      have hmN':(m:Int)<(N:Int)+1:=by omega
      have hfm:=(BG.out.cell (i:=m) (by have:=Ei.out;omega)).2
      have ZE:=(BG.out.cell (i:=m) (by have:=Ei.out;omega)).1
      have Mt:=lD.out wr BG.out.AA
      generalize (d.take m++y::d.drop m)[m]=yy at ZE
      clear Bg
      by_cases hmk:N<m
      ·exfalso;omega
      ·have Xj:m=N:=by omega
       have hmk':¬(N:Int)<(m:Int):=by omega
       have Fj:Hid (FI w wr (d.take N++y::d.drop N) (.slice (some ⟨g,0,none⟩) (N+1) c1)):=by
        have h:=BG.out
        rw [Xj] at h
        exact h
       clear ZE hfm
       have Bg:(d.take N++y::d.drop N).length=N+1:=by have h:=Ei.out;rw [Xj] at h;exact h
       have uB:=(Fj.out.cell (i:=N) (by omega)).2
       have TZ:=(Fj.out.cell (i:=N) (by omega)).1
       have hkN2:(N:Int)<(N:Int)+1:=by omega
       generalize (d.take N++y::d.drop N)[N]=yk at TZ
       have Vc:Hid (FI w (wr.setCell ⟨g,N,none⟩ (.string x)) (BL CB x d) (.slice (some ⟨g,0,none⟩) (N+1) c1)):=by
        show FI _ _ _ _
        rw [HP.out]
        exact Fj.out.stored (Nh d N y x (by have:=Ej.out;omega))
       clear Xj Bg Fj hNm hmk xw
       clear BG
       go_wp2_with fail
       go_round
       case rel=>exact ⟨j+1,by omega,by go_num,by rw [BH.out];exact Vc.out⟩
       case measure=>simp [intOf];omega
  ·have AF:¬(j:Int)<(l.length:Int):=by omega
   rw [zAF (by omega)] at HO
   obtain ⟨pv,cv,DB⟩:=(Rd.Ad HO.out.row).shape
   subst DB
   go_wp2_with fail
   go_ret
   exact ⟨_,rfl,HO.out⟩
end Go.Proofs.YtdcgbgecbeegmaaGreatDoor
end
