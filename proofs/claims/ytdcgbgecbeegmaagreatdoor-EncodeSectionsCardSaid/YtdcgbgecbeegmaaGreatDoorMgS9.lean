/- Texts 9. -/
import Derived.Test.YtdcgbgecbeegmaaGreatDoorMgSA
import Derived.Test.YtdcgbgecbeegmaaGreatDoorMgS5
set_option linter.unusedVariables false
set_option linter.unusedSimpArgs false
set_option maxHeartbeats 400000000
set_option maxRecDepth 100000
section
namespace Go.Proofs.YtdcgbgecbeegmaaGreatDoor
open Go Go.RowKit
def Ku (l:List Nat) (x:Nat):Int:=if x∈l then (l.idxOf x:Int) else -1
theorem dH {l:List Nat} {x i:Nat} (h:x∉l.take i) (hi:i<l.length) (hx:l[i]=x):l.idxOf x=i:=by
 have e:l=l.take i++l[i]::l.drop (i+1):=by rw [zEG,zBD]
 rw [e,List.idxOf_append,if_neg h,hx,List.idxOf_cons_self,zAR]
 omega
theorem mK {l:List Nat} {x i:Nat} (h:x∉l.take i) (hi:i<l.length) (hx:l[i]=x):Ku l x=(i:Int):=by
 rw [Ku,if_pos (hx ▸ zDI hi),dH h hi hx]
theorem Tm (lv:Value) (l:List Nat) (x:Nat) (w:World) (hl:Rd w 1 lv l.length (AL l)) (hn:l.length≤1000000000000) :
  Calls Tryz.prog 154 #[lv,.int .u64 (x:Int)] w fun e w'=>e = .returned (.int .i64 (Ku l x))∧w'=w:=by
 have HL:=zAA hl;have Mk:=zAA hn
 obtain ⟨pl,cl,hv⟩:=hl.shape
 subst hv
 clear hl hn
 go_enter Tryz.func154,Tryz.ntmps154
 go_wp2_with fail
 go_loop [5] (fun iv=>∃(j:Nat),j≤l.length∧iv = .int .i64 (j:Int)∧Hid (x∉l.take j)) (fun iv=>l.length-(intOf iv).toNat)
 case atStart=>exact ⟨0,by omega,rfl,by show _∉_;simp⟩
 case round=>
  obtain ⟨j,hj,rfl,HX⟩:=hrel
  by_cases Aq:j<l.length
  ·have AF:(j:Int)<(l.length:Int):=by omega
   have T1:(j:Int)≤1000000000000:=by have:=Mk.out;omega
   obtain ⟨b,off,c',e,T3,KG,Aj⟩:=HL.out.at (fun e=>by have:=congrArg List.length e;rw [BP] at this;simp at this;subst this;simp at Aq)
   simp only [zAN] at e
   obtain ⟨rfl,_,rfl⟩:=e
   obtain ⟨y,hy⟩:∃y,l[j]=y:=⟨_,rfl⟩
   have Ry:w.cell? ⟨b,off+j,none⟩=some (.int .u64 (y:Int)):=by rw [← hy];exact Aj j _ (DH l j Aq)
   have HY:=zAA hy
   clear Aj T3 KG hy
   by_cases KH:y=x
   ·subst KH
    have HF:Hid (Ku l y=(j:Int)):=mK HX.out Aq HY.out
    go_wp2_with fail
    go_ret
    exact ⟨by rw [HF.out];rfl,rfl⟩
   ·have y5:¬(y:Int)=(x:Int):=by omega
    have C1:Hid (x∉l.take (j+1)):=by
     show _∉_
     rw [zAL,zAC Aq,zBJ,not_or]
     refine ⟨HX.out,?_⟩
     simp only [zEY,zCF]
     rw [HY.out];omega
    clear KH
    go_wp2_with fail
    go_round
    case rel=>exact ⟨j+1,by omega,by go_num,C1.out⟩
    case measure=>simp [intOf];omega
  ·have AF:¬(j:Int)<(l.length:Int):=by omega
   have HF:Hid (Ku l x = -1):=by
    show _=_
    have:=HX.out
    rw [zAF (by omega)] at this
    rw [Ku,if_neg this]
   go_wp2_with fail
   go_ret
   exact ⟨by rw [HF.out];rfl,rfl⟩
theorem qx {n c:Nat} (h1:c≤2 ^ n) (h2:n=0∨2 ^ (n-1)<c):CD c=n:=by
 rw [CD]
 split
 ·next hc=>
  rcases h2 with h2 | h2
  ·exact h2.symm
  ·have:=zEL (n-1);omega
 ·next hc=>
  rcases h2 with h2 | h2
  ·subst h2;simp at h1;omega
  ·have hn:n≠0:=fun e=>by subst e;simp at h1;omega
   have a1:Nat.log2 (c-1)<n:=(zHE (by omega)).2 (by omega)
   have a2:n-1≤Nat.log2 (c-1):=(Nat.le_log2 (by omega)).2 (by omega)
   omega
theorem aR (c:Int) (w:World) (hc : -9223372036854775808≤c∧c≤1152921504606846976) :
  Calls Tryz.prog 155 #[.int .i64 c] w fun e w'=>e = .returned (.int .i64 (EN c))∧w'=w:=by
 have HC:=zAA hc
 have Vw:=hc.2
 clear hc
 go_enter Tryz.func155,Tryz.ntmps155
 go_wp2_with fail
 go_loop [3,4] (fun nv kv=>∃(n:Nat),n≤60∧nv = .int .i64 (n:Int)∧kv = .int .i64 ((2 ^ n:Nat):Int)∧Hid (n=0∨((2 ^ (n-1):Nat):Int)<c)) (fun nv _=>62-(intOf nv).toNat)
 case atStart=>exact ⟨0,by omega,rfl,rfl,Or.inl rfl⟩
 case round=>
  obtain ⟨n,hn,rfl,rfl,HP⟩:=hrel
  have hn6:(n:Int)<62:=by omega
  by_cases Aq:((2 ^ n:Nat):Int)<c
  ·have hp:=zEL n
   have HS:Hid (2 ^ (n+1)=2 ^ n*2):=zDS ..
   have TW:Hid (n+1=0∨((2 ^ (n+1-1):Nat):Int)<c):=Or.inr (by rw [zDK];exact Aq)
   have Lf:n+1≤60:=by
    by_cases h:n=60
    ·subst h;omega
    ·omega
   clear HP
   generalize 2 ^ n=V at *
   have DA:(V:Int)≤1152921504606846976:=by omega
   go_wp2_with fail
   go_round
   case rel=>exact ⟨n+1,Lf,by go_num,by rw [HS.out];go_num,TW.out⟩
   case measure=>simp [intOf];omega
  ·have HW:Hid (EN c=(n:Int)):=by
    show _=_
    rw [EN,qx (n:=n) (by generalize 2 ^ n=V at *;omega) (by
     rcases HP.out with h | h
     ·exact Or.inl h
     ·refine Or.inr ?_
      generalize 2 ^ (n-1)=V at *
      omega)]
   generalize 2 ^ n=V at *
   go_wp2_with fail
   go_ret
   exact ⟨by rw [HW.out];rfl,rfl⟩
structure JM (w wr:World) (d:List Nat) (v:Value):Prop where
 row:wr.ownsRow w.heap.size 81 1 v d.length (AL d)
 AA:Below w.heap.size w wr
theorem JM.drewN {w wr:World} {d:List Nat} {v:Value} (h:JM w wr d v) (n:Nat):JM w (wr.drewN n) d v:=
 ⟨(Ac.drewN (fun _=>False) wr n).owns h.row (fun _ _ e=>e),h.AA.trans ((Ac.drewN (fun _=>False) wr n).below h.AA.size (fun _ _ e=>e))⟩
theorem JM.B5 {w wr w1:World} {d:List Nat} {v v1:Value} {x:Nat} (h:JM w wr d v) (k:w1.ownsRow 0 81 1 v1 (d.length+1) (AL d++[.int .u64 (x:Int)])) (m:Ac (fun k=>v.ownBlock=some k) wr w1) (f:AG wr.heap.size v v1):JM w w1 (d++[x]) v1:=by
 refine ⟨?_,h.AA.trans (m.below h.AA.size (fun k hk e=>by have:=(h.row.lt k e).1;omega))⟩
 rw [zAB,LB]
 refine Af k (fun k hk=>?_)
 rcases f k hk with e | e
 ·exact (h.row.lt k e).1
 ·have:=h.AA.size;omega
theorem JM.stored {w wr:World} {d e:List Nat} {g n c i y:Nat} (h:JM w wr d (.slice (some ⟨g,0,none⟩) n c)) (he:d.set i y=e):JM w (wr.setCell ⟨g,i,none⟩ (.int .u64 (y:Int))) e (.slice (some ⟨g,0,none⟩) n c):=by
 subst he
 have hn:n=d.length:=by
  obtain ⟨p,c',h'⟩:=(Rd.Ad h.row).shape
  simp only [zAN] at h'
  exact h'.2.1
 subst hn
 have hm:Ac (fun k=>k=g) wr (wr.setCell ⟨g,i,none⟩ (.int .u64 (y:Int))):=Ac.set _ _ _ _ (fun _=>rfl)
 have hg:=(h.row.lt g rfl).1
 refine ⟨?_,h.AA.trans (hm.below h.AA.size (fun k hk e=>by omega))⟩
 have e:AL (d.set i y)=(AL d).set i (.int .u64 (y:Int)):=by simp [AL,zGO]
 rw [zFC,e]
 exact (h.row.stored i _).1
theorem JM.cell {w wr:World} {d:List Nat} {g n c i:Nat} (h:JM w wr d (.slice (some ⟨g,0,none⟩) n c)) (hi:i<d.length):wr.cell? ⟨g,i,none⟩=some (.int .u64 (d[i]:Int))∧wr.frozen? ⟨g,i,none⟩=false:=by
 have hn:n=d.length:=by
  obtain ⟨p,c',h'⟩:=(Rd.Ad h.row).shape
  simp only [zAN] at h'
  exact h'.2.1
 subst hn
 refine ⟨?_,h.row.frozenAt _⟩
 rw [h.row.cellAt i (by omega)]
 simp [AL,hi]
theorem Qj (d:List Nat) (k y z:Nat) (hk:k≤d.length):(d.take k++y::d.drop k).set k z=d.take k++z::d.drop k:=by
 have hl:(d.take k).length=k:=by rw [zAR];omega
 rw [zDQ _ _ (by omega),hl,zFD,zBL]
theorem pW (d:List Nat) (k:Nat) (hk:k<d.length) (z:Nat) (hz:d[k]=z):d.take (k+1)++z::d.drop (k+1)=d.take k++z::d.drop k:=by
 have e:d.drop k=z::d.drop (k+1):=by rw [← hz,zEG]
 rw [zAL,zAC hk,hz,e,zAK]
 rfl
theorem Ty {d:List Nat} {k x:Nat} (ha:bD d) (hx:x∉d) (h1:∀z∈d.drop k,x<z) (h2:k=0∨∃hk:k-1<d.length,d[k-1]≤x) (hk:k≤d.length):d.take k++x::d.drop k=FN x d:=by
 have e:=dI x (d.take k) (d.drop k) (fun z hz=>?_) h1
 ·rw [zBD] at e;exact e.symm
 ·rcases h2 with h2 | ⟨h3,h2⟩
  ·subst h2;simp at hz
  ·obtain ⟨i,hi,rfl⟩:=zEH hz
   rw [zAR] at hi
   rw [zGA]
   have BC:d[k-1]≠x:=fun e=>hx (e ▸ zDI h3)
   by_cases PC:i=k-1
   ·subst PC;omega
   ·have:=zBW.1 ha i (k-1) (by omega) h3 (by omega)
    omega
theorem eP (lv:Value) (l:List Nat) (w:World) (hl:Rd w 1 lv l.length (AL l)) (hn:l.length≤1000000000) :
  Calls Tryz.prog 153 #[lv] w fun e w'=>∃v,e = .returned v∧JM w w' (A2 l) v:=by
 have HL:=zAA hl;have Mk:=zAA hn
 obtain ⟨pl,cl,hv⟩:=hl.shape
 subst hv
 clear hl hn
 go_enter Tryz.func153,Tryz.ntmps153
 go_wp2_with fail
 go_loopw [3,4] (fun vv iv wr=>∃(j:Nat),j≤l.length∧iv = .int .i64 (j:Int)∧Hid (JM w wr (A2 (l.take j)) vv)) (fun _ iv _=>l.length-(intOf iv).toNat)
 case atStart=>exact ⟨0,by omega,rfl,zBI _ _ _ _,zAM _ _⟩
 case round=>
  obtain ⟨j,hj,rfl,HO⟩:=hrel
  by_cases Aq:j<l.length
  ·have AF:(j:Int)<(l.length:Int):=by omega
   have T1:(j:Int)≤1000000000:=by have:=Mk.out;omega
   have Yh:=zAA (HL.out.below HO.out.AA)
   obtain ⟨b,off,c',e,T3,KG,Aj⟩:=Yh.out.at (fun e=>by have:=congrArg List.length e;rw [BP] at this;simp at this;subst this;simp at Aq)
   simp only [zAN] at e
   obtain ⟨rfl,_,rfl⟩:=e
   obtain ⟨x,hx⟩:∃x,l[j]=x:=⟨_,rfl⟩
   have Ry:wr.cell? ⟨b,off+j,none⟩=some (.int .u64 (x:Int)):=by rw [← hx];exact Aj j _ (DH l j Aq)
   have lD:Hid (∀w',Below w.heap.size w w'→w'.cell? ⟨b,off+j,none⟩=some (.int .u64 (x:Int))):=fun w' hb=>by
    obtain ⟨b2,off2,c2,e,_,_,Aj⟩:=(HL.out.below hb).at (fun e=>by have:=congrArg List.length e;rw [BP] at this;simp at this;subst this;simp at Aq)
    simp only [zAN,zCW,zGR] at e
    obtain ⟨⟨rfl,rfl,_⟩,_,rfl⟩:=e
    rw [← hx];exact Aj j _ (DH l j Aq)
   have BH:Hid (A2 (l.take (j+1))=FN x (A2 (l.take j))):=by show _=_;rw [zAL,zAC Aq,hx];exact de _ _
   have wK:(A2 (l.take j)).length≤1000000000:=by have:=PU (l.take j);rw [zAR] at this;have:=Mk.out;omega
   have HA:=zAA (PT (l.take j))
   clear Aj hx T3 KG
   generalize A2 (l.take j)=d at *
   obtain ⟨pv,cv,DB⟩:=(Rd.Ad HO.out.row).shape
   subst DB
   obtain ⟨N,hN⟩:∃N,d.length=N:=⟨_,rfl⟩
   have HF:=zAA (Tm (.slice pv d.length cv) d x wr (Rd.Ad HO.out.row) (by omega))
   rw [hN] at wK HF HO ⊢
   have Ej:Hid (d.length=N):=hN
   clear hN
   have HD:=zAA wK
   have hNi:(N:Int)≤1000000000:=by omega
   clear wK
   by_cases Ct:x∈d
   ·have qG:Hid (∃i:Nat,Ku d x=(i:Int)):=⟨_,by rw [Ku,if_pos Ct]⟩
    have HS2:Hid (A2 (l.take (j+1))=d):=by show _=_;rw [BH.out];exact sV x d HA.out Ct
    clear Ct
    go_wp2_with fail
    refine HF.out.mono ?_
    rintro e w7 ⟨rfl,rfl⟩
    obtain ⟨i,hi⟩:=qG.out
    rw [hi]
    have nu:(0:Int)≤(i:Int):=by omega
    go_wp2_with fail
    go_round
    case rel=>exact ⟨j+1,by omega,by go_num,by rw [HS2.out];exact HO.out⟩
    case measure=>simp [intOf];omega
   ·have qG:Hid (Ku d x = -1):=by show _=_;rw [Ku,if_neg Ct]
    have Km:Hid (x∉d):=Ct
    clear Ct
    go_wp2_with fail
    refine HF.out.mono ?_
    rintro e w7 ⟨rfl,h7⟩
    obtain rfl:=h7.symm
    rw [qG.out]
    have C0:Hid ((N+1)*8≤140737488355328∧N+1≤maxLen):=by show _∧_;have:=HD.out;unfold maxLen;omega
    have FT:Hid (wr.ownsRow 0 81 1 (.slice pv N cv) N (AL d)):=by
     have h:=Af HO.out.row (base':=0) (fun _ _=>zAJ _)
     rw [Ej.out] at h
     exact h
    clear Ry
    go_wp2_with (at_builtin;refine AD Tryz.GJ _ #[.int .u64 0] _ _ _ FT.out rfl (CC _ rfl) C0.out rfl _ _ rfl rfl rfl ?_)
    intro v1 w1 k1 m1 f1
    have Dd:Hid (JM w w1 (d++[0]) v1):=HO.out.B5 (by rw [Ej.out];exact k1) m1 f1
    obtain ⟨g,c1,DA⟩:∃g cap,v1 = .slice (some ⟨g,0,none⟩) (N+1) cap:=by
     rcases BA k1 with ⟨_,h0,_⟩ | ⟨g,cap,hv,_⟩
     ·omega
     ·exact ⟨g,cap,hv⟩
    subst DA
    clear k1 m1 f1 HO FT HF
    go_wp2_with fail
    go_loopw [5] (fun kv wr2=>∃(k y:Nat),k≤N∧kv = .int .i64 (k:Int)∧Hid (∀z∈d.drop k,x<z)∧Hid (JM w wr2 (d.take k++y::d.drop k) (.slice (some ⟨g,0,none⟩) (N+1) c1))) (fun kv _=>(intOf kv).toNat)
    case atStart=>exact ⟨N,0,zAD _,rfl,(by show ∀z∈d.drop N,x<z;rw [zBF (by have:=Ej.out;omega)];intro z hz;cases hz),by
     show JM _ _ _ _
     rw [zBF (by have:=Ej.out;omega),zAF (by have:=Ej.out;omega)]
     exact Dd.out⟩
    case round=>
     obtain ⟨k,y,hk,rfl,HZ,BG⟩:=hrel
     have Bg:(d.take k++y::d.drop k).length=N+1:=by
      rw [zAB,zAH,zAR,zCN];have:=Ej.out;omega
     have Ei:=zAA Bg
     have gx:(k:Int)≤1000000000:=by omega
     have hkN:(k:Int)<(N:Int)+1:=by omega
     have uB:=(BG.out.cell (i:=k) (by omega)).2
     have TZ:=(BG.out.cell (i:=k) (by omega)).1
     have Mt:=lD.out wr BG.out.AA
     generalize (d.take k++y::d.drop k)[k]=yy at TZ
     clear Bg
     by_cases h0:k=0
     ·subst h0
      have Vc:Hid (∀nq,JM w ((wr.drewN nq).setCell ⟨g,0,none⟩ (.int .u64 (x:Int))) (FN x d) (.slice (some ⟨g,0,none⟩) (N+1) c1)):=fun nq=>by
       rw [← Ty HA.out Km.out HZ.out (Or.inl rfl) (zAJ _)]
       exact (BG.out.drewN nq).stored (Qj d 0 y x (zAJ _))
      clear HZ BG
      go_wp2_with fail
      go_quiet (fail)
      have hck2:(wr.drewN nq).cell? ⟨g,0,none⟩=some (.int .u64 (yy:Int)):=TZ
      have jg:(wr.drewN nq).cell? ⟨b,off+j,none⟩=some (.int .u64 (x:Int)):=Mt
      have hfk2:(wr.drewN nq).frozen? ⟨g,0,none⟩=false:=uB
      have lE:=zAA (Vc.out nq)
      clear TZ Mt uB Vc
      generalize wr.drewN nq=wn at *
      go_wp2_with fail
      go_round
      case rel=>exact ⟨j+1,by omega,by go_num,by rw [BH.out];exact lE.out⟩
      case measure=>simp [intOf];omega
     ·obtain ⟨k,rfl⟩:∃m,k=m+1:=⟨k-1,by omega⟩
      clear h0
      obtain ⟨z,hz⟩:∃z,d[k]'(by have:=Ej.out;omega)=z:=⟨_,rfl⟩
      have uf:=zAA hz
      have hcz:wr.cell? ⟨g,k,none⟩=some (.int .u64 (z:Int)):=by
       rw [(BG.out.cell (i:=k) (by have:=Ei.out;omega)).1,← hz]
       congr 2
       rw [List.getElem_append_left (by rw [zAR];have:=Ej.out;omega),zGA]
      have hks:((k+1:Nat):Int)-1=(k:Int):=by omega
      have hkp:(0:Int)<((k+1:Nat):Int):=by omega
      have T2:(0:Int)≤(k:Int):=by omega
      clear hz
      by_cases hxz:x<z
      ·have hxz':(x:Int)<(z:Int):=by omega
       have Vc:Hid (∀nq,JM w ((wr.drewN nq).setCell ⟨g,k+1,none⟩ (.int .u64 (z:Int))) (d.take k++z::d.drop k) (.slice (some ⟨g,0,none⟩) (N+1) c1)):=fun nq=>by
        rw [← pW d k (by have:=Ej.out;omega) z uf.out]
        exact (BG.out.drewN nq).stored (Qj d (k+1) y z (by have:=Ej.out;omega))
       have RR:Hid (∀z'∈d.drop k,x<z'):=fun z' hz'=>by
        rw [← zEG (show k<d.length by have:=Ej.out;omega),uf.out] at hz'
        rcases zAS.1 hz' with e | e
        ·omega
        ·exact HZ.out z' e
       clear BG HZ
       go_wp2_with fail
       go_quiet (fail)
       have hck2:(wr.drewN nq).cell? ⟨g,k+1,none⟩=some (.int .u64 (yy:Int)):=TZ
       have jg:(wr.drewN nq).cell? ⟨b,off+j,none⟩=some (.int .u64 (x:Int)):=Mt
       have hcz2:(wr.drewN nq).cell? ⟨g,k,none⟩=some (.int .u64 (z:Int)):=hcz
       have hfk2:(wr.drewN nq).frozen? ⟨g,k+1,none⟩=false:=uB
       have lE:=zAA (Vc.out nq)
       clear TZ Mt hcz uB Vc
       generalize wr.drewN nq=wn at *
       go_wp2_with fail
       go_round
       case rel=>exact ⟨k,z,by omega,by go_num,RR.out,lE.out⟩
       case measure=>simp [intOf]
      ·have hxz':¬(x:Int)<(z:Int):=by omega
       have Vc:Hid (∀nq,JM w ((wr.drewN nq).setCell ⟨g,k+1,none⟩ (.int .u64 (x:Int))) (FN x d) (.slice (some ⟨g,0,none⟩) (N+1) c1)):=fun nq=>by
        rw [← Ty HA.out Km.out HZ.out (Or.inr ⟨by have:=Ej.out;simp only [zDK];omega,by simp only [zDK];rw [uf.out];omega⟩) (by have:=Ej.out;omega)]
        exact (BG.out.drewN nq).stored (Qj d (k+1) y x (by have:=Ej.out;omega))
       clear BG
       go_wp2_with fail
       go_quiet (fail)
       have hck2:(wr.drewN nq).cell? ⟨g,k+1,none⟩=some (.int .u64 (yy:Int)):=TZ
       have jg:(wr.drewN nq).cell? ⟨b,off+j,none⟩=some (.int .u64 (x:Int)):=Mt
       have hcz2:(wr.drewN nq).cell? ⟨g,k,none⟩=some (.int .u64 (z:Int)):=hcz
       have hfk2:(wr.drewN nq).frozen? ⟨g,k+1,none⟩=false:=uB
       have lE:=zAA (Vc.out nq)
       clear TZ Mt hcz uB Vc
       generalize wr.drewN nq=wn at *
       go_wp2_with fail
       go_round
       case rel=>exact ⟨j+1,by omega,by go_num,by rw [BH.out];exact lE.out⟩
       case measure=>simp [intOf];omega
  ·have AF:¬(j:Int)<(l.length:Int):=by omega
   rw [zAF (by omega)] at HO
   go_wp2_with fail
   go_ret
   exact ⟨_,rfl,HO.out⟩
theorem km (v lv:Value) (bs:List Bool) (l:List Nat) (w:World) (h:GY w v bs) (hl:Rd w 1 lv l.length (AL l)) (Ct:∀t∈l,C4 t) (Dz:l≠[]→∀k,lv.ownBlock=some k→v.ownBlock≠some k) (hn:l.length≤1000000000) (hz:bs.length+8199+7*l.length≤70368744177000) :
  Calls Tryz.prog 113 #[v,lv] w fun e w'=>∃v',e = .returned (.tuple #[v',.bool (RZ l)])∧Ag v (bs++Lt l) w v' w':=by
 have H:=zAA h
 have HS:=zAA (eP lv l w hl hn)
 have Km:Hid (∀x∈A2 l,x<18446744073709551616):=fun x hx=>Ct x ((Ge l x).1 hx)
 have im:Hid (∀x∈l,x∈A2 l):=fun x hx=>(Ge l x).2 hx
 have RQ:Hid (∀k,v.ownBlock=some k→k<w.heap.size):=Ef h
 have HL:=zAA hl;have Nm:=zAA Dz;have Mk:=zAA hn;have HZ:=zAA hz
 have Yc:=zAA (PU l)
 have zF:Hid (RZ l=decide ((A2 l).length≤128)):=rfl
 have Ev:Hid (Lt l=if RZ l then (if l=[] then [] else Aa ((A2 l).length-1) 7++(Ba (A2 l)++Bh (A2 l).length (l.map fun x=>(A2 l).idxOf x))) else []):=rfl
 have hnz:(0:Int)≤(l.length:Int)∧(l.length:Int)≤1000000000:=by omega
 obtain ⟨hnz1,hnz2⟩:=hnz
 have vq:Hid (l≠[]→0<(A2 l).length):=fun BC=>by
  obtain ⟨x,hx⟩:=List.exists_mem_of_ne_nil l BC
  exact List.length_pos_of_mem ((Ge l x).2 hx)
 obtain ⟨pl,cl,hv⟩:=hl.shape
 subst hv
 obtain ⟨p0,c0,Yy⟩:=(Rd.Ad h).shape
 subst Yy
 clear h hl Ct Dz hn hz
 generalize A2 l=d at *
 go_enter Tryz.func113,Tryz.ntmps113
 go_wp2_with fail
 refine HS.out.mono ?_
 rintro e w1 ⟨dv,rfl,hO⟩
 have HO:=zAA hO
 have rJ:Hid (Ag (.slice p0 bs.length c0) bs w1 (.slice p0 bs.length c0) w1):=⟨(Ac.Ah hO.AA (fun _=>False)).owns H.out (fun _ _ e=>e),Ac.refl _ _,AG.refl _ _⟩
 have R4:=zAA hO.AA
 have vu:Hid (∀{B v2 w2},Ag (.slice p0 bs.length c0) B w1 v2 w2→Ag (.slice p0 bs.length c0) B w v2 w2):=fun {B v2 w2} hw=>by
  refine ⟨hw.own,(Ac.Ah R4.out _).trans hw.Ai (fun _ _ e=>e),fun k hk=>?_⟩
  rcases hw.fresh k hk with e | e
  ·exact Or.inl e
  ·have:=R4.out.size;exact Or.inr (by omega)
 obtain ⟨pv,cv,DB⟩:=(Rd.Ad hO.row).shape
 subst DB
 have PD:Hid (∀g,w.heap.size≤g→¬(Value.slice p0 bs.length c0).ownBlock=some g):=fun g hg e=>by have:=RQ.out g e;omega
 clear hO HS
 obtain ⟨N,hN⟩:∃N,d.length=N:=⟨_,rfl⟩
 have Ej:=zAA hN
 rw [hN] at HO Yc zF Ev vq ⊢
 have hNb:(N:Int)≤1000000000:=by have:=Yc.out;omega
 clear hN
 by_cases h0:l.length=0
 ·have Uy:(l.length:Int)=0:=by omega
  have NQ:l=[]:=zAI h0
  have Fj:Hid (RZ l=true):=by show _=_;rw [zF.out];have:=Yc.out;exact zBA (by omega)
  have bW:Hid (Lt l=[]):=by show _=_;rw [Ev.out,Fj.out,if_pos rfl,if_pos NQ]
  go_wp2_with fail
  go_ret2
  rw [Fj.out,bW.out,zBR]
  exact ⟨_,rfl,vu.out rJ.out⟩
 ·have Uy:¬(l.length:Int)=0:=by omega
  have hl0b:((l.length:Int) == 0)=false:=by rw [zAQ];exact Uy
  have sH:l≠[]:=fun e=>h0 (by rw [e];rfl)
  have z7:=zAA (vq.out sH)
  have HApl:Hid (∀k,(Value.slice pl l.length cl).ownBlock=some k→(Value.slice p0 bs.length c0).ownBlock≠some k):=Nm.out sH
  have HLne:=zAA sH
  clear h0 sH Nm vq
  by_cases h128:128<N
  ·have h128':(128:Int)<(N:Int):=by omega
   have Fj:Hid (RZ l=false):=by show _=_;rw [zF.out];exact zAV (by omega)
   have bW:Hid (Lt l=[]):=by show _=_;rw [Ev.out,Fj.out,if_neg (by decide)]
   clear h128
   go_wp2_with fail
   go_ret2
   rw [Fj.out,bW.out,zBR]
   exact ⟨_,rfl,vu.out rJ.out⟩
  ·have h128':¬(128:Int)<(N:Int):=by omega
   have Fj:Hid (RZ l=true):=by show _=_;rw [zF.out];exact zBA (by omega)
   have bW:Hid (Lt l=Aa (N-1) 7++(Ba d++Bh N (l.map fun x=>d.idxOf x))):=by show _=_;rw [Ev.out,Fj.out,if_pos rfl,if_neg HLne.out]
   have ve:Hid (N≤128):=by show _≤_;omega
   have hNs:(N:Int)-1=((N-1:Nat):Int):=by have:=z7.out;omega
   have hNw:IntKind.u64.wrap ((N-1:Nat):Int)=((N-1:Nat):Int):=by rw [zBB];omega
   have HM:Hid (N-1<128):=by show _<_;omega
   have hMb:((N-1:Nat):Int)≤128:=by omega
   have hNb2:(N:Int)≤128:=by omega
   have hN1:(1:Int)≤(N:Int):=by have:=z7.out;omega
   clear h128 zF Ev hNb
   generalize hM:N-1=M at *
   clear hM
   go_wp2_with fail
   refine (Bn _ bs M 7 _ rJ.out.own (by have:=HM.out;omega) (by omega) (by have:=HZ.out;omega)).mono ?_
   rintro en w7 ⟨v7,rfl,hR⟩
   have vQ:Hid (Ag (.slice p0 bs.length c0) (bs++Aa M 7) w1 v7 w7):=rJ.out.then hR
   have Vb:Hid ((bs++Aa M 7).length=bs.length+7):=by show _=_;rw [zAB,Ae]
   clear hR
   generalize hB7:bs++Aa M 7=B7 at *
   have HBe:=zAA hB7
   clear hB7
   obtain ⟨p7,c7,UB⟩:=(Rd.Ad vQ.out.own).shape
   subst UB
   go_wp2_with fail
   go_loopw [0,7] (fun v2 iv wr=>∃(i:Nat) (B:List Bool),i≤N∧iv = .int .i64 (i:Int)∧Hid (B=B7++Ba (d.take i))∧Hid (Ag (.slice p0 bs.length c0) B w1 v2 wr)) (fun _ iv _=>N-(intOf iv).toNat)
   case atStart=>exact ⟨0,B7,by omega,rfl,by show _=_;simp [Ba],vQ.out⟩
   case round=>
    obtain ⟨i,B,hi,rfl,HB,HW⟩:=hrel
    obtain ⟨p2,c2,Ji⟩:=(Rd.Ad HW.out.own).shape
    subst Ji
    have lh:Hid (wr.ownsRow w.heap.size 81 1 (.slice pv N cv) d.length (AL d)):=HW.out.Ai.owns HO.out.row (fun k hk e=>PD.out k (HO.out.row.lt k hk).1 e)
    by_cases Aq:i<N
    ·have AF:(i:Int)<(N:Int):=by omega
     have bQ:(i:Int)≤128:=by omega
     rw [Ej.out] at lh
     obtain ⟨gv,cv',DB⟩:∃g cap,(Value.slice pv N cv) = .slice (some ⟨g,0,none⟩) N cap:=by
      rcases BA lh.out with ⟨_,h0,_⟩ | ⟨g,cap,hv,_⟩
      ·omega
      ·exact ⟨g,cap,hv⟩
     simp only [zAN] at DB
     obtain ⟨rfl,_,rfl⟩:=DB
     obtain ⟨x,hx⟩:∃x,d[i]'(by have:=Ej.out;omega)=x:=⟨_,rfl⟩
     have gn:wr.cell? ⟨gv,i,none⟩=some (.int .u64 (x:Int)):=by
      rw [lh.out.cellAt i (by omega),← hx];simp [AL,show i<d.length by have:=Ej.out;omega]
     have HX:Hid (x<18446744073709551616):=by show _<_;rw [← hx];exact Km.out _ (zDI _)
     have Pw:=zAA (LF d i (by have:=Ej.out;omega) x hx)
     have kY:Hid (B.length=bs.length+7+64*i):=by show _=_;rw [HB.out,zAB,Dl,zAR,Vb.out];have:=Ej.out;omega
     clear hx
     go_wp2_with fail
     refine (Bn _ B x 64 _ HW.out.own HX.out (by omega) (by have:=kY.out;have:=HZ.out;omega)).mono ?_
     rintro en w8 ⟨v8,rfl,hR⟩
     have Pv:Hid (Ag (.slice p0 bs.length c0) (B++Aa x 64) w1 v8 w8):=HW.out.then hR
     have qD:Hid (B++Aa x 64=B7++Ba (d.take (i+1))):=by show _=_;rw [Pw.out,← zAK,HB.out]
     clear hR HW lh gn
     generalize B++Aa x 64=B2 at *
     obtain ⟨p8,c8,MY⟩:=(Rd.Ad Pv.out.own).shape
     subst MY
     go_wp2_with fail
     go_round
     case rel=>exact ⟨i+1,B2,by omega,by go_num,qD.out,Pv.out⟩
     case measure=>simp [intOf];omega
    ·have AF:¬(i:Int)<(N:Int):=by omega
     have qD:Hid (B=B7++Ba d):=by show _=_;rw [HB.out,zAF (by have:=Ej.out;omega)]
     have HBl8:Hid (B.length=bs.length+7+64*N):=by show _=_;rw [qD.out,zAB,Dl,Vb.out,Ej.out]
     clear HB Aq
     have bQ:(i:Int)≤128:=by omega
     go_wp2_with fail
     go_loopw [0,8] (fun v2 iv wr2=>∃(j:Nat) (C:List Bool),j≤l.length∧iv = .int .i64 (j:Int)∧Hid (C=B++Bh N ((l.take j).map fun x=>d.idxOf x))∧Hid (Ag (.slice p0 bs.length c0) C w1 v2 wr2)) (fun _ iv _=>l.length-(intOf iv).toNat)
     case atStart=>exact ⟨0,B,by omega,rfl,by show _=_;simp [Bh],HW.out⟩
     case round=>
      obtain ⟨j,C,hj,rfl,HC,F3⟩:=hrel
      obtain ⟨p3,c3,UA⟩:=(Rd.Ad F3.out.own).shape
      subst UA
      clear HW lh
      have lh:Hid (wr.ownsRow w.heap.size 81 1 (.slice pv N cv) d.length (AL d)):=F3.out.Ai.owns HO.out.row (fun k hk e=>PD.out k (HO.out.row.lt k hk).1 e)
      have Yh:Hid (Rd wr 1 (.slice pl l.length cl) l.length (AL l)):=(HL.out.below R4.out).Ai F3.out.Ai (fun k hk e=>HApl.out k hk e)
      have hjb:(j:Int)≤1000000000:=by omega
      by_cases Aq:j<l.length
      ·have AF:(j:Int)<(l.length:Int):=by omega
       obtain ⟨b,off,c',e,T3,KG,Aj⟩:=Yh.out.at (fun e=>by have:=congrArg List.length e;rw [BP] at this;simp at this;subst this;simp at Aq)
       simp only [zAN] at e
       obtain ⟨rfl,_,rfl⟩:=e
       obtain ⟨x,hx⟩:∃x,l[j]=x:=⟨_,rfl⟩
       have Ry:wr.cell? ⟨b,off+j,none⟩=some (.int .u64 (x:Int)):=by rw [← hx];exact Aj j _ (DH l j Aq)
       have k9:Hid (x∈d):=im.out x (hx ▸ zDI Aq)
       have HF:=zAA (Tm (.slice pv N cv) d x wr (Rd.Ad lh.out) (by have:=Ej.out;omega))
       have qG:Hid (Ku d x=((d.idxOf x:Nat):Int)):=by show _=_;rw [Ku,if_pos k9.out]
       have YF:Hid (d.idxOf x<N):=by show _<_;have:=zET k9.out;have:=Ej.out;omega
       have Pw:Hid (Bh N ((l.take (j+1)).map fun x=>d.idxOf x)=Bh N ((l.take j).map fun x=>d.idxOf x)++Aa (d.idxOf x) (CD N)):=by
        show _=_
        rw [zAL,zAC Aq,hx,zCD];simp [Bh]
       have qL:=zAA (aR (N:Int) wr (by omega))
       have wh:Hid (EN (N:Int)=((CD N:Nat):Int)):=by show _=_;rw [EN,zCA]
       have HWb:Hid (CD N≤7):=Po ve.out
       have TV:Hid (C.length≤bs.length+7+64*128+7*j):=by
        show _≤_
        rw [HC.out,zAB,F7,zAT,zAR,HBl8.out]
        have h1:=zGG j HWb.out
        rw [zFW hj]
        have:=ve.out
        omega
       have hixb:((d.idxOf x:Nat):Int)<128:=by have:=YF.out;have:=ve.out;omega
       have hixw:IntKind.u64.wrap ((d.idxOf x:Nat):Int)=((d.idxOf x:Nat):Int):=by rw [zBB];omega
       have hwb:((CD N:Nat):Int)≤7:=by have:=HWb.out;omega
       clear Aj hx T3 KG
       generalize hix:d.idxOf x=ix at *
       generalize hWN:CD N=W at *
       clear hix hWN
       go_wp2_with fail
       refine HF.out.mono ?_
       rintro e w8 ⟨rfl,h8⟩
       obtain rfl:=h8.symm
       rw [qG.out]
       go_wp2_with fail
       refine qL.out.mono ?_
       rintro e w8 ⟨rfl,h8⟩
       obtain rfl:=h8.symm
       rw [wh.out]
       go_wp2_with fail
       refine (Bn _ C ix W _ F3.out.own (by omega) (by omega) (by have:=TV.out;have:=HZ.out;omega)).mono ?_
       rintro en w9 ⟨v9,rfl,hR⟩
       have YK:Hid (Ag (.slice p0 bs.length c0) (C++Aa ix W) w1 v9 w9):=F3.out.then hR
       have HC9:Hid (C++Aa ix W=B++Bh N ((l.take (j+1)).map fun x=>d.idxOf x)):=by show _=_;rw [Pw.out,← zAK,HC.out]
       clear hR F3 lh Yh Ry HF qL
       generalize C++Aa ix W=C2 at *
       obtain ⟨p9,c9,nN⟩:=(Rd.Ad YK.out.own).shape
       subst nN
       go_wp2_with fail
       go_round
       case rel=>exact ⟨j+1,C2,by omega,by go_num,HC9.out,YK.out⟩
       case measure=>simp [intOf];omega
      ·have AF:¬(j:Int)<(l.length:Int):=by omega
       have zq:Hid (C=bs++Lt l):=by
        show _=_
        rw [HC.out,zAF (by omega),qD.out,bW.out,← HBe.out]
        simp only [zAK]
       go_wp2_with fail
       go_ret2
       rw [Fj.out,← zq.out]
       exact ⟨_,rfl,vu.out F3.out⟩
end Go.Proofs.YtdcgbgecbeegmaaGreatDoor
end
