/- Texts 25. -/
import Derived.Test.YtdcgbgecbeegmaaGreatDoorMgSA
import Derived.Test.YtdcgbgecbeegmaaGreatDoorMgS23
set_option linter.unusedVariables false
set_option linter.unusedSimpArgs false
set_option maxHeartbeats 400000000
set_option maxRecDepth 100000
section
namespace Go.Proofs.YtdcgbgecbeegmaaGreatDoor
open Go Go.RowKit
theorem LN (w:World) (m n:Nat):(w.drewN m).drewN n=w.drewN (m+n):=World.drewN_drewN ..
theorem U2 {b:List AJ} {i:Nat} {s:AJ} (h:b[i]? = some s):Aw (b.take (i+1))=Aw (b.take i)+s.2.length:=by
 rw [zAL,h,Eh];simp [Aw]
theorem UU (bv:Value) (b:List AJ) (w:World) (h:FU w bv b) (hn:b.length≤1000000) (hs:Aw b≤1000000000) :
  Calls Tryz.prog 68 #[bv] w fun e w'=>e = .returned (.int .i64 (Aw b:Int))∧w'=w:=by
 have H:=zAA h;have HS:=zAA hs
 obtain ⟨p,c,hv⟩:=h.shape
 subst hv
 have Xk:(b.length:Int)≤1000000:=by omega
 clear h hs hn
 go_enter Tryz.func68,Tryz.ntmps68
 go_wp2_with fail
 go_loop [3,4] (fun nv iv=>∃(i N:Nat),i≤b.length∧iv = .int .i64 (i:Int)∧nv = .int .i64 (N:Int)∧Hid (Aw (b.take i)=N)) (fun _ iv=>b.length-(intOf iv).toNat)
 case atStart=>exact ⟨0,0,zAJ _,rfl,rfl,by show _=_;simp [Aw]⟩
 case round=>
  obtain ⟨i,N,hi,rfl,rfl,HN⟩:=hrel
  have KM:(i:Int)≤1000000:=by omega
  have hNm:(N:Int)≤1000000000:=by have:=HN.out;have:=CY b i;have:=HS.out;omega
  by_cases Aq:i<b.length
  ·have AF:(i:Int)<(b.length:Int):=by omega
   obtain ⟨s,hx⟩:∃s,b[i]? = some s:=⟨_,zAC Aq⟩
   obtain ⟨AM,off,h1,h2,e,c1,c2,Jw⟩:=H.out.at hx
   subst e
   obtain ⟨p2,k2,e⟩:=Jw.2.shape
   simp only at e
   subst e
   have lQ:Hid (Aw (b.take (i+1))=N+s.2.length):=by show _=_;rw [U2 hx,HN.out]
   have hsum:(N:Int)+(s.2.length:Int)≤1000000000:=by have:=lQ.out;have:=CY b (i+1);have:=HS.out;omega
   clear hx Jw c1
   generalize s.2.length=m at *
   go_wp2_with fail
   go_round
   case rel=>exact ⟨i+1,N+m,by omega,by go_num,by go_num,lQ.out⟩
   case measure=>simp [intOf];omega
  ·have AF:¬(i:Int)<(b.length:Int):=by omega
   have HE:Hid (Aw b=N):=by have:=HN.out;rw [zAF (by omega)] at this;exact this
   go_wp2_with fail
   go_ret
   exact ⟨by rw [HE.out];rfl,rfl⟩
theorem aM (bv:Value) (b:List AJ) (w:World) (h:FU w bv b) (hs:KS b) :
  Calls Tryz.prog 29 #[bv] w fun e w'=>e = .returned (.bool false)∧w'=w:=by
 have HS:=zAA (UU bv b w h (by have:=hs.len;omega) (by have:=hs.ko;omega))
 obtain ⟨p,c,hv⟩:=h.shape
 subst hv
 have h1:¬(1048576:Int)<(b.length:Int):=by have:=hs.len;omega
 have h2:¬(16777216:Int)<(Aw b:Int):=by have:=hs.ko;omega
 clear h hs
 generalize Aw b=N at *
 go_enter Tryz.func29,Tryz.ntmps29
 go_wp2_with fail
 refine HS.out.mono ?_
 rintro e w1 ⟨rfl,rfl⟩
 have hd:decide ((16777216:Int)<(N:Int))=false:=zAV (by omega)
 clear h2
 go_wp2_with fail
 go_ret
 exact ⟨by simp,rfl⟩
theorem fy {l:List Dt} {i:Nat} {x y:Dt} (hx:l[i]? = some x) (hy:l[i+1]? = some y) (h:Bj l=BO x.1 (l.drop (i+1))) :
  Bj l=if y.1=x.1 then 20 else if y.1<x.1 then 16 else BO y.1 (l.drop (i+2)):=by
 have hd:l.drop (i+1)=y::l.drop (i+2):=by
  have:=zBV (zAE.1 hy).1
  rw [(zAE.1 hy).2] at this
  exact this
 rw [h,hd,BO]
theorem aQ (lv:Value) (l:List Dt) (w:World) (h:Rd w 2 lv l.length (Al l)) (hn:l.length≤1000000) :
  Calls Tryz.prog 31 #[lv] w fun e w'=>e = .returned (.int .i64 (Bj l:Int))∧∃q,w'=w.drewN q:=by
 have H:=zAA h
 obtain ⟨p,c,hv⟩:=h.shape
 subst hv
 have Xk:(l.length:Int)≤1000000:=by omega
 clear h hn
 go_enter Tryz.func31,Tryz.ntmps31
 go_wp2_with fail
 go_loopw [3] (fun iv wr=>∃(i k q:Nat),i=k+1∧(i≤l.length∨k=0)∧iv = .int .i64 (i:Int)∧Hid (l=[]∨∃x,l[k]? = some x∧Bj l=BO x.1 (l.drop i))∧wr=w.drewN q) (fun iv _=>l.length+1-(intOf iv).toNat)
 case atStart=>
  refine ⟨1,0,0,rfl,Or.inr rfl,rfl,?_,rfl⟩
  show _∨_
  cases l with
  | nil=>exact Or.inl rfl
  | cons x l=>exact Or.inr ⟨x,rfl,rfl⟩
 case round=>
  obtain ⟨i,k,q,PC,hi,rfl,HP,rfl⟩:=hrel
  by_cases Aq:i<l.length
  ·have AF:(i:Int)<(l.length:Int):=by omega
   have sE:(i:Int)-1=(k:Int):=by omega
   have Fl:(k:Int)<(l.length:Int):=by omega
   obtain ⟨x,hx,hT⟩:∃x,l[k]? = some x∧Bj l=BO x.1 (l.drop i):=by
    rcases HP.out with e | e
    ·rw [e] at Aq;simp at Aq
    ·exact e
   obtain ⟨y,hy⟩:∃y,l[i]? = some y:=⟨_,zAC Aq⟩
   have BH:Hid (Bj l=if y.1=x.1 then 20 else if y.1<x.1 then 16 else BO y.1 (l.drop (i+1))):=by
    subst PC
    exact fy hx hy hT
   obtain ⟨b0,o0,e⟩:=EG (Ga l ▸ H.out) hx
   subst e
   have cx:=(Bm (Ga l ▸ H.out) hx).1
   have cy:=(Bm (Ga l ▸ H.out) hy).1
   have cx':(w.drewN q).cell? ⟨b0,o0+k*2,none⟩=some (.int .i64 x.1):=cx
   have cy':(w.drewN q).cell? ⟨b0,o0+i*2,none⟩=some (.int .i64 y.1):=cy
   have HY:=zAA hy
   have yo:=zAA PC
   clear hx hT hy HP PC hi cx cy
   obtain ⟨x1,x2⟩:=x
   obtain ⟨y1,y2⟩:=y
   simp only at cx' cy' BH
   obtain ⟨wq,dG⟩:∃wq,w.drewN q=wq:=⟨_,rfl⟩
   have it:=zAA dG
   rw [dG] at cx' cy' ⊢
   clear dG
   by_cases e1:y1=x1
   ·have HR:Hid (Bj l=20):=by have:=BH.out;rw [if_pos e1] at this;exact this
    subst e1
    go_wp2_with fail
    go_quiet (fail)
    have F3:Hid (∃q,wq.drewN nq=w.drewN q):=⟨q+nq,by rw [← it.out,LN]⟩
    clear cx' cy'
    generalize wq.drewN nq=w2 at *
    go_wp2_with fail
    go_ret
    exact ⟨by rw [HR.out];rfl,F3.out⟩
   ·have Yt:(y1 == x1)=false:=by rw [zAQ];exact e1
    have Fw:Hid (Bj l=if y1<x1 then 16 else BO y1 (l.drop (i+1))):=by have:=BH.out;rw [if_neg e1] at this;exact this
    clear BH
    go_wp2_with fail
    go_quiet (fail)
    have F3:Hid (∃q,wq.drewN nq=w.drewN q):=⟨q+nq,by rw [← it.out,LN]⟩
    have cx2:(wq.drewN nq).cell? ⟨b0,o0+k*2,none⟩=some (.int .i64 x1):=cx'
    have cy2:(wq.drewN nq).cell? ⟨b0,o0+i*2,none⟩=some (.int .i64 y1):=cy'
    clear cx' cy' e1 Yt it
    generalize wq.drewN nq=w2 at *
    by_cases e2:y1<x1
    ·have HR:Hid (Bj l=16):=by have:=Fw.out;rw [if_pos e2] at this;exact this
     clear Fw
     go_wp2_with fail
     go_quiet (fail)
     have fQ:Hid (∃q,w2.drewN nq=w.drewN q):=by obtain ⟨q,hq⟩:=F3.out;exact ⟨q+nq,by rw [hq,LN]⟩
     clear cx2 cy2 F3
     generalize w2.drewN nq=w3 at *
     go_wp2_with fail
     go_ret
     exact ⟨by rw [HR.out];rfl,fQ.out⟩
    ·have HR:Hid (Bj l=BO y1 (l.drop (i+1))):=by have:=Fw.out;rw [if_neg e2] at this;exact this
     clear Fw
     go_wp2_with fail
     go_quiet (fail)
     obtain ⟨q3,hq3⟩:∃q,w2.drewN nq=w.drewN q:=by obtain ⟨q,hq⟩:=F3.out;exact ⟨q+nq,by rw [hq,LN]⟩
     have Ui:=zAA hq3
     clear cx2 cy2 F3 hq3
     generalize w2.drewN nq=w3 at *
     go_wp2_with fail
     go_roundw
     case rel=>exact ⟨i+1,i,q3,rfl,Or.inl (by omega),by go_num,Or.inr ⟨_,HY.out,HR.out⟩,Ui.out⟩
     case measure=>simp [intOf];omega
  ·have AF:¬(i:Int)<(l.length:Int):=by omega
   have HE:Hid (Bj l=0):=by
    rcases HP.out with e | ⟨x,_,e⟩
    ·show _=_;rw [e];rfl
    ·show _=_;rw [e,zBF (by omega)];rfl
   clear PC hi
   obtain ⟨wq,dG⟩:∃wq,w.drewN q=wq:=⟨_,rfl⟩
   have it:=zAA dG
   rw [dG]
   clear dG
   go_wp2_with fail
   go_ret
   exact ⟨by rw [HE.out];rfl,q,it.out.symm⟩
def AK (b:List AJ):List ByteArray:=b.flatMap fun s=>An s.1
theorem TE {b:List AJ} {i:Nat} {s:AJ} (h:b[i]? = some s):AK (b.take (i+1))=AK (b.take i)++An s.1:=by
 rw [AK,zAL,h,zBO];simp [AK]
theorem fw (b:List AJ):(AK b).length=2*(b.map Prod.fst).flatten.length:=by
 induction b with
 | nil=>rfl
 | cons s b ih=>
  have e:AK (s::b)=An s.1++AK b:=rfl
  rw [e,zAB,ih,Da,zBC,zFZ,zAB]
  omega
theorem JA {b:List AJ} (h:KS b) (i:Nat):(AK (b.take i)).length≤120000:=by
 rw [fw]
 have h1:((b.take i).map Prod.fst).flatten.length≤(b.map Prod.fst).flatten.length:=by
  have e:(b.map Prod.fst).flatten=((b.take i).map Prod.fst).flatten++((b.drop i).map Prod.fst).flatten:=by rw [← zFE,← zCD,zBD]
  rw [e,zAB]
  omega
 have:=h.flat
 omega
theorem UV (bv:Value) (b:List AJ) (w:World) (h:FU w bv b) (hs:KS b) :
  Calls Tryz.prog 21 #[bv] w fun e w'=>∃v,e = .returned v∧FI w w' (Bp (AK b)) v:=by
 have H:=zAA h;have Fv:=zAA hs
 obtain ⟨p,c,hv⟩:=h.shape
 subst hv
 have Xk:(b.length:Int)≤20000:=by have:=hs.len;omega
 clear h hs
 go_enter Tryz.func21,Tryz.ntmps21
 go_wp2_with fail
 go_loopw [3,4] (fun vv iv wr=>∃(i:Nat),i≤b.length∧iv = .int .i64 (i:Int)∧Hid (FI w wr (AK (b.take i)) vv)) (fun _ iv _=>b.length-(intOf iv).toNat)
 case atStart=>exact ⟨0,zAJ _,rfl,Cp.nil w⟩
 case round=>
  obtain ⟨i,hi,rfl,HO⟩:=hrel
  have KM:(i:Int)≤20000:=by omega
  obtain ⟨pv,cv,DB⟩:=HO.out.shape
  subst DB
  by_cases Aq:i<b.length
  ·have AF:(i:Int)<(b.length:Int):=by omega
   obtain ⟨⟨ls,ss⟩,hx⟩:∃s,b[i]? = some s:=⟨_,zAC Aq⟩
   obtain ⟨AM,off,h1,h2,e,⟨p1,k1,e1⟩,_,Ex⟩:=H.out.always hx
   subst e
   simp only at e1
   subst e1
   have sG:=Fv.out.NV _ (zAG hx)
   have Kn:Hid (ls.length≤60000):=sG
   have BH:=zAA (TE hx)
   have DP:Hid ((AK (b.take i)).length≤120000):=by show _≤_;exact JA Fv.out i
   obtain ⟨c1,_,Jw⟩:=Ex wr HO.out.AA
   have rF:=zAA (Ja _ ls wr Jw.1 (by have:=Kn.out;omega))
   have ua:=zAA (Da ls)
   clear hx Ex Jw sG
   generalize AK (b.take i)=D at *
   obtain ⟨dl,dz⟩:∃dl,D.length=dl:=⟨_,rfl⟩
   have Yc:=zAA dz
   rw [dz] at HO DP ⊢
   clear dz
   go_wp2_with fail
   refine rF.out.mono ?_
   rintro e w2 ⟨r,rfl,hS⟩
   obtain ⟨p2,c2,Ji⟩:=hS.shape
   subst Ji
   have BG:=zAA (HO.out.below hS.AA)
   have HS2:=zAA hS.rd
   generalize An ls=E at *
   obtain ⟨el,sC⟩:∃el,E.length=el:=⟨_,rfl⟩
   have fK:=zAA sC
   rw [sC] at HS2 ua ⊢
   clear hS HO c1 sC
   have FT:Hid (w2.ownsRow 0 9 1 (.slice pv dl cv) dl (BM D)):=by
    have h:=BG.out.Cz
    rw [Yc.out] at h
    exact h
   have C0:Hid ((dl+el)*16≤140737488355328∧dl+el≤maxLen):=by show _∧_;have:=ua.out;have:=Kn.out;have:=DP.out;unfold maxLen;omega
   go_wp2_with (at_builtin;refine At Tryz.JW _ _ _ _ _ _ _ FT.out HS2.out (Pk E) C0.out rfl _ _ rfl rfl rfl ?_)
   intro v3 w3 k1 m1 f1
   have Ew:Hid (FI w w3 (AK (b.take (i+1))) v3):=by
    show FI _ _ _ _
    rw [BH.out]
    exact BG.out.extended (by rw [Yc.out,fK.out];exact k1) m1 f1
   obtain ⟨p3,c3,UA⟩:=(Rd.Ad k1).shape
   subst UA
   clear k1 m1 f1 BG FT
   go_wp2_with fail
   go_round
   case rel=>exact ⟨i+1,by omega,by go_num,Ew.out⟩
   case measure=>simp [intOf];omega
  ·have AF:¬(i:Int)<(b.length:Int):=by omega
   have HE:Hid (b.take i=b):=zAF (by omega)
   have DP:Hid ((AK (b.take i)).length≤120000):=by show _≤_;exact JA Fv.out i
   have HT:=zAA (aP _ (AK (b.take i)) wr HO.out.rd (by have:=DP.out;omega))
   have R4:=zAA HO.out.AA
   rw [HE.out] at HT HO DP ⊢
   clear HE HO
   go_wp2_with fail
   refine HT.out.mono ?_
   rintro e w2 ⟨r,rfl,hO⟩
   have BG:Hid (FI w w2 (Bp (AK b)) r):=⟨Af hO.row (fun k hk=>by have:=(hO.row.lt k hk).1;have:=R4.out.size;omega),R4.out.trans (hO.AA.mono R4.out.size)⟩
   obtain ⟨p2,c2,Ji⟩:=hO.shape
   subst Ji
   clear hO HT
   go_wp2_with fail
   go_ret
   exact ⟨_,rfl,BG.out⟩
def Ds (b:List AJ) (i:Nat):Option (List AC):=if i=0 then none else (b[i-1]?).map Prod.fst
def pz (p:Option (List AC)) (l:List AC) (rest:Nat):Nat:=match p with
 | none=>rest
 | some q=>if Az q l=0 then 19 else if 0<Az q l then 16 else rest
theorem Qz {b:List AJ} {i:Nat} {s:AJ} (hx:b[i]? = some s) (h:A0 b=Bb (Ds b i) (b.drop i)) :
  A0 b=if Cr s≠0 then Cr s else pz (Ds b i) s.1 (Bb (Ds b (i+1)) (b.drop (i+1))):=by
 have Aq:=(zAE.1 hx).1
 have hd:b.drop i=s::b.drop (i+1):=by rw [zBV Aq,(zAE.1 hx).2]
 have hp:Ds b (i+1)=some s.1:=by rw [Ds,if_neg (by omega),zDK,hx];rfl
 rw [h,hd,hp]
 conv=>lhs;unfold Bb
 cases Ds b i<;>rfl
theorem aL (bv:Value) (b:List AJ) (w:World) (h:FU w bv b) (hs:KS b) (hz:Du b) :
  Calls Tryz.prog 15 #[bv] w fun e w'=>e = .returned (.int .i64 (A0 b:Int))∧Below w.heap.size w w':=by
 have H:=zAA h;have Fv:=zAA hs;have HZ:=zAA hz
 have lL:=zAA (aM bv b w h hs)
 obtain ⟨p,c,hv⟩:=h.shape
 subst hv
 have Xk:(b.length:Int)≤20000:=by have:=hs.len;omega
 clear h hs hz
 go_enter Tryz.func15,Tryz.ntmps15
 go_wp2_with fail
 refine lL.out.mono ?_
 rintro e w1 ⟨rfl,rfl⟩
 go_wp2_with fail
 go_loopw [3] (fun iv wr=>∃(i:Nat),i≤b.length∧iv = .int .i64 (i:Int)∧Hid (A0 b=Bb (Ds b i) (b.drop i))∧Hid (Below w1.heap.size w1 wr)) (fun iv _=>b.length-(intOf iv).toNat)
 case atStart=>exact ⟨0,zAJ _,rfl,rfl,zAM _ _⟩
 case round=>
  obtain ⟨i,hi,rfl,HC,HB⟩:=hrel
  have KM:(i:Int)≤20000:=by omega
  by_cases Aq:i<b.length
  ·have AF:(i:Int)<(b.length:Int):=by omega
   obtain ⟨⟨ls,ss⟩,hx⟩:∃s,b[i]? = some s:=⟨_,zAC Aq⟩
   obtain ⟨AM,off,h1,h2,e,⟨p1,k1,e1⟩,⟨p2,k2,e2⟩,Ex⟩:=H.out.always hx
   subst e
   simp only at e1 e2
   subst e1
   subst e2
   have Fi:=zAA Ex
   have BH:=zAA (Qz hx HC.out)
   have Ch:=zAG hx
   have Kn:Hid (ls.length≤60000∧ss.length≤1000000):=⟨Fv.out.NV _ Ch,Fv.out.mem Ch⟩
   obtain ⟨c1,_,Jw⟩:=Ex wr HB.out
   have Rh:=zAA (aK _ ls wr Jw.1 (HZ.out _ Ch).1 (by have:=Kn.out.1;omega))
   have HX:=zAA hx
   clear hx Ex Jw Ch HC
   by_cases hc:BZ ls=0
   ·by_cases hss:ss.length=0
    ·have HE:Hid (A0 b=21):=by
      have EB:ss=[]:=zAI hss
      have SI:Cr (ls,ss)=21:=by unfold Cr;rw [if_neg (zCI hc),if_pos EB]
      have:=BH.out
      rw [SI] at this
      exact this
     rw [hc] at Rh
     have hssi:((ss.length:Int) == 0)=true:=by rw [zGB];omega
     rw [hss] at Fi
     clear hc hssi BH
     go_wp2_with fail
     refine Rh.out.mono ?_
     rintro e w2 ⟨rfl,hB⟩
     have AP:Hid (Below w1.heap.size w1 w2):=HB.out.trans (hB.mono HB.out.size)
     have c2:=(Fi.out w2 AP.out).2.1
     clear hB Rh c1
     go_wp2_with fail
     go_ret
     exact ⟨by rw [HE.out];rfl,AP.out⟩
    ·have bY:Hid (Cr (ls,ss)=Bj ss):=by
      show _=_
      unfold Cr
      rw [if_neg (zCI hc),if_neg (fun e:ss=[]=>hss (by rw [e];rfl))]
     rw [hc] at Rh
     have hssi:((ss.length:Int) == 0)=false:=by rw [zAQ];omega
     clear hc
     go_wp2_with fail
     refine Rh.out.mono ?_
     rintro e w2 ⟨rfl,hB⟩
     have AP:Hid (Below w1.heap.size w1 w2):=HB.out.trans (hB.mono HB.out.size)
     have c2:=(Fi.out w2 AP.out).2.1
     have HTm:=zAA (aQ _ ss w2 (Fi.out w2 AP.out).2.2.2 (by have:=Kn.out.2;omega))
     clear hB Rh c1
     go_wp2_with fail
     refine HTm.out.mono ?_
     rintro e w3 ⟨rfl,q3,rfl⟩
     have BS:Hid (Below w1.heap.size w1 (w2.drewN q3)):=AP.out.trans ((Ac.drewN (fun _=>False) w2 q3).below AP.out.size (fun _ _ e=>e))
     clear c2 HTm
     generalize w2.drewN q3=w3 at *
     by_cases ht:Bj ss=0
     ·have Fw:Hid (A0 b=pz (Ds b i) ls (Bb (Ds b (i+1)) (b.drop (i+1)))):=by
       have:=BH.out
       rw [bY.out,if_neg (zCI ht)] at this
       exact this
      rw [ht]
      clear ht BH bY
      by_cases h0:i=0
      ·subst h0
       have HE:Hid (A0 b=Bb (Ds b (0+1)) (b.drop (0+1))):=Fw.out
       clear Fw
       go_wp2_with fail
       go_round
       case rel=>exact ⟨0+1,by omega,by go_num,HE.out,BS.out⟩
       case measure=>simp [intOf];omega
      ·obtain ⟨k,rfl⟩:∃k,i=k+1:=⟨i-1,by omega⟩
       obtain ⟨⟨lq,sq⟩,hy⟩:∃s,b[k]? = some s:=⟨_,zAC (by omega)⟩
       obtain ⟨blk2,off2,g1,g2,e,⟨p3,k3,e3⟩,_,wT⟩:=H.out.always hy
       simp only [zCW,zGR] at e
       obtain ⟨rfl,rfl,_⟩:=e
       simp only at e3
       subst e3
       have Jf:Hid (lq.length≤60000):=Fv.out.NV _ (zAG hy)
       have ZM:Ds b (k+1)=some lq:=by rw [Ds,if_neg (by omega),zDK,hy];rfl
       have HE:Hid (A0 b=if Az lq ls=0 then 19 else if 0<Az lq ls then 16 else Bb (Ds b (k+1+1)) (b.drop (k+1+1))):=by
        have:=Fw.out
        rw [ZM] at this
        exact this
       have cA:=(wT w3 BS.out).1
       have cB:=(Fi.out w3 BS.out).1
       have gx:((k+1:Nat):Int)-1=(k:Int):=by omega
       have hkw:IntKind.i64.wrap (k:Int)=(k:Int):=zEZ _ (by omega)
       have hkN:k<b.length:=by omega
       have lk:k+1<b.length:=Aq
       have RB:(0:Int)<((k+1:Nat):Int):=by omega
       have Fl:(k:Int)<(b.length:Int):=by omega
       have HAq:=zAA wT
       have nj:=BJ.Yo lq ls
       clear hy wT ZM Fw h0
       obtain ⟨I,hI⟩:∃I,k+1=I:=⟨_,rfl⟩
       have HI:=zAA hI
       rw [hI] at Fi HE KM AF gx lk RB ⊢
       rw [hI] at cB
       clear hI hi Aq
       go_wp2_with fail
       have HS:Hid (∀w':World,(w'.cell? ⟨AM,off+k*2,none⟩=some (.slice p3 lq.length k3)∧w'.cell? ⟨AM,off+I*2,none⟩=some (.slice p1 ls.length k1)∧True)→(w'.cell? ⟨AM,off+k*2,none⟩=some (.slice p3 lq.length k3)∧w'.cell? ⟨AM,off+I*2,none⟩=some (.slice p1 ls.length k1)∧True)):=fun _ h=>h
       refine Gh ?_
       refine AI (fun w':World=>w'.cell? ⟨AM,off+k*2,none⟩=some (.slice p3 lq.length k3)∧w'.cell? ⟨AM,off+I*2,none⟩=some (.slice p1 ls.length k1)∧True) [11] [0,1,2,3,4,5,6,7,8,9,10,11,12] (by kernel_rfl) (by kernel_rfl) (by kernel_rfl) ?_ ?_ ?_
       ·intro c a a' w hd h;cases h.1
       ·exact ⟨cA,cB,trivial⟩
       clear cA cB
       simp only [Cj,zBC,zCP,zBE,zAY,zBM]
       repeat (first
        | (refine takeH_skip rfl ?_; simp only [Act.put, List.setIfInBounds_toArray, List.set_cons_succ, List.set_cons_zero])
        | (refine takeH_blind rfl rfl ?_; apply Exists.intro; refine ⟨fun w => ?_, ?_⟩; (go_simp; try with_reducible rfl); simp only [Act.put, List.setIfInBounds_toArray, List.set_cons_succ, List.set_cons_zero])
        | (refine takeH_reads rfl rfl ?_; apply Exists.intro; refine ⟨fun w' hS => ?_, ?_⟩; (obtain ⟨d0, d1, d2⟩ := HS.out w' hS; go_simp; try with_reducible rfl); simp only [Act.put, List.setIfInBounds_toArray, List.set_cons_succ, List.set_cons_zero]))
       refine AY rfl rfl (fun K' hK=>?_)
       have CF:Hid (Below w1.heap.size w1 w3.drew):=BS.out.trans ((Ac.drew (fun _=>False) w3).below BS.out.size (fun _ _ e=>e))
       have tU:=zAA (UQ _ _ lq ls w3.drew (HAq.out _ CF.out).2.2.1 (Fi.out _ CF.out).2.2.1 (by have:=Jf.out;omega) (by have:=Kn.out.1;omega))
       generalize w3.drew=w4 at *
       go_wp2_with fail
       refine tU.out.mono ?_
       rintro en w5 ⟨rfl,hB⟩
       have KC:Hid (Below w1.heap.size w1 w5):=CF.out.trans (hB.mono CF.out.size)
       refine hK _ _ ⟨(HAq.out _ KC.out).1,(Fi.out _ KC.out).1,trivial⟩ ?_
       clear hK K' hB tU
       repeat (first
        | (refine takeH_skip rfl ?_; simp only [Act.put, List.setIfInBounds_toArray, List.set_cons_succ, List.set_cons_zero])
        | (refine takeH_blind rfl rfl ?_; apply Exists.intro; refine ⟨fun w => ?_, ?_⟩; (go_simp; try with_reducible rfl); simp only [Act.put, List.setIfInBounds_toArray, List.set_cons_succ, List.set_cons_zero])
        | (refine takeH_reads rfl rfl ?_; apply Exists.intro; refine ⟨fun w' hS => ?_, ?_⟩; (obtain ⟨d0, d1, d2⟩ := HS.out w' hS; go_simp; try with_reducible rfl); simp only [Act.put, List.setIfInBounds_toArray, List.set_cons_succ, List.set_cons_zero]))
       refine Bv ⟨rfl,?_⟩
       clear HS
       generalize Az lq ls=cv at *
       rcases nj with rfl | rfl | rfl
       ·have Ev:Hid (A0 b=Bb (Ds b (I+1)) (b.drop (I+1))):=by rw [← HI.out];rw [← HI.out] at HE;exact HE.out
        clear HE
        go_wp2_with fail
        go_round
        case rel=>exact ⟨I+1,by omega,by go_num,Ev.out,KC.out⟩
        case measure=>simp [intOf];omega
       ·have Ev:Hid (A0 b=19):=HE.out
        clear HE
        go_wp2_with fail
        go_ret
        exact ⟨by rw [Ev.out];rfl,KC.out⟩
       ·have Ev:Hid (A0 b=16):=HE.out
        clear HE
        go_wp2_with fail
        go_ret
        exact ⟨by rw [Ev.out];rfl,KC.out⟩
     ·have HE:Hid (A0 b=Bj ss):=by
       have:=BH.out
       rw [bY.out,if_pos ht] at this
       exact this
      have htb:((Bj ss:Int) == 0)=false:=by rw [zAQ];omega
      clear ht BH bY
      generalize Bj ss=te at *
      go_wp2_with fail
      go_ret
      exact ⟨by rw [HE.out];rfl,BS.out⟩
   ·have HE:Hid (A0 b=BZ ls):=by
     have SI:Cr (ls,ss)=BZ ls:=by unfold Cr;rw [if_pos hc]
     have:=BH.out
     rw [SI,if_pos hc] at this
     exact this
    have gm:((BZ ls:Int) == 0)=false:=by rw [zAQ];omega
    clear hc BH
    generalize BZ ls=ce at *
    go_wp2_with fail
    refine Rh.out.mono ?_
    rintro e w2 ⟨rfl,hB⟩
    have AP:Hid (Below w1.heap.size w1 w2):=HB.out.trans (hB.mono HB.out.size)
    clear hB Rh c1
    go_wp2_with fail
    go_ret
    exact ⟨by rw [HE.out];rfl,AP.out⟩
  ·have AF:¬(i:Int)<(b.length:Int):=by omega
   have HE:Hid (A0 b=0):=by
    show _=_
    rw [HC.out,zBF (by omega)]
    cases Ds b i<;>rfl
   go_wp2_with fail
   go_ret
   exact ⟨by rw [HE.out];rfl,HB.out⟩
theorem gh:Cd Tryz.prog 22 51 2 48:=Cd.mk' (z:=.agg #[.slice none 0 0,.slice none 0 0]) Tryz.underlying22 (by kernel_rfl) rfl (by decide)
abbrev OwnH:=ER 51 (Prod.fst:Hd→Value) (Prod.snd:Hd→Value)
def JN (S:Nat→Prop) (h:Hd) (s:AJ):Prop:=(s.1≠[]→∀k,h.1.ownBlock=some k→¬S k)∧(s.2≠[]→∀k,h.2.ownBlock=some k→¬S k)
theorem aZ {l:List Dt} (h:Al l≠[]):l≠[]:=fun e=>h (by subst e;rfl)
theorem En.Ai {S:Nat→Prop} {w w':World} {h:Hd} {s:AJ} (k:En w h s) (hm:Ac S w w') (ho:JN S h s):En w' h s:=
 ⟨k.1.FZ hm (fun e=>ho.1 (CO e)),k.2.FZ hm (fun e=>ho.2 (aZ e))⟩
structure L7 (w wr:World) (hs:List Hd) (b:List AJ) (v:Value):Prop where
 row:OwnH w wr hs v
 len:hs.length=b.length
 KO:∀(i:Nat) (h:Hd) (s:AJ),hs[i]? = some h→b[i]? = some s→En wr h s∧JN (fun k=>v.ownBlock=some k) h s
theorem L7.below {w wr w1:World} {hs:List Hd} {b:List AJ} {v:Value} (k:L7 w wr hs b v) (hb:Below wr.heap.size wr w1):L7 w w1 hs b v:=
 ⟨k.row.below hb,k.len,fun i h s hi hj=>⟨(k.KO i h s hi hj).1.below hb,(k.KO i h s hi hj).2⟩⟩
theorem L7.rd {w wr:World} {hs:List Hd} {b:List AJ} {v:Value} (k:L7 w wr hs b v):FU wr v b:=⟨⟨hs,k.row.rd,k.len,fun i h s hi hj=>(k.KO i h s hi hj).1⟩⟩
theorem L7.stored {w wr:World} {hs hs':List Hd} {b b':List AJ} {g n c i:Nat} {h:Hd} {s:AJ} (k:L7 w wr hs b (.slice (some ⟨g,0,none⟩) n c)) (Jw:En wr h s) (ho:JN (fun j=>j=g) h s) (e1:hs.set i h=hs') (e2:b.set i s=b') :
  L7 w ((wr.setCell ⟨g,i*2,none⟩ h.1).setCell ⟨g,i*2+1,none⟩ h.2) hs' b' (.slice (some ⟨g,0,none⟩) n c):=by
 subst e1 e2
 have G6:Ac (fun k=>k=g) wr (wr.setCell ⟨g,i*2,none⟩ h.1):=Ac.set _ _ _ _ (fun _=>rfl)
 have hm:Ac (fun k=>k=g) wr ((wr.setCell ⟨g,i*2,none⟩ h.1).setCell ⟨g,i*2+1,none⟩ h.2):=G6.trans (Ac.set (fun k=>k=g) _ _ _ (fun _=>rfl)) (fun _ _ e=>e)
 have hc:∀(h:Hd) (s:AJ),JN (fun j=>j=g) h s→JN (fun j=>(Value.slice (some ⟨g,0,none⟩) n c).ownBlock=some j) h s:=fun h s a=>⟨fun e j hj hv=>a.1 e j hj (by simpa [Value.ownBlock] using hv.symm),fun e j hj hv=>a.2 e j hj (by simpa [Value.ownBlock] using hv.symm)⟩
 have hc':∀(h:Hd) (s:AJ),JN (fun j=>(Value.slice (some ⟨g,0,none⟩) n c).ownBlock=some j) h s→JN (fun j=>j=g) h s:=fun h s a=>⟨fun e j hj hv=>a.1 e j hj (by rw [hv];rfl),fun e j hj hv=>a.2 e j hj (by rw [hv];rfl)⟩
 refine ⟨k.row.stored (y:=h) rfl,by simp [k.len],fun j h' s' hi hj=>?_⟩
 rw [zDB] at hi hj
 by_cases e:i=j
 ·subst e
  by_cases hl:i<hs.length
  ·rw [if_pos rfl,if_pos hl] at hi
   rw [if_pos rfl,if_pos (by rw [← k.len];exact hl)] at hj
   cases hi;cases hj
   exact ⟨Jw.Ai hm ho,hc _ _ ho⟩
  ·rw [if_pos rfl,if_neg hl] at hi;cases hi
 ·rw [if_neg e] at hi hj
  obtain ⟨a,b⟩:=k.KO j h' s' hi hj
  exact ⟨a.Ai hm (hc' _ _ b),b⟩
theorem FU.nil (w:World):FU w (.slice none 0 0) []:=⟨⟨[],Rd.nil w 2,rfl,fun i h s hi _=>by simp at hi⟩⟩
theorem WU {l:List AJ} {i:Nat} (h:∀x∈l.take i,Fa x=0) {x:AJ} (hx:l[i]? = some x) (he:Fa x≠0):Dj l=Fa x:=by
 induction l generalizing i with
 | nil=>simp at hx
 | cons y l ih=>
  cases i with
  | zero=>simp at hx;subst hx;rw [Dj,if_pos he]
  | succ i=>
   rw [Dj,if_neg (zCI (h y (by simp)))]
   exact ih (fun z hz=>h z (by rw [zDR];exact zCS _ hz)) (by simpa using hx)
theorem am {l:List AJ} {i:Nat} (h:∀x∈l.take i,Fa x=0) {x:AJ} (hx:l[i]? = some x) (he:Fa x≠0):D5 l=(Fa x,[]):=by
 have h1:=WU h hx he
 unfold D5
 rw [h1,if_pos he]
def lu (w:World) (o:Nat × List AJ) (e:Ending) (w':World):Prop:=∃r,e = .returned (.tuple #[r,.int .i64 (o.1:Int)])∧FU w' r o.2∧Below w.heap.size w w'
theorem lu.Ep {w w':World} {o:Nat × List AJ} {en:Nat} (h:Below w.heap.size w w') (ho:o=(en,[])):lu w o (.returned (.tuple #[.slice none 0 0,.int .i64 (en:Int)])) w':=by
 subst ho
 exact ⟨_,rfl,FU.nil _,h⟩
theorem S1 (b:List AJ):(D5 b).2=[]∨(D5 b).2=CW P9 (b.map KI):=by
 unfold D5
 repeat' split
 all_goals simp
theorem VN {b:List AJ} {s:AJ} (h:s∈(D5 b).2):∃x∈b,s=KI x:=by
 rcases S1 b with e | e
 ·rw [e] at h;cases h
 ·rw [e] at h
  obtain ⟨x,hx,rfl⟩:=zBU.1 ((CR _).mem_iff.1 h)
  exact ⟨x,hx,rfl⟩
theorem U1 {a b:List AJ} (h:a.Perm b):Aw a=Aw b:=(h.map _).sum_nat
theorem UZ (b:List AJ):Aw (b.map KI)=Aw b:=by
 induction b with
 | nil=>rfl
 | cons s b ih=>rw [zBC,Fn,Fn,ih];simp [KI,Wd]
theorem fl {b:List AJ} (h:Jn b):Jn (D5 b).2:=by
 refine ⟨?_,?_,fun s hs=>?_⟩
 ·rcases S1 b with e | e<;>rw [e]
  ·simp
  ·rw [Wd,zAT];exact h.len
 ·rcases S1 b with e | e<;>rw [e]
  ·simp [Aw]
  ·rw [U1 (CR _),UZ];exact h.ko
 ·obtain ⟨x,hx,rfl⟩:=VN hs
  have h1:=(gK x.1).2
  have h2:=h.NV x hx
  show (BD x.1).2.length≤200
  omega
theorem fk {b:List AJ} (h:Du b):Du (D5 b).2:=by
 intro s hs
 obtain ⟨x,hx,rfl⟩:=VN hs
 exact ⟨pB (h x hx).1,fun y hy=>(h x hx).2 y ((CR _).mem_iff.1 hy)⟩
end Go.Proofs.YtdcgbgecbeegmaaGreatDoor
end
