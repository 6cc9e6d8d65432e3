/- Texts 26. -/
import Derived.Test.YtdcgbgecbeegmaaGreatDoorMgSA
import Derived.Test.YtdcgbgecbeegmaaGreatDoorMgS22
import Derived.Shelf.SlicesE.Compact
import Derived.Shelf.Spec.SearchS
import Derived.Sort.Walk0
import Derived.Sort.OwnSorted
import Derived.Shelf.SortM.Plain
import Derived.Shelf.SortM.SortNone
set_option linter.unusedVariables false
set_option linter.unusedSimpArgs false
set_option maxHeartbeats 400000000
set_option maxRecDepth 100000
section
namespace Go.Proofs.YtdcgbgecbeegmaaGreatDoor
open Go Go.RowKit
def BK (t:List ByteArray) (i:Nat):List Nat:=Ab t.length++(t.take i).flatMap fun s=>bytesOf (A8 s)
theorem QE {t:List ByteArray} {i:Nat} {x:ByteArray} (h:t[i]? = some x):BK t (i+1)=BK t i++bytesOf (A8 x):=by
 rw [BK,zAL,h];simp [BK]
theorem Sg (s:List Nat) (h:s.length≤65535):(bytesOf s).length≤65600:=by
 rw [CX]
 have:=AE (x:=s.length) (by omega)
 omega
theorem Sp {t:List ByteArray} (hf:Rf t) (hn:t.length≤1000000) (i:Nat):(BK t i).length≤10+65600*i:=by
 rw [BK,zAB]
 have h1:=AE (x:=t.length) (by omega)
 have h2:∀(l:List ByteArray) (i:Nat),(∀s∈l,s.size≤65535)→((l.take i).flatMap fun s=>bytesOf (A8 s)).length≤65600*i:=by
  intro l
  induction l with
  | nil=>intro i _;simp
  | cons s l ih=>
   intro i h
   cases i with
   | zero=>simp
   | succ i=>
    rw [zDR,zBN,zAB]
    have:=ih i (fun s hs=>h s (by simp [hs]))
    have:=Sg (A8 s) (by rw [Cu];exact h s (by simp))
    omega
 have:=h2 t i hf
 omega
theorem XN (lv:Value) (t:List ByteArray) (w:World) (hl:Rd w 1 lv t.length (BM t)) (hn:t.length≤1000000) :
  Calls Tryz.prog 34 #[lv] w (YB w (BR t)):=by
 have HL:=zAA hl;have Mk:=zAA hn
 obtain ⟨pl,cl,hv⟩:=hl.shape
 subst hv
 clear hl hn
 go_enter Tryz.func34,Tryz.ntmps34
 go_wp2_with fail
 go_loopw [4] (fun iv wr=>∃(i:Nat),i≤t.length∧iv = .int .i64 (i:Int)∧Hid (∀s∈t.take i,s.size≤65535)∧Hid (Below w.heap.size w wr)) (fun iv _=>t.length-(intOf iv).toNat)
 case atStart=>exact ⟨0,zAJ _,rfl,(by intro s hs;simp at hs),zAM _ _⟩
 case round=>
  obtain ⟨i,hi,rfl,HF,HB⟩:=hrel
  have KM:(i:Int)≤1000000:=by have:=Mk.out;omega
  by_cases Aq:i<t.length
  ·have AF:(i:Int)<(t.length:Int):=by omega
   obtain ⟨b,off,c',e,_,_,_⟩:=HL.out.at (fun e=>by have:=congrArg List.length e;rw [BE] at this;simp at this;subst this;simp at Aq)
   simp only [zAN] at e
   obtain ⟨rfl,_,rfl⟩:=e
   obtain ⟨x,hx⟩:∃x,t[i]? = some x:=⟨_,zAC Aq⟩
   have Mt:wr.cell? ⟨b,off+i,none⟩=some (.string x):=by rw [← (zAE.1 hx).2];exact Gt (HL.out.below HB.out) Aq
   have HX:=zAA hx
   clear hx
   by_cases uE:65535<x.size
   ·have hl':(65535:Int)<(x.size:Int):=by omega
    have HE:Hid (BR t=(7,[])):=by
     show _=_
     rw [BR,if_pos (fun h=>by have:=h x (zAG HX.out);omega)]
    clear uE
    go_wp2_with fail
    go_ret2
    rw [HE.out]
    exact ⟨⟨_,rfl,Rd.nil _ _,fun k e=>by cases e⟩,HB.out⟩
   ·have hl':¬(65535:Int)<(x.size:Int):=by omega
    have ii:Hid (∀s∈t.take (i+1),s.size≤65535):=by
     intro s hs
     rw [zAL,HX.out] at hs
     rcases zBJ.1 hs with e | e
     ·exact HF.out s e
     ·simp at e;subst e;omega
    clear uE
    go_wp2_with fail
    go_round
    case rel=>exact ⟨i+1,by omega,by go_num,ii.out,HB.out⟩
    case measure=>simp [intOf];omega
  ·have AF:¬(i:Int)<(t.length:Int):=by omega
   have qG:Hid (Rf t):=by have:=HF.out;rw [zAF (by omega)] at this;exact this
   have hw:IntKind.u64.wrap (t.length:Int)=(t.length:Int):=by rw [zBB];have:=Mk.out;omega
   have htm:(t.length:Int)≤1000000:=by have:=Mk.out;omega
   clear HF Aq hi KM
   go_wp2_with fail
   refine (DE t.length (by omega) _).mono ?_
   rintro e w1 ⟨r,rfl,hM⟩
   have Dd:Hid (AR w w1 (BK t 0) r):=by
    refine ⟨?_,HB.out.trans (hM.2.mono HB.out.size)⟩
    have h:=Af hM.1 (base':=w.heap.size) (fun k hk=>by have:=(hM.1.lt k hk).1;have:=HB.out.size;omega)
    rw [show BK t 0=Ab t.length from by simp [BK]]
    exact h
   obtain ⟨p1,c1,hr⟩:=Dd.out.shape
   subst hr
   clear hM HB AF
   generalize (i:Int)=i0 at *
   go_wp2_with fail
   go_loopw [5,6] (fun vv iv wr=>∃(i:Nat),i≤t.length∧iv = .int .i64 (i:Int)∧Hid (AN CB (t.take i))∧Hid (AR w wr (BK t i) vv)) (fun _ iv _=>t.length-(intOf iv).toNat)
   case atStart=>exact ⟨0,zAJ _,rfl,(by show AN _ _;rw [zDX];exact List.Pairwise.nil),Dd.out⟩
   case round=>
    obtain ⟨i,hi,rfl,HA,HO⟩:=hrel
    have KM:(i:Int)≤1000000:=by omega
    by_cases Aq:i<t.length
    ·have AF:(i:Int)<(t.length:Int):=by omega
     obtain ⟨b,off,c',e,_,_,_⟩:=HL.out.at (fun e=>by have:=congrArg List.length e;rw [BE] at this;simp at this;subst this;simp at Aq)
     simp only [zAN] at e
     obtain ⟨rfl,_,rfl⟩:=e
     obtain ⟨x,hx⟩:∃x,t[i]? = some x:=⟨_,zAC Aq⟩
     have yj:Hid (∀w',Below w.heap.size w w'→w'.cell? ⟨b,off+i,none⟩=some (.string x)):=fun w' hb=>by rw [← (zAE.1 hx).2];exact Gt (HL.out.below hb) Aq
     have Mt:=yj.out wr HO.out.AA
     have HX:=zAA hx
     have y9:x.size≤65535:=qG.out x (zAG hx)
     have HY:=zAA (ke x (by omega))
     have Gy:=zAA (QE hx)
     have il:Hid ((BK t i).length≤10+65600*i∧(bytesOf (A8 x)).length≤65600):=⟨Sp qG.out Mk.out i,Sg _ (by rw [Cu];exact y9)⟩
     obtain ⟨pv,cv,DB⟩:=HO.out.shape
     subst DB
     clear hx y9
     by_cases h0:i=0
     ·subst h0
      have Mt:wr.cell? ⟨b,off,none⟩=some (.string x):=by simpa using Mt
      have G0:Hid (AN CB (t.take (0+1))):=by
       show AN _ _
       rw [zAL,HX.out]
       exact zCY _ _
      go_wp2_with fail
      go_quiet (fail)
      have Dd:=zAA (HO.out.drewN nq)
      have xa:(wr.drewN nq).cell? ⟨b,off,none⟩=some (.string x):=Mt
      clear Mt HO
      generalize wr.drewN nq=wn at *
      go_wp2_with fail
      refine (HY.out _).mono ?_
      rintro e w2 ⟨r,rfl,hM⟩
      have BG:=zAA (Dd.out.below hM.2)
      have vT:=zAA (Rd.Ad hM.1)
      obtain ⟨pr,cr,hr⟩:=vT.out.shape
      subst hr
      have Wu:=zAA BG.out.Cz
      have Nn:Hid (((BK t 0).length+(bytesOf (A8 x)).length)*1≤140737488355328∧(BK t 0).length+(bytesOf (A8 x)).length≤maxLen):=by
       show _∧_
       have h1:=il.out;have h2:=Mk.out;have h3:=hi
       unfold maxLen
       omega
      clear hM Dd xa
      generalize bytesOf (A8 x)=bx at *
      go_wp2_with (at_builtin;refine At Tryz.CG w2 _ _ _ _ _ _ Wu.out vT.out (A3 _) Nn.out rfl _ _ rfl rfl rfl ?_)
      intro v3 w3 k1 k2 k3
      have Ew:Hid (AR w w3 (BK t (0+1)) v3):=by show AR _ _ _ _;rw [Gy.out];exact BG.out.extended k1 k2 k3
      clear k1 k2 k3 Wu vT BG
      go_wp2_with fail
      go_round
      case rel=>exact ⟨1,by omega,by go_num,G0.out,Ew.out⟩
      case measure=>simp [intOf];omega
     ·obtain ⟨q,hq⟩:∃q,i=q+1:=⟨i-1,by omega⟩
      have h0':(0:Int)<(i:Int):=by omega
      have ZF:decide (0<i)=true:=by simp;omega
      have hqi:(i:Int)-1=(q:Int):=by omega
      have yV:(0:Int)≤(q:Int):=by omega
      have hql:(q:Int)<(t.length:Int):=by omega
      obtain ⟨y,hy⟩:∃y,t[q]? = some y:=⟨_,zAC (by omega)⟩
      have sB:wr.cell? ⟨b,off+q,none⟩=some (.string y):=by rw [← (zAE.1 hy).2];exact Gt (HL.out.below HO.out.AA) (by omega)
      have Pw:Hid (t.take (i+1)=t.take i++[x]∧(t.take i).getLast? = some y):=by
       refine ⟨by rw [zAL,HX.out];rfl,?_⟩
       rw [hq,zAL,hy];simp
      clear h0 hy
      by_cases Xm:CB y x=true
      ·have G0:Hid (AN CB (t.take (i+1))):=by
        show AN _ _
        rw [Pw.out.1]
        exact (iz Bz.toLtPre).2 ⟨HA.out,fun z hz=>by rw [Pw.out.2] at hz;cases hz;exact Xm⟩
       have T0:binOp .geq 9 (.string y) (.string x)=pure (.bool false):=by simp [binOp,Op.stringOp,show Op.bytesLess y.toList x.toList=true from Xm]
       have HQ:Hid (i=q+1):=hq
       clear Xm hq
       go_wp2_with fail
       go_quiet (fail)
       have Dd:=zAA (HO.out.drewN nq)
       have xa:(wr.drewN nq).cell? ⟨b,off+i,none⟩=some (.string x):=Mt
       clear Mt HO
       generalize wr.drewN nq=wn at *
       go_wp2_with fail
       refine (HY.out _).mono ?_
       rintro e w2 ⟨r,rfl,hM⟩
       have BG:=zAA (Dd.out.below hM.2)
       have vT:=zAA (Rd.Ad hM.1)
       obtain ⟨pr,cr,hr⟩:=vT.out.shape
       subst hr
       have Wu:=zAA BG.out.Cz
       have Nn:Hid (((BK t i).length+(bytesOf (A8 x)).length)*1≤140737488355328∧(BK t i).length+(bytesOf (A8 x)).length≤maxLen):=by
        show _∧_
        have h1:=il.out;have h2:=Mk.out;have h3:=hi
        unfold maxLen
        omega
       clear hM Dd xa
       generalize bytesOf (A8 x)=bx at *
       generalize BK t i=ep at *
       go_wp2_with (at_builtin;refine At Tryz.CG w2 _ _ _ _ _ _ Wu.out vT.out (A3 _) Nn.out rfl _ _ rfl rfl rfl ?_)
       intro v3 w3 k1 k2 k3
       have Ew:Hid (AR w w3 (BK t (i+1)) v3):=by show AR _ _ _ _;rw [Gy.out];exact BG.out.extended k1 k2 k3
       clear k1 k2 k3 Wu vT BG
       go_wp2_with fail
       go_round
       case rel=>exact ⟨i+1,by omega,by go_num,G0.out,Ew.out⟩
       case measure=>simp [intOf];omega
      ·have hyf:CB y x=false:=by simpa using Xm
       have T0:binOp .geq 9 (.string y) (.string x)=pure (.bool true):=by simp [binOp,Op.stringOp,show Op.bytesLess y.toList x.toList=false from hyf]
       have HE:Hid (BR t=(16,[])):=by
        show _=_
        rw [BR,if_neg (zCI qG.out),if_pos]
        intro ha
        have h:=zBW.1 ha q i (by omega) Aq (by omega)
        have h1:t[q]'(by omega)=y:=by
         have h2:=Pw.out.2
         rw [hq,zAL,zAC (show q<t.length by omega)] at h2
         simp only [zEY,List.getLast?_concat,zCW] at h2
         exact h2
        have h3:t[i]=x:=(zAE.1 HX.out).2
        rw [h1,h3,hyf] at h
        cases h
       clear Xm hyf hq
       go_wp2_with fail
       go_quiet (fail)
       have AP:Hid (Below w.heap.size w (wr.drewN nq)):=(HO.out.drewN nq).AA
       generalize wr.drewN nq=wn at *
       go_wp2_with fail
       go_ret2
       rw [HE.out]
       exact ⟨⟨_,rfl,Rd.nil _ _,fun k e=>by cases e⟩,AP.out⟩
    ·have AF:¬(i:Int)<(t.length:Int):=by omega
     have HE:Hid (BR t=(0,BK t i)):=by
      show _=_
      have h:=HA.out
      rw [zAF (by omega)] at h
      rw [Vn qG.out h,Ks,BK,zAF (by omega)]
     obtain ⟨pv,cv,DB⟩:=HO.out.shape
     subst DB
     go_wp2_with fail
     go_ret2
     rw [HE.out]
     exact ⟨⟨_,rfl,HO.out.rd,fun k hk=>(HO.out.row.lt k hk).1⟩,HO.out.AA⟩
theorem Q3 (lv:Value) (l:List ByteArray) (x:ByteArray) (w:World) (hl:Rd w 1 lv l.length (BM l)) (hn:l.length≤1000000000000) :
  Calls Tryz.prog 79 #[lv,.string x] w fun e w'=>e = .returned (.int .i64 (Dx l x))∧w'=w:=by
 have HL:=zAA hl;have Mk:=zAA hn
 obtain ⟨pl,cl,hv⟩:=hl.shape
 subst hv
 clear hl hn
 go_enter Tryz.func79,Tryz.ntmps79
 go_wp2_with fail
 go_loop [5] (fun iv=>∃(j:Nat),j≤l.length∧iv = .int .i64 (j:Int)∧Hid (∀y∈l.take j,decide (y=x)=false)) (fun iv=>l.length-(intOf iv).toNat)
 case atStart=>exact ⟨0,by omega,rfl,by intro y hy;simp at hy⟩
 case round=>
  obtain ⟨j,hj,rfl,HX⟩:=hrel
  by_cases Aq:j<l.length
  ·have AF:(j:Int)<(l.length:Int):=by omega
   have T1:(j:Int)≤1000000000000:=by have:=Mk.out;omega
   obtain ⟨b,off,c',e,_,_,_⟩:=HL.out.at (fun e=>by have:=congrArg List.length e;rw [BE] at this;simp at this;subst this;simp at Aq)
   simp only [zAN] at e
   obtain ⟨rfl,_,rfl⟩:=e
   obtain ⟨y,hy⟩:∃y,l[j]? = some y:=⟨_,zAC Aq⟩
   have Ry:w.cell? ⟨b,off+j,none⟩=some (.string y):=by rw [← (zAE.1 hy).2];exact Gt HL.out Aq
   have HY:=zAA hy
   clear hy
   by_cases KH:y=x
   ·subst KH
    have dE:(y.toList == y.toList)=true:=by simp
    have HF:Hid (Dx l y=(j:Int)):=Vr HX.out HY.out (by simp)
    go_wp2_with fail
    go_ret
    exact ⟨by rw [HF.out];rfl,rfl⟩
   ·have dE:(y.toList == x.toList)=false:=by rw [eqS];simpa using KH
    have C1:Hid (∀z∈l.take (j+1),decide (z=x)=false):=UK HX.out HY.out (by simpa using KH)
    clear KH
    go_wp2_with fail
    go_round
    case rel=>exact ⟨j+1,by omega,by go_num,C1.out⟩
    case measure=>simp [intOf];omega
  ·have AF:¬(j:Int)<(l.length:Int):=by omega
   have HF:Hid (Dx l x = -1):=La (by have:=HX.out;rwa [zAF (by omega)] at this)
   go_wp2_with fail
   go_ret
   exact ⟨by rw [HF.out];rfl,rfl⟩
end Go.Proofs.YtdcgbgecbeegmaaGreatDoor
end
section
namespace Go.Proofs.YtdcgbgecbeegmaaGreatDoor
open Go Go.RowKit Go.Shelf
attribute [local go_sem] Oper.semAt_some
theorem d6 (p:Option Addr) (m c:Nat) (w:World) (n:Nat) :
  CallsIn Fence.wide n Tryz.prog 133 #[.slice p m c] w fun e w'=>e = .returned (.func (.func 179) #[] #[.pointer (some ⟨w.heap.size,0,none⟩)])∧w'=w.alloc (.cells #[.slice p m c] 44):=by
 refine zCQ.2 ?_
 go_enter Tryz.func133,Tryz.ntmps133
 go_wp2_with fail
 go_ret
 exact ⟨rfl,rfl⟩
def Ml (b:Nat) (lv:Value) (ls:List ByteArray):Nat→Prop:=fun k=>k=b∨(ls≠[]∧lv.ownBlock=some k)
theorem SQ {b:Nat} {lv:Value} {ls:List ByteArray} {w:World} (hb:b<w.heap.size) (hl:Rd w 1 lv ls.length (BM ls)):∀k,Ml b lv ls k→k<w.heap.size:=fun k hk=>by
 rcases hk with e | ⟨h,e⟩
 ·omega
 ·exact hl.lt (fun e=>h (by have:=congrArg List.length e;rw [BE] at this;exact zAI this)) k e
theorem X8 (n:Nat) (hn:1≤n) (b:Nat) (lv:Value) (ls:List ByteArray) (w:World) (hc:w.cell? ⟨b,0,none⟩=some lv) (hl:Rd w 1 lv ls.length (BM ls)) :
  SeqStopsK Fence.wide n Tryz.prog 179 #[.pointer (some ⟨b,0,none⟩)] (fun x:ByteArray=>#[.string x]) (Bs (Ml b lv ls)) (fun ys=>ys=ls) (fun _=>True) ls.length w:=by
 intro l J Jx W hW hJ hJx hY h0
 have hb:b<w.heap.size:=zAP w _ hc
 have bT:Hid (Bs (Ml b lv ls) w W):=fun k hk=>hW.block k (SQ hb hl k hk)
 have HC:=zAA hc;have HL:=zAA hl
 have HY:=zAA hY
 have Xi:(ls.length:Int)≤9223372036854775807:=by have:=hl.le;unfold maxLen at this;omega
 clear hc hY
 obtain ⟨p,c,hv⟩:=hl.shape
 subst hv
 clear hl
 obtain ⟨K,hK⟩:∃K:Nat→Prop,Ml b (.slice p ls.length c) ls=K:=⟨_,rfl⟩
 have bU:Hid (K b):=by rw [← hK];exact Or.inl rfl
 have vC:Hid (ls≠[]→∀k,(Value.slice p ls.length c).ownBlock=some k→K k):=by rw [← hK];exact fun h k hk=>Or.inr ⟨h,hk⟩
 rw [hK] at bT HY
 clear hK
 have cb:=(bT.out.cell bU.out 0).trans HC.out
 refine zGC Tryz.func179 rfl trivial ?_ rfl
 simp only [Tryz.ntmps179,zCC,zAH,zBG,Nat.reduceAdd,Nat.reduceSub,zCL,zCM,zCV,zCO,zBK,zBX]
 gi_wp2
 clear cb
 gi_loopw [7] (fun iv wr=>∃(i:Nat),i≤ls.length∧iv = .int .i64 (i:Int)∧Hid (J (ls.take i) wr∧Bs K w wr)) (fun iv _=>ls.length-(intOf iv).toNat)
 case atStart=>exact ⟨0,zAJ _,rfl,by simpa using h0,bT.out⟩
 case round=>
  obtain ⟨i,hi,rfl,HI⟩:=hrel
  by_cases h:i<ls.length
  ·have Aq:(i:Int)<(ls.length:Int):=by omega
   have BC:ls≠[]:=fun e=>by rw [e] at h;simp at h
   have HR:=zAA (HI.out.2.rd HL.out (vC.out BC))
   obtain ⟨b0,off,c',e,_,_,FH⟩:=HR.out.at (fun e=>BC (by have:=congrArg List.length e;rw [BE] at this;exact zAI this))
   simp only [zAN] at e
   obtain ⟨rfl,_,rfl⟩:=e
   have c1:=FH i (.string ls[i]) (Pj ls i h)
   have Yg:Hid (ls.take (i+1)=ls.take i++[ls[i]]):=by show _=_;rw [zAL,zAC h];rfl
   generalize ls[i]=t at *
   clear FH HR
   obtain ⟨fn,tmps,assign,body,jz,hR⟩:=HY.out (ls.take i) t wr HI.out.1 (by rw [zAR];omega)
   have li:=zAA hR
   clear hR BC
   gi_wp2
   refine li.out.mono ?_
   rintro e W3 (⟨rfl,Uv,Xf⟩ | ⟨rfl,P0⟩)
   ·have Uf:Hid (J (ls.take (i+1)) W3∧Bs K w W3):=⟨by rw [Yg.out];exact Uv,D2 HI.out.2 Xf⟩
    clear Uv Xf c1
    gi_wp2
    go_roundw
    case rel=>exact ⟨i+1,by omega,by go_num,Uf.out⟩
    case measure=>simp [intOf];omega
   ·gi_wp2
    refine zCB (zDZ rfl _ _ _) rfl ?_
    exact ⟨⟨_,rfl⟩,.inr ⟨_,trivial,P0⟩⟩
  ·have Aq:¬(i:Int)<(ls.length:Int):=by omega
   have HE:Hid (ls.take i=ls):=zAF (by omega)
   gi_wp2
   go_end0
   refine ⟨⟨_,rfl⟩,.inl ?_⟩
   have:=HI.out.1
   rw [HE.out] at this
   exact this
end Go.Proofs.YtdcgbgecbeegmaaGreatDoor
end
section
namespace Go.Proofs.YtdcgbgecbeegmaaGreatDoor
open Go Go.RowKit Go.Lib
def Ma (t:List ByteArray) (s:ByteArray) (j:Nat):ByteArray:=(t[j]?).getD s
def KJ (t:List ByteArray) (s:ByteArray):Nat:=t.findIdx (fun a=>!CB a s)
theorem gS (t:List ByteArray) (s:ByteArray):KJ t s≤t.length:=List.findIdx_le_length
theorem Td {t:List ByteArray} {s:ByteArray} (j:Nat) (h:j<KJ t s):CB (Ma t s j) s=true:=by
 have hl:=gS t s
 rw [Ma,zAC (by omega),zBM]
 have:=List.not_of_lt_findIdx h
 simpa using this
theorem VU {t:List ByteArray} (ha:AN CB t) {s:ByteArray} (j:Nat) (h:KJ t s≤j):CB (Ma t s j) s=false:=by
 by_cases hj:j<t.length
 ·rw [Ma,zAC hj,zBM]
  have hk:KJ t s<t.length:=by omega
  have h1:CB t[KJ t s] s=false:=by
   have h0:(!CB t[KJ t s] s)=true:=List.findIdx_getElem (w:=hk)
   simpa using h0
  rcases Nat.lt_or_eq_of_le h with e | e
  ·have h2:=YT ha e hj
   rcases zBH (CB t[j] s) with f | f
   ·rw [Bz.tr _ _ _ h2 f] at h1;cases h1
   ·exact f
  ·simp only [← e];exact h1
 ·rw [Ma,zCJ (by omega)]
  exact Bz.SP s
end Go.Proofs.YtdcgbgecbeegmaaGreatDoor
end
section
namespace Go.Proofs.YtdcgbgecbeegmaaGreatDoor
open Go Go.RowKit Go.Lib Go.Sort
section
def VD (a:ByteArray):List UInt8:=a.data.toList
def T5 (l:List UInt8):ByteArray:=⟨l.toArray⟩
theorem gM (a:ByteArray):T5 (VD a)=a:=by cases a;simp [T5,VD]
theorem RY (l:List UInt8):VD (T5 l)=l:=by simp [T5,VD]
theorem s9 (x y:List UInt8):CB (T5 x) (T5 y)=Vj x y:=by
 have h:∀l:List UInt8,(T5 l).toList=l:=fun l=>by rw [Lib.toList_data];simp [T5]
 rw [CB,h,h];rfl
theorem cJ:MH Vj:=⟨⟨fY,cK⟩,WC⟩
theorem sb (l:List ByteArray):(l.map VD).map encStr=BM l:=by
 rw [zEK,BM]
 refine zCR fun a _=>?_
 cases a
 simp [encStr,VD]
theorem sc (l:List (List UInt8)):l.map encStr=BM (l.map T5):=by
 rw [BM,zEK];rfl
section
variable {α:Type} [Inhabited α] [DecidableEq α] {lt:α→α→Bool}
theorem K3 (d:Array α) (m:Nat) (x:α):x∈compactUpTo d m↔∃j,j<m∧d[j]! = x:=by
 induction m with
 | zero=>simp [compactUpTo]
 | succ m ih=>
  rw [compactUpTo_succ,zBJ,ih]
  constructor
  ·rintro (⟨j,h1,h2⟩ | h)
   ·exact ⟨j,by omega,h2⟩
   ·by_cases hk:keeps d m=true
    ·rw [if_pos hk] at h
     exact ⟨m,by omega,(zCF.1 h).symm⟩
    ·rw [if_neg hk] at h;cases h
  ·rintro ⟨j,h1,h2⟩
   by_cases hj:j<m
   ·exact Or.inl ⟨j,hj,h2⟩
   ·obtain rfl:j=m:=by omega
    by_cases hk:keeps d j=true
    ·exact Or.inr (by rw [if_pos hk,h2];exact zCF.2 rfl)
    ·have:¬(j=0∨d[j]!≠d[j-1]!):=by simpa [keeps] using hk
     exact Or.inl ⟨j-1,by omega,by rw [← h2];exact (zGW.1 (fun e=>this (Or.inr e))).symm⟩
theorem Za (h:MH lt) (d:Array α) (hs:∀i j,i<j→j<d.size→lt d[j]! d[i]! = false) (m:Nat) (hm:m≤d.size):AN lt (compactUpTo d m):=by
 induction m with
 | zero=>exact List.Pairwise.nil
 | succ m ih=>
  rw [compactUpTo_succ]
  refine zEP.2 ⟨ih (by omega),?_,fun a ha b hb=>?_⟩
  ·split
   ·exact zCY _ _
   ·exact List.Pairwise.nil
  ·by_cases hk:keeps d m=true
   ·rw [if_pos hk] at hb
    obtain rfl:=zCF.1 hb
    obtain ⟨i,hi,rfl⟩:=(K3 d m a).1 ha
    have BC:d[m]!≠d[m-1]!:=by
     have:m=0∨d[m]!≠d[m-1]!:=by simpa [keeps] using hk
     rcases this with e | e
     ·omega
     ·exact e
    have h1:lt d[m-1]! d[m]! = true:=by
     rcases zBH (lt d[m-1]! d[m]!) with e | e
     ·exact e
     ·exact absurd (h.kQ _ _ (hs (m-1) m (by omega) (by omega)) e) BC
    by_cases he:i=m-1
    ·rw [he];exact h1
    ·exact h.n9 (hs i (m-1) (by omega) (by omega)) h1
   ·rw [if_neg hk] at hb;cases hb
end
def T6 (l:List ByteArray):List (List UInt8):=(l.map VD).mergeSort (fun x y=>decide (x≤y))
theorem TA (l:List ByteArray):(T6 l).Perm (l.map VD):=List.mergeSort_perm _ _
theorem Fe (l:List ByteArray):(T6 l).length=l.length:=by rw [(TA l).length_eq,zAT]
theorem Xx (x y:List UInt8):decide (x≤y) = !Vj y x:=by
 rw [Vj,bytesLess_eq]
 by_cases h:y<x
 ·rw [zBA h,zAV (List.not_le.2 h)];rfl
 ·rw [zAV h,zBA (List.not_lt.1 h)];rfl
theorem fq (l:List ByteArray):(T6 l).Pairwise (fun x y=>Vj y x=false):=by
 have h:=List.pairwise_mergeSort (le:=fun x y:List UInt8=>decide (x≤y)) (fun a b c h1 h2=>by
  rw [Xx,Bool.not_eq_true'] at *
  rcases zBH (Vj c a) with e | e
  ·exact absurd (cJ.n9 h2 e) (by rw [h1];decide)
  ·exact e) (fun a b=>by
  rw [Xx,Xx]
  rcases zBH (Vj b a) with e | e
  ·rw [cJ.uk e];simp
  ·rw [e];rfl) (l.map VD)
 exact h.imp (fun {a b} h=>by rw [Xx,Bool.not_eq_true'] at h;exact h)
theorem QC (l:List ByteArray):(compactUpTo (T6 l).toArray l.length).map T5=Bp l:=by
 have sD:∀j (h:j<(T6 l).length),(T6 l).toArray[j]! = (T6 l)[j]:=fun j h=>by rw [zDW _ j (by simpa using h)];simp
 refine Gl Bz.toLtPre _ _ ?_ (Gw Bz l) (fun x=>?_)
 ·refine zER.2 ((Za cJ (T6 l).toArray (fun i j C3 hj=>?_) l.length (by simp [Fe])).imp (fun {a b} h=>by rw [s9];exact h))
  have hj':j<(T6 l).length:=by simpa using hj
  rw [sD j hj',sD i (by omega)]
  exact zBW.1 (fq l) i j (by omega) hj' C3
 ·rw [Bp,Ly Bz,zBU]
  constructor
  ·rintro ⟨k,hk,rfl⟩
   obtain ⟨j,hj,rfl⟩:=(K3 _ _ _).1 hk
   have hj':j<(T6 l).length:=by rw [Fe];exact hj
   rw [sD j hj']
   obtain ⟨a,ha,he⟩:=zBU.1 ((TA l).mem_iff.1 (zDI hj'))
   rw [← he,gM]
   exact ha
  ·intro hx
   have h1:VD x∈T6 l:=(TA l).mem_iff.2 (zBU.2 ⟨x,hx,rfl⟩)
   obtain ⟨j,hj,he⟩:=zEH h1
   refine ⟨VD x,(K3 _ _ _).2 ⟨j,by rw [← Fe];exact hj,by rw [sD j hj];exact he⟩,gM x⟩
theorem Zc (ts:List (List UInt8)) (m:Nat):(compactUpTo ts.toArray m).length≤m:=by
 unfold compactUpTo
 rw [zAT]
 exact zAW (zFT _ _) (by simp)
end
end Go.Proofs.YtdcgbgecbeegmaaGreatDoor
end
section
namespace Go.Proofs.YtdcgbgecbeegmaaGreatDoor
open Go Go.RowKit
def pR:Go.Shelf.Ren:=⟨fun | 6=>178 | 8=>122 | 9=>223 | 19=>168 | 20=>169 | 21=>260 | 22=>261 | 23=>262 | 24=>263 | 25=>264 | 26=>265 | 27=>197 | 28=>266 | 29=>267 | 31=>218 | 32=>219 | 36=>289 | 37=>290 | 38=>291 | 39=>243 | 41=>300 | n=>n,fun | 0=>0 | 3=>3 | 4=>4 | 5=>5 | 9=>9 | 26=>44 | 27=>44 | 29=>9 | 32=>177 | 35=>223 | 36=>224 | 41=>158 | 44=>139 | 46=>81 | 53=>267 | 57=>271 | 63=>321 | 64=>210 | n=>n,fun n=>n⟩
theorem VI:Go.Proofs.SlLaysM.n6 Tryz.prog pR:={ mixed:=by kernel_rfl,f6:=⟨ "slices.Sort[[]string,string]",by decide,Tryz.func178.trans (congrArg some (by kernel_rfl))⟩,f8:=Tryz.func122.trans (congrArg some (by kernel_rfl)),f9:=⟨ "slices.pdqsortOrdered[string]",by decide,Tryz.func223.trans (congrArg some (by kernel_rfl))⟩,f19:=Tryz.func168.trans (congrArg some (by kernel_rfl)),f20:=Tryz.func169.trans (congrArg some (by kernel_rfl)),f21:=⟨ "slices.insertionSortOrdered[string]",by decide,Tryz.func260.trans (congrArg some (by kernel_rfl))⟩,f22:=⟨ "slices.heapSortOrdered[string]",by decide,Tryz.func261.trans (congrArg some (by kernel_rfl))⟩,f23:=⟨ "slices.breakPatternsOrdered[string]",by decide,Tryz.func262.trans (congrArg some (by kernel_rfl))⟩,f24:=⟨ "slices.choosePivotOrdered[string]",by decide,Tryz.func263.trans (congrArg some (by kernel_rfl))⟩,f25:=⟨ "slices.reverseRangeOrdered[string]",by decide,Tryz.func264.trans (congrArg some (by kernel_rfl))⟩,f26:=⟨ "slices.partialInsertionSortOrdered[string]",by decide,Tryz.func265.trans (congrArg some (by kernel_rfl))⟩,f27:=⟨ "cmp.Less[string]",by decide,Tryz.func197.trans (congrArg some (by kernel_rfl))⟩,f28:=⟨ "slices.partitionEqualOrdered[string]",by decide,Tryz.func266.trans (congrArg some (by kernel_rfl))⟩,f29:=⟨ "slices.partitionOrdered[string]",by decide,Tryz.func267.trans (congrArg some (by kernel_rfl))⟩,f31:=Tryz.func218.trans (congrArg some (by kernel_rfl)),f32:=Tryz.func219.trans (congrArg some (by kernel_rfl)),f36:=⟨ "slices.siftDownOrdered[string]",by decide,Tryz.func289.trans (congrArg some (by kernel_rfl))⟩,f37:=⟨ "slices.medianAdjacentOrdered[string]",by decide,Tryz.func290.trans (congrArg some (by kernel_rfl))⟩,f38:=⟨ "slices.medianOrdered[string]",by decide,Tryz.func291.trans (congrArg some (by kernel_rfl))⟩,f39:=⟨ "cmp.isNaN[string]",by decide,Tryz.func243.trans (congrArg some (by kernel_rfl))⟩,f41:=⟨ "slices.order2Ordered[string]",by decide,Tryz.func300.trans (congrArg some (by kernel_rfl))⟩,t0:=Tryz.underlying0,a0:=Tryz.isAgg0,z0:=Tryz.sizeOf0,v0:=Tryz.zeroValue0,t3:=Tryz.underlying3,a3:=Tryz.isAgg3,z3:=Tryz.sizeOf3,v3:=Tryz.zeroValue3,t4:=Tryz.underlying4,a4:=Tryz.isAgg4,z4:=Tryz.sizeOf4,v4:=Tryz.zeroValue4,t5:=Tryz.underlying5,a5:=Tryz.isAgg5,z5:=Tryz.sizeOf5,v5:=Tryz.zeroValue5,t9:=Tryz.underlying9,a9:=Tryz.isAgg9,z9:=Tryz.sizeOf9,v9:=Tryz.zeroValue9,t26:=Tryz.underlying44,a26:=Tryz.isAgg44,z26:=Tryz.sizeOf44,v26:=Tryz.zeroValue44,t27:=Tryz.underlying44,a27:=Tryz.isAgg44,z27:=Tryz.sizeOf44,v27:=Tryz.zeroValue44,t29:=Tryz.underlying9,a29:=Tryz.isAgg9,z29:=Tryz.sizeOf9,v29:=Tryz.zeroValue9,t32:=Tryz.underlying177,a32:=Tryz.isAgg177,z32:=Tryz.sizeOf177,v32:=Tryz.zeroValue177,t35:=Tryz.underlying223,a35:=Tryz.isAgg223,z35:=Tryz.sizeOf223,v35:=Tryz.zeroValue223,t36:=Tryz.underlying224,a36:=Tryz.isAgg224,z36:=Tryz.sizeOf224,v36:=Tryz.zeroValue224,t41:=Tryz.underlying158,a41:=Tryz.isAgg158,z41:=Tryz.sizeOf158,v41:=Tryz.zeroValue158,t44:=Tryz.underlying139,a44:=Tryz.isAgg139,z44:=Tryz.sizeOf139,v44:=Tryz.zeroValue139,t46:=Tryz.underlying81,a46:=Tryz.isAgg81,z46:=Tryz.sizeOf81,v46:=Tryz.zeroValue81,t53:=Tryz.underlying267,a53:=Tryz.isAgg267,z53:=Tryz.sizeOf267,v53:=Tryz.zeroValue267,t57:=Tryz.underlying271,a57:=Tryz.isAgg271,z57:=Tryz.sizeOf271,v57:=Tryz.zeroValue271,t63:=Tryz.underlying321,a63:=Tryz.isAgg321,z63:=Tryz.sizeOf321,v63:=Tryz.zeroValue321,t64:=Tryz.underlying210,a64:=Tryz.isAgg210,z64:=Tryz.sizeOf210,v64:=Tryz.zeroValue210 }
def aS:Go.Shelf.Ren:=⟨fun | 43=>131 | n=>n,fun | 0=>0 | 3=>3 | 4=>4 | 22=>44 | 23=>9 | n=>n,fun n=>n⟩
theorem Xw:Go.Proofs.SlLaysE.n43 Tryz.prog aS:={ mixed:=by kernel_rfl,f43:=⟨ "slices.Compact[[]string,string]",by decide,Tryz.func131.trans (congrArg some (by kernel_rfl))⟩,t0:=Tryz.underlying0,a0:=Tryz.isAgg0,z0:=Tryz.sizeOf0,v0:=Tryz.zeroValue0,t3:=Tryz.underlying3,a3:=Tryz.isAgg3,z3:=Tryz.sizeOf3,v3:=Tryz.zeroValue3,t4:=Tryz.underlying4,a4:=Tryz.isAgg4,z4:=Tryz.sizeOf4,v4:=Tryz.zeroValue4,t22:=Tryz.underlying44,a22:=Tryz.isAgg44,z22:=Tryz.sizeOf44,v22:=Tryz.zeroValue44,a23:=Tryz.isAgg9,z23:=Tryz.sizeOf9 }
theorem tL (w:World) (base:Nat) (v:Value) (l:List ByteArray) (h:w.ownsRow base 9 1 v l.length (BM l)) (hn:l.length≤1000000) :
  Calls Tryz.prog 178 #[v] w fun e w'=>e = .returned (.tuple #[])∧w'.ownsRow base 9 1 v l.length ((T6 l).map encStr)∧Ac (fun k=>v.ownBlock=some k) w w':=by
 have hl:(l.map VD).length=l.length:=zAT ..
 rcases h.2 with ⟨rfl,h0⟩ | ⟨g,cap,cur,rfl,FB,MX,r1,r2,r3,r4⟩
 ·refine (AnyM.slices_Sort_string_none VI none 0 w).mono ?_
  rintro e w' ⟨rfl,rfl⟩
  obtain rfl:l=[]:=zAI h0
  exact ⟨rfl,by simpa [T6,BM] using h,Ac.refl _ _⟩
 ·have hH:Go.Sort.Holds encStr w g 0 (l.map VD).toArray:=holds_of_block MX (by rw [hl,sb,← r4,zFI])
  have hC:=AnyM.slices_Sort_string VI g 0 cap (l.map VD) w hH (zAX.1 MX).1 (by omega)
  rw [hl] at hC
  refine hC.mono ?_
  rintro e w' ⟨rfl,n,os,rfl⟩
  have hs:(T6 l).length=(l.map VD).length:=by rw [Fe,hl]
  have RC:=ownsRow_sorted (n:=n) (os:=os) (ts:=T6 l) (ss:=l.map VD) hs FB MX (by rw [hl];exact r1) r2 r3
  rw [hl] at RC
  exact ⟨rfl,RC,(Ac.EF (grownBy_sorted _)).mono (fun k _ e=>e)⟩
theorem jY {w:World} {base:Nat} {e:TypeId} {n c m:Nat} {p:Option Addr} {xs:List Value} (h:w.ownsRow base e 1 (.slice p n c) n xs) (hm:m≤n):w.ownsRow base e 1 (.slice p m c) m (xs.take m):=by
 have hx:=h.1
 refine ⟨by rw [zAR];omega,?_⟩
 rcases h.2 with ⟨e,h0⟩ | ⟨g,cap,cur,e,hb,hg,hn,Xk,hs,ht⟩
 ·simp only [zAN] at e
  obtain ⟨rfl,_,rfl⟩:=e
  obtain rfl:m=0:=by omega
  exact Or.inl ⟨rfl,rfl⟩
 ·simp only [zAN] at e
  obtain ⟨rfl,_,rfl⟩:=e
  refine Or.inr ⟨g,c,cur,rfl,hb,hg,by omega,Xk,hs,?_⟩
  rw [← ht,List.take_take,zFI,zFI,zFW hm]
theorem eql_k (T:TypeId):EqlAt Tryz.prog T encStr (fun x y=>decide (x=y)):=by
 have h:=EqlAt.string Tryz.prog T
 refine ⟨fun x y w=>?_,fun op a b x y w=>h.2 op a b _ _ w⟩
 have hb:((T5 x).toList == (T5 y).toList)=decide (x=y):=by rw [Lib.toList_data,Lib.toList_data];show (VD (T5 x) == VD (T5 y))=_;rw [RY,RY];by_cases e:x=y<;>simp [e]
 have h2:=h.1 (T5 x) (T5 y) w
 simp only [hb] at h2
 exact h2
theorem neq_k (T:TypeId):NeqAt Tryz.prog T encStr (fun x y=>decide (x=y)):=by
 have h:=NeqAt.string Tryz.prog T
 refine ⟨fun x y w=>?_,fun op a b x y w=>h.2 op a b _ _ w⟩
 have hb:((T5 x).toList == (T5 y).toList)=decide (x=y):=by rw [Lib.toList_data,Lib.toList_data];show (VD (T5 x) == VD (T5 y))=_;rw [RY,RY];by_cases e:x=y<;>simp [e]
 have h2:=h.1 (T5 x) (T5 y) w
 simp only [hb] at h2
 exact h2
theorem Zd (w:World):Calls Tryz.prog 131 #[.slice none 0 0] w fun e w'=>e = .returned (.slice none 0 0)∧w'=w:=by
 go_enter Tryz.func131,Tryz.ntmps131
 go_wp2_with fail
 go_ret
 exact ⟨rfl,rfl⟩
theorem Ze (w:World) (base:Nat) (v:Value) (ts:List (List UInt8)) (h:w.ownsRow base 9 1 v ts.length (ts.map encStr)) (hn:ts.length≤1000000) :
  Calls Tryz.prog 131 #[v] w fun e w'=>∃r,e = .returned r∧w'.ownsRow base 9 1 r (Lib.compactUpTo ts.toArray ts.length).length ((Lib.compactUpTo ts.toArray ts.length).map encStr)∧Ac (fun k=>v.ownBlock=some k) w w':=by
 rcases h.2 with ⟨rfl,h0⟩ | ⟨g,cap,cur,rfl,FB,MX,r1,r2,r3,r4⟩
 ·refine (Zd w).mono ?_
  rintro e w' ⟨rfl,rfl⟩
  obtain rfl:ts=[]:=zAI h0
  exact ⟨_,rfl,by simpa [Lib.compactUpTo] using h,Ac.refl _ _⟩
 ·have hH:Go.Sort.Holds encStr w g 0 ts.toArray:=holds_of_block MX (by rw [← r4,zFI])
  obtain ⟨C,hC⟩:∃C,Lib.compactUpTo ts.toArray ts.length=C:=⟨_,rfl⟩
  have hCl:C.length≤ts.length:=by rw [← hC];exact Zc _ _
  have h1:=AnyE.slices_Compact Xw encStr (fun _=>rfl) (eql_k _) (neq_k _) [] Tryz.zeroValue9 g 0 cap ts.toArray w hH (by simp;omega) (by simpa using r1)
  simp only [zCC] at h1
  rw [hC] at h1 ⊢
  refine h1.mono ?_
  rintro e w' ⟨rfl,q,rfl⟩
  have hs:(C++List.replicate (ts.length-C.length) []).length=ts.length:=by simp;omega
  have RC:=ownsRow_sorted (n:=q) (os:=#[]) (ts:=C++List.replicate (ts.length-C.length) []) (ss:=ts) hs FB MX r1 r2 r3
  rw [Go.Sort.grow_empty] at RC
  have h2:=jY RC hCl
  rw [zCD,List.take_left' (by simp)] at h2
  have hg:=grownBy_sorted (w:=w) (g:=g) (n:=q) (os:=#[]) (C++List.replicate (ts.length-C.length) []).toArray
  rw [Go.Sort.grow_empty] at hg
  exact ⟨_,rfl,h2,(Ac.EF hg).mono (fun k _ e=>e)⟩
end Go.Proofs.YtdcgbgecbeegmaaGreatDoor
end
section
namespace Go.Proofs.YtdcgbgecbeegmaaGreatDoor
open Go Go.RowKit Go.Shelf
attribute [local go_sem] Oper.semAt_some
def q9 (g:Nat) (w:World) (pre:List ByteArray) (W:World):Prop:=
 ∃v',Ao W g [v']∧W.ownsRow g 9 1 v' pre.length (BM pre)∧v'.ownBlock≠some g∧Below g w W
theorem my {B g:Nat} {w:World} (hB:g≤B):OwnFrom B (fun (pre:List ByteArray) W=>q9 g w pre W):=by
 rintro s W W' row ⟨v',h1,h2,h3,h4⟩ hg hr
 have hr':∀r,row=some r→∃o:Obj,W.heap[r]? = some o∧o.isCells=false:=fun r e=>(hr r e).2
 exact ⟨v',LT g (fun _:Unit=>[v']) () W W' row h1 hg hr',GQ h2 hg hr',h3,h4.grown hg (by have:=h1.lt;omega) (fun j e=>zAW hB (hr j e).1)⟩
theorem Sc (b:Nat) (lv:Value) (l:List ByteArray) (w:World) (hc:w.cell? ⟨b,0,none⟩=some lv) (hl:Rd w 1 lv l.length (BM l)) (hn:l.length≤1000000) :
  Calls Tryz.prog 222 #[.slice none 0 0,.func (.func 179) #[] #[.pointer (some ⟨b,0,none⟩)]] w fun e w'=>∃r,e = .returned r∧w'.ownsRow w.heap.size 9 1 r l.length (BM l)∧Below w.heap.size w w':=by
 have hb:b<w.heap.size:=zAP w _ hc
 have Ug:=zAA (SQ hb hl)
 have HC:=zAA hc;have HL:=zAA hl;have HN:=zAA hn
 clear hc hl hn
 refine (zCQ (n:=9)).1 ?_
 refine callsIn_of_wp_marks Tryz.func222 rfl trivial ?_ rfl
 simp only [Tryz.ntmps222,zCC,zAH,zBG,Nat.reduceAdd,Nat.reduceSub,zCL,zCM,zCV,zCO,zBK,zBX]
 gi_wp2
 obtain ⟨W0,Gr⟩:∃W0,w.alloc (.cells #[.slice none 0 0] 44)=W0:=⟨_,rfl⟩
 have T4:W0.heap.size=w.heap.size+1:=by rw [← Gr];simp
 have MV:Below w.heap.size w W0:=by rw [← Gr];exact (zAM _ w).alloc (zAD _) _
 have uy:Ao W0 w.heap.size [.slice none 0 0]:=by rw [← Gr];exact Ao.new w _ _
 rw [Gr]
 clear Gr
 have Vd:Hid (q9 w.heap.size w [] W0):=⟨_,uy,zBI _ _ _ _,fun e=>by simp [Value.ownBlock] at e,MV⟩
 have No:=zAA (X8 8 (by omega) b lv l W0 ((MV.cell hb).trans HC.out) (HL.out.below MV))
 have R9:=zAA T4
 clear uy MV T4
 obtain ⟨K,hK⟩:∃K:Nat→Prop,Ml b lv l=K:=⟨_,rfl⟩
 rw [hK] at No Ug
 clear hK
 refine wpIn_rangeFunc_ownG rfl (by omega) (gf:=179) (lb:=#[.pointer (some ⟨b,0,none⟩)]) rfl trivial (enters_of Tryz.func179 (by kernel_rfl) rfl)
  No.out (fun h k=>D2 h k) (fun W l o o' h1 h2 h3 h4=>Lj (w:=W0) (fun k hk=>by have:=Ug.out k hk;have:=R9.out;omega) W l o o' h1 h2 h3 h4) (zAM _ _) (fun _=>rfl)
  (fun pre W=>q9 w.heap.size w pre W)
  (fun _ _ _=>False)
  (my (by have:=R9.out;omega))
  (fun _ _ _ _ _ hs _ _=>hs)
  Vd.out
  (fun x=>{ tmps:=#[.slice none 0 0,.func (.func 179) #[] #[.pointer (some ⟨b,0,none⟩)],.pointer (some ⟨w.heap.size,0,none⟩),undef,.slice none 0 0,.string x,.func (.func 179) #[] #[.pointer (some ⟨b,0,none⟩)],.string x,undef,undef,undef,undef,undef],defers:=[] })
  ?assign ?body ?done ?stop
 case assign=>
  intro l x W K hK
  simp only [zEN,zEC,zED,zEA,zDP,zFA,zAZ,zBL,zBT]
  gi_wp2
  exact hK
 case body=>
  rintro l' pre x W ⟨v',h1,h2,h4,h5⟩ Bg
  have gB:pre.length≤1000000:=by have:=HN.out;omega
  have c0:W.cell? ⟨w.heap.size,0,none⟩=some v':=by rw [h1.cell];rfl
  have f0:=h1.free 0
  have Yi:Hid (W.ownsRow 0 9 1 v' pre.length (BM pre)):=Af h2 (fun _ _=>zAJ _)
  have io:Hid ((pre++[x]).length=pre.length+1∧BM (pre++[x])=BM pre++[.string x]):=⟨by simp,by rw [bh];rfl⟩
  obtain ⟨p1,c1,DA⟩:=(Rd.Ad h2).shape
  subst DA
  have HB:Hid ((pre.length+1)*16≤140737488355328∧pre.length+1≤maxLen):=by show _∧_;unfold maxLen;omega
  have H1:=zAA h1;have H2:=zAA h2;have H4:=zAA h4;have H5:=zAA h5
  clear h1 h2 h4 h5 Bg
  generalize gD:pre.length=pl at *
  clear gD
  refine wpIn_block ?_
  refine wpIn_region_list ?_
  refine EO Fb _ _ _ (by simp) ?_
  go_wp2_with (at_builtin;refine AD Tryz.JW W #[.string x] _ _ _ Yi.out rfl (by simp [Value.oneCell']) HB.out rfl _ _ rfl rfl rfl ?_)
  intro v2 w1 k1 k2 k3
  have b1:=k2.AM H1.out (fun e=>H4.out e)
  have c1':w1.cell? ⟨w.heap.size,0,none⟩=some (.slice p1 pl c1):=by rw [b1.cell];rfl
  have f1':=b1.free 0
  have BC:v2.ownBlock≠some w.heap.size:=fun e=>by
   rcases k3 _ e with e | e
   ·exact H4.out e
   ·have:=H1.out.lt;omega
  have dC:∀k,v2.ownBlock=some k→w.heap.size≤k:=fun k hk=>by
   rcases k3 k hk with e | e
   ·exact (H2.out.lt k e).1
   ·have:=H1.out.lt;omega
  obtain ⟨p2,c2,Ji⟩:=(Rd.Ad k1).shape
  subst Ji
  have HF:Hid (KeepsOthers W (w1.setCell ⟨w.heap.size,0,none⟩ (.slice p2 (pl+1) c2))∧Bs K W (w1.setCell ⟨w.heap.size,0,none⟩ (.slice p2 (pl+1) c2))∧q9 w.heap.size w (pre++[x]) (w1.setCell ⟨w.heap.size,0,none⟩ (.slice p2 (pl+1) c2))):=by
   have hs:Ac (fun k=>k=w.heap.size) w1 (w1.setCell ⟨w.heap.size,0,none⟩ (.slice p2 (pl+1) c2)):=Ac.set _ _ _ _ (fun _=>rfl)
   have hM:Ac (fun k=>k=w.heap.size∨(Value.slice p1 pl c1).ownBlock=some k) W (w1.setCell ⟨w.heap.size,0,none⟩ (.slice p2 (pl+1) c2)):=
    (k2.mono (fun _ _ e=>Or.inr e)).trans hs (fun _ _ e=>Or.inl e)
   have P4:∀k,(k=w.heap.size∨(Value.slice p1 pl c1).ownBlock=some k)→w.heap.size≤k:=fun k e=>by
    rcases e with e | e
    ·omega
    ·exact (H2.out.lt k e).1
   refine ⟨KeepsOthers.J5 hM (fun k o e ho=>?_),fun k hk=>hM.block k (by have:=Ug.out k hk;have:=H5.out.size;omega) (fun e=>by have:=Ug.out k hk;have:=P4 k e;omega),.slice p2 (pl+1) c2,?_,?_,BC,?_⟩
   ·rcases e with rfl | e
    ·obtain ⟨t,ht⟩:=H1.out
     rw [ht] at ho;cases ho;rfl
    ·exact C9 H2.out k o e ho
   ·simpa using b1.set 0 (.slice p2 (pl+1) c2)
   ·rw [io.out.1,io.out.2]
    exact Af (hs.owns k1 (fun k hk e=>BC (by rw [hk,e]))) dC
   ·exact H5.out.trans (hM.below (by have:=H1.out.lt;omega) (fun k hk e=>by have:=P4 k e;omega))
  clear k1 k2 k3 BC dC b1 c0 f0
  go_wp2_with fail
  exact ⟨HF.out.1.from _,HF.out.2.1,HF.out.2.2⟩
 case done=>
  rintro D zs W hD rfl ⟨v',h1,h2,h4,h5⟩ hK
  have c0:W.cell? ⟨w.heap.size,0,none⟩=some v':=by rw [h1.cell];rfl
  obtain ⟨p1,c1,DA⟩:=(Rd.Ad h2).shape
  subst DA
  have H2:=zAA h2;have H5:=zAA h5
  clear h1 h2 h4 h5 No
  gi_wp2
  refine ⟨by simp,.inl ⟨_,_,rfl,run_takeDeferred hK,?_⟩⟩
  refine ⟨_,results_tmp rfl _ _ _,_,rfl,?_,H5.out.trans (belowK_b (w:=w) (zAD _) W D _ _ (by have:=R9.out;omega) hK rfl rfl)⟩
  exact ownsRow_putObj H2.out (.deferred none) hK rfl
 case stop=>
  rintro D c pre W _ _ h _
  exact h.elim
theorem be (b:Nat) (lv:Value) (l:List ByteArray) (w:World) (hc:w.cell? ⟨b,0,none⟩=some lv) (hl:Rd w 1 lv l.length (BM l)) (hn:l.length≤1000000) :
  Calls Tryz.prog 132 #[.func (.func 179) #[] #[.pointer (some ⟨b,0,none⟩)]] w fun e w'=>∃r,e = .returned r∧w'.ownsRow w.heap.size 9 1 r l.length ((T6 l).map encStr)∧Below w.heap.size w w':=by
 have HA:=zAA (Sc b lv l w hc hl hn)
 have HN:=zAA hn
 clear hc hl hn
 go_enter Tryz.func132,Tryz.ntmps132
 go_wp2_with fail
 go_enter Tryz.func177,Tryz.ntmps177
 go_wp2_with fail
 refine HA.out.mono ?_
 rintro e w1 ⟨r,rfl,hO,hB⟩
 obtain ⟨p1,c1,hv⟩:=(Rd.Ad hO).shape
 subst hv
 have HS:=zAA (tL w1 _ _ l hO HN.out)
 have Vf:Hid (∀k,(Value.slice p1 l.length c1).ownBlock=some k→w.heap.size≤k):=fun k hk=>(hO.lt k hk).1
 have HB:=zAA hB
 clear hO hB HA
 go_wp2_with fail
 go_wp2_with fail
 refine HS.out.mono ?_
 rintro e w2 ⟨rfl,hO,hM⟩
 have HO:=zAA hO
 have AP:Hid (Below w.heap.size w w2):=HB.out.trans (hM.below HB.out.size (fun k hk e=>by have:=Vf.out k e;omega))
 clear hO hM HS
 go_wp2_with fail
 go_ret
 exact ⟨_,rfl,HO.out,AP.out⟩
theorem kM (lv:Value) (l:List ByteArray) (w:World) (hl:Rd w 1 lv l.length (BM l)) (hn:l.length≤1000000) :
  Calls Tryz.prog 95 #[lv] w fun e w'=>∃r,e = .returned r∧vd w (Bp l) r w':=by
 obtain ⟨p,c,hv⟩:=hl.shape
 subst hv
 have HL:=zAA hl;have HN:=zAA hn
 clear hl hn
 go_enter Tryz.func95,Tryz.ntmps95
 go_wp2_with fail
 refine (zCQ.1 (d6 p _ c w 9)).mono ?_
 rintro e w1 ⟨rfl,rfl⟩
 have MV:Below w.heap.size w (w.alloc (.cells #[.slice p l.length c] 44)):=(zAM _ w).alloc (zAD _) _
 have GD:(w.alloc (.cells #[.slice p l.length c] 44)).cell? ⟨w.heap.size,0,none⟩=some (.slice p l.length c):=by rw [(Ao.new w #[.slice p l.length c] 44).cell];rfl
 have HA:=zAA (be w.heap.size _ l _ GD (HL.out.below MV) HN.out)
 have T8:=zAA MV
 clear GD MV
 generalize w.alloc (.cells #[.slice p l.length c] 44)=w1 at *
 go_wp2_with fail
 refine HA.out.mono ?_
 rintro e w2 ⟨r,rfl,hO,hB⟩
 have Bg:l.length=(T6 l).length:=(Fe l).symm
 obtain ⟨pr,cr,hv⟩:=(Rd.Ad hO).shape
 subst hv
 have hO2:w2.ownsRow w.heap.size 9 1 (.slice pr l.length cr) (T6 l).length ((T6 l).map encStr):=by rw [← Bg];exact Af hO (fun k hk=>zAW T8.out.size (hO.lt k hk).1)
 have HC:=zAA (Ze w2 _ _ (T6 l) hO2 (by rw [← Bg];exact HN.out))
 have Vf:Hid (∀k,(Value.slice pr l.length cr).ownBlock=some k→w.heap.size≤k):=fun k hk=>(hO2.lt k hk).1
 have AP:Hid (Below w.heap.size w w2):=T8.out.trans (hB.mono T8.out.size)
 clear hO hO2 hB HA Bg
 go_wp2_with fail
 refine HC.out.mono ?_
 rintro e w3 ⟨r,rfl,hO,hM⟩
 rw [sc,Fe,QC] at hO
 have JG:(Lib.compactUpTo (T6 l).toArray l.length).length=(Bp l).length:=by rw [← QC l,zAT]
 rw [JG] at hO
 obtain ⟨pc,cc,hv⟩:=(Rd.Ad hO).shape
 subst hv
 have HO:=zAA hO
 have BS:Hid (Below w.heap.size w w3):=AP.out.trans (hM.below AP.out.size (fun k hk e=>by have:=Vf.out k e;omega))
 clear hO hM HC JG
 go_wp2_with fail
 go_ret
 exact ⟨_,rfl,Rd.Ad HO.out,fun k hk=>(HO.out.lt k hk).1,BS.out⟩
end Go.Proofs.YtdcgbgecbeegmaaGreatDoor
end
