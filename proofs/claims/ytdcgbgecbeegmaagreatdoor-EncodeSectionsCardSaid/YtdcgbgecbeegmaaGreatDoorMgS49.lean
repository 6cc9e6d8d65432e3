/- Texts 49. -/
import Derived.Test.YtdcgbgecbeegmaaGreatDoorMgSA
import Derived.Test.YtdcgbgecbeegmaaGreatDoorMgS44
import Derived.Test.YtdcgbgecbeegmaaGreatDoorMgS46
import Derived.Test.YtdcgbgecbeegmaaGreatDoorMgS47
import Derived.Test.YtdcgbgecbeegmaaGreatDoorMgS48
import Derived.Test.YtdcgbgecbeegmaaGreatDoorRows
import Derived.Deep.Strs
import Derived.Lib.LaidTab
import Derived.LaidMore
import Derived.LaidHandle
import Derived.Lay
set_option linter.unusedVariables false
set_option linter.unusedSimpArgs false
set_option maxHeartbeats 400000000
set_option maxRecDepth 100000
section
namespace Go.Proofs.YtdcgbgecbeegmaaGreatDoor
open Go Go.RowKit
theorem UI {s:List AC} (h:AN My s):s.Nodup:=by
 refine zFX (fun {a b} Gz e=>?_) h
 subst e
 have:My a a=false:=by unfold My;exact Bz.SP _
 rw [this] at Gz
 cases Gz
theorem Tv (bv:Value) (b:List AJ) (w:World) (h:FU w bv b) (hT:T9 w) (qZ:KS b) (Ed:Du b) (TZ:A0 b=0) :
  Calls Tryz.prog 28 #[bv] w fun e w'=>∃vs:List Value,e = .returned (.agg vs.toArray)∧cj w' vs (C5 b)∧(∀v∈vs,∀k,v.ownBlock=some k→w.heap.size≤k)∧Below w.heap.size w w':=by
 have hblk:=KW TZ
 have H:=zAA h;have Fv:=zAA qZ;have EQ:=zAA Ed;have HT:=zAA hT;have HBk:=zAA hblk
 obtain ⟨pb,cb,hv⟩:=h.shape
 subst hv
 clear h qZ Ed hT TZ hblk
 go_enter Tryz.func28,Tryz.ntmps28
 go_wp2_with (refine BU DU rfl rfl ?_)
 intro w1 MW NK uv
 obtain ⟨g0,NN⟩:∃g0,w.heap.size=g0:=⟨_,rfl⟩
 have lI:=zAA NN
 have A6:Hid (Below w.heap.size w w1):=NK
 rw [NN] at MW NK uv ⊢
 have TX:Hid (Ao w1 g0 (List.replicate 4 (.slice none 0 0))):=MW
 have fL:=zAA (H.out.below A6.out)
 have uw:T9 w1:=HT.out.below A6.out
 have JL:=zAA uw
 clear MW NK uv NN uw
 go_wp2_with fail
 refine (SX _ b w1 fL.out Fv.out).mono ?_
 rintro e w2 ⟨tv,rfl,hO⟩
 obtain ⟨pt,ct,hv⟩:=hO.rd.shape
 subst hv
 have GA:=zAA hO.rd
 have AP:=zAA hO.AA
 have Ye:=zAA (fL.out.below hO.AA)
 clear hO
 go_wp2_with fail
 refine (Y9 _ b w2 Ye.out (JL.out.below AP.out) Fv.out EQ.out HBk.out.ne).mono ?_
 rintro e w3 ⟨lv,sv,rfl,hL,hS,hSf,hB⟩
 obtain ⟨pl,nl,cl,hv⟩:∃p n c,lv = .slice p n c:=by obtain ⟨p,c,e⟩:=hL.shape;exact ⟨p,_,c,e⟩
 subst hv
 obtain ⟨ps,cs,hv⟩:=hS.shape
 subst hv
 have ir:=zAA (GA.out.below hB)
 have Np:=zAA hL
 have Fu:=zAA hS
 have yD:Hid (w.heap.size≤w1.heap.size∧w1.heap.size≤w2.heap.size∧w2.heap.size≤w3.heap.size):=⟨A6.out.size,AP.out.size,hB.size⟩
 have HSf:Hid (∀k,(Value.slice ps (Ap b).length cs).ownBlock=some k→w2.heap.size≤k):=hSf
 have YE:=zAA (Ye.out.below hB)
 have vh:Hid (Below w1.heap.size w1 w3):=AP.out.trans (hB.mono AP.out.size)
 have Ft:Hid (Ao w3 g0 (List.replicate 4 (.slice none 0 0))):=TX.out.of_same (vh.out.block g0 TX.out.lt)
 have Uc:Hid (g0<w2.heap.size∧w2.heap.size≤w3.heap.size):=⟨zAO TX.out.lt AP.out.size,hB.size⟩
 clear hL hS hSf hB GA Ye AP fL TX
 go_wp2_with (refine BU DU rfl rfl ?_)
 intro w4 hK4 Yp hS4
 obtain ⟨q,hq⟩:∃q,w3.heap.size=q:=⟨_,rfl⟩
 have HQ:=zAA hq
 have HB34:Hid (Below w3.heap.size w3 w4):=Yp
 rw [hq] at hK4 Yp hS4 ⊢
 have lV:Hid (Ao w4 q (List.replicate 4 (.slice none 0 0))):=hK4
 have tX:Hid (∀W,Below q w4 W→Below w3.heap.size w3 W∧Rd W 1 (.slice pt (Bp (AK b)).length ct) (Bp (AK b)).length (BM (Bp (AK b)))∧bO W (.slice pl nl cl) (b.map Cx)∧FU W (.slice pb b.length cb) b):=fun W hW=>by
  have h3:Below w3.heap.size w3 W:=HB34.out.trans (by rw [HQ.out];exact hW)
  exact ⟨h3,ir.out.below h3,Np.out.below h3,YE.out.below h3⟩
 have HRs:Hid (∀W,Below q w4 W→Ao W g0 (List.replicate 4 (.slice none 0 0))):=fun W hW=>Ft.out.of_same ((tX.out W hW).1.block g0 Ft.out.lt)
 have HW4:Hid (Below q w4 w4):=zAM _ _
 clear hK4 Yp hS4 hq
 have ja:=tX.out w4 HW4.out
 have bZ:=zAA ja.2.1
 clear ja
 go_wp2_with fail
 refine (dm _ (Bp (AK b)) w4 bZ.out (by have:=MC Fv.out;exact zAW this (by decide))).mono ?_
 rintro e u1 ⟨⟨r0,rfl,qP,nH⟩,hB⟩
 obtain ⟨p0,c0,Yy⟩:=qP.shape
 subst Yy
 have JK:Hid (q<w4.heap.size):=lV.out.lt
 have rJ:Hid (Below q w4 u1):=hB.mono (zEQ JK.out)
 have rA:Hid (Ao u1 q (List.replicate 4 (.slice none 0 0))):=lV.out.of_same (hB.block q lV.out.lt)
 have HF0:Hid (∀k,(Value.slice p0 (BR (Bp (AK b))).2.length c0).ownBlock=some k→w3.heap.size≤k):=fun k hk=>by have:=nH k hk;have:=JK.out;have:=HQ.out;omega
 have rC:Hid (∀W',Ac (fun k=>k=q∨k=g0) u1 W'→Rd W' 1 (.slice p0 (BR (Bp (AK b))).2.length c0) (BR (Bp (AK b))).2.length (B9 (BR (Bp (AK b))).2)):=fun W' hm=>qP.Ai hm (fun k hk e=>by have:=nH k hk;have:=JK.out;have:=Uc.out;have:=HQ.out;omega)
 have a0:u1.cell? ⟨q,0,none⟩=some (.slice none 0 0):=by rw [rA.out.cell];rfl
 have a1:=rA.out.free 0
 generalize hD0:(BR (Bp (AK b))).2=D0 at *
 generalize (BR (Bp (AK b))).1=E0 at *
 have vo:=zAA hD0
 have KN:Ac (fun k=>k=q) u1 (u1.setCell ⟨q,0,none⟩ (.slice p0 D0.length c0)):=Ac.set _ _ _ _ (fun _=>rfl)
 have bX:Hid (Ao (u1.setCell ⟨q,0,none⟩ (.slice p0 D0.length c0)) q [.slice p0 D0.length c0,.slice none 0 0,.slice none 0 0,.slice none 0 0]):=by
  have h:=rA.out.set 0 (.slice p0 D0.length c0)
  show Ao _ _ _
  simpa using h
 have Ni:=zAA KN
 have F3:Hid (Below q w4 (u1.setCell ⟨q,0,none⟩ (.slice p0 D0.length c0))):=rJ.out.trans (KN.below (zAW (zEQ JK.out) hB.size) (fun k hk e=>by omega))
 clear qP nH hB hD0 KN bZ rA lV rJ
 go_wp2_with fail
 clear a0 a1
 generalize u1.setCell ⟨q,0,none⟩ (.slice p0 D0.length c0)=u2 at *
 obtain ⟨_,hT2,Fk,_⟩:=tX.out u2 F3.out
 have YM:=Ti Fv.out
 have lB:=zAA (UO _ _ (Bp (AK b)) (b.map Cx) u2 hT2 (zAW (MC Fv.out) (by decide)) (Lz _) Fk (by have:=YM.1;omega) (fun r hr=>by have:=YM.2 r hr;omega) (fun r hr n hn=>by have:=(YM.2 r hr).2.2 n hn;omega) (zAW (WR Fv.out) (by decide)))
 clear hT2 Fk YM
 refine lB.out.mono ?_
 rintro e u3 ⟨⟨r1,rfl,qQ⟩,hB⟩
 have yW:∀k,r1.ownBlock=some k→u2.heap.size≤k:=fun k hk=>(qQ.lt k hk).1
 have qQ:=Rd.Ad qQ
 obtain ⟨p1,c1,DA⟩:=qQ.shape
 subst DA
 have HS2:Hid (q<u2.heap.size):=bX.out.lt
 have fQ:Hid (Below q w4 u3):=F3.out.trans (hB.mono (zEQ HS2.out))
 have vx:Hid (∀k,(Value.slice p1 (BQ (Bp (AK b)) (b.map Cx)).2.length c1).ownBlock=some k→w3.heap.size≤k):=fun k hk=>by have:=yW k hk;have:=HS2.out;have:=HQ.out;omega
 have TX:Hid (∀W',Ac (fun k=>k=q∨k=g0) u3 W'→Rd W' 1 (.slice p1 (BQ (Bp (AK b)) (b.map Cx)).2.length c1) (BQ (Bp (AK b)) (b.map Cx)).2.length (B9 (BQ (Bp (AK b)) (b.map Cx)).2)):=fun W' hm=>qQ.Ai hm (fun k hk e=>by have:=yW k hk;have:=HS2.out;have:=Uc.out;have:=HQ.out;omega)
 have Ui:Hid (Ao u3 q [.slice p0 D0.length c0,.slice none 0 0,.slice none 0 0,.slice none 0 0]):=bX.out.of_same (hB.block q bX.out.lt)
 have a0:u3.cell? ⟨q,1,none⟩=some (.slice none 0 0):=by rw [Ui.out.cell];rfl
 have a1:=Ui.out.free 1
 have a2:u3.cell? ⟨q,2,none⟩=some (.slice none 0 0):=by rw [Ui.out.cell];rfl
 have a3:=Ui.out.free 2
 generalize hD1:(BQ (Bp (AK b)) (b.map Cx)).2=D1 at *
 generalize (BQ (Bp (AK b)) (b.map Cx)).1=E1 at *
 have Ua:=zAA hD1
 have jt:Ac (fun k=>k=q) u3 ((u3.setCell ⟨q,1,none⟩ (.slice p1 D1.length c1)).setCell ⟨q,2,none⟩ (.slice ps (Ap b).length cs)):=(Ac.set (fun k=>k=q) u3 ⟨q,1,none⟩ (.slice p1 D1.length c1) (fun _=>rfl)).trans (Ac.set (fun k=>k=q) _ _ _ (fun _=>rfl)) (fun _ _ e=>e)
 have yB:Hid (Ao ((u3.setCell ⟨q,1,none⟩ (.slice p1 D1.length c1)).setCell ⟨q,2,none⟩ (.slice ps (Ap b).length cs)) q [.slice p0 D0.length c0,.slice p1 D1.length c1,.slice ps (Ap b).length cs,.slice none 0 0]):=by
  have h:=(Ui.out.set 1 (.slice p1 D1.length c1)).set 2 (.slice ps (Ap b).length cs)
  show Ao _ _ _
  simpa using h
 have ro:Hid (Ac (fun k=>k=q) u2 u3):=Ac.Ah hB _
 have bJ:=zAA jt
 have Dr:Hid (Below q w4 ((u3.setCell ⟨q,1,none⟩ (.slice p1 D1.length c1)).setCell ⟨q,2,none⟩ (.slice ps (Ap b).length cs))):=fQ.out.trans (jt.below (zEQ Ui.out.lt) (fun k hk e=>by omega))
 clear qQ yW hB hD1 jt bX Ui lB F3 fQ
 go_wp2_with fail
 clear a0 a1 a2 a3
 generalize (u3.setCell ⟨q,1,none⟩ (.slice p1 D1.length c1)).setCell ⟨q,2,none⟩ (.slice ps (Ap b).length cs)=u4 at *
 obtain ⟨_,_,_,Yp⟩:=tX.out u4 Dr.out
 refine (UH _ b u4 Yp (by have:=Fv.out.len;omega)).mono ?_
 rintro e u5 ⟨sv5,rfl,yY,wH⟩
 have bE:=zAA wH
 obtain ⟨p5,n5,c5,sJ⟩:∃p n c,sv5 = .slice p n c:=by obtain ⟨p,c,e⟩:=wH.rd.shape;exact ⟨p,_,c,e⟩
 subst sJ
 clear wH Yp
 go_wp2_with fail
 refine (aD _ (b.map Prod.fst) u5 bE.out.rd (by have:=(XV Fv.out).1;omega) (by have:=(XV Fv.out).2;omega) (fun s hs=>by
  obtain ⟨x,hx,rfl⟩:=zBU.1 hs
  exact UI (HBk.out.NV x hx).1) (fun y hy=>by
  obtain ⟨l,hl,jz⟩:=zFM.1 hy
  obtain ⟨x,hx,rfl⟩:=zBU.1 hl
  have h:=(EQ.out x hx).1 y jz
  exact ⟨by unfold maxLen;omega,by unfold maxLen;omega⟩)).mono ?_
 rintro e u6 ⟨v6,rfl,yI,i7⟩
 have zG:=zAA yI
 obtain ⟨p6,n6,c6,jx⟩:∃p n c,v6 = .slice p n c:=by obtain ⟨p,c,e⟩:=yI.shape;exact ⟨p,_,c,e⟩
 subst jx
 have Jl:Hid (Below u4.heap.size u4 u6):=bE.out.row.AA.trans (i7.mono bE.out.row.AA.size)
 clear yI i7
 have iq:Hid (q<u4.heap.size):=yB.out.lt
 have HW6:Hid (Below q w4 u6):=Dr.out.trans (Jl.out.mono (zEQ iq.out))
 obtain ⟨_,hT6,_,_⟩:=tX.out u6 HW6.out
 have R5:=gG Fv.out
 have lC:=zAA (UP _ _ (Bp (AK b)) (Bk (b.map Prod.fst)) u6 hT6 (zAW (MC Fv.out) (by decide)) (Lz _) zG.out (by have:=R5.1;omega) (fun e he=>⟨(R5.2.1 e he).1,by have:=(R5.2.1 e he).2.1;omega,fun x hx=>by have:=(R5.2.1 e he).2.2 x hx;omega⟩) (zAW (dn Fv.out) (by decide)))
 clear hT6 R5
 go_wp2_with fail
 refine lC.out.mono ?_
 rintro e u7 ⟨⟨r3,rfl,jb⟩,hB⟩
 have yX:∀k,r3.ownBlock=some k→u6.heap.size≤k:=fun k hk=>(jb.lt k hk).1
 have jb:=Rd.Ad jb
 obtain ⟨p3,c3,UA⟩:=jb.shape
 subst UA
 have Dc:Hid (u4.heap.size≤u6.heap.size):=Jl.out.size
 have lG:Hid (∀k,(Value.slice p3 (Cl (Bp (AK b)) (Bk (b.map Prod.fst))).2.length c3).ownBlock=some k→w3.heap.size≤k):=fun k hk=>by have:=yX k hk;have:=iq.out;have:=Dc.out;have:=HQ.out;omega
 have HR3':Hid (∀W',Ac (fun k=>k=q∨k=g0) u7 W'→Rd W' 1 (.slice p3 (Cl (Bp (AK b)) (Bk (b.map Prod.fst))).2.length c3) (Cl (Bp (AK b)) (Bk (b.map Prod.fst))).2.length (B9 (Cl (Bp (AK b)) (Bk (b.map Prod.fst))).2)):=fun W' hm=>jb.Ai hm (fun k hk e=>by have:=yX k hk;have:=iq.out;have:=Dc.out;have:=Uc.out;have:=HQ.out;omega)
 have Vb:Hid (Below u4.heap.size u4 u7):=Jl.out.trans (hB.mono Jl.out.size)
 have rB:Hid (Ao u7 q [.slice p0 D0.length c0,.slice p1 D1.length c1,.slice ps (Ap b).length cs,.slice none 0 0]):=yB.out.of_same (Vb.out.block q yB.out.lt)
 have a0:u7.cell? ⟨q,3,none⟩=some (.slice none 0 0):=by rw [rB.out.cell];rfl
 have a1:=rB.out.free 3
 generalize hD3:(Cl (Bp (AK b)) (Bk (b.map Prod.fst))).2=D3 at *
 generalize (Cl (Bp (AK b)) (Bk (b.map Prod.fst))).1=E3 at *
 have HD3:=zAA hD3
 have xE:Ac (fun k=>k=q) u7 (u7.setCell ⟨q,3,none⟩ (.slice p3 D3.length c3)):=Ac.set _ _ _ _ (fun _=>rfl)
 have HQ8:Hid (Ao (u7.setCell ⟨q,3,none⟩ (.slice p3 D3.length c3)) q [.slice p0 D0.length c0,.slice p1 D1.length c1,.slice ps (Ap b).length cs,.slice p3 D3.length c3]):=by
  have h:=rB.out.set 3 (.slice p3 D3.length c3)
  show Ao _ _ _
  simpa using h
 have vG:=zAA xE
 have rq:Hid (Ac (fun k=>k=q) u4 (u7.setCell ⟨q,3,none⟩ (.slice p3 D3.length c3))):=(Ac.Ah Vb.out _).trans xE (fun _ _ e=>e)
 have l8:Hid (Below q w4 (u7.setCell ⟨q,3,none⟩ (.slice p3 D3.length c3))):=Dr.out.trans (rq.out.below (zEQ iq.out) (fun k hk e=>by omega))
 clear jb yX hB hD3 xE rB yB lC bE zG Jl HW6 Vb Dr
 have ym:Hid (Ao (u7.setCell ⟨q,3,none⟩ (.slice p3 D3.length c3)) g0 [.slice none 0 0,.slice none 0 0,.slice none 0 0,.slice none 0 0]):=HRs.out _ l8.out
 have tR:∀(u:Value),u∈[Value.slice p0 D0.length c0,.slice p1 D1.length c1,.slice ps (Ap b).length cs,.slice p3 D3.length c3]→u.oneCell'=true:=by simp [Value.oneCell']
 have H4:=zAA tR
 clear tR
 go_wp2_with (first
  | (refine Gc DU rfl _ rfl q rfl _ HQ8.out rfl ?_)
  | (refine Cv DU rfl _ _ rfl g0 rfl [.slice p0 D0.length c0,.slice p1 D1.length c1,.slice ps (Ap b).length cs,.slice p3 D3.length c3] _ rfl ym.out rfl rfl H4.out ?_))
 intro u9 hb9 hm9 hs9
 have vj:=zAA hb9;have lP:=zAA hm9
 clear hb9 hm9 hs9 a0 a1
 go_wp2_with fail
 refine zCB (aT (p:=2) DU (by kernel_rfl) _ g0 rfl [.slice p0 D0.length c0,.slice p1 D1.length c1,.slice ps (Ap b).length cs,.slice p3 D3.length c3] vj.out rfl) rfl ?_
 have up:∀{A B:World},Ac (fun k=>k=q) A B→Ac (fun k=>k=q∨k=g0) A B:=fun h=>h.mono (fun _ _ e=>Or.inl e)
 have m10:Ac (fun k=>k=q∨k=g0) (u7.setCell ⟨q,3,none⟩ (.slice p3 D3.length c3)) u9:=lP.out.mono (fun _ _ e=>Or.inr e)
 have m7:=(up vG.out).trans m10 (fun _ _ e=>e)
 have m4:=(up rq.out).trans m10 (fun _ _ e=>e)
 have m3:=(up bJ.out).trans m4 (fun _ _ e=>e)
 have m2:=(up ro.out).trans m3 (fun _ _ e=>e)
 have m1:=(up Ni.out).trans m2 (fun _ _ e=>e)
 obtain ⟨hb8,_,_,_⟩:=tX.out _ l8.out
 have hsv:Rd u9 1 (.slice ps (Ap b).length cs) (Ap b).length (B9 (Ap b)):=(Fu.out.below hb8).Ai lP.out (fun k hk e=>by have:=HSf.out k hk;have:=Uc.out;have:k=g0:=e;omega)
 have jc:Below w.heap.size w u9:=by
  have h1:Below w1.heap.size w1 (u7.setCell ⟨q,3,none⟩ (.slice p3 D3.length c3)):=vh.out.trans (hb8.mono vh.out.size)
  have h2:Below w.heap.size w (u7.setCell ⟨q,3,none⟩ (.slice p3 D3.length c3)):=A6.out.trans (h1.mono A6.out.size)
  exact h2.trans (lP.out.below h2.size (fun k hk e=>by have:=lI.out;have:k=g0:=e;omega))
 refine ⟨_,rfl,⟨rfl,fun i v d hv hd=>?_⟩,fun v hv k hk=>?_,jc⟩
 rotate_left
 ·have hz:=yD.out
  simp only [zAS,zCX,zGU] at hv
  rcases hv with rfl | rfl | rfl | rfl
  ·have:=HF0.out k hk;omega
  ·have:=vx.out k hk;omega
  ·have:=HSf.out k hk;omega
  ·have:=lG.out k hk;omega
 have xF:C5 b=[D0,D1,Ap b,D3]:=by rw [← vo.out,← Ua.out,← HD3.out];rfl
 rw [xF] at hd
 match i with
 | 0=>simp at hv hd;subst hv hd;exact rC.out u9 m1
 | 1=>simp at hv hd;subst hv hd;exact TX.out u9 m3
 | 2=>simp at hv hd;subst hv hd;exact hsv
 | 3=>simp at hv hd;subst hv hd;exact HR3'.out u9 m7
 | i+4=>simp at hv
def fW (w:World):Prop:=Yn w∧T9 w
def yi:Nat:=max (0 + 1) G9
theorem fW.low {w:World} (h:fW w):yi≤w.heap.size:=by have h1:=h.1.low;have h2:=h.2.low;unfold yi;omega
theorem fW.keeps {S:Nat→Prop} {w w':World} (h:fW w) (hm:Ac S w w') (hk:∀k,k<yi→¬S k):fW w':=
 ⟨h.1.Ai hm (fun k Aq=>hk k (by unfold yi;omega)),h.2.keeps hm (fun k Aq=>hk k (by unfold yi;omega))⟩
theorem fW.below {w w':World} (h:fW w) (hb:Below w.heap.size w w'):fW w':=h.keeps (Ac.Ah hb (fun _=>False)) (fun _ _ h=>h)
theorem V5 {P:Program} {t e:TypeId} {n:Nat} {z:Value} (hA:Re P t e n z) {w:World} {fn:Func} {p u:Tmp} (h:fn.results = #[.cell p t,.tmp u]) (tmps:Array Value) (g:Nat) (hp:tmps.getD p undef = .pointer (some ⟨g,0,none⟩))
  (cs:List Value) (hb:Ao w g cs) (hl:cs.length=n):(results fn tmps).run P w = .ok (.tuple #[.agg cs.toArray,tmps.getD u undef]) w:=by
 obtain ⟨v,hg⟩:=hb
 obtain ⟨i,hi,_,hs⟩:=hA.hi
 have hp':tmps[p]?.getD undef = .pointer (some ⟨g,0,none⟩):=by simpa using hp
 have l1:=run_loadVar_row (P:=P) w g v t cs.toArray (0,0) _ hg hA.ht rfl (by rw [hi];simp [hs,hl])
 simp [results,h,hp',asAddr,l1]
theorem ND (bv:Value) (b:List AJ) (w:World) (hT:T9 w) (h:FU w bv b) (hz:Du b) (hs:KS b) :
  Calls Tryz.prog 14 #[bv] w fun e w'=>∃vs:List Value,e = .returned (.tuple #[.agg vs.toArray,.int .i64 (A0 b:Int)])∧cj w' vs (DF b)∧Below w.heap.size w w':=by
 have H:=zAA h;have Fv:=zAA hs;have EQ:=zAA hz;have HT:=zAA hT
 obtain ⟨pb,cb,hv⟩:=h.shape
 subst hv
 clear h hs hz hT
 go_enter Tryz.func14,Tryz.ntmps14
 go_wp2_with (refine BU DU rfl rfl ?_)
 intro w1 MW NK uv
 obtain ⟨g0,NN⟩:∃g0,w.heap.size=g0:=⟨_,rfl⟩
 have lI:=zAA NN
 have A6:Hid (Below w.heap.size w w1):=NK
 rw [NN] at MW NK uv ⊢
 have TX:Hid (Ao w1 g0 (List.replicate 4 (.slice none 0 0))):=MW
 have fL:=zAA (H.out.below A6.out)
 have uw:T9 w1:=HT.out.below A6.out
 have JL:=zAA uw
 clear MW NK uv NN uw
 go_wp2_with fail
 refine (XB _ b w1 fL.out EQ.out Fv.out).mono ?_
 rintro e w2 ⟨rfl,hB⟩
 have AP:Hid (Below w.heap.size w w2):=A6.out.trans (hB.mono A6.out.size)
 have KK:Hid (Ao w2 g0 (List.replicate 4 (.slice none 0 0))):=TX.out.of_same (hB.block g0 TX.out.lt)
 have Ye:=zAA (fL.out.below hB)
 have GA:=zAA (JL.out.below hB)
 have Nr:Hid (DF b=if A0 b=0 then C5 b else [[],[],[],[]]):=rfl
 have lX:=zAA (fun (hc:A0 b=0) (w:World) (hw:FU w (.slice pb b.length cb) b) (hT:T9 w)=>Tv _ b w hw hT Fv.out EQ.out hc)
 obtain ⟨ec,yL⟩:∃ec,A0 b=ec:=⟨_,rfl⟩
 have zI:=zAA yL
 rw [yL] at Nr lX ⊢
 clear hB A6 TX fL JL yL
 by_cases h0:ec=0
 ·subst h0
  have lY:Hid (DF b=C5 b):=by show _=_;rw [Nr.out,if_pos rfl]
  clear Nr
  go_wp2_with fail
  have Ub:Hid (g0<w2.heap.size):=KK.out.lt
  refine (lX.out trivial w2 Ye.out GA.out).mono ?_
  rintro e w3 ⟨vs,rfl,hS,hSf,hB⟩
  have Yd:Hid (∀v∈vs,∀k,v.ownBlock=some k→k≠g0):=fun v hv k hk e=>by have:=hSf v hv k hk;have:=Ub.out;omega
  have Fu:=zAA hS
  have BS:Hid (Below w.heap.size w w3):=AP.out.trans (hB.mono AP.out.size)
  have Ft:Hid (Ao w3 g0 [.slice none 0 0,.slice none 0 0,.slice none 0 0,.slice none 0 0]):=KK.out.of_same (hB.block g0 KK.out.lt)
  have RQ:Hid (vs.length=4):=hS.len.trans (Nf b)
  have H1:=zAA (LV hS)
  clear hS hB KK AP Ye GA lX
  go_wp2_with (refine Cv DU rfl _ _ rfl g0 rfl vs _ rfl Ft.out rfl RQ.out H1.out ?_)
  intro w4 hk hm hs
  have KP:=zAA hk
  have CF:Hid (Below w.heap.size w w4):=BS.out.trans (hm.below BS.out.size (fun k Aq e=>by have:=lI.out;have:k=g0:=e;omega))
  have bJ:=zAA hm
  clear hk hm hs
  go_wp2_with fail
  refine zCB (V5 (p:=2) (u:=3) DU (by kernel_rfl) _ g0 rfl vs KP.out RQ.out) rfl ?_
  refine ⟨vs,by rw [zI.out];rfl,?_,CF.out⟩
  rw [lY.out]
  exact ⟨Fu.out.len,fun i v d hv hd=>(Fu.out.at_ i v d hv hd).Ai bJ.out (fun k hk e=>Yd.out v (zAG hv) k hk e)⟩
 ·have hei:¬(ec:Int)=0:=by omega
  have xd:((ec:Int) == 0)=false:=by rw [zAQ];exact hei
  have lY:Hid (DF b=[[],[],[],[]]):=by show _=_;rw [Nr.out,if_neg h0]
  have Ft:Hid (Ao w2 g0 [.slice none 0 0,.slice none 0 0,.slice none 0 0,.slice none 0 0]):=KK.out
  have tR:∀(u:Value),u∈[Value.slice none 0 0,.slice none 0 0,.slice none 0 0,.slice none 0 0]→u.oneCell'=true:=by simp [Value.oneCell']
  have H4:=zAA tR
  clear h0 Nr tR lX
  go_wp2_with (refine Cv DU rfl _ _ rfl g0 rfl [.slice none 0 0,.slice none 0 0,.slice none 0 0,.slice none 0 0] _ rfl Ft.out rfl rfl H4.out ?_)
  intro w3 hk hm hs
  have GF:=zAA hk
  have BS:Hid (Below w.heap.size w w3):=AP.out.trans (hm.below AP.out.size (fun k Aq e=>by have:=lI.out;have:k=g0:=e;omega))
  clear hk hm hs
  go_wp2_with fail
  refine zCB (V5 (p:=2) (u:=3) DU (by kernel_rfl) _ g0 rfl [.slice none 0 0,.slice none 0 0,.slice none 0 0,.slice none 0 0] GF.out rfl) rfl ?_
  refine ⟨[.slice none 0 0,.slice none 0 0,.slice none 0 0,.slice none 0 0],by rw [zI.out];rfl,?_,BS.out⟩
  rw [lY.out]
  exact V1 w3
theorem St (bv:Value) (b:List AJ) (w:World) (hT:fW w) (h:FU w bv b) (hz:Du b) (hs:KS b) :
  Calls Tryz.prog 11 #[bv] w (YB w (K6 b)):=by
 have KD:=zAA (ND bv b w hT.2 h hz hs)
 have HT:=zAA hT.1
 have HO:Hid (A0 b=0→pD (C5 b)∧(FJ (C5 b)).length≤140737488352000):=fun e=>ok17 hs hz e
 have Nr:Hid (DF b=if A0 b=0 then C5 b else [[],[],[],[]]):=rfl
 have HE:Hid (K6 b=if A0 b=0 then (0,FJ (C5 b)) else (A0 b,[])):=rfl
 have H4:Hid ((DF b).length=4):=Q6 b
 obtain ⟨pb,cb,hv⟩:=h.shape
 subst hv
 obtain ⟨ec,yL⟩:∃ec,A0 b=ec:=⟨_,rfl⟩
 rw [yL] at KD HO Nr HE
 clear hT h hz hs yL
 go_enter Tryz.func11,Tryz.ntmps11
 go_wp2_with fail
 refine KD.out.mono ?_
 rintro e w1 ⟨vs,rfl,hS,hB⟩
 have HS1:=zAA hS;have A6:=zAA hB
 have HV:Hid (vs.length=4):=hS.len.trans H4.out
 have H1:=zAA (LV hS)
 have JL:Hid (Yn w1):=HT.out.Ai (Ac.Ah hB (fun _=>False)) (fun _ _ e=>e)
 clear hS hB KD HT
 go_wp2_with (refine LG DU rfl rfl rfl _ _ rfl vs rfl rfl HV.out H1.out ?_)
 intro w2 hk hb hs
 obtain ⟨g,hg⟩:∃g,w1.heap.size=g:=⟨_,rfl⟩
 have HG:=zAA hg
 have HB12:=zAA hb
 rw [hg] at hk ⊢
 have E4:=zAA hk
 have HS2:=zAA (HS1.out.below hb)
 have GA:Hid (Yn w2):=JL.out.Ai (Ac.Ah hb (fun _=>False)) (fun _ _ e=>e)
 have AP:Hid (Below w.heap.size w w2):=A6.out.trans (hb.mono A6.out.size)
 clear hk hb hs hg HS1 JL
 by_cases h0:ec=0
 ·subst h0
  have lY:Hid (DF b=C5 b):=by show _=_;rw [Nr.out,if_pos rfl]
  have Ev:Hid (K6 b=(0,FJ (C5 b))):=by show _=_;rw [HE.out,if_pos rfl]
  rw [lY.out] at HS2
  obtain ⟨P5,JG⟩:=HO.out rfl
  have Fj:=zAA P5;have DP:=zAA JG
  clear Nr HE HO P5 JG
  go_wp2_with (refine Gc DU rfl _ rfl g rfl _ E4.out HV.out ?_)
  refine (Z6 vs (C5 b) w2 GA.out HS2.out (Nf b) Fj.out DP.out).mono ?_
  rintro e w3 ⟨r,rfl,hO⟩
  have Ew:=zAA hO
  have BS:=zAA (AP.out.trans (hO.AA.mono AP.out.size))
  obtain ⟨pr,cr,xD⟩:=hO.rd.shape
  subst xD
  clear hO
  go_wp2_with fail
  go_ret2
  exact ⟨⟨_,by rw [Ev.out];rfl,by rw [Ev.out];exact Ew.out.rd,fun k hk=>by have:=(Ew.out.row.lt k hk).1;have:=AP.out.size;omega⟩,BS.out⟩
 ·have hei:¬(ec:Int)=0:=by omega
  have xd:((ec:Int) == 0)=false:=by rw [zAQ];exact hei
  have Ev:Hid (K6 b=(ec,[])):=by show _=_;rw [HE.out,if_neg h0]
  clear h0 HE HO Nr
  go_wp2_with fail
  go_ret2
  exact ⟨⟨_,by rw [Ev.out];rfl,by rw [Ev.out];exact Rd.nil w2 1,fun k hk=>by cases hk⟩,AP.out⟩
theorem sd (bv:Value) (b:List AJ) (w:World) (hT:fW w) (h:FU w bv b) (hz:Du b) (hs:Jn b) :
  Calls Tryz.prog 18 #[bv] w (YB w (VZ b)):=by
 have HN:=zAA (ab bv b w h hz hs)
 have HT:=zAA hT
 have t6:=zAA (fl hs).mid;have HZn:=zAA (fk hz)
 have HE:Hid (VZ b=if (D5 b).1=0 then K6 (D5 b).2 else ((D5 b).1,[])):=rfl
 obtain ⟨pb,cb,hv⟩:=h.shape
 subst hv
 generalize D5 b=P at *
 obtain ⟨ec,nb⟩:=P
 simp only at t6 HZn HE
 clear hT h hz hs
 go_enter Tryz.func18,Tryz.ntmps18
 go_wp2_with fail
 refine HN.out.mono ?_
 rintro e w1 ⟨r,rfl,hR,hB⟩
 have TX:=zAA hR;have A6:=zAA hB
 have uw:fW w1:=HT.out.below hB
 have JL:=zAA uw
 obtain ⟨pr,cr,xD⟩:=hR.shape
 subst xD
 clear hR hB HN HT uw
 by_cases h0:ec=0
 ·subst h0
  have Ev:Hid (VZ b=K6 nb):=by show _=_;rw [HE.out,if_pos rfl]
  clear HE
  go_wp2_with fail
  refine (St _ nb w1 JL.out TX.out HZn.out t6.out).mono ?_
  rintro e w2 ⟨⟨r,rfl,hR,hr⟩,hB⟩
  have KK:=zAA hR;have Hr:Hid (∀k,r.ownBlock=some k→w1.heap.size≤k):=hr
  have AP:Hid (Below w.heap.size w w2):=A6.out.trans (hB.mono A6.out.size)
  clear hR hr hB
  go_wp2_with fail
  go_ret2
  exact ⟨⟨r,by rw [Ev.out];rfl,by rw [Ev.out];exact KK.out,fun k hk=>zAW A6.out.size (Hr.out k hk)⟩,AP.out⟩
 ·have hei:¬(ec:Int)=0:=by omega
  have xd:((ec:Int) == 0)=false:=by rw [zAQ];exact hei
  have Ev:Hid (VZ b=(ec,[])):=by show _=_;rw [HE.out,if_neg h0]
  clear h0 HE
  go_wp2_with fail
  go_ret2
  exact ⟨⟨_,by rw [Ev.out];rfl,by rw [Ev.out];exact Rd.nil w1 1,fun k hk=>by cases hk⟩,A6.out⟩
theorem Vp:lr yi fW where
 keeps:=fun h hm hk=>h.keeps hm hk
 low:=fun h=>h.low
 sections:=fun bv b w hT h hz hs=>ND bv b w hT.2 h hz hs
 encode:=fun bv b w hT h hz hs=>St bv b w hT h hz hs
 raw:=fun bv b w hT h hz hs=>sd bv b w hT h hz hs
def listed:List (String × DataW Unit):=[("math/bits.deBruijn64tab",Rows.laid_math_bits_deBruijn64tab),("tsblock/times.forms",Rows.laid_tsblock_times_forms),("tsblock/crc.fourShifts",Rows.laid_tsblock_crc_fourShifts)]
theorem mZ : Tryz.prog.globalNamed "math/bits.deBruijn64tab" = some 3:=by kernel_rfl
theorem yb:(Tryz.prog.globals[3]?).map (·.type)=some 362:=by kernel_rfl
theorem mY : Tryz.prog.globalNamed "tsblock/crc.fourShifts" = some 0:=by kernel_rfl
theorem ya:(Tryz.prog.globals[0]?).map (·.type)=some 273:=by kernel_rfl
theorem mX : Tryz.prog.globalNamed "tsblock/times.forms" = some 1:=by kernel_rfl
theorem x9:(Tryz.prog.globals[1]?).map (·.type)=some 279:=by kernel_rfl
theorem bq {P:Program} {W:World} {name:String} {k:IntKind} {zs:List Int} {r:List (String × DataW Unit)} {q0:List MemPlace} {g:Nat} {t e:TypeId} {n:Nat}
  (hg:P.globalNamed name=some g) (hty:(P.globals[g]?).map (·.type)=some t) (ht:P.underlying t=some (.array n e)) (he:P.underlying e=some (.int k)) (hce:P.cellsOf e=1) (Ry:P.cellsOf t=n)
  (h:DataW.LaidVars P W ((name,Lib.tabData k zs)::r) q0):Lib.TabIs P W name k zs:=by
 obtain ⟨_,_,cs,_,_,_,hg',ht',hvar,hd,_⟩:=h
 cases hg.symm.trans hg'
 cases hty.symm.trans ht'
 rw [Lib.TabIs,hvar,← Lib.cells_of_tab ht he hce Ry hd]
theorem Y1 {zs:List Nat} {W:World} {name:String} {k:IntKind} {g i:Nat} (h:Lib.TabIs Tryz.prog W name k (zs.map fun n:Nat=>(n:Int))) (hg : Tryz.prog.globalNamed name=some g) (hi:i<zs.length):W.cell? ⟨g,i,none⟩=some (.int k (zs.getD i 0:Nat)):=by
 have e:(zs.map fun n:Nat=>(n:Int)).getD i 0=((zs.getD i 0:Nat):Int):=by
  simp only [zBP,zBQ]
  cases zs[i]? <;> rfl
 rw [h.cell hg i (by simpa using hi),e]
def Lc (k:Nat):DataW Unit:=.agg [.lit (.int .u64 (QV k:Int)),.lit (.int .i64 (D4 k:Int)),.lit (.int .i64 (Bw k:Int))]
theorem Xy:Rows.laid_tsblock_times_forms=(.agg ((List.range 5).map Lc):DataW Unit):=rfl
theorem Lo {cs:List Value} {i:Nat} {u:Value} (h:(cs.drop i).take 1=[u]):cs[i]? = some u:=by
 have:=congrArg (·[0]?) h
 simpa [zFR,zFQ] using this
theorem WZ {W:World} {fuel:Nat} {cs:List Value} {p:List MemPlace} {k:Nat} (h:DataW.trod (fun _=>()) Tryz.prog W 0 (fun _=>true) false fuel 250 cs=some (Lc k,p)) :
  cs[0]? = some (.int .u64 (QV k:Int))∧cs[1]? = some (.int .i64 (D4 k:Int))∧cs[2]? = some (.int .i64 (Bw k:Int)):=by
 obtain ⟨y0,y1,y2,n,hx,_,h0,h1,h2⟩:=Deep.trod_struct3 Tryz.underlying250 h
 obtain ⟨n0,c0,rfl,_⟩:=DataW.trod_int Tryz.underlying81 h0
 obtain ⟨n1,c1,rfl,_⟩:=DataW.trod_int Tryz.underlying3 h1
 obtain ⟨n2,c2,rfl,_⟩:=DataW.trod_int Tryz.underlying3 h2
 have hd:=congrArg Prod.fst hx
 simp only [Lc,DataW.agg.injEq,List.cons.injEq,DataW.lit.injEq,Lit.int.injEq,true_and,and_true] at hd
 obtain ⟨e0,e1,e2⟩:=hd
 rw [e0,e1,e2]
 exact ⟨Lo c0,Lo c1,Lo c2⟩
theorem Ut {W:World} {q0:List MemPlace} {r:List (String × DataW Unit)} (h:DataW.LaidVars Tryz.prog W (("tsblock/times.forms",Rows.laid_tsblock_times_forms)::r) q0):Nu W:=by
 obtain ⟨g',t',cs,fuel,p,q,hg',ht',hvar,hd,_,_⟩:=h
 obtain rfl:=zDT (mX.symm.trans hg')
 obtain rfl:=zDT (x9.symm.trans ht')
 rw [Xy] at hd
 obtain ⟨xs,m,_,hx,_,xN,hi⟩:=DataW.trod_array Tryz.underlying279 hd
 have hce : Tryz.prog.cellsOf 250 = 3:=by kernel_rfl
 rw [hce] at hi
 have hm:(List.range 5).map Lc=xs.map (·.1):=by
  have:=congrArg Prod.fst hx
  simpa using this
 intro k hk
 have hk5:k<5:=by omega
 have q5:(xs.map (·.1))[k]? = some (Lc k):=by rw [← hm];simp [hk5]
 rw [zBQ] at q5
 obtain ⟨y,hy,xO⟩:=zDN.1 q5
 have ht:=hi k hk5
 rw [hy] at ht
 obtain ⟨y1,y2⟩:=y
 simp only at xO
 subst xO
 obtain ⟨a0,a1,a2⟩:=WZ ht
 have hc:∀j,j<3→W.cell? ⟨1,k*3+j,none⟩=((cs.toList.drop (k*3)).take 3)[j]?:=fun j hj=>by
  rw [World.var?_cell mX hvar,zFR,if_pos hj,zFQ,zEJ]
 exact ⟨(hc 0 (by omega)).trans a0,(hc 1 (by omega)).trans a1,(hc 2 (by omega)).trans a2⟩
theorem bo {W:World} (h:laidMetH Tryz.prog listed W):fW W:=by
 rw [MakeChecks.laidMetH_plain _ _ _ (by kernel_rfl)] at h
 obtain ⟨_,h1,_⟩:=h
 have hZ:Lib.TabIs Tryz.prog W "math/bits.deBruijn64tab" .u8 (Lib.deBruijn64tab.map fun n:Nat=>(n:Int)):=
  bq mZ yb Tryz.underlying362 Tryz.underlying5 (by kernel_rfl) (by kernel_rfl) h1
 obtain ⟨_,_,_,_,_,_,_,_,_,_,h2,_⟩:=h1
 have hG:=Ut h2
 obtain ⟨_,_,_,_,_,_,_,_,_,_,h3,_⟩:=h2
 have hF:Lib.TabIs Tryz.prog W "tsblock/crc.fourShifts" .u32 (Ms.map fun n:Nat=>(n:Int)):=
  bq mY ya Tryz.underlying273 Tryz.underlying139 (by kernel_rfl) (by kernel_rfl) h3
 exact ⟨fun i hi=>Y1 hF mY (by simpa [Ms] using hi),hG,fun i hi=>Y1 hZ mZ (by simpa using hi)⟩
theorem kE (os:Os) (args:Array Value):laidMetH Tryz.prog listed ((World.laidAll Tryz.prog os listed).forCall (fun _ _=>0) ⟨#[],args,[]⟩).memory:=by
 rw [MakeChecks.laidMetH_plain _ _ _ (by kernel_rfl)]
 exact laidMet_laidAll args (by kernel_rfl) (by kernel_rfl)
theorem X1 (os:Os) (args:Array Value):((World.laidAll Tryz.prog os listed).forCall (fun _ _=>0) ⟨#[],args,[]⟩).Shaped Tryz.prog:=World.shaped_of_ZipB (by kernel_rfl) (by kernel_rfl)
end Go.Proofs.YtdcgbgecbeegmaaGreatDoor
end
