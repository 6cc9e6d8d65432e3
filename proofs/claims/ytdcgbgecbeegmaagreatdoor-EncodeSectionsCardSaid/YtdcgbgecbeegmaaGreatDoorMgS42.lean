/- Texts 42. -/
import Derived.Test.YtdcgbgecbeegmaaGreatDoorMgSA
import Derived.Test.YtdcgbgecbeegmaaGreatDoorMgS34
import Derived.Test.YtdcgbgecbeegmaaGreatDoorMgS39
import Derived.Laws.EntriesVeiled
import Derived.Shelf.SlSortCmp.NoneTotal
set_option linter.unusedVariables false
set_option linter.unusedSimpArgs false
set_option maxHeartbeats 400000000
set_option maxRecDepth 100000
section
namespace Go.Proofs.YtdcgbgecbeegmaaGreatDoor
open Go Go.RowKit
theorem dW (x:AC) (w:World):Calls Tryz.prog 174 #[Xu x] w fun e w'=>e = .returned (.string x.1)∧Ck w w':=by
 obtain ⟨n,v⟩:=x
 show Calls Tryz.prog 174 #[.agg #[.string n,.string v]] w _
 have HB:=zAA ((Ck.refl w).alloc (.cells #[.string n,.string v] 108))
 go_enter Tryz.func174,Tryz.ntmps174
 go_wp2_with fail
 go_ret
 exact ⟨rfl,HB.out⟩
theorem bz (x:AC) (w:World):Calls Tryz.prog 176 #[Xu x] w fun e w'=>e = .returned (.string x.2)∧Ck w w':=by
 obtain ⟨n,v⟩:=x
 show Calls Tryz.prog 176 #[.agg #[.string n,.string v]] w _
 have HB:=zAA ((Ck.refl w).alloc (.cells #[.string n,.string v] 108))
 go_enter Tryz.func176,Tryz.ntmps176
 go_wp2_with fail
 go_ret
 exact ⟨rfl,HB.out⟩
abbrev Qv:=FuncId × (AC→ByteArray)
def partV (p:Qv):Value:=.func (.func p.1) #[] #[]
structure b9 (p:Qv):Prop where
 enter:∀(args:Array Value) (w:World),(callFunc p.1 args).run Tryz.prog w = .ok (.enter p.1 args) w
 gives:∀(x:AC) (w:World),Calls Tryz.prog p.1 #[Xu x] w fun e w'=>e = .returned (.string (p.2 x))∧Ck w w'
def KY (x y:AC):List Qv→Int
 | []=>0
 | p::ps=>if Br (p.2 x) (p.2 y)=0 then KY x y ps else Br (p.2 x) (p.2 y)
theorem cW {x y:AC} {ps:List Qv} {i:Nat} {p:Qv} (hp:ps[i]? = some p) (h:KY x y ps=KY x y (ps.drop i)) :
  KY x y ps=if Br (p.2 x) (p.2 y)=0 then KY x y (ps.drop (i+1)) else Br (p.2 x) (p.2 y):=by
 have h1:ps.drop i=p::ps.drop (i+1):=by rw [zBV (zAE.1 hp).1,(zAE.1 hp).2]
 rw [h,h1];rfl
theorem Mp (ps:List Qv) (hps:∀p∈ps,b9 p) (hn:ps.length≤1000) (x y:AC) (v:Value) (w:World) (hv:Rd w 1 v ps.length (ps.map partV)) :
  Calls Tryz.prog 173 #[Xu x,Xu y,v] w fun e w'=>e = .returned (.int .i64 (KY x y ps))∧Ck w w':=by
 have HV:=zAA hv;have HP:=zAA hps
 obtain ⟨q,c,e⟩:=hv.shape
 subst e
 obtain ⟨xn,xv⟩:=x
 obtain ⟨yn,yv⟩:=y
 have Xk:(ps.length:Int)≤1000:=by omega
 clear hv hps hn
 show Calls Tryz.prog 173 #[.agg #[.string xn,.string xv],.agg #[.string yn,.string yv],.slice q ps.length c] w _
 have HW:Hid (∃w2,w2=(w.alloc (.cells #[.string xn,.string xv] 108)).alloc (.cells #[.string yn,.string yv] 108)):=⟨_,rfl⟩
 have Ub:Hid (Ck w ((w.alloc (.cells #[.string xn,.string xv] 108)).alloc (.cells #[.string yn,.string yv] 108))):=((Ck.refl w).alloc _).alloc _
 have C1:Hid (Ao ((w.alloc (.cells #[.string xn,.string xv] 108)).alloc (.cells #[.string yn,.string yv] 108)) w.heap.size [.string xn,.string xv]):=(Ao.new w _ _).alloc _
 have HY2:Hid (Ao ((w.alloc (.cells #[.string xn,.string xv] 108)).alloc (.cells #[.string yn,.string yv] 108)) (w.heap.size+1) [.string yn,.string yv]):=by
  have h:=Ao.new (w.alloc (.cells #[.string xn,.string xv] 108)) #[.string yn,.string yv] 108
  have hs:(w.alloc (.cells #[.string xn,.string xv] 108)).heap.size=w.heap.size+1:=by simp
  rwa [hs] at h
 go_enter Tryz.func173,Tryz.ntmps173
 go_wp2_with fail
 generalize (w.alloc (.cells #[.string xn,.string xv] 108)).alloc (.cells #[.string yn,.string yv] 108)=w2 at *
 clear HW
 go_loopw [12] (fun iv wr=>∃(i:Nat),i≤ps.length∧iv = .int .i64 (i:Int)∧Hid (KY (xn,xv) (yn,yv) ps=KY (xn,xv) (yn,yv) (ps.drop i))∧Hid (Ck w2 wr)) (fun iv _=>ps.length-(intOf iv).toNat)
 case atStart=>exact ⟨0,zAJ _,rfl,rfl,Ck.refl _⟩
 case round=>
  obtain ⟨i,hi,rfl,HC,HG⟩:=hrel
  by_cases Aq:i<ps.length
  ·have AF:(i:Int)<(ps.length:Int):=by omega
   have KM:(i:Int)≤1000:=by omega
   obtain ⟨⟨f,g⟩,hp⟩:∃p,ps[i]? = some p:=⟨_,zAC Aq⟩
   obtain ⟨b,off,c2,e,_,_,hc⟩:=(HV.out.below (Ub.out.trans HG.out).below).at (fun e=>by have:=congrArg List.length e;simp at this;rw [this] at Aq;simp at Aq)
   simp only [zAN] at e
   obtain ⟨rfl,_,rfl⟩:=e
   have c0:wr.cell? ⟨b,off+i,none⟩=some (.func (.func f) #[] #[]):=hc i _ (by rw [zBQ,hp];rfl)
   have HPi:=zAA (HP.out _ (zAG hp))
   have sA:=HPi.out.enter
   have BH:=zAA (cW hp HC.out)
   clear hp HC hc
   have Uc:Hid (Ck w2 (wr.alloc (.cells #[.func (.func f) #[] #[]] 236))):=HG.out.alloc _
   have GF:Hid (Ao (wr.alloc (.cells #[.func (.func f) #[] #[]] 236)) wr.heap.size [.func (.func f) #[] #[]]):=Ao.new wr _ _
   go_wp2_with fail
   clear c0 HG
   generalize wr.heap.size=h8 at *
   generalize wr.alloc (.cells #[.func (.func f) #[] #[]] 236)=w3 at *
   have Jh:=zAA (Uc.out.AM C1.out)
   have Qu:=zAA (Uc.out.AM HY2.out)
   have p0:∀n os,(Go.Sort.grow (w3.drewN n) os).cell? ⟨h8,0,none⟩=some (.func (.func f) #[] #[]):=fun n os=>cell_grown GF.out.lt (GF.out.cell 0) n os
   have x0:∀n os,(Go.Sort.grow (w3.drewN n) os).cell? ⟨w.heap.size,0,none⟩=some (.string xn):=fun n os=>cell_grown Jh.out.lt (Jh.out.cell 0) n os
   have x1:∀n os,(Go.Sort.grow (w3.drewN n) os).cell? ⟨w.heap.size,1,none⟩=some (.string xv):=fun n os=>cell_grown Jh.out.lt (Jh.out.cell 1) n os
   have y0:∀n os,(Go.Sort.grow (w3.drewN n) os).cell? ⟨w.heap.size+1,0,none⟩=some (.string yn):=fun n os=>cell_grown Qu.out.lt (Qu.out.cell 0) n os
   have y1:∀n os,(Go.Sort.grow (w3.drewN n) os).cell? ⟨w.heap.size+1,1,none⟩=some (.string yv):=fun n os=>cell_grown Qu.out.lt (Qu.out.cell 1) n os
   have Mt:∀n os,Calls Tryz.prog f #[.agg #[.string xn,.string xv]] (Go.Sort.grow (w3.drewN n) os) fun e w'=>e = .returned (.string (g (xn,xv)))∧∃q os',w'=Go.Sort.grow ((Go.Sort.grow (w3.drewN n) os).drewN q) os':=fun n os=>HPi.out.gives (xn,xv) _
   have sB:∀n os,Calls Tryz.prog f #[.agg #[.string yn,.string yv]] (Go.Sort.grow (w3.drewN n) os) fun e w'=>e = .returned (.string (g (yn,yv)))∧∃q os',w'=Go.Sort.grow ((Go.Sort.grow (w3.drewN n) os).drewN q) os':=fun n os=>HPi.out.gives (yn,yv) _
   have ma:=zAA Mt
   have HYC:=zAA sB
   clear Mt sB HPi Jh Qu GF
   generalize g (xn,xv)=sx at *
   generalize g (yn,yv)=sy at *
   have HS:Hid (∀n os,Calls Tryz.prog 149 #[.string sx,.string sy] (Go.Sort.grow (w3.drewN n) os) fun e w'=>e = .returned (.int .i64 (Br sx sy))∧∃q os',w'=Go.Sort.grow ((Go.Sort.grow (w3.drewN n) os).drewN q) os'):=fun n os=>(Gv sx sy _).mono fun e w' ⟨h1,h2⟩=>⟨h1,Ck.refl _ |> fun h=>by rw [h2];exact h⟩
   generalize Br sx sy=o at *
   have mixed : Tryz.prog.follows .mixedOrders=true:=by kernel_rfl
   go_quiet_grown (first | (go_at_call 149;exact Calls.grown_of (HS.out _ _)) | (go_at_fn f;exact Calls.grown_of (ma.out _ _)) | (go_at_fn f;exact Calls.grown_of (HYC.out _ _)))
   have Ud:Hid (Ck w2 (Go.Sort.grow (w3.drewN nq) osq)):=Uc.out.grow nq osq
   clear p0 x0 x1 y0 y1 ma HYC HS Uc sA mixed
   show Exit.then _ _ _ _ (Go.Sort.grow (w3.drewN nq) osq)
   generalize Go.Sort.grow (w3.drewN nq) osq=w4 at *
   by_cases ho:o=0
   ·subst ho
    rw [if_pos rfl] at BH
    go_wp2_with fail
    go_round
    case rel=>exact ⟨i+1,by omega,by go_num,BH.out,Ud.out⟩
    case measure=>simp [intOf];omega
   ·have hob:(o == 0)=false:=by rw [zAQ];exact ho
    rw [if_neg ho] at BH
    go_wp2_with fail
    go_ret
    exact ⟨by rw [BH.out];rfl,Ub.out.trans Ud.out⟩
  ·have AF:¬(i:Int)<(ps.length:Int):=by omega
   have HE:Hid (KY (xn,xv) (yn,yv) ps=0):=by
    show _=_
    rw [HC.out,zBF (by omega)]
    rfl
   go_wp2_with fail
   go_ret
   exact ⟨by rw [HE.out];rfl,Ub.out.trans HG.out⟩
def ae:Qv:=(174,fun x=>x.1)
def fG:Qv:=(176,fun x=>x.2)
theorem af:b9 ae:=⟨fun _ _=>rfl,dW⟩
theorem kV:b9 fG:=⟨fun _ _=>rfl,bz⟩
theorem cV (x y:AC):KY x y [ae]=Br x.1 y.1:=by
 show (if Br x.1 y.1=0 then 0 else Br x.1 y.1)=_
 split
 ·next h=>exact h.symm
 ·rfl
theorem cU (x y:AC):KY x y [ae,fG]=AW x y:=by
 show (if Br x.1 y.1=0 then (if Br x.2 y.2=0 then 0 else Br x.2 y.2) else Br x.1 y.1)=AW x y
 unfold AW Y7
 split
 ·split
  ·next h=>exact h.symm
  ·rfl
 ·rfl
theorem Jp (x y:AC) (w:World) :
  Calls Tryz.prog 127 #[Xu x,Xu y] w fun e w'=>e = .returned (.int .i64 (Br x.1 y.1))∧Ck w w':=by
 obtain ⟨xn,xv⟩:=x
 obtain ⟨yn,yv⟩:=y
 obtain ⟨w1,Cg⟩:∃w1,w1=w.alloc (.cells #[.string xn,.string xv] 108):=⟨_,rfl⟩
 obtain ⟨w2,EC⟩:∃w2,w2=w1.alloc (.cells #[.string yn,.string yv] 108):=⟨_,rfl⟩
 obtain ⟨w3,SL⟩:∃w3,w3=w2.alloc (.cells #[.func (.func 174) #[] #[]] 236):=⟨_,rfl⟩
 have HG:Hid (Ck w w3):=by show Ck _ _;rw [SL,EC,Cg];exact (((Ck.refl w).alloc _).alloc _).alloc _
 have HK:Hid (Ao w3 w2.heap.size [.func (.func 174) #[] #[]]):=by show Ao _ _ _;rw [SL];exact Ao.new w2 _ _
 have HC:=zAA (Mp [ae] (by intro p hp;simp at hp;subst hp;exact af) (by simp) (xn,xv) (yn,yv) _ w3 (Rd.FQ (n:=1) HK.out rfl (by decide)))
 have HE:=zAA (cV (xn,xv) (yn,yv))
 have HW:Hid (w3=((w.alloc (.cells #[.string xn,.string xv] 108)).alloc (.cells #[.string yn,.string yv] 108)).alloc (.cells #[.func (.func 174) #[] #[]] 236)):=by show _=_;rw [SL,EC,Cg]
 have HS:Hid (w2.heap.size=w.heap.size+1+1):=by show _=_;rw [EC,Cg];simp
 clear Cg EC SL HK
 rw [HS.out] at HC
 clear HS
 show Calls Tryz.prog 127 #[.agg #[.string xn,.string xv],.agg #[.string yn,.string yv]] w _
 go_enter Tryz.func127,Tryz.ntmps127
 go_wp2_with fail
 rw [← HW.out]
 refine HC.out.mono ?_
 rintro e w4 ⟨rfl,hG⟩
 have Ud:=zAA (HG.out.trans hG)
 clear hG HC HG HW
 rw [HE.out]
 clear HE
 go_wp2_with fail
 go_ret
 exact ⟨rfl,Ud.out⟩
theorem Ny (x y:AC) (w:World) :
  Calls Tryz.prog 130 #[Xu x,Xu y] w fun e w'=>e = .returned (.int .i64 (AW x y))∧Ck w w':=by
 obtain ⟨xn,xv⟩:=x
 obtain ⟨yn,yv⟩:=y
 obtain ⟨w1,Cg⟩:∃w1,w1=w.alloc (.cells #[.string xn,.string xv] 108):=⟨_,rfl⟩
 obtain ⟨w2,EC⟩:∃w2,w2=w1.alloc (.cells #[.string yn,.string yv] 108):=⟨_,rfl⟩
 obtain ⟨w3,SL⟩:∃w3,w3=w2.alloc (.cells #[.func (.func 174) #[] #[],.func (.func 176) #[] #[]] 236):=⟨_,rfl⟩
 have HG:Hid (Ck w w3):=by show Ck _ _;rw [SL,EC,Cg];exact (((Ck.refl w).alloc _).alloc _).alloc _
 have HK:Hid (Ao w3 w2.heap.size [.func (.func 174) #[] #[],.func (.func 176) #[] #[]]):=by show Ao _ _ _;rw [SL];exact Ao.new w2 _ _
 have HC:=zAA (Mp [ae,fG] (by intro p hp;simp at hp;rcases hp with rfl | rfl<;>first | exact af | exact kV) (by simp) (xn,xv) (yn,yv) _ w3 (Rd.FQ (n:=2) HK.out rfl (by decide)))
 have HE:=zAA (cU (xn,xv) (yn,yv))
 have HW:Hid (w3=((w.alloc (.cells #[.string xn,.string xv] 108)).alloc (.cells #[.string yn,.string yv] 108)).alloc (.cells #[.func (.func 174) #[] #[],.func (.func 176) #[] #[]] 236)):=by show _=_;rw [SL,EC,Cg]
 have HS:Hid (w2.heap.size=w.heap.size+1+1):=by show _=_;rw [EC,Cg];simp
 clear Cg EC SL HK
 rw [HS.out] at HC
 clear HS
 show Calls Tryz.prog 130 #[.agg #[.string xn,.string xv],.agg #[.string yn,.string yv]] w _
 go_enter Tryz.func130,Tryz.ntmps130
 go_wp2_with fail
 rw [← HW.out]
 refine HC.out.mono ?_
 rintro e w4 ⟨rfl,hG⟩
 have Ud:=zAA (HG.out.trans hG)
 clear hG HC HG HW
 rw [HE.out]
 clear HE
 go_wp2_with fail
 go_ret
 exact ⟨rfl,Ud.out⟩
theorem Rq (av bv:Value) (a b:List AC) (w:World) (ha:Rd w 2 av a.length (Am a)) (hb:Rd w 2 bv b.length (Am b)) (uH:a.length≤1000000) (Yw:b.length≤1000000) :
  Calls Tryz.prog 129 #[av,bv,.func (.func 130) #[] #[]] w fun e w'=>e = .returned (.int .i64 (Az a b))∧Ck w w':=by
 have zN:=zAA ha;have C0:=zAA hb
 obtain ⟨pa,ca,hv⟩:=ha.shape
 subst hv
 obtain ⟨pb,cb,hv⟩:=hb.shape
 subst hv
 have hma:(a.length:Int)≤1000000:=by omega
 have hmb:(b.length:Int)≤1000000:=by omega
 clear ha hb uH Yw
 go_enter Tryz.func129,Tryz.ntmps129
 go_wp2_with fail
 go_loopw [13] (fun iv wr=>∃(i:Nat),i≤a.length∧i≤b.length∧iv = .int .i64 (i:Int)∧Hid (Az a b=Az (a.drop i) (b.drop i))∧Hid (Ck w wr)) (fun iv _=>a.length-(intOf iv).toNat)
 case atStart=>exact ⟨0,zAJ _,zAJ _,rfl,rfl,Ck.refl _⟩
 case round=>
  obtain ⟨i,yO,bQ,rfl,HC,HB⟩:=hrel
  have KM:(i:Int)≤1000000:=by omega
  by_cases h1:i<a.length
  ·have h1':(i:Int)<(a.length:Int):=by omega
   obtain ⟨⟨xn,xv⟩,hx⟩:∃x,a[i]? = some x:=⟨_,zAC h1⟩
   obtain ⟨ba,oa,e⟩:=EG zN.out hx
   subst e
   obtain ⟨c0,c1⟩:=Bm (zN.out.below HB.out.below) hx
   by_cases h2:i<b.length
   ·have h2':(i:Int)<(b.length:Int):=by omega
    obtain ⟨⟨yn,yv⟩,hy⟩:∃y,b[i]? = some y:=⟨_,zAC h2⟩
    obtain ⟨bb,ob,e⟩:=EG C0.out hy
    subst e
    have BC:∀o:Obj,(wr.alloc o).cell? ⟨bb,ob+i*2,none⟩=some (.string yn)∧(wr.alloc o).cell? ⟨bb,ob+i*2+1,none⟩=some (.string yv):=fun o=>Bm (C0.out.below (HB.out.alloc o).below) hy
    obtain ⟨d0,d1⟩:=BC (.cells #[.string xn,.string xv] 108)
    have BH:=zAA (Y8 hx hy HC.out)
    have Uc:Hid (Ck w ((wr.alloc (.cells #[.string xn,.string xv] 108)).alloc (.cells #[.string yn,.string yv] 108))):=(HB.out.alloc _).alloc _
    have tU:=zAA (Ny (xn,xv) (yn,yv))
    clear hx hy HC BC
    generalize AW (xn,xv) (yn,yv)=o at *
    go_wp2_with fail
    refine (tU.out _).mono ?_
    rintro e w4 ⟨rfl,hG⟩
    have Ud:=zAA (Uc.out.trans hG)
    clear hG tU Uc c0 c1 d0 d1
    by_cases ho:o=0
    ·subst ho
     rw [if_pos rfl] at BH
     go_wp2_with fail
     go_round
     case rel=>exact ⟨i+1,by omega,by omega,by go_num,BH.out,Ud.out⟩
     case measure=>simp [intOf];omega
    ·have hob:(o == 0)=false:=by rw [zAQ];exact ho
     rw [if_neg ho] at BH
     go_wp2_with fail
     go_ret
     exact ⟨by rw [BH.out];rfl,Ud.out⟩
   ·have h2':¬(i:Int)<(b.length:Int):=by omega
    have h2g:(b.length:Int)≤(i:Int):=by omega
    have HE:Hid (Az a b=1):=by
     show _=_
     rw [Nx ⟨yO,bQ⟩ (fun h=>h2 h.2) HC.out,if_neg (by omega),if_pos (by omega)]
    have Uc:Hid (Ck w (wr.alloc (.cells #[.string xn,.string xv] 108))):=HB.out.alloc _
    clear hx HC
    go_wp2_with fail
    go_ret
    exact ⟨by rw [HE.out];rfl,Uc.out⟩
  ·have h1':¬(i:Int)<(a.length:Int):=by omega
   by_cases h3:a.length<b.length
   ·have h3':(a.length:Int)<(b.length:Int):=by omega
    have HE:Hid (Az a b = -1):=by
     show _=_
     rw [Nx ⟨yO,bQ⟩ (fun h=>h1 h.1) HC.out,if_pos h3]
    clear HC
    go_wp2_with fail
    go_ret
    exact ⟨by rw [HE.out];rfl,HB.out⟩
   ·have h3':¬(a.length:Int)<(b.length:Int):=by omega
    have HE:Hid (Az a b=0):=by
     show _=_
     rw [Nx ⟨yO,bQ⟩ (fun h=>h1 h.1) HC.out,if_neg h3,if_neg (by omega)]
    clear HC
    go_wp2_with fail
    go_ret
    exact ⟨by rw [HE.out];rfl,HB.out⟩
theorem SR (av bv:Value) (a b:List AC) (w:World) (ha:Rd w 2 av a.length (Am a)) (hb:Rd w 2 bv b.length (Am b)) (uH:a.length≤1000000) (Yw:b.length≤1000000) :
  Calls Tryz.prog 93 #[av,bv] w fun e w'=>e = .returned (.int .i64 (Az a b))∧Ck w w':=by
 have HC:=zAA (Rq av bv a b w ha hb uH Yw)
 obtain ⟨pa,ca,hv⟩:=ha.shape
 subst hv
 obtain ⟨pb,cb,hv⟩:=hb.shape
 subst hv
 clear ha hb uH Yw
 generalize Az a b=o at *
 go_enter Tryz.func93,Tryz.ntmps93
 go_wp2_with fail
 refine HC.out.mono ?_
 rintro e w4 ⟨rfl,hG⟩
 have HG:=zAA hG
 clear hG HC
 go_wp2_with fail
 go_ret
 exact ⟨rfl,HG.out⟩
theorem KX (n v:ByteArray) (w:World) (hn:n.size≤9223372036854775807) (hv:v.size≤9223372036854775807) :
  Calls Tryz.prog 126 #[.agg #[.string n,.string v]] w fun e w'=>e = .returned (.int .i64 (B4 (n,v):Int))∧Below w.heap.size w w':=by
 have hB:Below w.heap.size w (w.alloc (.cells #[.string n,.string v] 108)):=(zAM _ w).alloc (zAD _) _
 have zJ:=zAA (Sm n)
 by_cases h0:n.size=0
 ·have hE:n.toList.isEmpty=true:=by rw [zJ.out];simpa using h0
  have HO:Hid (B4 (n,v)=17):=if_pos h0
  rw [HO.out]
  go_enter Tryz.func126,Tryz.ntmps126
  go_wp2_with fail
  go_ret
  exact ⟨rfl,hB⟩
 ·have hE:n.toList.isEmpty=false:=by rw [zJ.out];simpa using h0
  by_cases h1:(65535:Int)<(n.size:Int)
  ·have HO:Hid (B4 (n,v)=7):=by show _=_;rw [B4,if_neg h0,if_pos (Or.inl (by show 65535<n.size;omega))]
   rw [HO.out]
   clear h0
   go_enter Tryz.func126,Tryz.ntmps126
   go_wp2_with fail
   go_ret
   exact ⟨rfl,hB⟩
  ·have SE:decide ((65535:Int)<(n.size:Int))=false:=by simpa using h1
   by_cases h2:(65535:Int)<(v.size:Int)
   ·have uA:decide ((65535:Int)<(v.size:Int))=true:=by simpa using h2
    have HO:Hid (B4 (n,v)=7):=by show _=_;rw [B4,if_neg h0,if_pos (Or.inr (by show 65535<v.size;omega))]
    rw [HO.out]
    clear h0
    go_enter Tryz.func126,Tryz.ntmps126
    go_wp2_with fail
    go_ret
    exact ⟨rfl,hB⟩
   ·have uA:decide ((65535:Int)<(v.size:Int))=false:=by simpa using h2
    have HO:Hid (B4 (n,v)=0):=by
     show _=_
     rw [B4,if_neg h0,if_neg]
     rintro (e | e)
     ·exact h1 (by have:65535<n.size:=e;omega)
     ·exact h2 (by have:65535<v.size:=e;omega)
    rw [HO.out]
    clear h0
    go_enter Tryz.func126,Tryz.ntmps126
    go_wp2_with fail
    go_ret
    exact ⟨rfl,hB⟩
theorem VJ (n:ByteArray):CB n ⟨#[]⟩=false:=by
 unfold CB
 have:(⟨#[]⟩:ByteArray).toList=[]:=by simp [zES]
 rw [this]
 cases n.toList<;>rfl
theorem XA {n:ByteArray} (h:n.size≠0):CB ⟨#[]⟩ n=true:=by
 rcases zBH (CB ⟨#[]⟩ n) with e | e
 ·exact e
 ·have:=Bz.kQ _ _ e (VJ n)
  subst this
  exact absurd rfl h
theorem Ul {p:Option ByteArray} {x:AC} {r:Nat} (h:B4 x=0) :
  Gd p x r=if Br x.1 (p.getD ⟨#[]⟩)=0 then 18 else if Br x.1 (p.getD ⟨#[]⟩)<0 then 16 else r:=by
 have hs:x.1.size≠0:=fun e=>by rw [B4,if_pos e] at h;cases h
 cases p with
 | none=>
  have ho:Br x.1 ⟨#[]⟩=1:=by rw [Br,RH,if_neg (by rw [VJ];simp),if_pos (XA hs)]
  show r=if Br x.1 ⟨#[]⟩=0 then 18 else if Br x.1 ⟨#[]⟩<0 then 16 else r
  rw [ho];rfl
 | some n=>
  show (if x.1=n then 18 else if CB x.1 n then 16 else r)=if Br x.1 n=0 then 18 else if Br x.1 n<0 then 16 else r
  by_cases h1:x.1=n
  ·rw [if_pos h1,if_pos ((N7.eq _ _).2 h1)]
  ·rw [if_neg h1,if_neg (fun e=>h1 ((N7.eq _ _).1 e))]
   by_cases h2:CB x.1 n=true
   ·have:Br x.1 n = -1:=if_pos h2
    rw [if_pos h2,if_pos (by omega)]
   ·rw [if_neg h2,if_neg]
    have:Br x.1 n=if CB n x.1 then 1 else 0:=if_neg h2
    rw [this]
    split<;>decide
theorem ez {l:List AC} {i:Nat} {x:AC} (hx:l[i]? = some x):(FE l (i+1)).getD ⟨#[]⟩=x.1:=by
 rw [FE,if_neg (by omega),zDK,hx];rfl
theorem NX (lv:Value) (l:List AC) (w:World) (hl:Rd w 2 lv l.length (Am l)) (hs:∀x∈l,x.1.size≤9223372036854775807∧x.2.size≤9223372036854775807) (hn:l.length≤1000000) :
  Calls Tryz.prog 90 #[lv] w fun e w'=>e = .returned (.int .i64 (BZ l:Int))∧Below w.heap.size w w':=by
 have HL:=zAA hl;have HS:=zAA hs
 obtain ⟨pl,cl,hv⟩:=hl.shape
 subst hv
 have Xk:(l.length:Int)≤1000000:=by omega
 have A6:Hid (Below w.heap.size w (w.alloc (.cells #[.string ⟨#[]⟩,.string ⟨#[]⟩] 108))):=(zAM _ w).alloc (zAD _) _
 have Je:Hid (Ao (w.alloc (.cells #[.string ⟨#[]⟩,.string ⟨#[]⟩] 108)) w.heap.size [.string ⟨#[]⟩,.string ⟨#[]⟩]):=Ao.new w _ _
 clear hl hs hn
 go_enter Tryz.func90,Tryz.ntmps90
 go_wp2_with fail
 go_loopw [10] (fun iv wr=>∃(i:Nat) (bn bv:ByteArray),i≤l.length∧iv = .int .i64 (i:Int)∧Hid (BZ l=A5 (FE l i) (l.drop i))∧Hid ((FE l i).getD ⟨#[]⟩=bn)∧Hid (Ao wr w.heap.size [.string bn,.string bv])∧Hid (Below w.heap.size w wr)) (fun iv _=>l.length-(intOf iv).toNat)
 case atStart=>exact ⟨0,⟨#[]⟩,⟨#[]⟩,zAJ _,rfl,rfl,rfl,Je.out,A6.out⟩
 case round=>
  obtain ⟨i,bn,bv,hi,rfl,HC,HP,HK,HB⟩:=hrel
  by_cases Aq:i<l.length
  ·have AF:(i:Int)<(l.length:Int):=by omega
   have KM:(i:Int)≤1000000:=by omega
   obtain ⟨⟨n,v⟩,hx⟩:∃x,l[i]? = some x:=⟨_,zAC Aq⟩
   obtain ⟨b,off,e⟩:=EG HL.out hx
   subst e
   obtain ⟨c0,c1⟩:=Bm (HL.out.below HB.out) hx
   have t7:=zAA (fun w'=>KX n v w' (HS.out _ (zAG hx)).1 (HS.out _ (zAG hx)).2)
   have BH:=zAA (Si hx HC.out)
   have Gy:=zAA (ez hx)
   have AP:Hid (Below w.heap.size w (wr.alloc (.cells #[.string n,.string v] 108))):=HB.out.trans (((zAM _ wr).alloc (zAD _) _).mono HB.out.size)
   have E4:Hid (Ao (wr.alloc (.cells #[.string n,.string v] 108)) w.heap.size [.string bn,.string bv]):=HK.out.alloc _
   have C1:Hid (Ao (wr.alloc (.cells #[.string n,.string v] 108)) wr.heap.size [.string n,.string v]):=Ao.new wr _ _
   have HZ:Hid (w.heap.size<wr.heap.size):=HK.out.lt
   clear hx HC HB HK
   go_wp2_with fail
   refine (t7.out _).mono ?_
   rintro e w3 ⟨rfl,hB⟩
   have BS:=zAA (AP.out.trans (hB.mono AP.out.size))
   have GF:Hid (Ao w3 w.heap.size [.string bn,.string bv]):=E4.out.of_same (hB.block _ E4.out.lt)
   have Jh:Hid (Ao w3 wr.heap.size [.string n,.string v]):=C1.out.of_same (hB.block _ C1.out.lt)
   clear c0 c1 hB t7 AP E4 C1
   generalize wr.heap.size=h2 at *
   by_cases he:B4 (n,v)=0
   ·rw [if_neg (zCI he)] at BH
    have Fw:Hid (BZ l=if Br n bn=0 then 18 else if Br n bn<0 then 16 else A5 (FE l (i+1)) (l.drop (i+1))):=by
     show _=_
     rw [BH.out,Ul he,HP.out]
    rw [he]
    clear he BH
    have x0:=Jh.out.cell 0
    have x1:=Jh.out.cell 1
    have b0:=GF.out.cell 0
    have b1:=GF.out.cell 1
    simp only [zAY,zBE] at x0 x1 b0 b1
    have tU:=zAA (Jp (n,v) (bn,bv) w3)
    go_wp2_with fail
    refine tU.out.mono ?_
    rintro e w4 ⟨rfl,hG⟩
    have CF:=zAA (BS.out.trans (hG.below.mono BS.out.size))
    have KP:=zAA (hG.AM GF.out)
    have fR:=zAA (hG.AM Jh.out)
    clear x0 x1 b0 b1 hG tU BS GF Jh
    show _
    have hnv:Br (n,v).1 (bn,bv).1=Br n bn:=rfl
    rw [hnv]
    clear hnv
    generalize Br n bn=o at *
    by_cases ho:o=0
    ·subst ho
     rw [if_pos rfl] at Fw
     go_wp2_with fail
     go_ret
     exact ⟨by rw [Fw.out];rfl,CF.out⟩
    ·have hob:(o == 0)=false:=by rw [zAQ];exact ho
     rw [if_neg ho] at Fw
     by_cases dD:o<0
     ·rw [if_pos dD] at Fw
      go_wp2_with fail
      go_ret
      exact ⟨by rw [Fw.out];rfl,CF.out⟩
     ·rw [if_neg dD] at Fw
      have x0:=fR.out.cell 0
      have x1:=fR.out.cell 1
      have b0:=KP.out.cell 0
      have b1:=KP.out.cell 1
      simp only [zAY,zBE] at x0 x1 b0 b1
      have f0:=KP.out.free 0
      have f1:=KP.out.free 1
      have Ve:Hid (Ao ((w4.setCell ⟨w.heap.size,0,none⟩ (.string n)).setCell ⟨w.heap.size,1,none⟩ (.string v)) w.heap.size [.string n,.string v]):=(KP.out.set 0 _).set 1 _
      have KC:Hid (Below w.heap.size w ((w4.setCell ⟨w.heap.size,0,none⟩ (.string n)).setCell ⟨w.heap.size,1,none⟩ (.string v))):=
       CF.out.trans (((Ac.set (fun k=>k=w.heap.size) w4 ⟨w.heap.size,0,none⟩ _ (fun _=>rfl)).trans (Ac.set (fun k=>k=w.heap.size) _ ⟨w.heap.size,1,none⟩ _ (fun _=>rfl)) (fun _ _ e=>e)).below CF.out.size (fun k hk e=>by omega))
      clear CF KP fR
      go_wp2_with fail
      go_round
      case rel=>exact ⟨i+1,n,v,by omega,by go_num,Fw.out,Gy.out,Ve.out,KC.out⟩
      case measure=>simp [intOf];omega
   ·have Yt:¬(B4 (n,v):Int)=0:=by omega
    have xd:((B4 (n,v):Int) == 0)=false:=by rw [zAQ];exact Yt
    rw [if_pos he] at BH
    clear he
    generalize B4 (n,v)=e at *
    go_wp2_with fail
    go_ret
    exact ⟨by rw [BH.out];rfl,BS.out⟩
  ·have AF:¬(i:Int)<(l.length:Int):=by omega
   have HE:Hid (BZ l=0):=by
    show _=_
    rw [HC.out,zBF (by omega)]
    cases FE l i<;>rfl
   go_wp2_with fail
   go_ret
   exact ⟨by rw [HE.out];rfl,HB.out⟩
def eU:Go.Shelf.Ren:=⟨fun | 6=>158 | 14=>208 | 15=>122 | 20=>248 | 21=>249 | 22=>250 | 23=>251 | 24=>252 | 25=>253 | 26=>254 | 27=>255 | 28=>168 | 29=>169 | 46=>285 | 47=>218 | 48=>219 | 49=>286 | 50=>287 | 57=>299 | n=>n,fun | 0=>0 | 3=>3 | 4=>4 | 5=>5 | 9=>9 | 22=>48 | 24=>108 | 25=>163 | 39=>177 | 45=>223 | 46=>224 | 50=>158 | 53=>139 | 55=>81 | 66=>267 | 70=>271 | 76=>321 | 77=>210 | n=>n,fun n=>n⟩
theorem QR:Go.Proofs.SlLaysF0.n6 Tryz.prog eU:={ mixed:=by kernel_rfl,f6:=⟨ "slices.SortFunc[[]tsblock/api.Label,tsblock/api.Label]",by decide,Tryz.func158.trans (congrArg some (by kernel_rfl))⟩,f14:=⟨ "slices.pdqsortCmpFunc[tsblock/api.Label]",by decide,Tryz.func208.trans (congrArg some (by kernel_rfl))⟩,f15:=Tryz.func122.trans (congrArg some (by kernel_rfl)),f20:=⟨ "slices.insertionSortCmpFunc[tsblock/api.Label]",by decide,Tryz.func248.trans (congrArg some (by kernel_rfl))⟩,f21:=⟨ "slices.heapSortCmpFunc[tsblock/api.Label]",by decide,Tryz.func249.trans (congrArg some (by kernel_rfl))⟩,f22:=⟨ "slices.breakPatternsCmpFunc[tsblock/api.Label]",by decide,Tryz.func250.trans (congrArg some (by kernel_rfl))⟩,f23:=⟨ "slices.choosePivotCmpFunc[tsblock/api.Label]",by decide,Tryz.func251.trans (congrArg some (by kernel_rfl))⟩,f24:=⟨ "slices.reverseRangeCmpFunc[tsblock/api.Label]",by decide,Tryz.func252.trans (congrArg some (by kernel_rfl))⟩,f25:=⟨ "slices.partialInsertionSortCmpFunc[tsblock/api.Label]",by decide,Tryz.func253.trans (congrArg some (by kernel_rfl))⟩,f26:=⟨ "slices.partitionEqualCmpFunc[tsblock/api.Label]",by decide,Tryz.func254.trans (congrArg some (by kernel_rfl))⟩,f27:=⟨ "slices.partitionCmpFunc[tsblock/api.Label]",by decide,Tryz.func255.trans (congrArg some (by kernel_rfl))⟩,f28:=Tryz.func168.trans (congrArg some (by kernel_rfl)),f29:=Tryz.func169.trans (congrArg some (by kernel_rfl)),f46:=⟨ "slices.siftDownCmpFunc[tsblock/api.Label]",by decide,Tryz.func285.trans (congrArg some (by kernel_rfl))⟩,f47:=Tryz.func218.trans (congrArg some (by kernel_rfl)),f48:=Tryz.func219.trans (congrArg some (by kernel_rfl)),f49:=⟨ "slices.medianAdjacentCmpFunc[tsblock/api.Label]",by decide,Tryz.func286.trans (congrArg some (by kernel_rfl))⟩,f50:=⟨ "slices.medianCmpFunc[tsblock/api.Label]",by decide,Tryz.func287.trans (congrArg some (by kernel_rfl))⟩,f57:=⟨ "slices.order2CmpFunc[tsblock/api.Label]",by decide,Tryz.func299.trans (congrArg some (by kernel_rfl))⟩,t0:=Tryz.underlying0,a0:=Tryz.isAgg0,z0:=Tryz.sizeOf0,v0:=Tryz.zeroValue0,t3:=Tryz.underlying3,a3:=Tryz.isAgg3,z3:=Tryz.sizeOf3,v3:=Tryz.zeroValue3,t4:=Tryz.underlying4,a4:=Tryz.isAgg4,z4:=Tryz.sizeOf4,v4:=Tryz.zeroValue4,t5:=Tryz.underlying5,a5:=Tryz.isAgg5,z5:=Tryz.sizeOf5,v5:=Tryz.zeroValue5,t9:=Tryz.underlying9,a9:=Tryz.isAgg9,z9:=Tryz.sizeOf9,v9:=Tryz.zeroValue9,t22:=Tryz.underlying48,a22:=Tryz.isAgg48,z22:=Tryz.sizeOf48,v22:=Tryz.zeroValue48,t25:=Tryz.underlying163,a25:=Tryz.isAgg163,z25:=Tryz.sizeOf163,v25:=Tryz.zeroValue163,t39:=Tryz.underlying177,a39:=Tryz.isAgg177,z39:=Tryz.sizeOf177,v39:=Tryz.zeroValue177,t45:=Tryz.underlying223,a45:=Tryz.isAgg223,z45:=Tryz.sizeOf223,v45:=Tryz.zeroValue223,t46:=Tryz.underlying224,a46:=Tryz.isAgg224,z46:=Tryz.sizeOf224,v46:=Tryz.zeroValue224,t50:=Tryz.underlying158,a50:=Tryz.isAgg158,z50:=Tryz.sizeOf158,v50:=Tryz.zeroValue158,t53:=Tryz.underlying139,a53:=Tryz.isAgg139,z53:=Tryz.sizeOf139,v53:=Tryz.zeroValue139,t55:=Tryz.underlying81,a55:=Tryz.isAgg81,z55:=Tryz.sizeOf81,v55:=Tryz.zeroValue81,t66:=Tryz.underlying267,a66:=Tryz.isAgg267,z66:=Tryz.sizeOf267,v66:=Tryz.zeroValue267,t70:=Tryz.underlying271,a70:=Tryz.isAgg271,z70:=Tryz.sizeOf271,v70:=Tryz.zeroValue271,t76:=Tryz.underlying321,a76:=Tryz.isAgg321,z76:=Tryz.sizeOf321,v76:=Tryz.zeroValue321,t77:=Tryz.underlying210,a77:=Tryz.isAgg210,z77:=Tryz.sizeOf210,v77:=Tryz.zeroValue210 }
theorem dR (x y:AC):ltOf (fun x y:AC=>Br x.1 y.1) x y=My x y:=by
 show decide (Br x.1 y.1<0)=CB x.1 y.1
 rcases zBH (CB x.1 y.1) with e | e
 ·have:Br x.1 y.1 = -1:=if_pos e
  rw [this,e];rfl
 ·have:Br x.1 y.1=if CB y.1 x.1 then 1 else 0:=if_neg (by rw [e];simp)
  rw [this,e]
  split<;>rfl
theorem Z4:ltOf (fun x y:AC=>Br x.1 y.1)=My:=by
 funext x y;exact dR x y
theorem tM:Go.Sort.SWO My:=⟨fun x=>Qa.SP x,fun x y z=>Qa.tr x y z,fun x y z h1 h2=>by
 rcases zBH (My x z) with e | e
 ·have:=Bz.n9 (a:=y.1) (b:=x.1) (c:=z.1) h1 e
  rw [show CB y.1 z.1=My y z from rfl,h2] at this
  cases this
 ·exact e⟩
def di (x:AC):List Value:=[.string x.1,.string x.2]
theorem qh (w:World) (base:Nat) (v:Value) (l:List AC) (h:w.ownsRow base 108 2 v l.length (Am l)) (hn:l.length≤1000000) :
  Calls Tryz.prog 158 #[v,.func (.func 127) #[] #[]] w fun e w'=>e = .returned (.tuple #[])∧∃l',List.Perm l' l∧l'.Pairwise (fun a b=>My b a=false)∧w'.ownsRow base 108 2 v l.length (Am l')∧Ac (fun k=>v.ownBlock=some k) w w':=by
 rcases h.2 with ⟨rfl,h0⟩ | ⟨g,cap,cur,rfl,FB,MX,r1,r2,r3,r4⟩
 ·refine (AnyF.slices_SortFunc_none QR none 0 _ w).mono ?_
  rintro e w' ⟨rfl,rfl⟩
  obtain rfl:l=[]:=zAI h0
  exact ⟨rfl,[],zGZ _,List.Pairwise.nil,h,Ac.refl _ _⟩
 ·have hk:∀x:AC,(di x).length=2:=fun _=>rfl
  have hH:Go.Sort.HoldsK di 2 w g 0 l.toArray:=Ec di 2 hk (by decide) MX r4
  have hC:=AnyQ.slices_SortFunc QR 2 Tryz.isAgg108 Tryz.sizeOf108 di hk (fun x v hv=>by simp only [di,zAS,zCX,zGU] at hv;rcases hv with rfl | rfl<;>rfl) (fun x y:AC=>Br x.1 y.1) (by rw [Z4];exact tM) 127 #[] g 0 cap l.toArray w
   (fun _ _=>rfl) (fun m os dk _ x y=>Jp x y _) hH (zAX.1 MX).1 (by simp;omega)
  have Ed:l.toArray.size=l.length:=by simp
  rw [Ed] at hC
  refine hC.mono ?_
  rintro e w' ⟨rfl,d',n,os,hp,hs,rfl⟩
  have ZG:d'.size=l.length:=by rw [hp.1];simp
  refine ⟨rfl,d'.toList,?_,?_,?_,(DO (Go.Sort.flatK di 2 d')).mono (fun k _ e=>by show some g=some k;rw [show k=g from e])⟩
  ·have h3:=hp.2.2
   rw [show d'.extract 0 l.length=d' by rw [← ZG];exact zDJ] at h3
   rw [show l.toArray.extract 0 l.length=l.toArray by rw [← Ed];exact zDJ] at h3
   exact h3
  ·rw [zBW]
   intro i j hi hj C3
   have h4:=hs i j (zAJ _) C3 (by rw [← ZG];simpa using hj)
   rw [Z4,zDW d' i (by simpa using hi),zDW d' j (by simpa using hj)] at h4
   simpa using h4
  ·exact Ee di 2 hk (by decide) ZG FB MX r1 r2 r3
theorem WF (l:List AC):∀(p:Option ByteArray),(∀x∈l,B4 x=0)→l.Pairwise (fun a b=>My b a=false)→(∀n,p=some n→∀x∈l,CB x.1 n=false)→
  (A5 p l=0∧AN My l∧(∀n,p=some n→∀x∈l,CB n x.1=true))∨(A5 p l=18∧¬(p.toList++FP l).Nodup):=by
 induction l with
 | nil=>intro p _ _ _;exact Or.inl ⟨rfl,List.Pairwise.nil,fun _ _ _ h=>by cases h⟩
 | cons x l ih=>
  intro p ho hs hp
  obtain ⟨h1,h2⟩:=zAU.1 hs
  have hx:=ho x (by simp)
  have ih':=ih (some x.1) (fun y hy=>ho y (by simp [hy])) h2 (fun n hn y hy=>by cases hn;exact h1 y hy)
  have hasc:(∀n,some x.1=some n→∀y∈l,CB n y.1=true)→AN My l→AN My (x::l):=fun h k=>zAU.2 ⟨fun y hy=>h x.1 rfl y hy,k⟩
  have yT:FP (x::l)=x.1::FP l:=rfl
  cases p with
  | none=>
   rw [A5,if_neg (zCI hx)]
   rcases ih' with ⟨a,b,c⟩ | ⟨a,b⟩
   ·exact Or.inl ⟨a,hasc c b,fun _ h=>by cases h⟩
   ·exact Or.inr ⟨a,by simpa [yT] using b⟩
  | some n=>
   have Aq:=hp n rfl x (by simp)
   rw [A5,if_neg (zCI hx)]
   by_cases he:x.1=n
   ·rw [if_pos he]
    refine Or.inr ⟨rfl,fun hd=>?_⟩
    rw [yT,he] at hd
    simp at hd
   ·rw [if_neg he,if_neg (by rw [Aq];simp)]
    have hnx:CB n x.1=true:=by
     rcases zBH (CB n x.1) with e | e
     ·exact e
     ·exact absurd (Bz.kQ _ _ Aq e) he
    rcases ih' with ⟨a,b,c⟩ | ⟨a,b⟩
    ·refine Or.inl ⟨a,hasc c b,fun m hm y hy=>?_⟩
     cases hm
     rcases zAS.1 hy with e | e
     ·subst e;exact hnx
     ·exact Bz.tr _ _ _ hnx (c x.1 rfl y e)
    ·refine Or.inr ⟨a,fun hd=>b ?_⟩
     rw [yT] at hd
     simp only [zEY,List.singleton_append,List.nodup_cons] at hd ⊢
     exact hd.2
theorem aq {l l':List AC} (h0:CN l=0) (hp:List.Perm l' l) (hs:l'.Pairwise (fun a b=>My b a=false)) :
  (BZ l'=0∧BD l=(0,l'))∨(BZ l'=18∧BD l=(18,[])):=by
 have ho:=(DZ l).1 h0
 have ho':∀x∈l',B4 x=0:=fun x hx=>ho x (hp.mem_iff.1 hx)
 have hnp:=jU hp
 rcases WF l' none ho' hs (fun _ h=>by cases h) with ⟨a,b,_⟩ | ⟨a,b⟩
 ·refine Or.inl ⟨a,?_⟩
  have h1:=ao b ho'
  have h2:(BD l).1=0:=hnp.1.1 (by rw [h1])
  have h3:(BD l).2=l':=by rw [← hnp.2,h1]
  exact Prod.ext h2 h3
 ·refine Or.inr ⟨a,?_⟩
  have h1:¬(BD l).1=0:=fun e=>by
   have:=(Lm.1 (hnp.1.2 e)).2
   exact b (by simpa using this)
  unfold BD at h1 ⊢
  rw [if_neg (zCI h0)] at h1 ⊢
  split
  ·rfl
  ·next r hr=>rw [hr] at h1;exact absurd rfl h1
theorem ZW (lv:Value) (l:List AC) (w:World) (hl:Rd w 2 lv l.length (Am l)) (hs:∀x∈l,x.1.size≤9223372036854775807∧x.2.size≤9223372036854775807) (hn:l.length≤100000) :
  Calls Tryz.prog 118 #[lv] w (YC w (BD l)):=by
 have HL:=zAA hl;have HS:=zAA hs;have Mk:=zAA hn
 obtain ⟨pl,cl,hv⟩:=hl.shape
 subst hv
 have Xk:(l.length:Int)≤100000:=by omega
 clear hl hs hn
 go_enter Tryz.func118,Tryz.ntmps118
 go_wp2_with fail
 go_loopw [11] (fun iv wr=>∃(i:Nat),i≤l.length∧iv = .int .i64 (i:Int)∧Hid (∀x∈l.take i,B4 x=0)∧Hid (Below w.heap.size w wr)) (fun iv _=>l.length-(intOf iv).toNat)
 case atStart=>exact ⟨0,zAJ _,rfl,(by intro x hx;simp at hx),zAM _ _⟩
 case round=>
  obtain ⟨i,hi,rfl,HF,HB⟩:=hrel
  have KM:(i:Int)≤100000:=by omega
  by_cases Aq:i<l.length
  ·have AF:(i:Int)<(l.length:Int):=by omega
   obtain ⟨⟨n,v⟩,hx⟩:∃x,l[i]? = some x:=⟨_,zAC Aq⟩
   obtain ⟨b,off,e⟩:=EG HL.out hx
   subst e
   obtain ⟨c0,c1⟩:=Bm (HL.out.below HB.out) hx
   have t7:=zAA (fun w'=>KX n v w' (HS.out _ (zAG hx)).1 (HS.out _ (zAG hx)).2)
   have HX:=zAA hx
   have AP:Hid (Below w.heap.size w (wr.alloc (.cells #[.string n,.string v] 108))):=HB.out.trans (((zAM _ wr).alloc (zAD _) _).mono HB.out.size)
   clear hx
   go_wp2_with fail
   refine (t7.out _).mono ?_
   rintro e w2 ⟨rfl,hB⟩
   have Dq:=zAA (AP.out.trans (hB.mono AP.out.size))
   clear c0 c1 hB t7 AP
   by_cases he:B4 (n,v)=0
   ·have ii:Hid (∀x∈l.take (i+1),B4 x=0):=by
     intro x hx
     rw [zAL,HX.out] at hx
     rcases zBJ.1 hx with e | e
     ·exact HF.out x e
     ·simp at e;subst e;exact he
    rw [he]
    clear he
    go_wp2_with fail
    go_round
    case rel=>exact ⟨i+1,by omega,by go_num,ii.out,Dq.out⟩
    case measure=>simp [intOf];omega
   ·have Yt:¬(B4 (n,v):Int)=0:=by omega
    have xd:((B4 (n,v):Int) == 0)=false:=by rw [zAQ];exact Yt
    have HE:Hid (BD l=(B4 (n,v),[])):=by
     show _=_
     have h:=Zr HF.out HX.out he
     rw [BD,h,if_pos he]
    clear he
    generalize B4 (n,v)=e at *
    go_wp2_with fail
    go_ret2
    exact YC.Ep Dq.out HE.out
  ·have AF:¬(i:Int)<(l.length:Int):=by omega
   have qF:Hid (CN l=0):=by
    show _=_
    have h:=HF.out
    rw [zAF (by omega)] at h
    exact (DZ l).2 h
   have TV:=zAA (iK (.slice pl l.length cl) l wr (HL.out.below HB.out) (by have:=Mk.out;omega))
   go_wp2_with fail
   refine TV.out.mono ?_
   rintro e w2 ⟨r,rfl,hM⟩
   have BG:=zAA hM.1
   have AP:=zAA (HB.out.trans (hM.2.mono HB.out.size))
   have zK:Hid (∀k,r.ownBlock=some k→w.heap.size≤k):=fun k hk=>zAW HB.out.size (hM.1.lt k hk).1
   obtain ⟨p,c,hv⟩:=(Rd.Ad hM.1).shape
   subst hv
   clear hM TV
   have Nr:=zAA (qh w2 _ _ l BG.out (by have:=Mk.out;omega))
   go_wp2_with fail
   refine Nr.out.mono ?_
   rintro e w3 ⟨rfl,l',hp,hs,hO,hM⟩
   have HP:=zAA hp
   have DP:Hid (l'.length=l.length):=hp.length_eq
   have Ew:=zAA hO
   have BS:=zAA (AP.out.trans (hM.below AP.out.size (fun k hk e=>by have:=zK.out k e;omega)))
   have bK:=zAA (aq qF.out hp hs)
   have Rh:=zAA (NX (.slice p l.length c) l' w3 (by have h:=Rd.Ad hO;rwa [← DP.out] at h ⊢) (fun x hx=>HS.out x (hp.mem_iff.1 hx)) (by have:=Mk.out;have:=DP.out;omega))
   clear hp hs hO hM Nr BG AP
   go_wp2_with fail
   refine Rh.out.mono ?_
   rintro e w4 ⟨rfl,hB⟩
   have CF:=zAA (BS.out.trans (hB.mono BS.out.size))
   have R8:=zAA ((Rd.Ad Ew.out).below hB)
   clear hB Rh BS Ew
   rcases bK.out with ⟨h1,h2⟩ | ⟨h1,h2⟩
   ·have HN:=zAA h2
    rw [h1]
    clear h1 h2
    go_wp2_with fail
    go_ret2
    refine ⟨⟨_,?_,?_,zK.out⟩,CF.out⟩
    ·rw [HN.out];rfl
    ·rw [HN.out]
     show Rd _ _ _ l'.length _
     rw [DP.out]
     exact R8.out
   ·have HN:=zAA h2
    rw [h1]
    clear h1 h2
    go_wp2_with fail
    go_ret2
    exact YC.Ep CF.out HN.out
theorem Ll (lv:Value) (l:List AC) (w:World) (hl:Rd w 2 lv l.length (Am l)) (hn:l.length≤1000000) :
  Calls Tryz.prog 94 #[lv] w fun e w'=>∃r,e = .returned r∧Cp 9 Value.string w w' (An l) r:=by
 have HL:=zAA hl
 obtain ⟨pl,cl,hv⟩:=hl.shape
 subst hv
 have Xk:(l.length:Int)≤1000000:=by omega
 clear hl hn
 go_enter Tryz.func94,Tryz.ntmps94
 go_wp2_with fail
 go_loopw [3,8] (fun vv iv wr=>∃(i:Nat),i≤l.length∧iv = .int .i64 (i:Int)∧Hid (Cp 9 Value.string w wr (An (l.take i)) vv)) (fun _ iv _=>l.length-(intOf iv).toNat)
 case atStart=>exact ⟨0,zAJ _,rfl,Cp.nil w⟩
 case round=>
  obtain ⟨i,hi,rfl,HO⟩:=hrel
  have KM:(i:Int)≤1000000:=by omega
  by_cases Aq:i<l.length
  ·have AF:(i:Int)<(l.length:Int):=by omega
   obtain ⟨⟨yn,yv⟩,hx⟩:∃x,l[i]? = some x:=⟨_,zAC Aq⟩
   obtain ⟨b,off,e⟩:=EG HL.out hx
   subst e
   obtain ⟨c0,c1⟩:=Bm (HL.out.below HO.out.AA) hx
   have BH:=zAA (MB hx)
   have Xh:(An (l.take i)).length≤2000000:=by rw [Da,zAR];omega
   have HXx:=zAA hx
   clear hx
   obtain ⟨pv,cv,DB⟩:=HO.out.shape
   subst DB
   have Nn:Hid (((An (l.take i)).length+2)*16≤140737488355328∧(An (l.take i)).length+2≤maxLen):=by show _∧_;unfold maxLen;omega
   clear Xh
   have HA:=zAA (HO.out.below (((zAM _ wr).alloc (zAD _) (.cells #[.string yn,.string yv] 108))))
   generalize An (l.take i)=acc at *
   obtain ⟨w1,Cg⟩:∃w1,w1=wr.alloc (.cells #[.string yn,.string yv] 108):=⟨_,rfl⟩
   have HS1:Hid (w1.heap.size=wr.heap.size+1):=by show _=_;rw [Cg];simp
   rw [← Cg] at HA
   have BG:Hid (Cp 9 Value.string w (w1.alloc (.cells #[.string yn,.string yv] 9)) acc (.slice pv acc.length cv)):=HA.out.below ((zAM _ w1).alloc (zAD _) _)
   have sF:=Rd.Ad (zCZ (base:=0) w1 #[.string yn,.string yv] 2 (zAJ _) (by simp [maxLen]) (by simp) (e:=9) (size:=1))
   rw [HS1.out] at sF
   rw [Cg] at sF BG
   have lM:=zAA sF
   have Uh:=zAA BG.out.Cz
   clear sF HS1 HA Cg w1
   go_wp2_with (refine At Tryz.JW _ _ _ _ _ _ _ Uh.out lM.out (Pk [yn,yv]) Nn.out rfl _ _ rfl rfl rfl ?_)
   intro v3 w3 k1 k2 k3
   have GG:Hid (Cp 9 Value.string w w3 (An (l.take (i+1))) v3):=by show Cp _ _ _ _ _ _;rw [BH.out];exact BG.out.extended (e:=[yn,yv]) k1 k2 (by simpa using k3)
   obtain ⟨p3,c3,UA⟩:∃p c,v3 = .slice p (acc.length+2) c:=(Rd.Ad k1).shape
   subst UA
   clear k1 k2 k3 Uh lM BG
   go_wp2_with fail
   go_round
   case rel=>exact ⟨i+1,by omega,by go_num,GG.out⟩
   case measure=>simp [intOf];omega
  ·have AF:¬(i:Int)<(l.length:Int):=by omega
   rw [zAF (by omega)] at HO
   obtain ⟨pv,cv,DB⟩:=HO.out.shape
   subst DB
   go_wp2_with fail
   go_ret
   exact ⟨_,rfl,HO.out⟩
end Go.Proofs.YtdcgbgecbeegmaaGreatDoor
end
