/- Texts 28. -/
import Derived.Test.YtdcgbgecbeegmaaGreatDoorMgSA
import Derived.Test.YtdcgbgecbeegmaaGreatDoorMgS14
set_option linter.unusedVariables false
set_option linter.unusedSimpArgs false
set_option maxHeartbeats 400000000
set_option maxRecDepth 100000
section
namespace Go.Proofs.YtdcgbgecbeegmaaGreatDoor
open Go Go.RowKit
def pe (win:Option (Nat × Nat)):Int:=match win with
 | none=>-1
 | some (L,_)=>(L:Int)
def fA (win:Option (Nat × Nat)):Int:=match win with
 | none=>0
 | some (_,t)=>(t:Int)
def PI (bs:List Bool) (l:List Nat) (j:Nat) (win:Option (Nat × Nat)) (B:List Bool):Prop:=
 (j=0∧win=none∧B=bs)∨(∃k last,j=k+1∧l[k]? = some last∧pG win∧B++Cm win last (l.drop j)=bs++G1 l)
theorem ki (v lv:Value) (bs:List Bool) (l:List Nat) (w:World) (h:GY w v bs) (hl:Rd w 1 lv l.length (AL l)) (Ct:∀t∈l,C4 t) (Dz:l≠[]→∀k,lv.ownBlock=some k→v.ownBlock≠some k) (hz:bs.length+78*l.length≤70368744177000) :
  Calls Tryz.prog 111 #[v,lv] w fun e w'=>∃v',e = .returned v'∧Ag v (bs++G1 l) w v' w':=by
 have H:=zAA h
 have vD:=zAA hl
 have HZ:=zAA hz
 obtain ⟨pl,cl,hv⟩:=hl.shape
 subst hv
 clear h hl hz
 go_enter Tryz.func111,Tryz.ntmps111
 go_wp2_with fail
 go_loopw [0,5,6,7] (fun v2 lv tv c wr=>∃(j:Nat) (win:Option (Nat × Nat)) (B:List Bool),j≤l.length∧c = .int .i64 (j:Int)∧lv = .int .i64 (pe win)∧tv = .int .i64 (fA win)∧PI bs l j win B∧Hid (Ag v B w v2 wr)) (fun _ _ _ c _=>l.length-(intOf c).toNat)
 case atStart=>exact ⟨0,none,bs,by omega,rfl,rfl,rfl,Or.inl ⟨rfl,rfl,rfl⟩,H.out,Ac.refl _ _,AG.refl _ _⟩
 case round=>
  obtain ⟨j,win,B,hj,rfl,rfl,rfl,hP,HW⟩:=hrel
  by_cases Aq:j<l.length
  ·have AF:(j:Int)<(l.length:Int):=by omega
   have Yh:=zAA (vD.out.Ai HW.out.Ai (fun k hk e=>Dz (fun e0=>by rw [e0] at Aq;simp at Aq) k hk e))
   obtain ⟨b,off,c',e,T3,KG,Aj⟩:=Yh.out.at (fun e=>by have:=congrArg List.length e;rw [BP] at this;simp at this;subst this;simp at Aq)
   simp only [zAN] at e
   obtain ⟨rfl,_,rfl⟩:=e
   obtain ⟨t,ht⟩:∃t,l[j]=t:=⟨_,rfl⟩
   have Ry:wr.cell? ⟨b,off+j,none⟩=some (.int .u64 (t:Int)):=by rw [← ht];exact Aj j _ (DH l j Aq)
   have ni:l.drop j=t::l.drop (j+1):=by rw [← ht];exact zBV Aq
   have ZO:C4 t:=ht ▸ Ct _ (zDI Aq)
   obtain ⟨p0,c0,Yy⟩:=(Rd.Ad HW.out.own).shape
   subst Yy
   rcases hP with ⟨rfl,rfl,rfl⟩ | ⟨k,last,xo,SG,P5,Yq⟩
   ·have HE:Hid (∀B',B'=B++Aa t 64→PI B l 1 none B'):=fun B' e=>by
     refine Or.inr ⟨0,t,rfl,by rw [zAC Aq,ht],(fun _ _ e=>by cases e),?_⟩
     rw [List.drop_zero] at ni
     rw [e,zAK]
     congr 1
     conv=>rhs;rw [ni]
     rw [G1]
    have HN:Hid (B.length+64≤70368744177664):=by show _≤_;have:=HZ.out;omega
    have hct0:wr.cell? ⟨b,off,none⟩=some (.int .u64 (t:Int)):=Ry
    have hlt0:(0:Int)<(l.length:Int):=AF
    have vX:=zAA ZO
    clear ni Aj ht Ry T3 KG ZO
    go_wp2_with fail
    refine (Bn _ B t 64 _ HW.out.own vX.out (by omega) HN.out).mono ?_
    rintro en w7 ⟨v7,rfl,hR⟩
    have HR:Hid (Ag v (B++Aa t 64) w v7 w7):=HW.out.then hR
    clear hR
    go_wp2_with fail
    go_round
    case rel=>exact ⟨1,none,_,by omega,rfl,rfl,rfl,HE.out _ rfl,HR.out⟩
    case measure=>simp [intOf];omega
   ·have Fl:k<l.length:=by omega
    have Yv:l[k]=last:=by rw [zAC Fl] at SG;exact zDT SG
    have TZ:wr.cell? ⟨b,off+k,none⟩=some (.int .u64 (last:Int)):=Aj k _ (by rw [DH l k Fl,Yv])
    have hla:C4 last:=Yv ▸ Ct _ (zDI Fl)
    have HX:Hid (bits BinOp.xor IntKind.u64 (t:Int) (last:Int)=((t ^^^ last:Nat):Int)):=bits_xor_u64_nat t last ZO hla
    have Yl:Hid (t ^^^ last<18446744073709551616):=TT ZO hla
    rw [ni,Cm] at Yq
    have HE:Hid (∀B',B'=B++GC win (t ^^^ last)→PI bs l (j+1) (Dg win (t ^^^ last)) B'):=fun B' e=>by
     refine Or.inr ⟨j,t,rfl,by rw [zAC Aq,ht],S6 P5 Yl.out,?_⟩
     rw [e,zAK];exact Yq
    have HN:Hid (B.length+78≤70368744177660):=by
     show _≤_
     have h1:=congrArg List.length Yq
     simp only [zAB] at h1
     have h2:=NC l
     have:=HZ.out
     omega
    have Fj:=zAA P5
    have yQ:(j:Int)-1=(k:Int):=by omega
    have hjb2:((j:Int) == 0)=false:=by rw [zAQ];omega
    have hk':(k:Int)<(l.length:Int):=by omega
    have gB:(l.length:Int)≤9223372036854775807:=by have:=HZ.out;omega
    clear ni Aj ht SG Yq xo Fl Yv P5 hla ZO T3 KG
    go_wp2_with fail
    go_quiet (fail)
    have Wx:Hid (Ag v B w (Value.slice p0 B.length c0) (wr.drewN nq)):=HW.out.drewN _
    clear Ry TZ HW Yh
    generalize wr.drewN nq=wa at *
    rw [HX.out]
    generalize t ^^^ last=x at *
    clear HX
    by_cases GD:x=0
    ·subst GD
     have gi:GC win 0=[false]:=by unfold GC;rw [if_pos rfl]
     have hN0:Dg win 0=win:=by rw [Dg,if_pos rfl]
     rw [gi,hN0] at HE
     have C0:Hid ((B.length+1)*1≤140737488355328∧B.length+1≤maxLen):=by show _∧_;have:=HN.out;unfold maxLen;omega
     clear gi hN0
     go_wp2_with (at_builtin;refine AD Tryz.K5 wa #[.bool false] _ _ _ Wx.out.own rfl (CC _ rfl) C0.out rfl _ _ rfl rfl rfl ?_)
     intro v8 w8 Au AU DK
     have HR:Hid (Ag v (B++[false]) w v8 w8):=Wx.out.lit Au AU DK
     clear Au AU DK
     go_wp2_with fail
     go_round
     case rel=>exact ⟨j+1,win,_,by omega,by go_num,rfl,rfl,HE.out _ rfl,HR.out⟩
     case measure=>simp [intOf];omega
    ·have xM:((x:Int) == 0)=false:=by rw [zAQ];omega
     have ug:=zAA (kn x Yl.out GD wa)
     have DY:=zAA (LE Yl.out GD)
     cases win with
     | none=>
      simp only [pe,fA]
      have lj:Js none x=false:=rfl
      have lF:Hid (GC none x=DV x):=by
       show _=_
       unfold GC
       rw [if_neg GD]
      have YH:Hid (Dg none x=some (AV x,Av x)):=by show _=_;rw [Dg,if_neg GD,if_neg (by rw [lj];decide)]
      have Gi:Hid (∀B',B'=B++DV x→PI bs l (j+1) (some (AV x,Av x)) B'):=fun B' e=>by have h:=HE.out B' (by rw [lF.out];exact e);rw [YH.out] at h;exact h
      have Yd:Hid (DV x=[true,true]++(Aa (AV x) 6++(Aa (63-AV x-Av x) 6++Aa (x / 2 ^ Av x) (64-AV x-Av x)))):=rfl
      have Km:Hid (x / 2 ^ Av x<18446744073709551616):=by show _<_;have:=zFV x (2 ^ Av x);have:=Yl.out;omega
      have fM:Hid (∀w,Calls Tryz.prog 151 #[.int .u64 (x:Int),.int .i64 (Av x:Int)] w fun e w'=>e = .returned (.int .u64 ((x / 2 ^ Av x:Nat):Int))∧w'=w):=fun w=>Ke x (Av x) Yl.out (by have:=DY.out;omega) w
      generalize DV x=FW at *
      generalize x / 2 ^ Av x=xi at *
      generalize AV x=ld at *
      generalize Av x=tr at *
      clear HE lF YH lj
      go_wp2_with fail
      refine ug.out.mono ?_
      rintro en w7 ⟨rfl,na⟩
      have wg:=zAA (Wx.out.below na)
      clear na ug Wx
      have Fi:Hid (Ag v B w (Value.slice p0 B.length c0) (w7.alloc (.cells #[.bool true,.bool true] 4))):=wg.out.below ((zAM _ _).alloc (zAD _) _)
      have Yg:Hid (Rd (w7.alloc (.cells #[.bool true,.bool true] 4)) 1 (.slice (some ⟨w7.heap.size,0,none⟩) 2 2) 2 (PM [true,true])):=Rd.Ad (zCZ (base:=0) w7 #[.bool true,.bool true] 2 (zAJ _) (by simp [maxLen]) (by simp))
      have C0:Hid ((B.length+2)*1≤140737488355328∧B.length+2≤maxLen):=by show _∧_;have:=HN.out;unfold maxLen;omega
      have KQ:Hid (∀u∈PM [true,true],u.oneCell'=true):=by intro u hu;simp [PM] at hu;rcases hu with rfl | rfl<;>rfl
      go_wp2_with (at_builtin;refine At Tryz.K5 _ _ _ _ _ _ _ Fi.out.own Yg.out KQ.out C0.out rfl _ _ rfl rfl rfl ?_)
      intro v8 w8 Au AU DK
      have Pv:Hid (Ag v (B++[true,true]) w v8 w8):=Fi.out.lit Au AU (by simpa using DK)
      clear Au AU DK Fi Yg C0 KQ
      obtain ⟨p8,c8,MY⟩:=(Rd.Ad Pv.out.own).shape
      subst MY
      have hwl:IntKind.u64.wrap (ld:Int)=(ld:Int):=by rw [zBB];have:=DY.out;omega
      have Lg:(63:Int)-(ld:Int)-(tr:Int)=((63-ld-tr:Nat):Int):=by have:=DY.out;omega
      have KN:(64:Int)-(ld:Int)-(tr:Int)=((64-ld-tr:Nat):Int):=by have:=DY.out;omega
      have hwl2:IntKind.u64.wrap ((63-ld-tr:Nat):Int)=((63-ld-tr:Nat):Int):=by rw [zBB];omega
      have hld:(ld:Int)≤63:=by have:=DY.out;omega
      have htr:(tr:Int)≤63:=by have:=DY.out;omega
      have Kn:Hid ((B++[true,true]).length+64≤70368744177664):=by show _≤_;have:=HN.out;simp;omega
      have Jf:Hid (((B++[true,true])++Aa ld 6).length+64≤70368744177664):=by show _≤_;have:=HN.out;simp [Ae];omega
      have Np:Hid ((((B++[true,true])++Aa ld 6)++Aa (63-ld-tr) 6).length+64≤70368744177664):=by show _≤_;have:=HN.out;simp [Ae];omega
      have vy:Hid (B++FW=(((B++[true,true])++Aa ld 6)++Aa (63-ld-tr) 6)++Aa xi (64-ld-tr)):=by show _=_;rw [Yd.out];simp only [zAK]
      generalize uq:B++[true,true]=M1 at *
      generalize m8:M1++Aa ld 6=M2 at *
      generalize ur:M2++Aa (63-ld-tr) 6=M3 at *
      have Ni:=zAA m8
      have ro:=zAA ur
      clear uq m8 ur
      have SB:Hid (63-ld-tr<18446744073709551616∧ld<18446744073709551616∧64-ld-tr≤64):=by show _∧_;have:=DY.out;omega
      generalize 63-ld-tr=wm at *
      generalize 64-ld-tr=wd at *
      go_wp2_with fail
      refine (Bn _ M1 ld 6 _ Pv.out.own SB.out.2.1 (by decide) Kn.out).mono ?_
      rintro en w9 ⟨v9,rfl,hR⟩
      have YK:Hid (Ag v M2 w v9 w9):=by
       show Ag _ _ _ _ _
       rw [← Ni.out]
       exact Pv.out.then hR
      obtain ⟨p9,c9,nN⟩:=(Rd.Ad YK.out.own).shape
      subst nN
      clear hR Pv
      go_wp2_with fail
      refine (Bn _ M2 wm 6 _ YK.out.own SB.out.1 (by decide) Jf.out).mono ?_
      rintro en wa2 ⟨va,rfl,hR⟩
      have Yj:Hid (Ag v M3 w va wa2):=by
       show Ag _ _ _ _ _
       rw [← ro.out]
       exact YK.out.then hR
      obtain ⟨pa,ca,uP⟩:=(Rd.Ad Yj.out.own).shape
      subst uP
      clear hR YK
      go_wp2_with fail
      refine (fM.out _).mono ?_
      rintro en wb2 ⟨rfl,rfl⟩
      go_wp2_with fail
      refine (Bn _ M3 xi wd _ Yj.out.own Km.out SB.out.2.2 Np.out).mono ?_
      rintro en wc2 ⟨vc,rfl,hR⟩
      have YM:=zAA (Yj.out.then hR)
      clear hR Yj
      go_wp2_with fail
      go_round
      case rel=>exact ⟨j+1,some (ld,tr),_,by omega,by go_num,rfl,rfl,Gi.out _ vy.out.symm,YM.out⟩
      case measure=>simp [intOf];omega
     | some wn=>
      obtain ⟨Lw,tw⟩:=wn
      simp only [pe,fA]
      have wj:Hid (Lw+tw≤63):=Fj.out Lw tw rfl
      have hLw:(Lw:Int)≤63:=by have:=wj.out;omega
      have htw:(tw:Int)≤63:=by have:=wj.out;omega
      by_cases hfL:Lw≤AV x
      ·by_cases hft:tw≤Av x
       ·have xf:Js (some (Lw,tw)) x=true:=by simp only [Js,zBY,zCH];exact ⟨hfL,hft⟩
        have lF:Hid (GC (some (Lw,tw)) x=[true,false]++Aa (x / 2 ^ tw) (64-Lw-tw)):=by
         show _=_
         unfold GC
         rw [if_neg GD]
         simp only [xf,zHC]
        have YH:Hid (Dg (some (Lw,tw)) x=some (Lw,tw)):=by show _=_;rw [Dg,if_neg GD,if_pos xf]
        rw [lF.out,YH.out] at HE
        have Km:Hid (x / 2 ^ tw<18446744073709551616):=by show _<_;have:=zFV x (2 ^ tw);have:=Yl.out;omega
        have fM:Hid (∀w,Calls Tryz.prog 151 #[.int .u64 (x:Int),.int .i64 (tw:Int)] w fun e w'=>e = .returned (.int .u64 ((x / 2 ^ tw:Nat):Int))∧w'=w):=fun w=>Ke x tw Yl.out (by have:=wj.out;omega) w
        have hgL:(Lw:Int)≤(AV x:Int):=by omega
        have NO:(tw:Int)≤(Av x:Int):=by omega
        generalize x / 2 ^ tw=xi at *
        generalize AV x=ld at *
        generalize Av x=tr at *
        clear lF YH xf hfL hft
        have KN:(64:Int)-(Lw:Int)-(tw:Int)=((64-Lw-tw:Nat):Int):=by have:=wj.out;omega
        have qL:Hid (64-Lw-tw≤64):=by show _≤_;omega
        have hld:(ld:Int)≤63:=by have:=DY.out;omega
        have htr:(tr:Int)≤63:=by have:=DY.out;omega
        go_wp2_with fail
        refine ug.out.mono ?_
        rintro en w7 ⟨rfl,na⟩
        have wg:=zAA (Wx.out.below na)
        clear na ug Wx
        have Fi:Hid (Ag v B w (Value.slice p0 B.length c0) (w7.alloc (.cells #[.bool true,.bool false] 4))):=wg.out.below ((zAM _ _).alloc (zAD _) _)
        have Yg:Hid (Rd (w7.alloc (.cells #[.bool true,.bool false] 4)) 1 (.slice (some ⟨w7.heap.size,0,none⟩) 2 2) 2 (PM [true,false])):=Rd.Ad (zCZ (base:=0) w7 #[.bool true,.bool false] 2 (zAJ _) (by simp [maxLen]) (by simp))
        have C0:Hid ((B.length+2)*1≤140737488355328∧B.length+2≤maxLen):=by show _∧_;have:=HN.out;unfold maxLen;omega
        have KQ:Hid (∀u∈PM [true,false],u.oneCell'=true):=by intro u hu;simp [PM] at hu;rcases hu with rfl | rfl<;>rfl
        go_wp2_with (at_builtin;refine At Tryz.K5 _ _ _ _ _ _ _ Fi.out.own Yg.out KQ.out C0.out rfl _ _ rfl rfl rfl ?_)
        intro v8 w8 Au AU DK
        have Pv:Hid (Ag v (B++[true,false]) w v8 w8):=Fi.out.lit Au AU (by simpa using DK)
        clear Au AU DK Fi Yg C0 KQ
        obtain ⟨p8,c8,MY⟩:=(Rd.Ad Pv.out.own).shape
        subst MY
        have Kn:Hid ((B++[true,false]).length+64≤70368744177664):=by show _≤_;have:=HN.out;simp;omega
        have vy:Hid (B++([true,false]++Aa xi (64-Lw-tw))=(B++[true,false])++Aa xi (64-Lw-tw)):=by show _=_;rw [zAK]
        generalize B++[true,false]=M1 at *
        generalize 64-Lw-tw=wd at *
        go_wp2_with fail
        refine (fM.out _).mono ?_
        rintro en wb2 ⟨rfl,rfl⟩
        go_wp2_with fail
        refine (Bn _ M1 xi wd _ Pv.out.own Km.out qL.out Kn.out).mono ?_
        rintro en wc2 ⟨vc,rfl,hR⟩
        have YM:=zAA (Pv.out.then hR)
        clear hR Pv
        go_wp2_with fail
        go_round
        case rel=>exact ⟨j+1,some (Lw,tw),_,by omega,by go_num,rfl,rfl,HE.out _ vy.out.symm,YM.out⟩
        case measure=>simp [intOf];omega
       ·have lj:Js (some (Lw,tw)) x=false:=by simp only [Js,Bool.and_eq_false_iff,zDF];exact Or.inr hft
        have hgL:(Lw:Int)≤(AV x:Int):=by omega
        have NO:¬(tw:Int)≤(Av x:Int):=by omega
        clear hfL hft
        have lF:Hid (GC (some (Lw,tw)) x=DV x):=by
         show _=_
         unfold GC
         rw [if_neg GD]
         simp only [lj,zDC,zFK]
        have YH:Hid (Dg (some (Lw,tw)) x=some (AV x,Av x)):=by show _=_;rw [Dg,if_neg GD,if_neg (by rw [lj];decide)]
        have Gi:Hid (∀B',B'=B++DV x→PI bs l (j+1) (some (AV x,Av x)) B'):=fun B' e=>by have h:=HE.out B' (by rw [lF.out];exact e);rw [YH.out] at h;exact h
        have Yd:Hid (DV x=[true,true]++(Aa (AV x) 6++(Aa (63-AV x-Av x) 6++Aa (x / 2 ^ Av x) (64-AV x-Av x)))):=rfl
        have Km:Hid (x / 2 ^ Av x<18446744073709551616):=by show _<_;have:=zFV x (2 ^ Av x);have:=Yl.out;omega
        have fM:Hid (∀w,Calls Tryz.prog 151 #[.int .u64 (x:Int),.int .i64 (Av x:Int)] w fun e w'=>e = .returned (.int .u64 ((x / 2 ^ Av x:Nat):Int))∧w'=w):=fun w=>Ke x (Av x) Yl.out (by have:=DY.out;omega) w
        generalize DV x=FW at *
        generalize x / 2 ^ Av x=xi at *
        generalize AV x=ld at *
        generalize Av x=tr at *
        clear HE lF YH lj
        go_wp2_with fail
        refine ug.out.mono ?_
        rintro en w7 ⟨rfl,na⟩
        have wg:=zAA (Wx.out.below na)
        clear na ug Wx
        have Fi:Hid (Ag v B w (Value.slice p0 B.length c0) (w7.alloc (.cells #[.bool true,.bool true] 4))):=wg.out.below ((zAM _ _).alloc (zAD _) _)
        have Yg:Hid (Rd (w7.alloc (.cells #[.bool true,.bool true] 4)) 1 (.slice (some ⟨w7.heap.size,0,none⟩) 2 2) 2 (PM [true,true])):=Rd.Ad (zCZ (base:=0) w7 #[.bool true,.bool true] 2 (zAJ _) (by simp [maxLen]) (by simp))
        have C0:Hid ((B.length+2)*1≤140737488355328∧B.length+2≤maxLen):=by show _∧_;have:=HN.out;unfold maxLen;omega
        have KQ:Hid (∀u∈PM [true,true],u.oneCell'=true):=by intro u hu;simp [PM] at hu;rcases hu with rfl | rfl<;>rfl
        go_wp2_with (at_builtin;refine At Tryz.K5 _ _ _ _ _ _ _ Fi.out.own Yg.out KQ.out C0.out rfl _ _ rfl rfl rfl ?_)
        intro v8 w8 Au AU DK
        have Pv:Hid (Ag v (B++[true,true]) w v8 w8):=Fi.out.lit Au AU (by simpa using DK)
        clear Au AU DK Fi Yg C0 KQ
        obtain ⟨p8,c8,MY⟩:=(Rd.Ad Pv.out.own).shape
        subst MY
        have hwl:IntKind.u64.wrap (ld:Int)=(ld:Int):=by rw [zBB];have:=DY.out;omega
        have Lg:(63:Int)-(ld:Int)-(tr:Int)=((63-ld-tr:Nat):Int):=by have:=DY.out;omega
        have KN:(64:Int)-(ld:Int)-(tr:Int)=((64-ld-tr:Nat):Int):=by have:=DY.out;omega
        have hwl2:IntKind.u64.wrap ((63-ld-tr:Nat):Int)=((63-ld-tr:Nat):Int):=by rw [zBB];omega
        have hld:(ld:Int)≤63:=by have:=DY.out;omega
        have htr:(tr:Int)≤63:=by have:=DY.out;omega
        have Kn:Hid ((B++[true,true]).length+64≤70368744177664):=by show _≤_;have:=HN.out;simp;omega
        have Jf:Hid (((B++[true,true])++Aa ld 6).length+64≤70368744177664):=by show _≤_;have:=HN.out;simp [Ae];omega
        have Np:Hid ((((B++[true,true])++Aa ld 6)++Aa (63-ld-tr) 6).length+64≤70368744177664):=by show _≤_;have:=HN.out;simp [Ae];omega
        have vy:Hid (B++FW=(((B++[true,true])++Aa ld 6)++Aa (63-ld-tr) 6)++Aa xi (64-ld-tr)):=by show _=_;rw [Yd.out];simp only [zAK]
        generalize uq:B++[true,true]=M1 at *
        generalize m8:M1++Aa ld 6=M2 at *
        generalize ur:M2++Aa (63-ld-tr) 6=M3 at *
        have Ni:=zAA m8
        have ro:=zAA ur
        clear uq m8 ur
        have SB:Hid (63-ld-tr<18446744073709551616∧ld<18446744073709551616∧64-ld-tr≤64):=by show _∧_;have:=DY.out;omega
        generalize 63-ld-tr=wm at *
        generalize 64-ld-tr=wd at *
        go_wp2_with fail
        refine (Bn _ M1 ld 6 _ Pv.out.own SB.out.2.1 (by decide) Kn.out).mono ?_
        rintro en w9 ⟨v9,rfl,hR⟩
        have YK:Hid (Ag v M2 w v9 w9):=by
         show Ag _ _ _ _ _
         rw [← Ni.out]
         exact Pv.out.then hR
        obtain ⟨p9,c9,nN⟩:=(Rd.Ad YK.out.own).shape
        subst nN
        clear hR Pv
        go_wp2_with fail
        refine (Bn _ M2 wm 6 _ YK.out.own SB.out.1 (by decide) Jf.out).mono ?_
        rintro en wa2 ⟨va,rfl,hR⟩
        have Yj:Hid (Ag v M3 w va wa2):=by
         show Ag _ _ _ _ _
         rw [← ro.out]
         exact YK.out.then hR
        obtain ⟨pa,ca,uP⟩:=(Rd.Ad Yj.out.own).shape
        subst uP
        clear hR YK
        go_wp2_with fail
        refine (fM.out _).mono ?_
        rintro en wb2 ⟨rfl,rfl⟩
        go_wp2_with fail
        refine (Bn _ M3 xi wd _ Yj.out.own Km.out SB.out.2.2 Np.out).mono ?_
        rintro en wc2 ⟨vc,rfl,hR⟩
        have YM:=zAA (Yj.out.then hR)
        clear hR Yj
        go_wp2_with fail
        go_round
        case rel=>exact ⟨j+1,some (ld,tr),_,by omega,by go_num,rfl,rfl,Gi.out _ vy.out.symm,YM.out⟩
        case measure=>simp [intOf];omega
      ·have lj:Js (some (Lw,tw)) x=false:=by simp only [Js,Bool.and_eq_false_iff,zDF];exact Or.inl hfL
       have hgL:¬(Lw:Int)≤(AV x:Int):=by omega
       clear hfL
       have lF:Hid (GC (some (Lw,tw)) x=DV x):=by
        show _=_
        unfold GC
        rw [if_neg GD]
        simp only [lj,zDC,zFK]
       have YH:Hid (Dg (some (Lw,tw)) x=some (AV x,Av x)):=by show _=_;rw [Dg,if_neg GD,if_neg (by rw [lj];decide)]
       have Gi:Hid (∀B',B'=B++DV x→PI bs l (j+1) (some (AV x,Av x)) B'):=fun B' e=>by have h:=HE.out B' (by rw [lF.out];exact e);rw [YH.out] at h;exact h
       have Yd:Hid (DV x=[true,true]++(Aa (AV x) 6++(Aa (63-AV x-Av x) 6++Aa (x / 2 ^ Av x) (64-AV x-Av x)))):=rfl
       have Km:Hid (x / 2 ^ Av x<18446744073709551616):=by show _<_;have:=zFV x (2 ^ Av x);have:=Yl.out;omega
       have fM:Hid (∀w,Calls Tryz.prog 151 #[.int .u64 (x:Int),.int .i64 (Av x:Int)] w fun e w'=>e = .returned (.int .u64 ((x / 2 ^ Av x:Nat):Int))∧w'=w):=fun w=>Ke x (Av x) Yl.out (by have:=DY.out;omega) w
       generalize DV x=FW at *
       generalize x / 2 ^ Av x=xi at *
       generalize AV x=ld at *
       generalize Av x=tr at *
       clear HE lF YH lj
       go_wp2_with fail
       refine ug.out.mono ?_
       rintro en w7 ⟨rfl,na⟩
       have wg:=zAA (Wx.out.below na)
       clear na ug Wx
       have Fi:Hid (Ag v B w (Value.slice p0 B.length c0) (w7.alloc (.cells #[.bool true,.bool true] 4))):=wg.out.below ((zAM _ _).alloc (zAD _) _)
       have Yg:Hid (Rd (w7.alloc (.cells #[.bool true,.bool true] 4)) 1 (.slice (some ⟨w7.heap.size,0,none⟩) 2 2) 2 (PM [true,true])):=Rd.Ad (zCZ (base:=0) w7 #[.bool true,.bool true] 2 (zAJ _) (by simp [maxLen]) (by simp))
       have C0:Hid ((B.length+2)*1≤140737488355328∧B.length+2≤maxLen):=by show _∧_;have:=HN.out;unfold maxLen;omega
       have KQ:Hid (∀u∈PM [true,true],u.oneCell'=true):=by intro u hu;simp [PM] at hu;rcases hu with rfl | rfl<;>rfl
       go_wp2_with (at_builtin;refine At Tryz.K5 _ _ _ _ _ _ _ Fi.out.own Yg.out KQ.out C0.out rfl _ _ rfl rfl rfl ?_)
       intro v8 w8 Au AU DK
       have Pv:Hid (Ag v (B++[true,true]) w v8 w8):=Fi.out.lit Au AU (by simpa using DK)
       clear Au AU DK Fi Yg C0 KQ
       obtain ⟨p8,c8,MY⟩:=(Rd.Ad Pv.out.own).shape
       subst MY
       have hwl:IntKind.u64.wrap (ld:Int)=(ld:Int):=by rw [zBB];have:=DY.out;omega
       have Lg:(63:Int)-(ld:Int)-(tr:Int)=((63-ld-tr:Nat):Int):=by have:=DY.out;omega
       have KN:(64:Int)-(ld:Int)-(tr:Int)=((64-ld-tr:Nat):Int):=by have:=DY.out;omega
       have hwl2:IntKind.u64.wrap ((63-ld-tr:Nat):Int)=((63-ld-tr:Nat):Int):=by rw [zBB];omega
       have hld:(ld:Int)≤63:=by have:=DY.out;omega
       have htr:(tr:Int)≤63:=by have:=DY.out;omega
       have Kn:Hid ((B++[true,true]).length+64≤70368744177664):=by show _≤_;have:=HN.out;simp;omega
       have Jf:Hid (((B++[true,true])++Aa ld 6).length+64≤70368744177664):=by show _≤_;have:=HN.out;simp [Ae];omega
       have Np:Hid ((((B++[true,true])++Aa ld 6)++Aa (63-ld-tr) 6).length+64≤70368744177664):=by show _≤_;have:=HN.out;simp [Ae];omega
       have vy:Hid (B++FW=(((B++[true,true])++Aa ld 6)++Aa (63-ld-tr) 6)++Aa xi (64-ld-tr)):=by show _=_;rw [Yd.out];simp only [zAK]
       generalize uq:B++[true,true]=M1 at *
       generalize m8:M1++Aa ld 6=M2 at *
       generalize ur:M2++Aa (63-ld-tr) 6=M3 at *
       have Ni:=zAA m8
       have ro:=zAA ur
       clear uq m8 ur
       have SB:Hid (63-ld-tr<18446744073709551616∧ld<18446744073709551616∧64-ld-tr≤64):=by show _∧_;have:=DY.out;omega
       generalize 63-ld-tr=wm at *
       generalize 64-ld-tr=wd at *
       go_wp2_with fail
       refine (Bn _ M1 ld 6 _ Pv.out.own SB.out.2.1 (by decide) Kn.out).mono ?_
       rintro en w9 ⟨v9,rfl,hR⟩
       have YK:Hid (Ag v M2 w v9 w9):=by
        show Ag _ _ _ _ _
        rw [← Ni.out]
        exact Pv.out.then hR
       obtain ⟨p9,c9,nN⟩:=(Rd.Ad YK.out.own).shape
       subst nN
       clear hR Pv
       go_wp2_with fail
       refine (Bn _ M2 wm 6 _ YK.out.own SB.out.1 (by decide) Jf.out).mono ?_
       rintro en wa2 ⟨va,rfl,hR⟩
       have Yj:Hid (Ag v M3 w va wa2):=by
        show Ag _ _ _ _ _
        rw [← ro.out]
        exact YK.out.then hR
       obtain ⟨pa,ca,uP⟩:=(Rd.Ad Yj.out.own).shape
       subst uP
       clear hR YK
       go_wp2_with fail
       refine (fM.out _).mono ?_
       rintro en wb2 ⟨rfl,rfl⟩
       go_wp2_with fail
       refine (Bn _ M3 xi wd _ Yj.out.own Km.out SB.out.2.2 Np.out).mono ?_
       rintro en wc2 ⟨vc,rfl,hR⟩
       have YM:=zAA (Yj.out.then hR)
       clear hR Yj
       go_wp2_with fail
       go_round
       case rel=>exact ⟨j+1,some (ld,tr),_,by omega,by go_num,rfl,rfl,Gi.out _ vy.out.symm,YM.out⟩
       case measure=>simp [intOf];omega
  ·have xx:¬(j:Int)<(l.length:Int):=by omega
   obtain rfl:j=l.length:=by omega
   have HE:Hid (B=bs++G1 l):=by
    rcases hP with ⟨h0,_,rfl⟩ | ⟨k,last,_,_,_,Yq⟩
    ·have:l=[]:=zAI h0
     subst this
     show B=B++[]
     rw [zBR]
    ·rw [List.drop_length,Cm,zBR] at Yq
     exact Yq
   rw [HE.out] at HW
   go_wp2_with fail
   go_ret
   exact ⟨_,rfl,HW.out⟩
end Go.Proofs.YtdcgbgecbeegmaaGreatDoor
end
