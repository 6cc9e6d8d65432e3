/- Texts 23. -/
import Derived.Test.YtdcgbgecbeegmaaGreatDoorMgSA
import Derived.Test.YtdcgbgecbeegmaaGreatDoorMgS22
set_option linter.unusedVariables false
set_option linter.unusedSimpArgs false
set_option maxHeartbeats 400000000
set_option maxRecDepth 100000
section
namespace Go.Proofs.YtdcgbgecbeegmaaGreatDoor
open Go Go.RowKit
theorem Ja (lv:Value) (l:List AC) (w:World) (hl:Rd w 2 lv l.length (Am l)) (hn:l.length≤1000000) :
  Calls Tryz.prog 47 #[lv] w fun e w'=>∃r,e = .returned r∧Cp 9 Value.string w w' (An l) r:=by
 have HL:=zAA hl
 obtain ⟨pl,cl,hv⟩:=hl.shape
 subst hv
 have Xk:(l.length:Int)≤1000000:=by omega
 clear hl hn
 go_enter Tryz.func47,Tryz.ntmps47
 go_wp2_with fail
 go_loopw [3,4] (fun vv iv wr=>∃(i:Nat),i≤l.length∧iv = .int .i64 (i:Int)∧Hid (Cp 9 Value.string w wr (An (l.take i)) vv)) (fun _ iv _=>l.length-(intOf iv).toNat)
 case atStart=>exact ⟨0,zAJ _,rfl,Cp.nil w⟩
 case round=>
  obtain ⟨i,hi,rfl,HO⟩:=hrel
  have KM:(i:Int)≤1000000:=by omega
  by_cases Aq:i<l.length
  ·have AF:(i:Int)<(l.length:Int):=by omega
   obtain ⟨⟨yn,yv⟩,hx⟩:∃x,l[i]? = some x:=⟨_,zAC Aq⟩
   obtain ⟨b,off,e⟩:=EG HL.out hx
   subst e
   obtain ⟨c0,c1⟩:=Bm (HL.out.below HO.out.AA) hx
   have BH:=zAA (MB hx)
   have Xh:(An (l.take i)).length≤2000000:=by rw [Da,zAR];omega
   have HXx:=zAA hx
   clear hx
   obtain ⟨pv,cv,DB⟩:=HO.out.shape
   subst DB
   have Nn:Hid (((An (l.take i)).length+2)*16≤140737488355328∧(An (l.take i)).length+2≤maxLen):=by show _∧_;unfold maxLen;omega
   clear Xh
   have lM:Hid (Rd (wr.alloc (.cells #[.string yn,.string yv] 9)) 1 (.slice (some ⟨wr.heap.size,0,none⟩) 2 2) 2 (BM [yn,yv])):=
    Rd.Ad (zCZ (base:=0) wr #[.string yn,.string yv] 2 (zAJ _) (by simp [maxLen]) (by simp))
   generalize An (l.take i)=acc at *
   have HC:Hid (∀w':World,(w'.cell? ⟨b,off+i*2,none⟩=some (.string yn)∧w'.cell? ⟨b,off+i*2+1,none⟩=some (.string yv)∧True)→(w'.cell? ⟨b,off+i*2,none⟩=some (.string yn)∧w'.cell? ⟨b,off+i*2+1,none⟩=some (.string yv)∧True)):=fun _ h=>h
   have vm:Hid (∀w',Below w.heap.size w w'→w'.cell? ⟨b,off+i*2,none⟩=some (.string yn)∧w'.cell? ⟨b,off+i*2+1,none⟩=some (.string yv)∧True):=fun w' hb=>⟨(Bm (HL.out.below hb) HXx.out).1,(Bm (HL.out.below hb) HXx.out).2,trivial⟩
   clear c0 c1
   go_wp2_with fail
   refine AI (fun w'=>w'.cell? ⟨b,off+i*2,none⟩=some (.string yn)∧w'.cell? ⟨b,off+i*2+1,none⟩=some (.string yv)∧True) [11,12] [0,1,2,3,4,5,6,7,8,9,10,11,12,13] (by kernel_rfl) (by kernel_rfl) (by kernel_rfl) ?_ ?_ ?_
   ·intro c a a' w hd h;exact ⟨hd ▸ h.1,h.2⟩
   ·exact vm.out _ (HO.out.AA.trans ⟨rfl,rfl,rfl,zAD _,fun _ _=>rfl⟩)
   simp only [Cj,zBC,zCP,zBE,zAY,zBM]
   repeat (first
        | (refine takeH_skip rfl ?_; simp only [Act.put, List.setIfInBounds_toArray, List.set_cons_succ, List.set_cons_zero])
        | (refine takeH_blind rfl rfl ?_; apply Exists.intro; refine ⟨fun w => ?_, ?_⟩; (go_simp; try with_reducible rfl); simp only [Act.put, List.setIfInBounds_toArray, List.set_cons_succ, List.set_cons_zero])
        | (refine takeH_reads rfl rfl ?_; apply Exists.intro; refine ⟨fun w' hS => ?_, ?_⟩; (obtain ⟨d0, d1, d2⟩ := HC.out w' hS; go_simp; try with_reducible rfl); simp only [Act.put, List.setIfInBounds_toArray, List.set_cons_succ, List.set_cons_zero]))
   have BS:Hid (Below wr.heap.size wr (wr.alloc (.cells #[.string yn,.string yv] 9)).drew):=((zAM _ wr).alloc (zAD _) _).trans ⟨rfl,rfl,rfl,zAD _,fun _ _=>rfl⟩
   have Ew:=zAA (HO.out.below BS.out)
   have HLd:Hid (Rd (wr.alloc (.cells #[.string yn,.string yv] 9)).drew 1 (.slice (some ⟨wr.heap.size,0,none⟩) 2 2) 2 (BM [yn,yv])):=lM.out.Ai (Ac.drew (fun _=>False) _) (fun _ _ e=>e)
   refine Wk rfl rfl (.slice (some ⟨wr.heap.size,0,none⟩) 2 2) (wr.alloc (.cells #[.string yn,.string yv] 9)).drew (by go_simp;try rfl) (vm.out _ Ew.out.AA) ?_
   simp only [Act.put,zAZ,zBT,zBL]
   have Uh:=zAA Ew.out.Cz
   generalize (wr.alloc (.cells #[.string yn,.string yv] 9)).drew=w2 at *
   refine X5 Tryz.JW rfl rfl _ _ rfl rfl rfl Uh.out HLd.out (Pk _) Nn.out ?_
   intro v3 w3 k1 k2 k3
   have GG:Hid (Cp 9 Value.string w w3 (An (l.take (i+1))) v3):=by show Cp _ _ _ _ _ _;rw [BH.out];exact Ew.out.extended (e:=[yn,yv]) k1 k2 k3
   refine ⟨vm.out _ GG.out.AA,?_⟩
   obtain ⟨p3,c3,UA⟩:∃p c,v3 = .slice p (acc.length+2) c:=(Rd.Ad k1).shape
   subst UA
   clear k1 k2 k3 Uh HLd lM Ew vm
   repeat (first
        | (refine takeH_skip rfl ?_; simp only [Act.put, List.setIfInBounds_toArray, List.set_cons_succ, List.set_cons_zero])
        | (refine takeH_blind rfl rfl ?_; apply Exists.intro; refine ⟨fun w => ?_, ?_⟩; (go_simp; try with_reducible rfl); simp only [Act.put, List.setIfInBounds_toArray, List.set_cons_succ, List.set_cons_zero]))
   refine Bv ?_
   go_wp2_with fail
   go_round
   case rel=>exact ⟨i+1,by omega,by go_num,GG.out⟩
   case measure=>simp [intOf];omega
  ·have AF:¬(i:Int)<(l.length:Int):=by omega
   rw [zAF (by omega)] at HO
   obtain ⟨pv,cv,DB⟩:=HO.out.shape
   subst DB
   go_wp2_with fail
   go_ret
   exact ⟨_,rfl,HO.out⟩
theorem FM {α:Type} {l:List α} {x y:α} {i:Nat} (h:(l++[x])[i]? = some y):l[i]? = some y∨(i=l.length∧y=x):=by
 by_cases hi:i<l.length
 ·rw [zCE hi] at h;exact Or.inl h
 ·rw [zBS (by omega)] at h
  have:i-l.length=0:=by
   rcases zDE (i-l.length) with e | e
   ·exact e
   ·rw [zCJ (by simp;omega)] at h;cases h
  rw [this] at h
  simp at h
  exact Or.inr ⟨by omega,h.symm⟩
def PG (S:Nat→Prop) (h:Value) (s:List AC):Prop:=Am s≠[]→∀k,h.ownBlock=some k→¬S k
structure GB (t:TypeId) (w wr:World) (hs:List Value) (m:List (List AC)) (v:Value):Prop where
 row:Cp t (fun h:Value=>h) w wr hs v
 len:hs.length=m.length
 KO:∀(i:Nat) (h:Value) (s:List AC),hs[i]? = some h→m[i]? = some s→Rd wr 2 h s.length (Am s)∧PG (fun k=>v.ownBlock=some k) h s
theorem GB.nil {t:TypeId} (w:World):GB t w w [] [] (.slice none 0 0):=⟨Cp.nil w,rfl,fun i h s hi _=>by simp at hi⟩
theorem GB.below {t:TypeId} {w wr w1:World} {hs:List Value} {m:List (List AC)} {v:Value} (k:GB t w wr hs m v) (hb:Below wr.heap.size wr w1):GB t w w1 hs m v:=
 ⟨k.row.below hb,k.len,fun i h s hi hj=>⟨(k.KO i h s hi hj).1.below hb,(k.KO i h s hi hj).2⟩⟩
theorem GB.rd {t:TypeId} {w wr:World} {hs:List Value} {m:List (List AC)} {v:Value} (k:GB t w wr hs m v):ci wr v m:=
 ⟨⟨hs,by have h:=k.row.rd;rwa [List.map_id'] at h,k.len,fun i h s hi hj=>(k.KO i h s hi hj).1⟩⟩
theorem GB.B5 {t:TypeId} {w wr w1:World} {hs:List Value} {m:List (List AC)} {v v1:Value} {h:Value} {s:List AC} (k:GB t w wr hs m v) (Jw:Rd wr 2 h s.length (Am s)) (ho:PG (fun j=>v.ownBlock=some j) h s)
  (k1:w1.ownsRow 0 t 1 v1 (hs.length+1) (hs++[h])) (hm:Ac (fun j=>v.ownBlock=some j) wr w1) (hf:AG wr.heap.size v v1):GB t w w1 (hs++[h]) (m++[s]) v1:=by
 have ZJ:∀(h:Value) (s:List AC),Rd wr 2 h s.length (Am s)→PG (fun j=>v.ownBlock=some j) h s→Rd w1 2 h s.length (Am s)∧PG (fun j=>v1.ownBlock=some j) h s:=fun h s a b=>by
  refine ⟨a.FZ hm b,fun e j hj hv=>?_⟩
  rcases hf j hv with f | f
  ·exact b e j hj f
  ·have:=a.lt e j hj;omega
 refine ⟨k.row.B5 (by rw [List.map_id'];exact k1) hm hf,by simp [k.len],fun i h' s' hi hj=>?_⟩
 rcases FM hi with e | ⟨e,rfl⟩
 ·rcases FM hj with f | ⟨f,_⟩
  ·exact ZJ _ _ (k.KO i h' s' e f).1 (k.KO i h' s' e f).2
  ·have:=(zAE.1 e).1;have:=k.len;omega
 ·rcases FM hj with f | ⟨_,rfl⟩
  ·have:=(zAE.1 f).1;have:=k.len;omega
  ·exact ZJ _ _ Jw ho
theorem Y8 {a b:List AC} {i:Nat} {x y:AC} (ha:a[i]? = some x) (hb:b[i]? = some y) (h:Az a b=Az (a.drop i) (b.drop i)) :
  Az a b=if AW x y=0 then Az (a.drop (i+1)) (b.drop (i+1)) else AW x y:=by
 have h1:a.drop i=x::a.drop (i+1):=by rw [zBV (zAE.1 ha).1,(zAE.1 ha).2]
 have h2:b.drop i=y::b.drop (i+1):=by rw [zBV (zAE.1 hb).1,(zAE.1 hb).2]
 rw [h,h1,h2];rfl
theorem Nx {a b:List AC} {i:Nat} (hi:i≤a.length∧i≤b.length) (he:¬(i<a.length∧i<b.length)) (h:Az a b=Az (a.drop i) (b.drop i)) :
  Az a b=if a.length<b.length then -1 else if b.length<a.length then 1 else 0:=by
 rw [h]
 by_cases h1:i<a.length
 ·have h2:¬i<b.length:=fun e=>he ⟨h1,e⟩
  rw [if_neg (by omega),if_pos (by omega),zBF (l:=b) (by omega),zBV h1];rfl
 ·rw [zBF (l:=a) (by omega)]
  by_cases h2:i<b.length
  ·rw [if_pos (by omega),zBV h2];rfl
  ·rw [if_neg (by omega),if_neg (by omega),zBF (by omega)];rfl
theorem Q4 (a b:ByteArray) (w:World) :
  Calls Tryz.prog 70 #[.string a,.string b] w fun e w'=>e = .returned (.int .i64 (Br a b))∧w'=w:=by
 by_cases h1:CB a b=true
 ·have je:Op.bytesLess a.toList b.toList=true:=h1
  have HO:Hid (Br a b = -1):=if_pos h1
  rw [HO.out]
  clear h1
  go_enter Tryz.func70,Tryz.ntmps70
  go_wp2_with fail
  go_ret
  exact ⟨rfl,rfl⟩
 ·have h1f:CB a b=false:=by simpa using h1
  have je:Op.bytesLess a.toList b.toList=false:=h1f
  by_cases h2:CB b a=true
  ·have BC:a≠b:=fun e=>by subst e;rw [Bz.SP] at h2;cases h2
   have NO:binOp .gtr 9 (.string a) (.string b)=pure (.bool true):=by simp [binOp,Op.stringOp,je,eqS,BC]
   have HO:Hid (Br a b=1):=by show _=_;rw [Br,RH,if_neg h1,if_pos h2]
   rw [HO.out]
   clear h1 h1f h2 BC
   go_enter Tryz.func70,Tryz.ntmps70
   go_wp2_with fail
   go_ret
   exact ⟨rfl,rfl⟩
  ·have he:a=b:=Bz.kQ a b h1f (by simpa using h2)
   have NO:binOp .gtr 9 (.string a) (.string b)=pure (.bool false):=by simp [binOp,Op.stringOp,he]
   have HO:Hid (Br a b=0):=by show _=_;rw [Br,RH,if_neg h1,if_neg h2]
   rw [HO.out]
   clear h1 h1f h2 he
   go_enter Tryz.func70,Tryz.ntmps70
   go_wp2_with fail
   go_ret
   exact ⟨rfl,rfl⟩
theorem zasA (a b:ByteArray):Br a b = -1∨Br a b=0∨Br a b=1:=N7.Yo a b
def lp (w w':World):Prop:=∃q,w'=w.drewN q
theorem lp.below {w w':World} (h:lp w w'):Below w.heap.size w w':=by
 obtain ⟨q,rfl⟩:=h
 exact ⟨rfl,rfl,rfl,zAD _,fun _ _=>rfl⟩
theorem lp.step {w w':World} (h:lp w w') (n:Nat):lp w (w'.drewN n):=by
 obtain ⟨q,rfl⟩:=h
 exact ⟨q+n,World.drewN_drewN ..⟩
theorem Pd (av bv:Value) (a b:List AC) (w:World) (ha:Rd w 2 av a.length (Am a)) (hb:Rd w 2 bv b.length (Am b)) (uH:a.length≤1000000) (Yw:b.length≤1000000) :
  Calls Tryz.prog 32 #[av,bv] w fun e w'=>e = .returned (.int .i64 (Az a b))∧lp w w':=by
 have zN:=zAA ha;have C0:=zAA hb
 obtain ⟨pa,ca,hv⟩:=ha.shape
 subst hv
 obtain ⟨pb,cb,hv⟩:=hb.shape
 subst hv
 have hma:(a.length:Int)≤1000000:=by omega
 have hmb:(b.length:Int)≤1000000:=by omega
 clear ha hb uH Yw
 go_enter Tryz.func32,Tryz.ntmps32
 go_wp2_with fail
 go_loopw [5] (fun iv wr=>∃(i:Nat),i≤a.length∧i≤b.length∧iv = .int .i64 (i:Int)∧Hid (Az a b=Az (a.drop i) (b.drop i))∧Hid (lp w wr)) (fun iv _=>a.length-(intOf iv).toNat)
 case atStart=>exact ⟨0,zAJ _,zAJ _,rfl,rfl,⟨0,rfl⟩⟩
 case round=>
  obtain ⟨i,yO,bQ,rfl,HC,HB⟩:=hrel
  have KM:(i:Int)≤1000000:=by omega
  by_cases h1:i<a.length
  ·have h1':(i:Int)<(a.length:Int):=by omega
   by_cases h2:i<b.length
   ·have h2':(i:Int)<(b.length:Int):=by omega
    obtain ⟨⟨xn,xv⟩,hx⟩:∃x,a[i]? = some x:=⟨_,zAC h1⟩
    obtain ⟨⟨yn,yv⟩,hy⟩:∃y,b[i]? = some y:=⟨_,zAC h2⟩
    obtain ⟨ba,oa,e⟩:=EG zN.out hx
    subst e
    obtain ⟨bb,ob,e⟩:=EG C0.out hy
    subst e
    obtain ⟨c0,c1⟩:=Bm (zN.out.below HB.out.below) hx
    obtain ⟨d0,d1⟩:=Bm (C0.out.below HB.out.below) hy
    have BH:=zAA (Y8 hx hy HC.out)
    clear hx hy HC
    have Dd:=zAA (fun w'=>Q4 xn yn w')
    have BG:=zAA (fun w'=>Q4 xv yv w')
    go_wp2_with fail
    go_quiet ((go_at_call 70;exact Calls.quiet_of_same (Dd.out _)))
    have A6:Hid (lp w (wr.drewN nq)):=HB.out.step nq
    have c1':(wr.drewN nq).cell? ⟨ba,oa+i*2+1,none⟩=some (.string xv):=c1
    have d1':(wr.drewN nq).cell? ⟨bb,ob+i*2+1,none⟩=some (.string yv):=d1
    clear c0 c1 d0 d1
    generalize wr.drewN nq=w1 at *
    have Ua:=zasA xn yn
    have vp:=zasA xv yv
    by_cases e1:Br xn yn=0
    ·have lX:Hid (Az a b=if Br xv yv=0 then Az (a.drop (i+1)) (b.drop (i+1)) else Br xv yv):=by
      show _=_
      have hc:AW (xn,xv) (yn,yv)=Br xv yv:=if_pos e1
      rw [BH.out,hc]
     rw [e1]
     clear e1 Ua
     go_wp2_with fail
     go_quiet ((go_at_call 70;exact Calls.quiet_of_same (BG.out _)))
     have AP:Hid (lp w (w1.drewN nq)):=A6.out.step nq
     clear c1' d1'
     generalize w1.drewN nq=w2 at *
     by_cases e2:Br xv yv=0
     ·rw [if_pos e2] at lX
      rw [e2]
      clear e2 vp
      go_wp2_with fail
      go_round
      case rel=>exact ⟨i+1,by omega,by omega,by go_num,lX.out,AP.out⟩
      case measure=>simp [intOf];omega
     ·rw [if_neg e2] at lX
      have xd:((Br xv yv) == 0)=false:=by rw [zAQ];exact e2
      have Ev:=zAA e2
      clear vp
      generalize Br xv yv=o2 at *
      go_wp2_with fail
      go_ret
      exact ⟨by rw [lX.out];rfl,AP.out⟩
    ·have lX:Hid (Az a b=Br xn yn):=by
      show _=_
      have hc:AW (xn,xv) (yn,yv)=Br xn yn:=if_neg e1
      rw [BH.out,hc,if_neg e1]
     have xd:((Br xn yn) == 0)=false:=by rw [zAQ];exact e1
     clear Ua vp
     generalize Br xn yn=o1 at *
     go_wp2_with fail
     go_ret
     exact ⟨by rw [lX.out];rfl,A6.out⟩
   ·have h2':¬(i:Int)<(b.length:Int):=by omega
    have HE:=zAA (Nx ⟨yO,bQ⟩ (fun e=>h2 e.2) HC.out)
    have Aq:¬(a.length:Int)<(b.length:Int):=by omega
    have NO:(b.length:Int)<(a.length:Int):=by omega
    rw [if_neg (by omega),if_pos (by omega)] at HE
    clear h2
    go_wp2_with fail
    go_ret
    exact ⟨by rw [HE.out];rfl,HB.out⟩
  ·have h1':¬(i:Int)<(a.length:Int):=by omega
   have HE:=zAA (Nx ⟨yO,bQ⟩ (fun e=>h1 e.1) HC.out)
   by_cases Xh:a.length<b.length
   ·have Aq:(a.length:Int)<(b.length:Int):=by omega
    rw [if_pos Xh] at HE
    clear Xh h1
    go_wp2_with fail
    go_ret
    exact ⟨by rw [HE.out];rfl,HB.out⟩
   ·have Aq:¬(a.length:Int)<(b.length:Int):=by omega
    rw [if_neg Xh] at HE
    by_cases dB:b.length<a.length
    ·have NO:(b.length:Int)<(a.length:Int):=by omega
     rw [if_pos dB] at HE
     clear Xh dB h1
     go_wp2_with fail
     go_ret
     exact ⟨by rw [HE.out];rfl,HB.out⟩
    ·have NO:¬(b.length:Int)<(a.length:Int):=by omega
     rw [if_neg dB] at HE
     clear Xh dB h1
     go_wp2_with fail
     go_ret
     exact ⟨by rw [HE.out];rfl,HB.out⟩
theorem UQ (av bv:Value) (a b:List AC) (w:World) (ha:Rd w 2 av a.length (Am a)) (hb:Rd w 2 bv b.length (Am b)) (uH:a.length≤1000000) (Yw:b.length≤1000000) :
  Calls Tryz.prog 32 #[av,bv] w fun e w'=>e = .returned (.int .i64 (Az a b))∧Below w.heap.size w w':=
 (Pd av bv a b w ha hb uH Yw).mono fun e w' h=>⟨h.1,h.2.below⟩
def Gd (p:Option ByteArray) (x:AC) (rest:Nat):Nat:=match p with
 | none=>rest
 | some n=>if x.1=n then 18 else if CB x.1 n then 16 else rest
theorem Sh (p:Option ByteArray) (x:AC) (l:List AC):A5 p (x::l)=if B4 x≠0 then B4 x else Gd p x (A5 (some x.1) l):=by cases p<;>rfl
def FE (l:List AC) (i:Nat):Option ByteArray:=if i=0 then none else (l[i-1]?).map Prod.fst
theorem Si {l:List AC} {i:Nat} {x:AC} (hx:l[i]? = some x) (h:BZ l=A5 (FE l i) (l.drop i)) :
  BZ l=if B4 x≠0 then B4 x else Gd (FE l i) x (A5 (FE l (i+1)) (l.drop (i+1))):=by
 have Aq:=(zAE.1 hx).1
 have hd:l.drop i=x::l.drop (i+1):=by rw [zBV Aq,(zAE.1 hx).2]
 have hp:FE l (i+1)=some x.1:=by rw [FE,if_neg (by omega),zDK,hx];rfl
 rw [h,hd,Sh,hp]
theorem kg (n v:ByteArray) (w:World) (hn:n.size≤9223372036854775807) (hv:v.size≤9223372036854775807) :
  Calls Tryz.prog 69 #[.agg #[.string n,.string v]] w fun e w'=>e = .returned (.int .i64 (B4 (n,v):Int))∧Below w.heap.size w w':=by
 have hB:Below w.heap.size w (w.alloc (.cells #[.string n,.string v] 108)):=(zAM _ w).alloc (zAD _) _
 have zJ:=zAA (Sm n)
 by_cases h0:n.size=0
 ·have hE:n.toList.isEmpty=true:=by rw [zJ.out];simpa using h0
  have HO:Hid (B4 (n,v)=17):=if_pos h0
  rw [HO.out]
  go_enter Tryz.func69,Tryz.ntmps69
  go_wp2_with fail
  go_ret
  exact ⟨rfl,hB⟩
 ·have hE:n.toList.isEmpty=false:=by rw [zJ.out];simpa using h0
  by_cases h1:(65535:Int)<(n.size:Int)
  ·have HO:Hid (B4 (n,v)=7):=by show _=_;rw [B4,if_neg h0,if_pos (Or.inl (by show 65535<n.size;omega))]
   rw [HO.out]
   clear h0
   go_enter Tryz.func69,Tryz.ntmps69
   go_wp2_with fail
   go_ret
   exact ⟨rfl,hB⟩
  ·have SE:decide ((65535:Int)<(n.size:Int))=false:=by simpa using h1
   by_cases h2:(65535:Int)<(v.size:Int)
   ·have uA:decide ((65535:Int)<(v.size:Int))=true:=by simpa using h2
    have HO:Hid (B4 (n,v)=7):=by show _=_;rw [B4,if_neg h0,if_pos (Or.inr (by show 65535<v.size;omega))]
    rw [HO.out]
    clear h0
    go_enter Tryz.func69,Tryz.ntmps69
    go_wp2_with fail
    go_ret
    exact ⟨rfl,hB⟩
   ·have uA:decide ((65535:Int)<(v.size:Int))=false:=by simpa using h2
    have HO:Hid (B4 (n,v)=0):=by
     show _=_
     rw [B4,if_neg h0,if_neg]
     rintro (e | e)
     ·exact h1 (by have:65535<n.size:=e;omega)
     ·exact h2 (by have:65535<v.size:=e;omega)
    rw [HO.out]
    clear h0
    go_enter Tryz.func69,Tryz.ntmps69
    go_wp2_with fail
    go_ret
    exact ⟨rfl,hB⟩
theorem aK (lv:Value) (l:List AC) (w:World) (hl:Rd w 2 lv l.length (Am l)) (hs:∀x∈l,x.1.size≤9223372036854775807∧x.2.size≤9223372036854775807) (hn:l.length≤1000000) :
  Calls Tryz.prog 30 #[lv] w fun e w'=>e = .returned (.int .i64 (BZ l:Int))∧Below w.heap.size w w':=by
 have HL:=zAA hl;have HS:=zAA hs
 obtain ⟨pl,cl,hv⟩:=hl.shape
 subst hv
 have Xk:(l.length:Int)≤1000000:=by omega
 clear hl hs hn
 go_enter Tryz.func30,Tryz.ntmps30
 go_wp2_with fail
 go_loopw [3] (fun iv wr=>∃(i:Nat),i≤l.length∧iv = .int .i64 (i:Int)∧Hid (BZ l=A5 (FE l i) (l.drop i))∧Hid (Below w.heap.size w wr)) (fun iv _=>l.length-(intOf iv).toNat)
 case atStart=>exact ⟨0,zAJ _,rfl,rfl,zAM _ _⟩
 case round=>
  obtain ⟨i,hi,rfl,HC,HB⟩:=hrel
  by_cases Aq:i<l.length
  ·have AF:(i:Int)<(l.length:Int):=by omega
   have KM:(i:Int)≤1000000:=by omega
   obtain ⟨⟨n,v⟩,hx⟩:∃x,l[i]? = some x:=⟨_,zAC Aq⟩
   obtain ⟨b,off,e⟩:=EG HL.out hx
   subst e
   have lD:Hid (∀w',Below w.heap.size w w'→w'.cell? ⟨b,off+i*2,none⟩=some (.string n)∧w'.cell? ⟨b,off+i*2+1,none⟩=some (.string v)):=fun w' hb=>Bm (HL.out.below hb) hx
   obtain ⟨c0,c1⟩:=lD.out wr HB.out
   have t7:=zAA (fun w'=>kg n v w' (HS.out _ (zAG hx)).1 (HS.out _ (zAG hx)).2)
   have BH:=zAA (Si hx HC.out)
   clear hx HC
   go_wp2_with fail
   refine (t7.out _).mono ?_
   rintro e w2 ⟨rfl,hB⟩
   have Dq:=zAA (HB.out.trans (hB.mono HB.out.size))
   clear c0 c1 hB t7
   obtain ⟨c0,c1⟩:=lD.out w2 Dq.out
   by_cases he:B4 (n,v)=0
   ·rw [if_neg (zCI he)] at BH
    rw [he]
    clear he
    by_cases h0:i=0
    ·subst h0
     have Gy:Hid (BZ l=A5 (FE l (0+1)) (l.drop (0+1))):=BH.out
     have Mt:w2.cell? ⟨b,off,none⟩=some (.string n):=by simpa using c0
     go_wp2_with fail
     go_quiet (fail)
     have k7:Hid (Below w.heap.size w (w2.drewN nq)):=Dq.out.trans ⟨rfl,rfl,rfl,zAD _,fun _ _=>rfl⟩
     have hcx3:(w2.drewN nq).cell? ⟨b,off,none⟩=some (.string n):=Mt
     clear Mt c0 c1
     generalize w2.drewN nq=w3 at *
     go_wp2_with fail
     go_quiet (fail)
     have zo:Hid (Below w.heap.size w (w3.drewN nq)):=k7.out.trans ⟨rfl,rfl,rfl,zAD _,fun _ _=>rfl⟩
     clear hcx3
     generalize w3.drewN nq=w4 at *
     go_wp2_with fail
     go_round
     case rel=>exact ⟨1,by omega,by go_num,Gy.out,zo.out⟩
     case measure=>simp [intOf];omega
    ·obtain ⟨q,hq⟩:∃q,i=q+1:=⟨i-1,by omega⟩
     have h0':(0:Int)<(i:Int):=by omega
     have ZF:decide (0<i)=true:=by simp;omega
     have hqi:(i:Int)-1=(q:Int):=by omega
     have yV:(0:Int)≤(q:Int):=by omega
     have hql:(q:Int)<(l.length:Int):=by omega
     obtain ⟨⟨y,u⟩,hy⟩:∃x,l[q]? = some x:=⟨_,zAC (by omega)⟩
     obtain ⟨d0,_⟩:=Bm (HL.out.below Dq.out) hy
     have hpv:FE l i=some y:=by rw [FE,if_neg h0,hq,zDK,hy];rfl
     rw [hpv] at BH
     clear hpv hy hq h0 c1
     by_cases yU:n=y
     ·subst yU
      have dE:(n.toList == n.toList)=true:=by simp
      have HR:Hid (BZ l=18):=by show _=_;rw [BH.out,Gd,if_pos rfl]
      go_wp2_with fail
      go_quiet (fail)
      have k7:Hid (Below w.heap.size w (w2.drewN nq)):=Dq.out.trans ⟨rfl,rfl,rfl,zAD _,fun _ _=>rfl⟩
      generalize w2.drewN nq=w3 at *
      go_wp2_with fail
      go_ret
      exact ⟨by rw [HR.out];rfl,k7.out⟩
     ·have dE:(n.toList == y.toList)=false:=by rw [eqS];simpa using yU
      by_cases Mc:CB n y=true
      ·have je:Op.bytesLess n.toList y.toList=true:=Mc
       have HR:Hid (BZ l=16):=by show _=_;rw [BH.out,Gd,if_neg yU,if_pos Mc]
       clear yU Mc
       go_wp2_with fail
       go_quiet (fail)
       have k7:Hid (Below w.heap.size w (w2.drewN nq)):=Dq.out.trans ⟨rfl,rfl,rfl,zAD _,fun _ _=>rfl⟩
       have c03:(w2.drewN nq).cell? ⟨b,off+i*2,none⟩=some (.string n):=c0
       have d03:(w2.drewN nq).cell? ⟨b,off+q*2,none⟩=some (.string y):=d0
       clear c0 d0
       generalize w2.drewN nq=w3 at *
       go_wp2_with fail
       go_quiet (fail)
       have zo:Hid (Below w.heap.size w (w3.drewN nq)):=k7.out.trans ⟨rfl,rfl,rfl,zAD _,fun _ _=>rfl⟩
       generalize w3.drewN nq=w4 at *
       go_wp2_with fail
       go_ret
       exact ⟨by rw [HR.out];rfl,zo.out⟩
      ·have Vx:CB n y=false:=by simpa using Mc
       have je:Op.bytesLess n.toList y.toList=false:=Vx
       have Gy:Hid (BZ l=A5 (FE l (i+1)) (l.drop (i+1))):=by show _=_;rw [BH.out,Gd,if_neg yU,if_neg Mc]
       clear yU Mc Vx
       go_wp2_with fail
       go_quiet (fail)
       have k7:Hid (Below w.heap.size w (w2.drewN nq)):=Dq.out.trans ⟨rfl,rfl,rfl,zAD _,fun _ _=>rfl⟩
       have c03:(w2.drewN nq).cell? ⟨b,off+i*2,none⟩=some (.string n):=c0
       have d03:(w2.drewN nq).cell? ⟨b,off+q*2,none⟩=some (.string y):=d0
       clear c0 d0
       generalize w2.drewN nq=w3 at *
       go_wp2_with fail
       go_quiet (fail)
       have zo:Hid (Below w.heap.size w (w3.drewN nq)):=k7.out.trans ⟨rfl,rfl,rfl,zAD _,fun _ _=>rfl⟩
       clear c03 d03
       generalize w3.drewN nq=w4 at *
       go_wp2_with fail
       go_round
       case rel=>exact ⟨i+1,by omega,by go_num,Gy.out,zo.out⟩
       case measure=>simp [intOf];omega
   ·have Yt:¬(B4 (n,v):Int)=0:=by omega
    have xd:((B4 (n,v):Int) == 0)=false:=by rw [zAQ];exact Yt
    rw [if_pos he] at BH
    clear he
    generalize B4 (n,v)=e at *
    go_wp2_with fail
    go_ret
    exact ⟨by rw [BH.out];rfl,Dq.out⟩
  ·have AF:¬(i:Int)<(l.length:Int):=by omega
   have HE:Hid (BZ l=0):=by
    show _=_
    rw [HC.out,zBF (by omega)]
    cases FE l i<;>rfl
   go_wp2_with fail
   go_ret
   exact ⟨by rw [HE.out];rfl,HB.out⟩
structure YC (w:World) (o:Nat × List AC) (e:Ending) (w':World):Prop where
 res:∃r,e = .returned (.tuple #[r,.int .i64 (o.1:Int)])∧Rd w' 2 r o.2.length (Am o.2)∧(∀k,r.ownBlock=some k→w.heap.size≤k)
 AA:Below w.heap.size w w'
theorem YC.Ep {w w':World} {o:Nat × List AC} {en:Nat} (h:Below w.heap.size w w') (ho:o=(en,[])):YC w o (.returned (.tuple #[.slice none 0 0,.int .i64 (en:Int)])) w':=by
 subst ho
 exact ⟨⟨_,rfl,Rd.nil _ _,fun k e=>by cases e⟩,h⟩
theorem Zr {l:List AC} {i:Nat} (h:∀x∈l.take i,B4 x=0) {x:AC} (hx:l[i]? = some x) (he:B4 x≠0):CN l=B4 x:=by
 induction l generalizing i with
 | nil=>simp at hx
 | cons y l ih=>
  cases i with
  | zero=>simp at hx;subst hx;rw [CN,if_pos he]
  | succ i=>
   rw [CN,if_neg (zCI (h y (by simp)))]
   exact ih (fun z hz=>h z (by rw [zDR];exact zCS _ hz)) (by simpa using hx)
end Go.Proofs.YtdcgbgecbeegmaaGreatDoor
end
section
namespace Go.Proofs.YtdcgbgecbeegmaaGreatDoor
def YQ (l:List AC):Prop:=∀x∈l,x.1.size≤9223372036854775807∧x.2.size≤9223372036854775807
end Go.Proofs.YtdcgbgecbeegmaaGreatDoor
end
section
namespace Go.Proofs.YtdcgbgecbeegmaaGreatDoor
open Go Go.RowKit
def Xu (x:AC):Value:=.agg #[.string x.1,.string x.2]
end Go.Proofs.YtdcgbgecbeegmaaGreatDoor
end
