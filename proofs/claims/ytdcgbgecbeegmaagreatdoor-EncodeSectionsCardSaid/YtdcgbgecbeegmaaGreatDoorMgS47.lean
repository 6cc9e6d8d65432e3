/- Texts 47. -/
import Derived.Test.YtdcgbgecbeegmaaGreatDoorMgSA
import Derived.Test.YtdcgbgecbeegmaaGreatDoorMgS45
import Derived.Test.YtdcgbgecbeegmaaGreatDoorMgS39
import Derived.Test.YtdcgbgecbeegmaaGreatDoorChecked
import Derived.WideKeyEntry
import Derived.DeepKeys5
import Derived.Maps.RangeWalk
import Derived.Laws.EntriesVeiled
import Derived.Shelf.SlSortCmp.NoneTotal
set_option linter.unusedVariables false
set_option linter.unusedSimpArgs false
set_option maxHeartbeats 400000000
set_option maxRecDepth 100000
section
namespace Go.Proofs.YtdcgbgecbeegmaaGreatDoor
open Go Go.RowKit
theorem cF (w wi:World) (E0:List Nat) (v sv:Value) (s:List Int) (h:AR w wi E0 v) (hl:Rd w 1 sv s.length (A1 s)) (JG:s.length≤1000000) (ha:AN ET s) (h0:∀x∈s,0≤x∧x≤9223372036854775807)
  (hE:E0.length+(Ab s.length).length+(BF s s.length).length≤1000000000) :
  Calls Tryz.prog 106 #[v,sv] wi fun en w'=>∃r,en = .returned r∧AR w w' (E0++Ab s.length++BF s s.length) r:=by
 have HO:=zAA h;have HL:=zAA hl;have DP:=zAA JG;have HA:=zAA ha;have H0:=zAA h0;have Gi:=zAA hE
 obtain ⟨pv,kv,hv⟩:=h.shape
 subst hv
 obtain ⟨pc,cc,hv⟩:=hl.shape
 subst hv
 have ZE:(s.length:Int)≤1000000:=by omega
 have hw:IntKind.u64.wrap (s.length:Int)=(s.length:Int):=by rw [zBB];omega
 clear h hl JG ha h0 hE
 go_enter Tryz.func106,Tryz.ntmps106
 go_wp2_with fail
 refine (Cc w wi E0 _ s.length HO.out (by omega) (by have:=Gi.out;omega)).mono ?_
 rintro en w1 ⟨r1,rfl,hO,_⟩
 obtain ⟨L1,Yr⟩:∃L1,E0++Ab s.length=L1:=⟨_,rfl⟩
 have Kn:=zAA Yr
 rw [Yr] at hO
 have ig:Hid (L1.length+(BF s s.length).length≤1000000000):=by show _≤_;have:=Gi.out;rw [← Yr,zAB];omega
 have Dd:Hid (AR w w1 (L1++BF s 0) r1):=by show AR _ _ _ _;rw [show BF s 0=[] from rfl,zBR];exact hO
 obtain ⟨p1,c1,DA⟩:=hO.shape
 subst DA
 clear hO HO Yr
 go_wp2_with fail
 go_loopw [0,5,15] (fun vv bv kv wr=>∃(k:Nat) (z:Int),k≤s.length∧kv = .int .i64 (k:Int)∧bv = .int .i64 z∧Hid (z=Kw s k)∧Hid (AR w wr (L1++BF s k) vv)) (fun _ _ kv _=>s.length-(intOf kv).toNat)
 case atStart=>exact ⟨0,0,zAJ _,rfl,rfl,rfl,Dd.out⟩
 case round=>
  obtain ⟨k,z,hk,rfl,rfl,HZ,JD⟩:=hrel
  clear Dd
  have Xg:(k:Int)≤1000000:=by omega
  obtain ⟨p7,c7,UB⟩:=JD.out.shape
  subst UB
  by_cases Fl:k<s.length
  ·have Rz:(k:Int)<(s.length:Int):=by omega
   obtain ⟨n,hn⟩:∃n,s[k]? = some n:=⟨_,zAC Fl⟩
   have dc:=HL.out.below JD.out.AA
   obtain ⟨gc,oc,cc',e,_,_,Aj⟩:=dc.at (fun e=>by have:=congrArg List.length e;rw [Ce] at this;rw [this] at Fl;simp at Fl)
   simp only [zAN] at e
   obtain ⟨rfl,_,rfl⟩:=e
   have n0:wr.cell? ⟨gc,oc+k,none⟩=some (.int .i64 n):=Aj k _ (by rw [A1,zBQ,hn];rfl)
   have bK:=zAA (Tw hn)
   have hzn:=ZX hn HA.out (fun y hy=>(H0.out y hy).1)
   rw [← HZ.out] at hzn
   have yT:=(H0.out n (zAG hn)).2
   have Xn:0≤z:=hzn.1
   have By:z≤n:=hzn.2
   obtain ⟨m,hm⟩:∃m:Nat,n-z=(m:Int):=⟨(n-z).toNat,by omega⟩
   have HMt:Hid (m<18446744073709551616):=by show _<_;omega
   have xL:IntKind.u64.wrap (n-z)=(m:Int):=by rw [hm,zBB];omega
   have RR:Hid (n=Kw s (k+1)):=(J3 hn).symm
   have Wt:Hid ((L1++BF s k).length≤1000000000):=by
    show _≤_
    have h1:=V9 s k
    have h2:=ig.out
    simp only [zAB]
    omega
   obtain ⟨L,hL⟩:∃L,L1++BF s k=L:=⟨_,rfl⟩
   have Pu:Hid (L1++BF s (k+1)=L++Ab m):=by
    show _=_
    rw [bK.out,← hL,zAK L1,← HZ.out,hm,zCA]
   rw [hL] at JD Wt ⊢
   clear hn Aj dc bK Fl hL hzn hm HZ
   go_wp2_with fail
   refine (Cc w wr L _ m JD.out HMt.out Wt.out).mono ?_
   rintro en w8 ⟨r8,rfl,hO,_⟩
   obtain ⟨L2,Fk⟩:∃L2,L1++BF s (k+1)=L2:=⟨_,rfl⟩
   have Jf:=zAA Fk
   have bM:Hid (AR w w8 L2 r8):=by show AR _ _ _ _;rw [← Fk,Pu.out];exact hO
   obtain ⟨p8,c8,MY⟩:=bM.out.shape
   subst MY
   clear hO JD Pu n0 Fk xL
   go_wp2_with fail
   go_round
   case rel=>exact ⟨k+1,n,by omega,by go_num,rfl,RR.out,(by show AR _ _ _ _;rw [Jf.out];exact bM.out)⟩
   case measure=>simp [intOf];omega
  ·have Rz:¬(k:Int)<(s.length:Int):=by omega
   obtain rfl:k=s.length:=by omega
   have HE:Hid (E0++Ab s.length++BF s s.length=L1++BF s s.length):=by show _=_;rw [Kn.out]
   obtain ⟨L2,Fk⟩:∃L2,L1++BF s s.length=L2:=⟨_,rfl⟩
   rw [Fk] at JD HE ⊢
   clear Fk
   go_wp2_with fail
   go_ret
   exact ⟨_,rfl,by rw [← zAK,HE.out];exact JD.out⟩
theorem UP (tv lv:Value) (t:List ByteArray) (l:List zFSA) (w:World) (ht:Rd w 1 tv t.length (BM t)) (Yx:t.length≤1000000) (nL:AN CB t) (hl:mg w lv l) (JG:l.length≤1000000) (hs:∀e∈l,AN ET e.2∧e.2.length≤1000000∧∀x∈e.2,0≤x∧x≤9223372036854775807) (hE:(Bt t l).length≤1000000000) :
  Calls Tryz.prog 65 #[tv,lv] w (EV w (Cl t l)):=by
 have HT:=zAA ht;have KL:=zAA Yx;have vW:=zAA nL;have HL:=zAA hl;have DP:=zAA JG;have HS:=zAA hs;have Gi:=zAA hE
 obtain ⟨pt,ct,hv⟩:=ht.shape
 subst hv
 obtain ⟨pl,cl,hv⟩:=hl.shape
 subst hv
 have xu:(l.length:Int)≤1000000:=by omega
 have hw:IntKind.u64.wrap (l.length:Int)=(l.length:Int):=by rw [zBB];omega
 have Wu:Hid (AR w w [] (.slice none 0 0)):=Cp.nil w
 clear ht Yx nL hl JG hs hE
 go_enter Tryz.func65,Tryz.ntmps65
 go_wp2_with fail
 refine (Cc w w [] _ l.length Wu.out (by omega) (by simp)).mono ?_
 rintro en w1 ⟨r1,rfl,hO,_⟩
 have Dd:Hid (AR w w1 (E8 t l 0) r1):=by
  show AR w w1 (Ab l.length++(l.take 0).flatMap (Dw t)) r1
  rw [zDX,zEM,zBR]
  simpa using hO
 obtain ⟨p1,c1,DA⟩:=Dd.out.shape
 subst DA
 clear hO Wu
 go_wp2_with fail
 go_loopw [6,19] (fun vv iv wr=>∃(i:Nat),i≤l.length∧iv = .int .i64 (i:Int)∧Hid (AR w wr (E8 t l i) vv)∧Hid (∀e∈l.take i,CV t e.1)) (fun _ iv _=>l.length-(intOf iv).toNat)
 case atStart=>exact ⟨0,zAJ _,rfl,Dd.out,(by intro e he;simp at he)⟩
 case round=>
  obtain ⟨i,hi,rfl,HO,Km⟩:=hrel
  clear Dd
  have KM:(i:Int)≤1000000:=by omega
  obtain ⟨pv,cv,DB⟩:=HO.out.shape
  subst DB
  by_cases Aq:i<l.length
  ·have AF:(i:Int)<(l.length:Int):=by omega
   obtain ⟨⟨⟨n1,v1⟩,s⟩,hr⟩:∃r,l[i]? = some r:=⟨_,zAC Aq⟩
   obtain ⟨AM,off,q1,k1,e,Jv⟩:=HL.out.always hr
   subst e
   simp only at Jv
   have Ch:=zAG hr
   have KD:Hid (AN ET s∧s.length≤1000000∧∀x∈s,0≤x∧x≤9223372036854775807):=HS.out _ Ch
   have HRs:Hid (Rd w 1 (.slice q1 s.length k1) s.length (A1 s)):=(Jv w (zAM _ _)).2
   have Nq:Hid ((E8 t l i).length+(Ab (Df t n1)).length+(Ab (Df t v1)).length+(Ab s.length).length+(BF s s.length).length≤1000000000):=zAW (Vl hr) Gi.out
   have Gy:Hid (E8 t l (i+1)=E8 t l i++Ab (Df t n1)++Ab (Df t v1)++Ab s.length++BF s s.length):=PX hr
   have EZ:Hid (¬CV t (n1,v1)→Cl t l=(14,[])):=fun h=>Vm Ch h
   have R6:Hid (CV t (n1,v1)→∀e∈l.take (i+1),CV t e.1):=fun h e he=>by
    rw [zAL,hr] at he
    rcases zBJ.1 he with f | f
    ·exact Km.out e f
    ·simp at f;subst f;exact h
   have YF:=zAA (fun x W h=>VB (.slice pt t.length ct) t x W h KL.out vW.out)
   obtain ⟨E0,gi⟩:∃E0,E8 t l i=E0:=⟨_,rfl⟩
   rw [gi] at HO Nq Gy ⊢
   have SD:Below wr.heap.size wr (wr.alloc (.cells #[.string n1,.string v1,.slice q1 s.length k1] 157)):=(zAM _ wr).alloc (zAD _) _
   have BG:=zAA (HO.out.below SD)
   have GA:Hid (Rd (wr.alloc (.cells #[.string n1,.string v1,.slice q1 s.length k1] 157)) 1 (.slice pt t.length ct) t.length (BM t)):=HT.out.below BG.out.AA
   have HG:Hid (Ao (wr.alloc (.cells #[.string n1,.string v1,.slice q1 s.length k1] 157)) wr.heap.size [.string n1,.string v1,.slice q1 s.length k1]):=Ao.new _ _ _
   have ud:Hid (∀k,(Value.slice pv E0.length cv).ownBlock=some k→k<wr.heap.size):=fun k hk=>(HO.out.row.lt k hk).2
   obtain ⟨⟨d0,d1,d2⟩,_⟩:=Jv wr HO.out.AA
   clear hr Jv Ch gi Km SD HO
   go_wp2_with fail
   generalize wr.alloc (.cells #[.string n1,.string v1,.slice q1 s.length k1] 157)=w2 at *
   obtain ⟨g,hg⟩:∃g,wr.heap.size=g:=⟨_,rfl⟩
   rw [hg] at HG ud ⊢
   clear hg d0 d1 d2
   refine (YF.out n1 w2 GA.out).mono ?_
   rintro en w5 ⟨rfl,W9⟩
   have bV:=zAA (BG.out.below W9)
   have l5:Hid (Rd w5 1 (.slice pt t.length ct) t.length (BM t)):=GA.out.below W9
   have bG:=zAA (W9.mono (zAD _) |>.block g HG.out.lt |> HG.out.of_same)
   have g1:w5.cell? ⟨g,1,none⟩=some (.string v1):=bG.out.cell 1
   clear BG GA HG W9
   by_cases hn:n1∈t
   ·obtain ⟨jn,JF,nw⟩:=Ey hn
    have k8:Hid (jn<18446744073709551616):=by show _<_;have:=(zAE.1 nw).1;have:=KL.out;omega
    have Ct:Df t n1=jn:=by rw [Df,JF];rfl
    have hwj:IntKind.u64.wrap (jn:Int)=(jn:Int):=by rw [zBB];have:=k8.out;omega
    rw [JF,show max (jn:Int) 0=(jn:Int) from Int.max_eq_left (by omega),show decide ((0:Int)≤(jn:Int))=true from zBA (by omega)]
    rw [Ct] at Gy Nq
    clear JF nw Ct
    go_wp2_with fail
    refine (YF.out v1 w5 l5.out).mono ?_
    rintro en w6 ⟨rfl,i7⟩
    have Jg:=zAA (bV.out.below i7)
    have vz:=zAA (bG.out.of_same (i7.block g bG.out.lt))
    clear YF l5 bV bG g1 i7
    by_cases gE:v1∈t
    ·obtain ⟨jv,xq,ny⟩:=Ey gE
     have yr:Hid (jv<18446744073709551616):=by show _<_;have:=(zAE.1 ny).1;have:=KL.out;omega
     have hiv:Df t v1=jv:=by rw [Df,xq];rfl
     have hwv:IntKind.u64.wrap (jv:Int)=(jv:Int):=by rw [zBB];have:=yr.out;omega
     rw [xq,show max (jv:Int) 0=(jv:Int) from Int.max_eq_left (by omega),show decide ((0:Int)≤(jv:Int))=true from zBA (by omega)]
     rw [hiv] at Gy Nq
     have Ws:Hid (∀e∈l.take (i+1),CV t e.1):=R6.out ⟨hn,gE⟩
     clear xq ny hiv hn gE EZ R6
     go_wp2_with fail
     refine (Cc w w6 E0 _ jn Jg.out k8.out (by have:=Nq.out;omega)).mono ?_
     rintro en w7 ⟨r7,rfl,hO,hA⟩
     obtain ⟨E1,i9⟩:∃E1,E0++Ab jn=E1:=⟨_,rfl⟩
     rw [i9] at hO Gy
     have vR:Hid (E1.length+(Ab jv).length+(Ab s.length).length+(BF s s.length).length≤1000000000):=by show _≤_;have:=Nq.out;rw [← i9,zAB];omega
     have JD:=zAA hO
     have HG7:=zAA (hA.Ai.AM vz.out (fun e=>by have:=ud.out g e;omega))
     have HVg7:Hid (∀k,r7.ownBlock=some k→k≠g):=fun k hk=>by
      rcases hA.fresh k hk with e | e
      ·have:=ud.out k e;omega
      ·have:=vz.out.lt;omega
     obtain ⟨p7,c7,UB⟩:=hO.shape
     subst UB
     clear hO hA Jg vz ud i9 Nq hwj
     go_wp2_with fail
     refine (Cc w w7 E1 _ jv JD.out yr.out (by have:=vR.out;omega)).mono ?_
     rintro en w8 ⟨r8,rfl,hO,hA⟩
     obtain ⟨E2,yH⟩:∃E2,E1++Ab jv=E2:=⟨_,rfl⟩
     rw [yH] at hO Gy
     have HRm2:Hid (E2.length+(Ab s.length).length+(BF s s.length).length≤1000000000):=by show _≤_;have:=vR.out;rw [← yH,zAB];omega
     have bM:=zAA hO
     have ym:=hA.Ai.AM HG7.out (fun e=>HVg7.out g e rfl)
     have g2:w8.cell? ⟨g,2,none⟩=some (.slice q1 s.length k1):=ym.cell 2
     obtain ⟨p8,c8,MY⟩:=hO.shape
     subst MY
     have Nm:=zAA (cF w w8 E2 _ (.slice q1 s.length k1) s bM.out HRs.out KD.out.2.1 KD.out.1 KD.out.2.2 HRm2.out)
     rw [← Gy.out] at Nm
     clear hO hA JD HG7 ym HVg7 yH vR hwv HRm2 bM Gy
     go_wp2_with fail
     refine Nm.out.mono ?_
     rintro en w9 ⟨r9,rfl,hO⟩
     obtain ⟨L2,Fk⟩:∃L2,E8 t l (i+1)=L2:=⟨_,rfl⟩
     have Jf:=zAA Fk
     rw [Fk] at hO
     have yx:=zAA hO
     obtain ⟨p9,c9,nN⟩:=hO.shape
     subst nN
     clear hO Nm Fk g2
     go_wp2_with fail
     go_round
     case rel=>exact ⟨i+1,by omega,by go_num,(by show AR _ _ _ _;rw [Jf.out];exact yx.out),Ws.out⟩
     case measure=>simp [intOf];omega
    ·rw [E9 gE]
     rw [show max (-1:Int) 0=0 from rfl,show decide ((0:Int)≤-1)=false from rfl]
     have HB:=zAA (EZ.out (fun h=>gE h.2))
     clear gE hn EZ R6
     go_wp2_with fail
     go_ret2
     exact EV.Ep Jg.out.AA HB.out
   ·rw [E9 hn]
    rw [show max (-1:Int) 0=0 from rfl,show decide ((0:Int)≤-1)=false from rfl]
    have HB:=zAA (EZ.out (fun h=>hn h.1))
    clear hn EZ R6
    go_wp2_with fail
    refine (YF.out v1 w5 l5.out).mono ?_
    rintro en w6 ⟨rfl,i7⟩
    have Jg:=zAA (bV.out.below i7)
    generalize decide (0≤Dx t v1)=bb
    generalize max (Dx t v1) 0=jj
    clear YF l5 bV bG g1 i7
    go_wp2_with fail
    go_ret2
    exact EV.Ep Jg.out.AA HB.out
  ·have AF:¬(i:Int)<(l.length:Int):=by omega
   have fO:Hid (Cl t l=(0,E8 t l i)):=by
    have ju:l.take i=l:=zAF (by omega)
    have h:=Km.out
    rw [ju] at h
    show _=_
    rw [So h,Zi t l i (by omega)]
   go_wp2_with fail
   go_ret2
   exact ⟨by rw [fO.out];exact ⟨_,rfl,HO.out.row⟩,HO.out.AA⟩
end Go.Proofs.YtdcgbgecbeegmaaGreatDoor
end
section
namespace Go.Proofs.YtdcgbgecbeegmaaGreatDoor
open Go Go.RowKit Go.Maps
open Go.WideElems (Fit rd rg rd_key rd_val rg_of rd_mk)
open Go.ChangeMaps (setBlock heap_setBlock_same heap_setBlock_other putKey notKey mem_insert_iff)
open Go.WideShapes (sorted_perm)
theorem jI:laidOutB Tryz.prog=true:=by kernel_rfl
theorem Tq:(108 : TypeId) < Tryz.prog.types.size:=zGY (by kernel_rfl)
theorem Wo:(match Tryz.prog.underlying 108 with | some (.array _ _) | some (.struct _)=>true | _=>false)=true:=by rw [Tryz.underlying108]
theorem Xs : Tryz.prog.keyType 108 = true:=by kernel_rfl
theorem ZY:WideMaps.KeyLaw Tryz.prog 108:=deep_law_laid jI (m:=2) (by omega) Tq (by kernel_rfl) Wo
theorem CQ:Keyed Tryz.prog 108:=Keyed.of_law ZY
def NY (x:AC):Value:=.agg #[.string x.1,.string x.2]
theorem Jy {x y:AC} (h:NY x=NY y):x=y:=by
 unfold NY at h
 simp only [Value.agg.injEq,Array.mk.injEq,List.cons.injEq,Value.string.injEq,and_true] at h
 exact Prod.ext h.1 h.2
def F8 (x:AC):Lit:=.string (keyBytes [.string x.1.data.toList,.string x.2.data.toList])
def C7 (x:AC):Prop:=x.1.size≤maxLen∧x.2.size≤maxLen
theorem Lk (d:Nat) (cs:List Value) (L:List Lit) (h : Tryz.prog.keyLits (d+1) 9 cs=some L):∃s:ByteArray,cs=[.string s]∧s.size≤maxLen∧L=[.string s.data.toList]:=by
 unfold Program.keyLits at h
 rw [Tryz.underlying9] at h
 split at h<;>simp_all
theorem GN (d:Nat) (s:ByteArray) (h:s.size≤maxLen) : Tryz.prog.keyLits (d+1) 9 [.string s]=some [.string s.data.toList]:=by
 unfold Program.keyLits
 rw [Tryz.underlying9]
 simp [h]
theorem MO : Tryz.prog.cellsOf 108 = 2:=by kernel_rfl
theorem JU : Tryz.prog.cellsOf 9 = 1:=by kernel_rfl
theorem DM {x:AC} (h:C7 x):keyOf Tryz.prog 108 (NY x)=some (F8 x):=by
 obtain ⟨m,hm⟩:∃m,Tryz.prog.types.size=m+1:=⟨_,(Nat.succ_pred_eq_of_pos (zGS (zAJ _) Tq)).symm⟩
 have hf:(NY x).formed Tryz.prog 108 = true:=by simp [NY,Value.formed,Tryz.underlying108,MO]
 have hl : Tryz.prog.keyLits (m+1+1) 108 (NY x).cells.toList=some [.string x.1.data.toList,.string x.2.data.toList]:=by
  unfold Program.keyLits
  rw [Tryz.underlying108]
  simp [NY,Value.cells,MO,JU,GN m _ h.1,GN m _ h.2]
 unfold keyOf
 rw [Tryz.underlying108]
 simp only [Xs,hf,Bool.and_self,zHC,hm,hl,zEV]
 rfl
theorem Mv {v:Value} {kl:Lit} (h:keyOf Tryz.prog 108 v=some kl):∃x:AC,v=NY x∧kl=F8 x∧C7 x:=by
 obtain ⟨xs,L,rfl,hl,rfl⟩:=keyOf_top Wo h
 obtain ⟨m,hm⟩:∃m,Tryz.prog.types.size=m+1:=⟨_,(Nat.succ_pred_eq_of_pos (zGS (zAJ _) Tq)).symm⟩
 rw [hm] at hl
 unfold Program.keyLits at hl
 rw [Tryz.underlying108] at hl
 simp only [MO] at hl
 split at hl
 ·next hc=>
  cases xs with | mk xs=>
  match xs,hc,hl with
  | [a,b],hc,hl=>
   cases e1 : Tryz.prog.keyLits (m+1) 9 [a] with
   | none=>simp [e1,JU] at hl
   | some l1=>
    cases e2 : Tryz.prog.keyLits (m+1) 9 [b] with
    | none=>simp [e1,e2,JU] at hl
    | some l2=>
     simp [e1,e2,JU] at hl
     obtain ⟨s1,f1,g1,rfl⟩:=Lk m _ _ e1
     obtain ⟨s2,f2,g2,rfl⟩:=Lk m _ _ e2
     cases f1
     cases f2
     subst hl
     exact ⟨(s1,s2),rfl,rfl,g1,g2⟩
 ·cases hl
theorem n7 {x y:AC} (hx:C7 x) (hy:C7 y) (h:F8 x=F8 y):x=y:=Jy (CQ.inj (h ▸ DM hx) (DM hy))
def iw:Value→Option (DataW Value × List MemPlace)
 | .slice p n c=>some (.held (.slice p n c),[])
 | _=>none
theorem Wz {v:Value} {y:DataW Value × List MemPlace} (h:iw v=some y):y=(.held v,[])∧∃q:Option Addr × Nat × Nat,v = .slice q.1 q.2.1 q.2.2:=by
 cases v<;>simp [iw] at h
 next p n c=>exact ⟨h.symm,(p,n,c),rfl⟩
theorem wt {v:Value} (h:∃p n c,v = .slice p n c):iw v=some (.held v,[]):=by
 obtain ⟨p,n,c,rfl⟩:=h
 rfl
theorem Mz {w:World} {b:Nat} {es:Array MapEntry} {clock:Nat} (hb:w.heap[b]? = some (.map es clock)) (o:Obj):Ac (fun k=>k=b) w (setBlock w b o):=
 ⟨rfl,rfl,rfl,by simp [setBlock],fun i _ hi=>heap_setBlock_other hb _ hi⟩
structure ze (w:World) (b base N:Nat) (F:AC→List Int) (es:Array MapEntry) (clock:Nat):Prop where
 AM:w.heap[b]? = some (.map es clock)
 fit:Fit Tryz.prog 108 iw es clock
 size:es.size≤N
 low:b<base
 own:∀x∈es.toList,∃l:AC,C7 l∧x.key=NY l∧F l≠[]∧w.ownsRow base 3 1 x.val (F l).length (A1 (F l))
 all:∀l,F l≠[]→∃x∈es.toList,x.key=NY l
 apart:∀x∈es.toList,∀y∈es.toList,x.key≠y.key→x.val.ownBlock=none∨x.val.ownBlock≠y.val.ownBlock
def R3 (w:World) (b base N:Nat) (F:AC→List Int):Prop:=∃es clock,ze w b base N F es clock
theorem R3.made (w:World):R3 (w.alloc (.map #[] 0)) w.heap.size (w.heap.size+1) 0 (fun _=>[]):=
 ⟨#[],0,(MapKept.heap_alloc w _).1,⟨by simp,MapKept.stamped_empty 0,by simp⟩,zAD _,Nat.lt_succ_self _,by simp,fun l h=>absurd rfl h,by simp⟩
theorem R3.Ai {S:Nat→Prop} {w w':World} {b base N:Nat} {F:AC→List Int} (h:R3 w b base N F) (hm:Ac S w w') (hb:¬S b) (hs:∀k,base≤k→k<w.heap.size→¬S k):R3 w' b base N F:=by
 obtain ⟨es,clock,g⟩:=h
 refine ⟨es,clock,(hm.block b (zAX.1 g.AM).1 hb).trans g.AM,g.fit,g.size,g.low,fun x hx=>?_,g.all,g.apart⟩
 obtain ⟨l,h0,h1,h2,h3⟩:=g.own x hx
 exact ⟨l,h0,h1,h2,hm.owns h3 (fun k hk=>hs k (h3.lt k hk).1 (h3.lt k hk).2)⟩
theorem R3.below {w w':World} {b base N:Nat} {F:AC→List Int} (h:R3 w b base N F) (hb:Below w.heap.size w w'):R3 w' b base N F:=
 h.Ai (Ac.Ah hb (fun _=>False)) (fun h=>h) (fun _ _ _ h=>h)
theorem R3.congr {w:World} {b base N:Nat} {F G:AC→List Int} (h:R3 w b base N F) (e:∀x,F x=G x):R3 w b base N G:=by
 obtain rfl:F=G:=funext e
 exact h
theorem i6 {w:World} {b base N:Nat} {F:AC→List Int} (h:R3 w b base N F) (hN:N<maxLen) (l:AC) (hl:C7 l) :
  ∃(v0:Value) (st:Nat) (w1:World),(Instr.mapEntry 161 (.map (some b)) (NY l)).run Tryz.prog w = .ok (.tuple #[v0,goInt st]) w1∧w1.ownsRow base 3 1 v0 (F l).length (A1 (F l))∧Ac (fun k=>k=b) w w1∧w1.heap.size=w.heap.size∧
   ∀(w2:World) (v':Value) (n:Int),Ac (fun k=>v0.ownBlock=some k) w1 w2→w2.ownsRow base 3 1 v' (F l++[n]).length (A1 (F l++[n]))→AG w1.heap.size v0 v'→
    ∃w3,(Instr.entryStore 161 (.map (some b)) (goInt st) v').run Tryz.prog w2 = .ok () w3∧R3 w3 b base (N+1) (fun x=>if x=l then F l++[n] else F x)∧Ac (fun k=>k=b) w2 w3:=by
 obtain ⟨es,clock,g⟩:=h
 have ht : Tryz.prog.underlying 161 = some (.map 108 59):=Tryz.underlying161
 obtain ⟨v0,st,es1,clock1,J0,hwho0,Vz⟩:=WideElems.entry_then_store ZY ht (fun u=>Tryz.zeroValue59 u) g.AM g.fit (DM hl)
 have hblt:=(zAX.1 g.AM).1
 have G6:Ac (fun k=>k=b) w (setBlock w b (.map es1 clock1)):=Mz g.AM _
 have Yy:w.ownsRow base 3 1 v0 (F l).length (A1 (F l))∧∀x∈es.toList,x.key≠NY l→x.val.ownBlock=none∨x.val.ownBlock≠v0.ownBlock:=by
  rcases hwho0 with ⟨e0,Xc,T2,rfl⟩ | ⟨uI,rfl⟩
  ·obtain ⟨l',h0,h1,h2,h3⟩:=g.own e0 Xc
   obtain rfl:=Jy (T2.symm.trans h1)
   exact ⟨h3,fun x hx BC=>g.apart x hx e0 Xc (by rw [T2];exact BC)⟩
  ·have hF:F l=[]:=by
    by_cases e:F l=[]
    ·exact e
    ·obtain ⟨x,hx,hk⟩:=g.all l e
     exact absurd hk (uI x hx)
   rw [hF]
   refine ⟨zBI _ _ _ _,fun x hx _=>?_⟩
   cases hx':x.val.ownBlock with
   | none=>exact Or.inl rfl
   | some k=>exact Or.inr (by simp [Value.ownBlock])
 obtain ⟨uJ,hap0⟩:=Yy
 have ZL:=G6.owns uJ (fun k hk e=>by have h1:=(uJ.lt k hk).1;have h2:=g.low;omega)
 refine ⟨v0,st,_,J0,ZL,G6,by simp [setBlock],fun w2 v' n F6 nE DK=>?_⟩
 have LQ:w2.heap[b]? = some (.map es1 clock1):=(F6.block b (by simp [setBlock];exact hblt) (fun e=>by have h1:=(ZL.lt b e).1;have h2:=g.low;omega)).trans (heap_setBlock_same g.AM _)
 obtain ⟨es',clock',hrun3,hupd⟩:=Vz w2 v' LQ
 have qY:∃p n c,v' = .slice p n c:=by obtain ⟨p,c,e⟩:=(Rd.Ad nE).shape;exact ⟨p,_,c,e⟩
 obtain ⟨es2,clock2,uO,nm,xz,_,_,xK⟩:=Maps.fit_store (R':=iw) CQ ht g.AM g.fit (zGS g.size hN) (fun _ _ _ _ h=>h) (DM hl) (wt qY)
 have hee:es'=es2∧clock'=clock2:=by
  rw [hupd] at uO
  have e1:setBlock w b (.map es' clock')=setBlock w b (.map es2 clock2):=by simpa using uO
  have e2:=heap_setBlock_same g.AM (.map es' clock')
  rw [e1,heap_setBlock_same g.AM] at e2
  simp only [zCW,Obj.map.injEq] at e2
  exact ⟨e2.1.symm,e2.2.symm⟩
 obtain ⟨rfl,rfl⟩:=hee
 have lm:Ac (fun k=>k=b) w2 (setBlock w2 b (.map es' clock')):=Mz LQ _
 refine ⟨_,hrun3,⟨es',clock',heap_setBlock_same LQ _,nm,?_,g.low,?_,?_,?_⟩,lm⟩
 ·have e1:es'.size=((es'.toList.map (rg Tryz.prog 108 iw)).foldr DataW.insert []).length:=by rw [(sorted_perm _).length_eq];simp
  rw [e1,xz,putKey,(WideShapes.insert_perm _ _).length_eq,zAH]
  have e2:=zFT (notKey (F8 l)) ((es.toList.map (rg Tryz.prog 108 iw)).foldr DataW.insert [])
  rw [(sorted_perm _).length_eq] at e2
  have e3:=g.size
  simp at e2
  omega
 ·intro x hx
  rcases xK x hx with ⟨GD,BC⟩ | ⟨hk,hv⟩
  ·obtain ⟨l',h0,h1,h2,h3⟩:=g.own x GD
   have sG:l'≠l:=fun e=>BC (by rw [h1,e])
   refine ⟨l',h0,h1,by rw [if_neg sG];exact h2,?_⟩
   rw [if_neg sG]
   have k1:=G6.owns h3 (fun k hk e=>by have a1:=(h3.lt k hk).1;have a2:=g.low;omega)
   have k2:=F6.owns k1 (fun k hk e=>by
    rcases hap0 x GD BC with f | f
    ·rw [f] at hk;cases hk
    ·exact f (hk.trans e.symm))
   exact lm.owns k2 (fun k hk e=>by have a1:=(h3.lt k hk).1;have a2:=g.low;omega)
  ·refine ⟨l,hl,hk,by rw [if_pos rfl];simp,?_⟩
   rw [if_pos rfl,hv]
   exact lm.owns nE (fun k hk e=>by have a1:=(nE.lt k hk).1;have a2:=g.low;omega)
 ·intro l' BC
  have key:∀p,p∈putKey (F8 l) (DataW.held v') ((es.toList.map (rg Tryz.prog 108 iw)).foldr DataW.insert [])→∃x∈es'.toList,keyOf Tryz.prog 108 x.key=some p.1:=fun p hp=>by
   rw [← xz,(sorted_perm _).mem_iff] at hp
   obtain ⟨x,hx,rfl⟩:=zBU.1 hp
   obtain ⟨y,hy⟩:=nm.reads x hx
   exact ⟨x,hx,by rw [rg_of hy];exact rd_key hy⟩
  by_cases e:l'=l
  ·subst e
   obtain ⟨x,hx,hk⟩:=key (F8 l',.held v') (mem_insert_iff.2 (Or.inl rfl))
   exact ⟨x,hx,CQ.inj hk (DM hl)⟩
  ·rw [if_neg e] at BC
   obtain ⟨x,hx,hk⟩:=g.all l' BC
   obtain ⟨y,hy⟩:=g.fit.reads x hx
   have hkx:=rd_key hy
   have Ch:(rg Tryz.prog 108 iw x)∈putKey (F8 l) (DataW.held v') ((es.toList.map (rg Tryz.prog 108 iw)).foldr DataW.insert []):=by
    refine mem_insert_iff.2 (Or.inr (List.mem_filter.2 ⟨(sorted_perm _).mem_iff.2 (zBU.2 ⟨x,hx,rfl⟩),?_⟩))
    rw [Maps.notKey_iff (CQ.key (DM hl)),rg_of hy]
    intro e1
    rw [e1] at hkx
    have:=CQ.inj hkx (DM hl)
    rw [hk] at this
    exact e (Jy this)
   obtain ⟨x',hx',hk'⟩:=key _ Ch
   rw [rg_of hy] at hk'
   exact ⟨x',hx',by rw [← hk];exact CQ.inj hk' hkx⟩
 ·have RA:∀x∈es.toList,x.key≠NY l→x.val.ownBlock=none∨x.val.ownBlock≠v'.ownBlock:=by
   intro x hx BC
   cases hx':x.val.ownBlock with
   | none=>exact Or.inl rfl
   | some k=>
    refine Or.inr (fun e1=>?_)
    rcases DK k e1.symm with f | f
    ·rcases hap0 x hx BC with e | e
     ·rw [hx'] at e;cases e
     ·exact e (hx'.trans f.symm)
    ·obtain ⟨l',_,_,_,h3⟩:=g.own x hx
     have:=(h3.lt k hx').2
     simp [setBlock] at f
     omega
  intro x hx y hy BC
  rcases xK x hx with ⟨GD,q5⟩ | ⟨q5,za⟩<;>rcases xK y hy with ⟨hy0,hyk⟩ | ⟨hyk,hyv⟩
  ·exact g.apart x GD y hy0 BC
  ·rw [hyv];exact RA x GD q5
  ·rw [za]
   cases hv':v'.ownBlock with
   | none=>exact Or.inl rfl
   | some k=>
    refine Or.inr (fun e1=>?_)
    rcases RA y hy0 hyk with f | f
    ·rw [f] at e1;cases e1
    ·exact f (by rw [hv',e1])
  ·exact absurd (q5.trans hyk.symm) BC
end Go.Proofs.YtdcgbgecbeegmaaGreatDoor
end
section
namespace Go.Proofs.YtdcgbgecbeegmaaGreatDoor
open Go Go.RowKit Go.Maps
open Go.WideElems (Fit rd rg rd_key rd_val rg_of rd_mk)
section
structure ui (w0:World) (base N:Nat) (F:AC→List Int) (D:DataW Value):Prop where
 has:∀x,C7 x→(Maps.has D (F8 x)=true↔F x≠[])
 at_:∀(x:AC) (c:Value),C7 x→(∀zd,D.atKey (F8 x) zd = .held c)→F x≠[]∧w0.ownsRow base 3 1 c (F x).length (A1 (F x))
theorem R3.mapOf {w:World} {b base N:Nat} {F:AC→List Int} (h:R3 w b base N F):∃D,w.ownsMap Tryz.prog 108 iw b N D∧ui w base N F D:=by
 obtain ⟨es,clock,g⟩:=h
 have ht : Tryz.prog.underlying 161 = some (.map 108 59):=Tryz.underlying161
 have look:=fun (x:AC) (hx:C7 x)=>Maps.fit_look (w:=w) false CQ ht (Tryz.zeroValue59 w) g.AM g.fit (DM hx)
 refine ⟨_,⟨es,clock,g.AM,g.fit,g.size,rfl⟩,⟨fun x hx=>?_,fun x c hx Jv=>?_⟩⟩
 ·rcases look x hx with ⟨_,uI,Jv⟩ | ⟨e0,y,Xc,hk,_,_,Jv,_⟩
  ·have hf:=has_false_of_atKey Jv
   constructor
   ·intro e;rw [hf] at e;cases e
   ·intro e
    obtain ⟨x',hx',hk⟩:=g.all x e
    exact absurd hk (uI x' hx')
  ·have hf:=has_true_of_atKey Jv
   refine ⟨fun _=>?_,fun _=>hf⟩
   obtain ⟨l,_,h1,h2,_⟩:=g.own e0 Xc
   obtain rfl:=Jy (hk.symm.trans h1)
   exact h2
 ·rcases look x hx with ⟨_,uI,wV⟩ | ⟨e0,y,Xc,hk,_,hR,wV,_⟩
  ·have h1:=Jv (.lit (.bool true))
   rw [wV] at h1
   cases h1
  ·obtain ⟨l,_,h1,h2,h3⟩:=g.own e0 Xc
   obtain rfl:=Jy (hk.symm.trans h1)
   refine ⟨h2,?_⟩
   have e1:=Jv .nil
   rw [wV,(Wz hR).1] at e1
   simp only [DataW.held.injEq] at e1
   rw [← e1]
   exact h3
theorem XC {w w':World} {row:Option Nat} (h:Ac (fun k=>row=some k) w w'):w.grownBy w' row:=
 ⟨h.os,h.tape,h.output,h.size,fun k hk hn=>h.block k hk (fun e=>hn e.symm)⟩
theorem C6.yf {t:TypeId} {S:Nat→Prop} {w wr w1:World} {M:List Jk} {v:Value} (k:C6 t w wr M v) (hm:Ac S wr w1) (hv:∀j,v.ownBlock=some j→¬S j) (hs:∀p∈M,∀j,p.2.ownBlock=some j→¬S j) (hw:∀j,j<w.heap.size→¬S j):C6 t w w1 M v:=
 ⟨hm.owns k.row hv,k.AA.trans (hm.below k.AA.size hw),fun p hp=>⟨(k.KO p hp).1.mods hm (hs p hp),(k.KO p hp).2⟩⟩
def R1 (D:DataW Value) (left:Lit→Bool) (ss:List AC):Prop:=ss.Nodup∧(∀x∈ss,C7 x)∧∀x,C7 x→(x∈ss↔(Maps.has D (F8 x)=true∧left (F8 x)=false))
theorem R1.start (D:DataW Value):R1 D (Maps.has D) []:=⟨List.nodup_nil,fun x h=>(by cases h),fun x _=>by cases Maps.has D (F8 x)<;>simp⟩
theorem R1.step {D:DataW Value} {left:Lit→Bool} {ss:List AC} (h:R1 D left ss) {x:AC} {y:DataW Value} (hx:C7 x) (Yv:left (F8 x)=true) (Jv:∀zd,D.atKey (F8 x) zd=y):R1 D (fun z=>left z && !z.sameKey (F8 x)) (ss++[x]):=by
 have xj:Maps.has D (F8 x)=true:=has_true_of_atKey Jv
 have RA:x∉ss:=fun hm=>by have:=((h.2.2 x hx).1 hm).2;rw [Yv] at this;cases this
 have hself:(F8 x).sameKey (F8 x)=true:=WideAt.sameKey_self (CQ.key (DM hx))
 refine ⟨List.nodup_append.2 ⟨h.1,by simp,fun a ha b hb=>by simp at hb;subst hb;exact fun e=>RA (e ▸ ha)⟩,fun z hz=>?_,fun z hz=>?_⟩
 ·rcases zBJ.1 hz with e | e
  ·exact h.2.1 z e
  ·simp at e;subst e;exact hx
 ·by_cases e:z=x
  ·subst e;simp [xj,hself]
  ·have hs:(F8 z).sameKey (F8 x)=false:=by
    cases hc:(F8 z).sameKey (F8 x) with
    | false=>rfl
    | true=>exact absurd (n7 hz hx (WideAt.sameKey_eq hc)) e
   simp [h.2.2 z hz,e,hs]
theorem R1.mem {w0:World} {base N:Nat} {F:AC→List Int} {D:DataW Value} {left:Lit→Bool} {ss:List AC} (h:R1 D left ss) (hk:ui w0 base N F D) (hl:∀kl,left kl=false) (hf:∀x,F x≠[]→C7 x) (x:AC):x∈ss↔F x≠[]:=by
 constructor
 ·intro hx
  have h1:=h.2.1 x hx
  exact (hk.has x h1).1 ((h.2.2 x h1).1 hx).1
 ·intro hx
  have h1:=hf x hx
  exact (h.2.2 x h1).2 ⟨(hk.has x h1).2 hx,hl _⟩
theorem aB {l:List (List AC)} {x:AC}:BX l l.length x≠[]↔x∈A4 l l.length:=by
 constructor
 ·intro h
  exact Decidable.byContradiction fun hn=>h (Te hn)
 ·intro h hn
  rw [A4,zCT] at h
  obtain ⟨s,hs,hx⟩:=zFM.1 h
  obtain ⟨j,hj,rfl⟩:=zEH hs
  have hm:(j:Int)∈BX l l.length x:=(VW _ _ _ _).2 ⟨j,rfl,hj,by rwa [zBP,zAC hj]⟩
  rw [hn] at hm
  cases hm
theorem built {m:List (List AC)} {M:List Jk} (hs:M.Pairwise (fun a b=>FO b.1.1 a.1.1=false)) (hn:(M.map fun p=>p.1.1).Nodup) (hm:∀x,x∈(M.map fun p=>p.1.1)↔BX m m.length x≠[]) (hF:∀p∈M,p.1.2=BX m m.length p.1.1):M.map Prod.fst=Bk m:=by
 have ha:AN FO (M.map fun p=>p.1.1):=by
  refine zER.2 ?_
  have hn':=zER.1 hn
  exact (hs.and hn').imp fun {a b} h=>by
   rcases zBH (FO a.1.1 b.1.1) with e | e
   ·exact e
   ·exact absurd (CA.kQ _ _ e h.1) h.2
 have hT:(M.map fun p=>p.1.1)=Kh FO (A4 m m.length):=Gl CA.toLtPre _ _ ha (Gw CA _) (fun x=>by rw [hm x,aB,Ly CA])
 rw [LL,SN,Mu,← hT,zEK]
 refine zCR fun p hp=>?_
 show p.1=(p.1.1,BX m m.length p.1.1)
 rw [← hF p hp]
def El (m:List (List AC)) (k:Nat) (s:List AC) (j:Nat) (x:AC):List Int:=BX m k x++if x∈s.take j then [(k:Int)] else []
theorem aV (m:List (List AC)) (k:Nat) (s:List AC) (x:AC):BX m k x=El m k s 0 x:=by simp [El]
theorem aU {m:List (List AC)} {k j:Nat} {s:List AC} {x:AC} (hn:s.Nodup) (hx:s[j]? = some x) (y:AC):(if y=x then El m k s j x++[(k:Int)] else El m k s j y)=El m k s (j+1) y:=by
 have RA:x∉s.take j:=fun hm=>by
  obtain ⟨i,hi,e⟩:=zGJ.1 hm
  obtain ⟨hj,e2⟩:=zAE.1 hx
  exact zBW.1 hn i j (by omega) hj (by omega) (e.trans e2.symm)
 have Ch:∀z,z∈s.take (j+1)↔z∈s.take j∨z=x:=fun z=>by rw [zAL,hx];simp
 unfold El
 by_cases e:y=x
 ·subst e
  rw [if_pos rfl,if_neg RA,if_pos ((Ch y).2 (Or.inr rfl)),zBR]
 ·rw [if_neg e]
  have:y∈s.take (j+1)↔y∈s.take j:=by rw [Ch];simp [e]
  simp only [this]
theorem eX {m:List (List AC)} {k:Nat} {s:List AC} (hs:m[k]? = some s) (j:Nat) (hj:s.length≤j) (x:AC):El m k s j x=BX m (k+1) x:=by
 rw [El,zAF hj,M9,zBP,hs];rfl
theorem eY (m:List (List AC)) (k:Nat) (s:List AC) (j:Nat) (x:AC):(El m k s j x).length≤k+1:=by
 have h:(BX m k x).length≤k:=by
  rw [BX,zAT]
  exact zAW (zFT _ _) (by rw [zEI];exact zAD _)
 unfold El
 rw [zAB]
 split
 ·simp;exact h
 ·simp;omega
theorem Sx {m:List (List AC)} {k:Nat} {s:List AC} (hs:m[k]? = some s):(A4 m (k+1)).length=(A4 m k).length+s.length:=by
 rw [GL (zAE.1 hs).1,zAB,zBP,hs];rfl
theorem Vt (m:List (List AC)) (k:Nat):(A4 m k).length≤m.flatten.length:=by
 have:m.flatten=A4 m k++(m.drop k).flatten:=by rw [A4,← zFE,zBD]
 rw [this,zAB];omega
section
variable {P:Program} {ops:Array Oper} {rest:List Oper} {o:Oper} {a:Act} {Q:Exit→Act→World→Prop}
theorem Ps {w w':World} (hg:o.guard=none) (m x:Operand) (t:TypeId) (hop:o.op=Op.mapEntry t m x) {b:Nat} {key v:Value} (J0:(Instr.mapEntry t (.map (some b)) key).run P w = .ok v w') (hm:a.eval m = .map (some b)) (hx:a.eval x=key)
  (h:wpList P ops Q rest (a.put o.dst v) w'):wpList P ops Q (o::rest) a w:=by
 refine zGQ hg fun K' hK'=>?_
 unfold Oper.wp
 simp [execOp,hop,hm,hx,J0,Result.andThen]
 exact hK' _ _ h
end
end
end Go.Proofs.YtdcgbgecbeegmaaGreatDoor
end
section
namespace Go.Proofs.YtdcgbgecbeegmaaGreatDoor
open Go Go.RowKit
def q8:List Int→Int
 | []=>0
 | x::l=>if x=0 then q8 l else x
theorem xR {l:List Int} {i:Nat} {x:Int} (h:l[i]? = some x) (e:q8 l=q8 (l.drop i)):q8 l=if x=0 then q8 (l.drop (i+1)) else x:=by
 have h1:l.drop i=x::l.drop (i+1):=by rw [zBV (zAE.1 h).1,(zAE.1 h).2]
 rw [e,h1];rfl
theorem iM (v:Value) (l:List Int) (w:World) (hl:Rd w 1 v l.length (A1 l)) (hn:l.length≤1000) :
  Calls Tryz.prog 148 #[v] w fun e w'=>e = .returned (.int .i64 (q8 l))∧w'=w:=by
 have HL:=zAA hl
 obtain ⟨p,c,hv⟩:=hl.shape
 subst hv
 have gB:(l.length:Int)≤1000:=by omega
 clear hl hn
 go_enter Tryz.func148,Tryz.ntmps148
 go_wp2_with fail
 go_loopw [8] (fun iv wr=>∃(i:Nat),i≤l.length∧iv = .int .i64 (i:Int)∧Hid (q8 l=q8 (l.drop i))∧wr=w) (fun iv _=>l.length-(intOf iv).toNat)
 case atStart=>exact ⟨0,zAJ _,rfl,rfl,rfl⟩
 case round=>
  obtain ⟨i,hi,rfl,HO,rfl⟩:=hrel
  have KM:(i:Int)≤1000:=by omega
  by_cases Aq:i<l.length
  ·have AF:(i:Int)<(l.length:Int):=by omega
   obtain ⟨x,hx⟩:∃x,l[i]? = some x:=⟨_,zAC Aq⟩
   obtain ⟨b,off,c',e,_,_,Aj⟩:=HL.out.at (fun e=>by have:=congrArg List.length e;rw [Ce] at this;rw [this] at Aq;simp at Aq)
   simp only [zAN] at e
   obtain ⟨rfl,_,rfl⟩:=e
   have c0:wr.cell? ⟨b,off+i,none⟩=some (.int .i64 x):=Aj i _ (by rw [A1,zBQ,hx];rfl)
   have HX:=zAA (xR hx HO.out)
   clear Aj hx Aq HO
   by_cases h0:x=0
   ·subst h0
    rw [if_pos rfl] at HX
    go_wp2_with fail
    go_round
    case rel=>exact ⟨i+1,by omega,by go_num,HX.out,by first | rfl | trivial⟩
    case measure=>simp [intOf];omega
   ·rw [if_neg h0] at HX
    have xM:(x == 0)=false:=by rw [zAQ];exact h0
    go_wp2_with fail
    go_ret
    exact ⟨by rw [HX.out];rfl,rfl⟩
  ·have AF:¬(i:Int)<(l.length:Int):=by omega
   have HX:Hid (q8 l=0):=by have h:=HO.out;rw [zBF (by omega)] at h;exact h
   go_wp2_with fail
   go_ret
   exact ⟨by rw [HX.out];rfl,rfl⟩
theorem th (x y:AC):q8 [Br x.1 y.1,Br x.2 y.2]=AW x y:=by
 show (if Br x.1 y.1=0 then (if Br x.2 y.2=0 then 0 else Br x.2 y.2) else Br x.1 y.1)=AW x y
 unfold AW Y7
 split
 ·split
  ·next h=>exact h.symm
  ·rfl
 ·rfl
theorem ey (x y:AC) (w:World) :
  Calls Tryz.prog 109 #[.agg #[.string x.1,.string x.2],.agg #[.string y.1,.string y.2]] w fun e w'=>e = .returned (.int .i64 (AW x y))∧Ck w w':=by
 obtain ⟨xn,xv⟩:=x
 obtain ⟨yn,yv⟩:=y
 show Calls Tryz.prog 109 #[.agg #[.string xn,.string xv],.agg #[.string yn,.string yv]] w fun e w'=>e = .returned (.int .i64 (AW (xn,xv) (yn,yv)))∧Ck w w'
 obtain ⟨w1,Cg⟩:∃w1,w1=w.alloc (.cells #[.string xn,.string xv] 108):=⟨_,rfl⟩
 obtain ⟨w2,EC⟩:∃w2,w2=w1.alloc (.cells #[.string yn,.string yv] 108):=⟨_,rfl⟩
 have HW:Hid ((w.alloc (.cells #[.string xn,.string xv] 108)).alloc (.cells #[.string yn,.string yv] 108)=w2):=by show _=_;rw [EC,Cg]
 have HG:Hid (Ck w w2.drew):=by show Ck _ _;rw [EC,Cg];exact (((Ck.refl w).alloc _).alloc _).drew
 have Lg:w1.heap.size=w.heap.size+1:=by rw [Cg];simp
 have HX:Hid (Ao w2.drew w.heap.size [.string xn,.string xv]):=by
  show Ao _ _ _
  rw [EC,Cg];exact ((Ao.new w _ _).alloc _).drew
 have HY:Hid (Ao w2.drew (w.heap.size+1) [.string yn,.string yv]):=by
  show Ao _ _ _
  rw [← Lg,EC];exact (Ao.new w1 _ _).drew
 have HE:=zAA (th (xn,xv) (yn,yv))
 simp only at HE
 have Wr:=zAA (fun W=>Gv xn yn W)
 have RP:=zAA (fun W=>Gv xv yv W)
 generalize Br xn yn=o1 at *
 generalize Br xv yv=o2 at *
 generalize AW (xn,xv) (yn,yv)=cc at *
 clear Cg EC Lg
 go_enter Tryz.func109,Tryz.ntmps109
 go_wp2_with fail
 rw [HW.out]
 clear HW
 obtain ⟨bx,yK⟩:∃bx,w.heap.size=bx:=⟨_,rfl⟩
 rw [yK] at HX HY ⊢
 clear yK
 obtain ⟨bye,PB⟩:∃by',bx+1=by':=⟨_,rfl⟩
 rw [PB] at HY ⊢
 clear PB
 have HS:Hid (∀w':World,(w'.cell? ⟨bx,0,none⟩=some (.string xn)∧w'.cell? ⟨bx,1,none⟩=some (.string xv)∧w'.cell? ⟨bye,0,none⟩=some (.string yn)∧w'.cell? ⟨bye,1,none⟩=some (.string yv))→(w'.cell? ⟨bx,0,none⟩=some (.string xn)∧w'.cell? ⟨bx,1,none⟩=some (.string xv)∧w'.cell? ⟨bye,0,none⟩=some (.string yn)∧w'.cell? ⟨bye,1,none⟩=some (.string yv))):=fun _ h=>h
 refine Gh ?_
 refine AI (fun w':World=>w'.cell? ⟨bx,0,none⟩=some (.string xn)∧w'.cell? ⟨bx,1,none⟩=some (.string xv)∧w'.cell? ⟨bye,0,none⟩=some (.string yn)∧w'.cell? ⟨bye,1,none⟩=some (.string yv)) [4,9,10,11] [0,1,2,3,5,6,7,8,4,9,10,11,12] (by kernel_rfl) (by kernel_rfl) (by kernel_rfl) ?_ ?_ ?_
 ·intro c a a' w hd h;cases h.1
 ·exact ⟨HX.out.cell 0,HX.out.cell 1,HY.out.cell 0,HY.out.cell 1⟩
 simp only [Cj,zBC,zCP,zBE,zAY,zBM]
 generalize w2.drew=w3 at *
 repeat (first
        | (refine takeH_skip rfl ?_; simp only [Act.put, List.setIfInBounds_toArray, List.set_cons_succ, List.set_cons_zero])
        | (refine takeH_blind rfl rfl ?_; apply Exists.intro; refine ⟨fun w => ?_, ?_⟩; (go_simp; try with_reducible rfl); simp only [Act.put, List.setIfInBounds_toArray, List.set_cons_succ, List.set_cons_zero])
        | (refine takeH_reads rfl rfl ?_; apply Exists.intro; refine ⟨fun w' hS => ?_, ?_⟩; (obtain ⟨d0, d1, d2, d3⟩ := HS.out w' hS; go_simp; try with_reducible rfl); simp only [Act.put, List.setIfInBounds_toArray, List.set_cons_succ, List.set_cons_zero]))
 refine AY rfl rfl (fun K' hK=>?_)
 go_wp2_with fail
 refine (Wr.out _).mono ?_
 rintro en w4 ⟨rfl,rfl⟩
 refine hK _ _ ⟨HX.out.cell 0,HX.out.cell 1,HY.out.cell 0,HY.out.cell 1⟩ ?_
 clear hK K' Wr
 repeat (first
        | (refine takeH_skip rfl ?_; simp only [Act.put, List.setIfInBounds_toArray, List.set_cons_succ, List.set_cons_zero])
        | (refine takeH_blind rfl rfl ?_; apply Exists.intro; refine ⟨fun w => ?_, ?_⟩; (go_simp; try with_reducible rfl); simp only [Act.put, List.setIfInBounds_toArray, List.set_cons_succ, List.set_cons_zero])
        | (refine takeH_reads rfl rfl ?_; apply Exists.intro; refine ⟨fun w' hS => ?_, ?_⟩; (obtain ⟨d0, d1, d2, d3⟩ := HS.out w' hS; go_simp; try with_reducible rfl); simp only [Act.put, List.setIfInBounds_toArray, List.set_cons_succ, List.set_cons_zero]))
 refine AY rfl rfl (fun K' hK=>?_)
 go_wp2_with fail
 refine (RP.out _).mono ?_
 rintro en w5 ⟨rfl,rfl⟩
 refine hK _ _ ⟨HX.out.cell 0,HX.out.cell 1,HY.out.cell 0,HY.out.cell 1⟩ ?_
 clear hK K' RP
 obtain ⟨w6,y7⟩:∃w6,w6=w5.alloc (.cells #[.int .i64 o1,.int .i64 o2] 3):=⟨_,rfl⟩
 have HW6:Hid (w5.alloc (.cells #[.int .i64 o1,.int .i64 o2] 3)=w6):=y7.symm
 have vz:Hid (Ck w w6):=by show Ck _ _;rw [y7];exact HG.out.alloc _
 have ue:Hid (Ao w6 bx [.string xn,.string xv]):=by show Ao _ _ _;rw [y7];exact HX.out.alloc _
 have HY6:Hid (Ao w6 bye [.string yn,.string yv]):=by show Ao _ _ _;rw [y7];exact HY.out.alloc _
 have Yk:Hid (Rd w6 1 (.slice (some ⟨w5.heap.size,0,none⟩) 2 2) [o1,o2].length (A1 [o1,o2])):=by
  show Rd _ _ _ _ _
  rw [y7];exact Rd.FQ (n:=2) (Ao.new w5 _ _) rfl (by simp [maxLen])
 have HOr:=zAA (iM _ [o1,o2] w6 Yk.out (by simp))
 rw [HE.out] at HOr
 clear y7 HX HY HG Yk HE
 repeat (first
        | (refine takeH_skip rfl ?_; simp only [Act.put, List.setIfInBounds_toArray, List.set_cons_succ, List.set_cons_zero])
        | (refine takeH_blind rfl rfl ?_; apply Exists.intro; refine ⟨fun w => ?_, ?_⟩; (go_simp; try with_reducible rfl); simp only [Act.put, List.setIfInBounds_toArray, List.set_cons_succ, List.set_cons_zero])
        | (refine takeH_reads rfl rfl ?_; apply Exists.intro; refine ⟨fun w' hS => ?_, ?_⟩; (obtain ⟨d0, d1, d2, d3⟩ := HS.out w' hS; go_simp; try with_reducible rfl); simp only [Act.put, List.setIfInBounds_toArray, List.set_cons_succ, List.set_cons_zero]))
 refine AY rfl rfl (fun K' hK=>?_)
 go_wp2_with fail
 rw [HW6.out]
 refine hK _ _ ⟨ue.out.cell 0,ue.out.cell 1,HY6.out.cell 0,HY6.out.cell 1⟩ ?_
 clear hK K' HW6
 repeat (first
        | (refine takeH_skip rfl ?_; simp only [Act.put, List.setIfInBounds_toArray, List.set_cons_succ, List.set_cons_zero])
        | (refine takeH_blind rfl rfl ?_; apply Exists.intro; refine ⟨fun w => ?_, ?_⟩; (go_simp; try with_reducible rfl); simp only [Act.put, List.setIfInBounds_toArray, List.set_cons_succ, List.set_cons_zero])
        | (refine takeH_reads rfl rfl ?_; apply Exists.intro; refine ⟨fun w' hS => ?_, ?_⟩; (obtain ⟨d0, d1, d2, d3⟩ := HS.out w' hS; go_simp; try with_reducible rfl); simp only [Act.put, List.setIfInBounds_toArray, List.set_cons_succ, List.set_cons_zero]))
 refine AY rfl rfl (fun K' hK=>?_)
 go_wp2_with fail
 refine HOr.out.mono ?_
 rintro en w7 ⟨rfl,rfl⟩
 refine hK _ _ ⟨ue.out.cell 0,ue.out.cell 1,HY6.out.cell 0,HY6.out.cell 1⟩ ?_
 clear hK K' HOr
 repeat (first
        | (refine takeH_skip rfl ?_; simp only [Act.put, List.setIfInBounds_toArray, List.set_cons_succ, List.set_cons_zero])
        | (refine takeH_blind rfl rfl ?_; apply Exists.intro; refine ⟨fun w => ?_, ?_⟩; (go_simp; try with_reducible rfl); simp only [Act.put, List.setIfInBounds_toArray, List.set_cons_succ, List.set_cons_zero])
        | (refine takeH_reads rfl rfl ?_; apply Exists.intro; refine ⟨fun w' hS => ?_, ?_⟩; (obtain ⟨d0, d1, d2, d3⟩ := HS.out w' hS; go_simp; try with_reducible rfl); simp only [Act.put, List.setIfInBounds_toArray, List.set_cons_succ, List.set_cons_zero]))
 refine Bv ?_
 go_wp2_with fail
 go_ret
 exact ⟨rfl,vz.out⟩
theorem YZ (x y:AC) (p q:Option Addr) (n c m d:Nat) (w:World) :
  Calls Tryz.prog 108 #[.agg #[.string x.1,.string x.2,.slice p n c],.agg #[.string y.1,.string y.2,.slice q m d]] w fun e w'=>e = .returned (.int .i64 (AW x y))∧Ck w w':=by
 obtain ⟨xn,xv⟩:=x
 obtain ⟨yn,yv⟩:=y
 show Calls Tryz.prog 108 #[.agg #[.string xn,.string xv,.slice p n c],.agg #[.string yn,.string yv,.slice q m d]] w fun e w'=>e = .returned (.int .i64 (AW (xn,xv) (yn,yv)))∧Ck w w'
 obtain ⟨w1,Cg⟩:∃w1,w1=w.alloc (.cells #[.string xn,.string xv,.slice p n c] 157):=⟨_,rfl⟩
 obtain ⟨w2,EC⟩:∃w2,w2=w1.alloc (.cells #[.string yn,.string yv,.slice q m d] 157):=⟨_,rfl⟩
 have HW:Hid ((w.alloc (.cells #[.string xn,.string xv,.slice p n c] 157)).alloc (.cells #[.string yn,.string yv,.slice q m d] 157)=w2):=by show _=_;rw [EC,Cg]
 have HG:Hid (Ck w w2):=by show Ck _ _;rw [EC,Cg];exact ((Ck.refl w).alloc _).alloc _
 have Lg:w1.heap.size=w.heap.size+1:=by rw [Cg];simp
 have hX:Ao w2 w.heap.size [.string xn,.string xv,.slice p n c]:=by rw [EC,Cg];exact (Ao.new w _ _).alloc _
 have hY:Ao w2 (w.heap.size+1) [.string yn,.string yv,.slice q m d]:=by rw [← Lg,EC];exact Ao.new w1 _ _
 have x0:w2.cell? ⟨w.heap.size,0,none⟩=some (.string xn):=hX.cell 0
 have x1:w2.cell? ⟨w.heap.size,1,none⟩=some (.string xv):=hX.cell 1
 have y0:w2.cell? ⟨w.heap.size+1,0,none⟩=some (.string yn):=hY.cell 0
 have y1:w2.cell? ⟨w.heap.size+1,1,none⟩=some (.string yv):=hY.cell 1
 have HC:=zAA (ey (xn,xv) (yn,yv) w2)
 clear Cg EC hX hY Lg
 generalize AW (xn,xv) (yn,yv)=o at *
 go_enter Tryz.func108,Tryz.ntmps108
 go_wp2_with fail
 rw [HW.out]
 clear HW
 go_wp2_with fail
 refine HC.out.mono ?_
 rintro e w3 ⟨rfl,hG⟩
 have Ub:=zAA (HG.out.trans hG)
 clear HC hG x0 x1 y0 y1
 go_wp2_with fail
 go_ret
 exact ⟨rfl,Ub.out⟩
section
def eT:Go.Shelf.Ren:=⟨fun | 6=>107 | 14=>147 | 15=>122 | 20=>199 | 21=>200 | 22=>201 | 23=>202 | 24=>203 | 25=>204 | 26=>205 | 27=>206 | 28=>168 | 29=>169 | 46=>244 | 47=>218 | 48=>219 | 49=>245 | 50=>246 | 57=>284 | n=>n,fun | 0=>0 | 3=>3 | 4=>4 | 5=>5 | 9=>9 | 22=>104 | 24=>157 | 25=>164 | 39=>177 | 45=>223 | 46=>224 | 50=>158 | 53=>139 | 55=>81 | 66=>267 | 70=>271 | 76=>321 | 77=>210 | n=>n,fun n=>n⟩
theorem QQ:Go.Proofs.SlLaysF0.n6 Tryz.prog eT:={ mixed:=by kernel_rfl,f6:=⟨ "slices.SortFunc[[]tsblock/postings.Entry,tsblock/postings.Entry]",by decide,Tryz.func107.trans (congrArg some (by kernel_rfl))⟩,f14:=⟨ "slices.pdqsortCmpFunc[tsblock/postings.Entry]",by decide,Tryz.func147.trans (congrArg some (by kernel_rfl))⟩,f15:=Tryz.func122.trans (congrArg some (by kernel_rfl)),f20:=⟨ "slices.insertionSortCmpFunc[tsblock/postings.Entry]",by decide,Tryz.func199.trans (congrArg some (by kernel_rfl))⟩,f21:=⟨ "slices.heapSortCmpFunc[tsblock/postings.Entry]",by decide,Tryz.func200.trans (congrArg some (by kernel_rfl))⟩,f22:=⟨ "slices.breakPatternsCmpFunc[tsblock/postings.Entry]",by decide,Tryz.func201.trans (congrArg some (by kernel_rfl))⟩,f23:=⟨ "slices.choosePivotCmpFunc[tsblock/postings.Entry]",by decide,Tryz.func202.trans (congrArg some (by kernel_rfl))⟩,f24:=⟨ "slices.reverseRangeCmpFunc[tsblock/postings.Entry]",by decide,Tryz.func203.trans (congrArg some (by kernel_rfl))⟩,f25:=⟨ "slices.partialInsertionSortCmpFunc[tsblock/postings.Entry]",by decide,Tryz.func204.trans (congrArg some (by kernel_rfl))⟩,f26:=⟨ "slices.partitionEqualCmpFunc[tsblock/postings.Entry]",by decide,Tryz.func205.trans (congrArg some (by kernel_rfl))⟩,f27:=⟨ "slices.partitionCmpFunc[tsblock/postings.Entry]",by decide,Tryz.func206.trans (congrArg some (by kernel_rfl))⟩,f28:=Tryz.func168.trans (congrArg some (by kernel_rfl)),f29:=Tryz.func169.trans (congrArg some (by kernel_rfl)),f46:=⟨ "slices.siftDownCmpFunc[tsblock/postings.Entry]",by decide,Tryz.func244.trans (congrArg some (by kernel_rfl))⟩,f47:=Tryz.func218.trans (congrArg some (by kernel_rfl)),f48:=Tryz.func219.trans (congrArg some (by kernel_rfl)),f49:=⟨ "slices.medianAdjacentCmpFunc[tsblock/postings.Entry]",by decide,Tryz.func245.trans (congrArg some (by kernel_rfl))⟩,f50:=⟨ "slices.medianCmpFunc[tsblock/postings.Entry]",by decide,Tryz.func246.trans (congrArg some (by kernel_rfl))⟩,f57:=⟨ "slices.order2CmpFunc[tsblock/postings.Entry]",by decide,Tryz.func284.trans (congrArg some (by kernel_rfl))⟩,t0:=Tryz.underlying0,a0:=Tryz.isAgg0,z0:=Tryz.sizeOf0,v0:=Tryz.zeroValue0,t3:=Tryz.underlying3,a3:=Tryz.isAgg3,z3:=Tryz.sizeOf3,v3:=Tryz.zeroValue3,t4:=Tryz.underlying4,a4:=Tryz.isAgg4,z4:=Tryz.sizeOf4,v4:=Tryz.zeroValue4,t5:=Tryz.underlying5,a5:=Tryz.isAgg5,z5:=Tryz.sizeOf5,v5:=Tryz.zeroValue5,t9:=Tryz.underlying9,a9:=Tryz.isAgg9,z9:=Tryz.sizeOf9,v9:=Tryz.zeroValue9,t22:=Tryz.underlying104,a22:=Tryz.isAgg104,z22:=Tryz.sizeOf104,v22:=Tryz.zeroValue104,t25:=Tryz.underlying164,a25:=Tryz.isAgg164,z25:=Tryz.sizeOf164,v25:=Tryz.zeroValue164,t39:=Tryz.underlying177,a39:=Tryz.isAgg177,z39:=Tryz.sizeOf177,v39:=Tryz.zeroValue177,t45:=Tryz.underlying223,a45:=Tryz.isAgg223,z45:=Tryz.sizeOf223,v45:=Tryz.zeroValue223,t46:=Tryz.underlying224,a46:=Tryz.isAgg224,z46:=Tryz.sizeOf224,v46:=Tryz.zeroValue224,t50:=Tryz.underlying158,a50:=Tryz.isAgg158,z50:=Tryz.sizeOf158,v50:=Tryz.zeroValue158,t53:=Tryz.underlying139,a53:=Tryz.isAgg139,z53:=Tryz.sizeOf139,v53:=Tryz.zeroValue139,t55:=Tryz.underlying81,a55:=Tryz.isAgg81,z55:=Tryz.sizeOf81,v55:=Tryz.zeroValue81,t66:=Tryz.underlying267,a66:=Tryz.isAgg267,z66:=Tryz.sizeOf267,v66:=Tryz.zeroValue267,t70:=Tryz.underlying271,a70:=Tryz.isAgg271,z70:=Tryz.sizeOf271,v70:=Tryz.zeroValue271,t76:=Tryz.underlying321,a76:=Tryz.isAgg321,z76:=Tryz.sizeOf321,v76:=Tryz.zeroValue321,t77:=Tryz.underlying210,a77:=Tryz.isAgg210,z77:=Tryz.sizeOf210,v77:=Tryz.zeroValue210 }
abbrev R2 (w:World) (g:Nat):Type:={p:Jk // Rd w 1 p.2 p.1.2.length (A1 p.1.2)∧JO (fun k=>k=g) p.2 p.1.2}
instance (w:World) (g:Nat):Inhabited (R2 w g):=⟨⟨(((⟨#[]⟩,⟨#[]⟩),[]),.slice none 0 0),⟨Rd.nil _ _,fun e=>absurd rfl e⟩⟩⟩
section
variable {w:World} {g:Nat}
def K7 (x:R2 w g):List Value:=sh x.1
theorem iT (x:R2 w g):∀v∈K7 x,v.oneCell'=true:=by
 intro v hv
 obtain ⟨p1,c1,e1⟩:=x.2.1.shape
 simp only [K7,sh,zAS,zCX,zGU] at hv
 rcases hv with rfl | rfl | rfl
 ·rfl
 ·rfl
 ·rw [e1];rfl
def mw (x y:R2 w g):Int:=AW x.1.1.1 y.1.1.1
theorem ST:ltOf (mw (w:=w) (g:=g))=fun x y=>FO x.1.1.1 y.1.1.1:=by
 funext x y
 show decide (AW x.1.1.1 y.1.1.1<0)=decide (AW x.1.1.1 y.1.1.1 = -1)
 rw [zHB]
 have:=CL.Yo x.1.1.1 y.1.1.1
 omega
theorem kH:Go.Sort.SWO (ltOf (mw (w:=w) (g:=g))):=by
 rw [ST]
 refine ⟨fun x=>CA.SP _,fun x y z=>CA.tr _ _ _,fun x y z h1 h2=>?_⟩
 rcases zBH (FO x.1.1.1 z.1.1.1) with e | e
 ·rcases zBH (FO y.1.1.1 x.1.1.1) with f | f
  ·have:=CA.tr _ _ _ f e
   rw [h2] at this;cases this
  ·have KH:=CA.kQ _ _ h1 f
   rw [KH,h2] at e;cases e
 ·exact e
theorem Sn (l:List (R2 w g)):l.flatMap K7=Bx (l.map fun x=>x.1):=by
 induction l with
 | nil=>rfl
 | cons x l ih=>rw [zBN,ih];rfl
end
theorem qg (w0 w:World) (v:Value) (M:List Jk) (h:C6 157 w0 w M v) (hn:M.length≤1000000) :
  Calls Tryz.prog 107 #[v,.func (.func 108) #[] #[]] w fun e w'=>e = .returned (.tuple #[])∧∃M',List.Perm M' M∧M'.Pairwise (fun a b=>FO b.1.1 a.1.1=false)∧C6 157 w0 w' M' v:=by
 have RC:=h.row
 rcases RC.2 with ⟨hv,h0⟩ | ⟨g,cap,cur,hv,FB,MX,r1,r2,r3,r4⟩
 ·subst hv
  refine (AnyF.slices_SortFunc_none QQ none 0 _ w).mono ?_
  rintro e w' ⟨rfl,rfl⟩
  have wW:M=[]:=zAI h0
  exact ⟨rfl,M,zGZ _,by rw [wW];exact List.Pairwise.nil,h⟩
 ·subst hv
  have SC:∀p∈M,Rd w 1 p.2 p.1.2.length (A1 p.1.2)∧JO (fun k=>k=g) p.2 p.1.2:=fun p hp=>
   ⟨(h.KO p hp).1,fun e k hk hg=>(h.KO p hp).2 e k hk (by rw [hg];rfl)⟩
  obtain ⟨l,gB⟩:∃l:List (R2 w g),l.map Subtype.val=M:=⟨M.pmap (fun p h=>⟨p,h⟩) SC,by rw [List.map_pmap];exact (List.pmap_eq_map (f:=id) _).trans (List.map_id _)⟩
  have Xh:l.map (fun x=>x.1)=M:=gB
  have JG:M.length=l.length:=by rw [← Xh,zAT]
  rw [← Xh,← Sn,zAT] at r4
  have hk:∀x:R2 w g,(K7 x).length=3:=fun _=>rfl
  have hH:Go.Sort.HoldsK K7 3 w g 0 l.toArray:=Ec K7 3 hk (by decide) MX r4
  have hC:=AnyQ.slices_SortFunc QQ 3 Tryz.isAgg157 Tryz.sizeOf157 K7 hk iT mw kH 108 #[] g 0 cap l.toArray w
   (fun _ _=>rfl) (fun m os dk _ x y=>by
    obtain ⟨p1,c1,e1⟩:=x.2.1.shape
    obtain ⟨p2,c2,e2⟩:=y.2.1.shape
    have hc:=YZ x.1.1.1 y.1.1.1 p1 p2 x.1.1.2.length c1 y.1.1.2.length c2
    have hx:K7 x=[.string x.1.1.1.1,.string x.1.1.1.2,.slice p1 x.1.1.2.length c1]:=by rw [← e1];rfl
    have hy:K7 y=[.string y.1.1.1.1,.string y.1.1.1.2,.slice p2 y.1.1.2.length c2]:=by rw [← e2];rfl
    rw [hx,hy]
    exact hc _) hH (zAX.1 MX).1 (by simp;omega)
  have Ed:l.toArray.size=l.length:=by simp
  rw [Ed,← JG] at hC
  refine hC.mono ?_
  rintro e w' ⟨rfl,d',n,os,hp,Jw,rfl⟩
  have ZG:d'.size=M.length:=by rw [hp.1,Ed,JG]
  have hm:=DO (w:=w) (g:=g) (n:=n) (os:=os) (Go.Sort.flatK K7 3 d')
  have h3:d'.toList.Perm l:=by
   have h3:=hp.2.2
   rw [show d'.extract 0 M.length=d' by rw [← ZG];exact zDJ] at h3
   rw [JG,show l.toArray.extract 0 l.length=l.toArray by rw [← Ed];exact zDJ] at h3
   exact h3
  have hbg:w0.heap.size≤g:=FB
  refine ⟨rfl,d'.toList.map (fun x=>x.1),?_,?_,⟨?_,?_,?_⟩⟩
  ·rw [← Xh];exact h3.map _
  ·refine zER.2 (zBW.2 ?_)
   intro i j hi hj C3
   have h4:=Jw i j (zAJ _) C3 (by rw [← ZG];simpa using hj)
   rw [ST,zDW d' i (by simpa using hi),zDW d' j (by simpa using hj)] at h4
   simpa using h4
  ·have h5:=Ee K7 3 hk (by decide) (n:=n) (os:=os) (d:=d') ZG FB MX r1 r2 r3
   rw [Sn] at h5
   rw [zAT,show d'.toList.length=M.length by rw [← ZG];simp]
   exact h5
  ·exact h.AA.trans (hm.below h.AA.size (fun k hk e=>by have:k=g:=e;omega))
  ·intro p hp'
   obtain ⟨x,hx,rfl⟩:=zBU.1 hp'
   refine ⟨x.2.1.FZ hm (fun e k hk hg=>x.2.2 (P6 e) k hk hg),fun e k hk hg=>x.2.2 e k hk ?_⟩
   simpa [Value.ownBlock] using hg.symm
end
end Go.Proofs.YtdcgbgecbeegmaaGreatDoor
end
section
namespace Go.Proofs.YtdcgbgecbeegmaaGreatDoor
open Go Go.RowKit Go.Maps
theorem iS:Cd Tryz.prog 59 3 1 8:=Cd.mk' (z:=.int .i64 0) Tryz.underlying59 (by kernel_rfl) rfl (by decide)
theorem aD (mv : Value) (m : List (List AC)) (w : World) (hm : ci w mv m) (hn : m.length ≤ 1000000) (jl : m.flatten.length ≤ 1000000) (qV : ∀ s ∈ m, s.Nodup) (Ed : ∀ x ∈ m.flatten, C7 x) :
    Calls Tryz.prog 66 #[mv] w fun e w' => ∃ v, e = .returned v ∧ mg w' v (Bk m) ∧ Below w.heap.size w w' := by
  have HM := zAA hm; have HN := zAA hn; have ij := zAA jl; have HNd := zAA qV; have EQ := zAA Ed
  obtain ⟨pm, cm, hv⟩ := hm.shape
  subst hv
  have nD : (m.length : Int) ≤ 1000000 := by omega
  have hmm := @run_makeMap Tryz.prog
  have T8 : Hid (Below w.heap.size w (w.alloc (.map #[] 0))) := (zAM _ _).alloc (zAD _) _
  have lI : Hid (R3 (w.alloc (.map #[] 0)) w.heap.size (w.heap.size + 1) (A4 m 0).length (BX m 0)) := (R3.made w).congr (fun x => rfl)
  clear hm hn jl qV Ed
  go_enter Tryz.func66, Tryz.ntmps66
  go_wp2_with fail
  clear hmm
  go_loopw [14] (fun iv wr => ∃ (k : Nat), k ≤ m.length ∧ iv = .int .i64 (k : Int) ∧ Hid (R3 wr w.heap.size (w.heap.size + 1) (A4 m k).length (BX m k)) ∧ Hid (Below w.heap.size w wr)) (fun iv _ => m.length - (intOf iv).toNat)
  case atStart => exact ⟨0, zAJ _, rfl, lI.out, T8.out⟩
  case round =>
    obtain ⟨k, hk, rfl, HG, HB⟩ := hrel
    have Xg : (k : Int) ≤ 1000000 := by omega
    by_cases Aq : k < m.length
    · have AF : (k : Int) < (m.length : Int) := by omega
      obtain ⟨s, hs⟩ : ∃ s, m[k]? = some s := ⟨_, zAC Aq⟩
      obtain ⟨AM, off, p1, c1, e, Jv⟩ := HM.out.always hs
      subst e
      have d0 := (Jv wr HB.out).1
      have T7 : Hid (∀ w', Below w.heap.size w w' → Rd w' 2 (.slice p1 s.length c1) s.length (Am s)) := fun w' hb => (Jv w' hb).2
      have HS := zAA hs
      have Ch := zAG hs
      have bN : Hid (s.Nodup) := HNd.out s Ch
      have HSf : Hid (∀ x ∈ s, C7 x) := fun x hx => EQ.out x (zFM.2 ⟨s, Ch, hx⟩)
      have DP : Hid ((A4 m k).length + s.length ≤ 1000000) := by
        show _ ≤ _
        rw [← Sx hs]
        exact zAW (Vt m _) ij.out
      have hsi : (s.length : Int) ≤ 1000000 := by have := DP.out; omega
      have HG1 : Hid (R3 wr w.heap.size (w.heap.size + 1) ((A4 m k).length + 0) (El m k s 0)) := HG.out.congr (aV m k s)
      have kZ := zAA HB.out
      clear hs Jv Ch HG lI T8
      go_wp2_with fail
      obtain ⟨wq, dG⟩ : ∃ wq, wq = wr := ⟨_, rfl⟩
      rw [← dG] at HG1 kZ d0 HB ⊢
      clear dG
      go_loopw [21] (fun jv wr => ∃ (j : Nat), j ≤ s.length ∧ jv = .int .i64 (j : Int) ∧ Hid (R3 wr w.heap.size (w.heap.size + 1) ((A4 m k).length + j) (El m k s j)) ∧ Hid (Below w.heap.size w wr)) (fun jv _ => s.length - (intOf jv).toNat)
      case atStart => exact ⟨0, zAJ _, rfl, HG1.out, kZ.out⟩
      case round =>
        obtain ⟨j, hj, rfl, HG, HBj⟩ := hrel
        clear HG1 kZ d0 HB
        have hjm : (j : Int) ≤ 1000000 := by omega
        by_cases hjl : j < s.length
        · have hjl' : (j : Int) < (s.length : Int) := by omega
          obtain ⟨x, hx⟩ : ∃ x, s[j]? = some x := ⟨_, zAC hjl⟩
          obtain ⟨b1, o1, e, jo⟩ := aG (T7.out wr HBj.out) hx
          subst e
          obtain ⟨c0, c1'⟩ := jo wr (zAM _ _)
          have HXf := zAA (HSf.out x (zAG hx))
          have BH := zAA (aU (m := m) (k := k) bN.out hx)
          obtain ⟨xn, xv⟩ := x
          simp only at c0 c1'
          obtain ⟨w2, EC⟩ : ∃ w2, w2 = (wr.alloc (.cells #[.string xn, .string xv] 108)).alloc (.cells #[.int .i64 (k : Int)] 3) := ⟨_, rfl⟩
          have HW : Hid ((wr.alloc (.cells #[.string xn, .string xv] 108)).alloc (.cells #[.int .i64 (k : Int)] 3) = w2) := EC.symm
          have LQ : Below wr.heap.size wr w2 := by rw [EC]; exact ((zAM _ wr).alloc (zAD _) _).alloc (by simp) _
          have KN : w2.heap.size = wr.heap.size + 2 := by rw [EC]; simp
          have ll : Ao w2 (wr.heap.size + 1) [.int .i64 (k : Int)] := by
            rw [EC]
            have h := Ao.new (wr.alloc (.cells #[.string xn, .string xv] 108)) #[.int .i64 (k : Int)] 3
            have e : (wr.alloc (.cells #[.string xn, .string xv] 108)).heap.size = wr.heap.size + 1 := by simp
            rwa [e] at h
          have Yu := HG.out.below LQ
          have HLj : Hid ((A4 m k).length + j + 1 ≤ 1000000) := by show _ ≤ _; have := DP.out; omega
          obtain ⟨v0, st, w3, J0, Au, AU, hsz3, uz⟩ := i6 Yu (by have := HLj.out; unfold maxLen; omega) (xn, xv) HXf.out
          have Dq : Hid (w.heap.size < wr.heap.size) := by
            show _ < _
            obtain ⟨es, clock, g⟩ := HG.out
            exact (zAX.1 g.AM).1
          have Ft : Hid (Rd w3 1 (.slice (some ⟨wr.heap.size + 1, 0, none⟩) 1 1) 1 [.int .i64 (k : Int)]) := Rd.FQ (n := 1) (AU.AM ll (fun e => by have := Dq.out; omega)) rfl (by simp [maxLen])
          have Yh : Hid ((El m k s j (xn, xv)).length ≤ 1000000) := zAW (eY m k s j _) (by omega)
          generalize El m k s j (xn, xv) = R at *
          obtain ⟨pv, cv, Yy⟩ := (Rd.Ad Au).shape
          subst Yy
          have HRun : Hid ((Instr.mapEntry 161 (.map (some w.heap.size)) (.agg #[.string xn, .string xv])).run Tryz.prog ((wr.alloc (.cells #[.string xn, .string xv] 108)).alloc (.cells #[.int .i64 (k : Int)] 3)) = .ok (.tuple #[.slice pv R.length cv, .int .i64 (st : Int)]) w3) := by show _ = _; rw [HW.out]; exact J0
          have Yi : Hid (w3.ownsRow 0 3 1 (.slice pv R.length cv) R.length (A1 R)) := Af Au (fun _ _ => zAJ _)
          have Uh : Hid (∀ kk, (Value.slice pv R.length cv).ownBlock = some kk → w.heap.size + 1 ≤ kk) := fun kk yS => (Au.lt kk yS).1
          have HBk := zAA uz
          have Fu : Hid (w3.heap.size = wr.heap.size + 2) := hsz3.trans KN
          have BS : Hid (Below w.heap.size w w3) := (HBj.out.trans (LQ.mono (zEQ Dq.out))).trans (AU.below (by rw [KN]; have := Dq.out; omega) (fun kk yS e => by omega))
          have il : Hid ((R.length + 1) * 8 ≤ 140737488355328 ∧ R.length + 1 ≤ maxLen) := by show _ ∧ _; have := Yh.out; unfold maxLen; omega
          clear EC LQ KN ll Yu J0 Au AU hsz3 uz jo hx HG HBj HW
          go_wp2_with (first
            | (refine Ps rfl _ _ _ rfl HRun.out rfl rfl ?_)
            | (at_builtin; refine At iS _ _ _ _ _ _ _ Yi.out Ft.out (by simp [Value.oneCell']) il.out rfl _ _ rfl rfl rfl ?_; intro v4 w4 k4 m4 f4
               have uK : w4.ownsRow (w.heap.size + 1) 3 1 v4 (R ++ [(k : Int)]).length (A1 (R ++ [(k : Int)])) := by
                 have e : A1 (R ++ [(k : Int)]) = A1 R ++ [.int .i64 (k : Int)] := by simp [A1]
                 rw [e, zAB]
                 refine Af k4 (fun kk yS => ?_)
                 rcases f4 kk yS with f | f
                 · exact Uh.out kk f
                 · have := Fu.out; have := Dq.out; omega
               obtain ⟨w5, uN, GM, hm5⟩ := HBk.out w4 v4 (k : Int) m4 uK f4
               have bG : Hid (R3 w5 w.heap.size (w.heap.size + 1) ((A4 m k).length + (j + 1)) (El m k s (j + 1))) := GM.congr BH.out
               have KC : Hid (Below w.heap.size w w5) := (BS.out.trans (m4.below (by have := Fu.out; have := Dq.out; omega) (fun kk yS e => by have := Uh.out kk e; omega))).trans (hm5.below (by have := m4.size; have := Fu.out; have := Dq.out; omega) (fun kk yS e => by omega))
               have xC : (Instr.entryStore 161 (.map (some w.heap.size)) (.int .i64 (st : Int)) v4).run Tryz.prog w4 = .ok () w5 := uN
               clear uK uN GM hm5 k4 m4 f4))
          clear xC
          go_round
          case rel => exact ⟨j + 1, by omega, by go_num, bG.out, KC.out⟩
          case measure => simp [intOf]; omega
        · have hjl' : ¬ (j : Int) < (s.length : Int) := by omega
          have Ub : Hid (R3 wr w.heap.size (w.heap.size + 1) (A4 m (k + 1)).length (BX m (k + 1))) := by
            show R3 _ _ _ _ _
            have e : (A4 m (k + 1)).length = (A4 m k).length + j := by rw [Sx HS.out]; omega
            rw [e]
            exact HG.out.congr (eX HS.out j (by omega))
          clear HG
          go_wp2_with fail
          go_round
          case rel => exact ⟨k + 1, by omega, by go_num, Ub.out, HBj.out⟩
          case measure => simp [intOf]; omega
    · have AF : ¬ (k : Int) < (m.length : Int) := by omega
      obtain rfl : k = m.length := by omega
      obtain ⟨D, Au, hmap⟩ := HG.out.mapOf
      have Yi := zAA Au; have z6 := zAA hmap
      have YH : Hid ((A4 m m.length).length ≤ 1000000) := zAW (Vt m _) ij.out
      have Dq : Hid (w.heap.size < wr.heap.size) := by
        show _ < _
        obtain ⟨es, clock, g⟩ := HG.out
        exact (zAX.1 g.AM).1
      obtain ⟨N, hN⟩ : ∃ N, (A4 m m.length).length = N := ⟨_, rfl⟩
      rw [hN] at Yi YH
      have HSzD : Hid (Maps.size D ≤ N) := Yi.out.size_le
      clear Au hmap hN HG lI T8 hk Aq
      go_wp2_with (first
        | (at_range; refine wpList_range_own _ rfl _ 161 rfl 108 59 CQ Tryz.underlying161 _ w.heap.size N D rfl Yi.out ?_; intro w0 jr NN T4)
        | go_in)
      try go_frame
      obtain ⟨rb, xA⟩ : ∃ rb, wr.heap.size = rb := ⟨_, rfl⟩
      have YL := zAA xA
      rw [xA] at jr Dq ⊢
      have re : Hid (Below rb wr w0) := by show Below _ _ _; rw [← xA]; exact ⟨NN.os, NN.tape, NN.output, NN.size, fun i hi => NN.block i hi (by simp)⟩
      have rC := zAA jr
      have qF : Hid (C6 157 w w0 [] (.slice none 0 0)) := ⟨zBI _ _ _ _, HB.out.trans (re.out.mono (by have := Dq.out; omega)), fun p hp => by cases hp⟩
      have kZ := zAA HB.out
      obtain ⟨wq, dG⟩ : ∃ wq, wq = wr := ⟨_, rfl⟩
      rw [← dG] at YL re z6 Yi kZ
      clear jr NN T4 xA dG HB Yi
      go_loopw [8] (fun v wr => ∃ (left : Lit → Bool) (cnt : Nat) (M : List Jk), Hid (wr.ranges Tryz.prog 108 iw w.heap.size rb N D left cnt) ∧ Hid (M.length + cnt ≤ N) ∧ Hid (C6 157 w wr M v) ∧ Hid (∀ k, v.ownBlock = some k → rb < k) ∧ Hid (R1 D left (M.map fun p => p.1.1)) ∧ Hid (∀ p ∈ M, p.1.2 = BX m m.length p.1.1 ∧ ∀ j, p.2.ownBlock = some j → j < rb) ∧ Hid (Below rb wq wr)) (fun _ wr => wr.rangeLeft w.heap.size rb)
      case atStart => exact ⟨_, _, [], rC.out, (by show _ ≤ _; simpa using HSzD.out), qF.out, (by intro k e; cases e), R1.start D, (by intro p hp; cases hp), re.out⟩
      case round =>
        obtain ⟨left, cnt, M, HR, HC, HE, HF, HL, HP, HBq⟩ := hrel
        clear rC qF re
        obtain ⟨pv, cv, DB⟩ := HE.out.shape
        subst DB
        go_wp2_with (first
          | (at_next; refine wpList_next_ranges _ rfl _ rfl 108 CQ iw (fun x : AC => Value.agg #[.string x.1, .string x.2]) (fun q : Option Addr × Nat × Nat => Value.slice q.1 q.2.1 q.2.2) (fun key kl h => by obtain ⟨x, hx, _⟩ := Mv h; exact ⟨x, hx⟩) (fun v y h => (Wz h).2) w.heap.size rb N _ _ _ rfl HR.out ?_ ?_)
          | go_in)
        · intro DW Uy
          have HMm := zAA (HL.out.mem z6.out Uy (fun x hx => EQ.out x (by have h := aB.1 hx; rwa [A4, zCT] at h)))
          have Ei : Hid (M.length ≤ 1000000) := by show _ ≤ _; have := HC.out; have := YH.out; omega
          have Nr := zAA (qg w wr _ M HE.out Ei.out)
          have DP := zAA HL.out.1
          have HPp := zAA HP.out
          clear DW Uy HR HC HL HF HBq HE HP
          go_wp2_with fail
          refine Nr.out.mono ?_
          rintro e w5 ⟨rfl, M', Vy, hsrt, hE5⟩
          have hpm : (M'.map fun p => p.1.1).Perm (M.map fun p => p.1.1) := Vy.map _
          have vk : Hid (M'.map Prod.fst = Bk m) := built hsrt (hpm.nodup_iff.2 DP.out) (fun x => by rw [hpm.mem_iff]; exact HMm.out x) (fun p hp => (HPp.out p (Vy.mem_iff.1 hp)).1)
          have HE5 := zAA hE5
          clear Nr Vy hsrt hE5 hpm
          go_wp2_with fail
          go_ret
          exact ⟨_, rfl, by rw [← vk.out]; exact HE5.out.rd, HE5.out.AA⟩
        · intro xn xv q1 q2 q3 kl yd yp w2 cnt2 nz Yv hv Jv js Mc Yu KN hen
          obtain ⟨rfl, rfl⟩ : yd = .held (.slice q1 q2 q3) ∧ yp = [] := by simpa using (Wz hv).1
          obtain ⟨x', ex, rfl, hxf⟩ := Mv nz
          obtain rfl : (xn, xv) = x' := Jy ex
          obtain ⟨hFne, Au⟩ := z6.out.at_ (xn, xv) _ hxf Jv
          have Np := zAA (HL.out.step hxf Yv Jv)
          obtain ⟨S, hS⟩ : ∃ S, BX m m.length (xn, xv) = S := ⟨_, rfl⟩
          have HS := zAA hS
          rw [hS] at hFne Au
          have Kv : q2 = S.length := by
            obtain ⟨_, _, e⟩ := (Rd.Ad Au).shape
            simp only [zAN] at e
            exact e.2.1
          subst Kv
          have P4 : ∀ j, (Value.slice q1 S.length q3).ownBlock = some j → j < rb := fun j hj => by have := (Au.lt j hj).2; rw [YL.out] at this; exact this
          have vF := zAA P4
          have F6 : Ac (fun k => k = rb) wr w2 := ⟨Yu.os, Yu.tape, Yu.output, Yu.size, fun k hk hn => Yu.block k hk (fun e => hn (by cases e; rfl))⟩
          have AP : Hid (Below rb wq w2) := HBq.out.trans (F6.below (by have := HR.out.lt; omega) (fun k hk e => by omega))
          have yH : C6 157 w w2 M (.slice pv M.length cv) := HE.out.yf F6 (fun j hj e => by have := HF.out j hj; omega) (fun p hp j hj e => by have := (HP.out p hp).2 j hj; omega) (fun j hj e => by have := Dq.out; omega)
          have SD : Below w2.heap.size w2 (w2.alloc (.cells #[.string xn, .string xv] 108)) := (zAM _ _).alloc (zAD _) _
          have tV := zAA (yH.below SD)
          have HSa : Hid (Rd (w2.alloc (.cells #[.string xn, .string xv] 108)) 1 (.slice q1 S.length q3) S.length (A1 S)) := ((Rd.Ad Au).below (by rw [YL.out]; exact AP.out)).below SD
          have HOff : Hid (JO (fun j => (Value.slice pv M.length cv).ownBlock = some j) (.slice q1 S.length q3) S) := fun _ j hj he => by have h1 := P4 j hj; have h2 := HF.out j he; omega
          have YJ : Hid ((w2.alloc (.cells #[.string xn, .string xv] 108)).ownsRow 0 157 3 (.slice pv M.length cv) M.length (Bx M)) := tV.out.Cz
          have YG : Hid ((M.length + 1) * 56 ≤ 140737488355328 ∧ M.length + 1 ≤ maxLen) := by show _ ∧ _; have := HC.out; have := YH.out; unfold maxLen; omega
          have Rj : Hid ((w2.alloc (.cells #[.string xn, .string xv] 108)).heap.size = w2.heap.size + 1) := by show _ = _; simp
          have KK := zAA js
          have lN := zAA Mc
          have rh : Hid (M.length + 1 + cnt2 ≤ N) := by show _ ≤ _; have := HC.out; omega
          have ly : Hid (Below rb wq (w2.alloc (.cells #[.string xn, .string xv] 108))) := AP.out.trans (SD.mono (by have := js.lt; omega))
          have hen' : (Instr.entry (.pointer (some ⟨rb, 0, none⟩))).run Tryz.prog w2 = .ok (.tuple #[.agg #[.string xn, .string xv], .slice q1 S.length q3]) w2 := hen
          clear nz Yv hv Jv js Mc Yu KN hen ex hFne Au P4 F6 yH SD hS HL hxf
          go_wp2_with (at_builtin; refine AD mB _ #[.string xn, .string xv, .slice q1 S.length q3] _ _ _ YJ.out rfl (by simp [Value.oneCell']) YG.out rfl _ _ rfl rfl (by show _ = Value.slice (some ⟨World.heap _ |>.size, 0, none⟩) 1 1; rw [Rj.out]; rfl) ?_)
          intro v3 w3 k3 m3 f3
          have z8 : Hid (C6 157 w w3 (M ++ [(((xn, xv), S), .slice q1 S.length q3)]) v3) :=
            tV.out.B5 (p := (((xn, xv), S), .slice q1 S.length q3)) HSa.out HOff.out k3 m3 (by rw [Rj.out]; exact f3)
          have Ft := zAA ((KK.out.alloc (.cells #[.string xn, .string xv] 108)).kept (XC m3) (fun e => by have h1 := HF.out _ e.symm; have h2 := Dq.out; omega) (fun e => by have h1 := HF.out _ e.symm; omega))
          have lG : Hid (∀ k, v3.ownBlock = some k → rb < k) := fun k hk => by
            rcases f3 k hk with e | e
            · exact HF.out k e
            · have := KK.out.lt; omega
          have vP : Hid (∀ p ∈ M ++ [(((xn, xv), S), Value.slice q1 S.length q3)], p.1.2 = BX m m.length p.1.1 ∧ ∀ j, p.2.ownBlock = some j → j < rb) := fun p hp => by
            rcases zBJ.1 hp with e | e
            · exact HP.out p e
            · rw [zCF.1 e]
              exact ⟨HS.out.symm, vF.out⟩
          have tY : Hid (R1 D (fun z => left z && !z.sameKey (F8 (xn, xv))) ((M ++ [(((xn, xv), S), Value.slice q1 S.length q3)]).map fun p => p.1.1)) := by
            show R1 _ _ _
            rw [zCD]; exact Np.out
          have BS : Hid (Below rb wq w3) := ly.out.trans (m3.below (by have := KK.out.lt; rw [Rj.out]; omega) (fun k hk e => by have := HF.out k e; omega))
          have HC4 : Hid ((M ++ [(((xn, xv), S), Value.slice q1 S.length q3)]).length + cnt2 ≤ N) := by show _ ≤ _; rw [zAB]; exact rh.out
          obtain ⟨p3, c3, UA⟩ := (Rd.Ad k3).shape
          subst UA
          clear k3 m3 f3 YJ tV HSa HOff HE HP HF hen' HC
          go_wp2_with fail
          go_round
          case rel => exact ⟨_, cnt2, M ++ [(((xn, xv), S), Value.slice q1 S.length q3)], Ft.out, HC4.out, z8.out, lG.out, tY.out, vP.out, BS.out⟩
          case measure => rw [Ft.out.left_eq, HR.out.left_eq]; exact lN.out
end Go.Proofs.YtdcgbgecbeegmaaGreatDoor
end
