/- Texts 46. -/
import Derived.Test.YtdcgbgecbeegmaaGreatDoorMgSA
import Derived.Test.YtdcgbgecbeegmaaGreatDoorMgS45
import Derived.Test.YtdcgbgecbeegmaaGreatDoorMgS42
set_option linter.unusedVariables false
set_option linter.unusedSimpArgs false
set_option maxHeartbeats 400000000
set_option maxRecDepth 100000
section
namespace Go.Proofs.YtdcgbgecbeegmaaGreatDoor
open Go Go.RowKit
theorem dJ (n:Int) (w:World):Calls Tryz.prog 145 #[.int .i64 n] w fun en w'=>en = .returned (.bool (decide (DQ n)))∧w'=w:=by
 by_cases h1:1≤n
 ·by_cases h2:n≤2147483647
  ·have HD:Hid (decide (DQ n)=true):=zBA ⟨h1,h2⟩
   go_enter Tryz.func145,Tryz.ntmps145
   go_wp2_with fail
   go_ret
   exact ⟨by rw [HD.out];rfl,rfl⟩
  ·have HD:Hid (decide (DQ n)=false):=zAV (fun h=>h2 h.2)
   go_enter Tryz.func145,Tryz.ntmps145
   go_wp2_with fail
   go_ret
   exact ⟨by rw [HD.out];rfl,rfl⟩
 ·have HD:Hid (decide (DQ n)=false):=zAV (fun h=>h1 h.1)
  go_enter Tryz.func145,Tryz.ntmps145
  go_wp2_with fail
  go_ret
  exact ⟨by rw [HD.out];rfl,rfl⟩
def rK (w:World) (t:List ByteArray) (E0:List Nat) (labs:List AC) (en:Ending) (w':World):Prop:=
 (∃r,en = .returned (.tuple #[r,.int .i64 0])∧(∀x∈labs,CV t x)∧AR w w' (E0++Ab labs.length++Ar t (An labs)) r)∨
 (en = .returned (.tuple #[.slice none 0 0,.int .i64 14])∧(¬∀x∈labs,CV t x)∧Below w.heap.size w w')
theorem cE (w wi:World) (E0:List Nat) (v tv lv:Value) (t:List ByteArray) (labs:List AC) (h:AR w wi E0 v) (ht:Rd w 1 tv t.length (BM t)) (Yx:t.length≤1000000) (nL:AN CB t) (hl:Rd w 2 lv labs.length (Am labs)) (JG:labs.length≤1000000)
  (hE:E0.length+(Ab labs.length).length+(Ar t (An labs)).length≤1000000000) :
  Calls Tryz.prog 103 #[v,tv,lv] wi fun en w'=>Ac (fun k=>v.ownBlock=some k) wi w'∧rK w t E0 labs en w':=by
 have HO:=zAA h;have HT:=zAA ht;have KL:=zAA Yx;have vW:=zAA nL;have HL:=zAA hl;have DP:=zAA JG;have Gi:=zAA hE
 obtain ⟨pv,cv,hv⟩:=h.shape
 subst hv
 obtain ⟨pt,ct,hv⟩:=ht.shape
 subst hv
 obtain ⟨pl,cl,hv⟩:=hl.shape
 subst hv
 have gB:(labs.length:Int)≤1000000:=by omega
 have hw:IntKind.u64.wrap (labs.length:Int)=(labs.length:Int):=by rw [zBB];omega
 clear h ht Yx nL hl JG hE
 go_enter Tryz.func103,Tryz.ntmps103
 go_wp2_with fail
 refine (Cc w wi E0 _ labs.length HO.out (by omega) (by have:=Gi.out;omega)).mono ?_
 rintro en w1 ⟨r1,rfl,hO,hA⟩
 obtain ⟨L1,Yr⟩:∃L1,E0++Ab labs.length=L1:=⟨_,rfl⟩
 have Kn:=zAA Yr
 rw [Yr] at hO
 have Dd:=zAA hO;have Rg:=zAA hA
 have hL1n:Hid (L1.length=E0.length+(Ab labs.length).length):=by show _=_;rw [← Yr,zAB]
 obtain ⟨p1,c1,DA⟩:=hO.shape
 subst DA
 have YN:=zAA (Ll (.slice pl labs.length cl) labs w1 (HL.out.below Dd.out.AA) DP.out)
 clear hO hA HO Yr
 go_wp2_with fail
 refine YN.out.mono ?_
 rintro en w2 ⟨sv,rfl,hS⟩
 obtain ⟨S,gj⟩:∃S,An labs=S:=⟨_,rfl⟩
 have KD:=zAA gj
 rw [gj] at hS Gi
 have BG:=zAA (Dd.out.below hS.AA)
 have G0:=zAA (Rg.out.below hS.AA)
 obtain ⟨ps,cs,hsv⟩:=hS.shape
 subst hsv
 have zm:Hid (ME w2 1 (.slice ps S.length cs) S.length (BM S) (.slice p1 L1.length c1)):=⟨hS.rd,fun _ k hk he=>by have h1:=(hS.row.lt k hk).1;have h2:=(Dd.out.row.lt k he).2;omega⟩
 have bN:Hid (S.length=2*labs.length):=by show _=_;rw [← gj];exact Da labs
 have hSi:(S.length:Int)≤2000000:=by have:=bN.out;omega
 have Nq:Hid (L1.length+(Ar t S).length≤1000000000):=by show _≤_;have:=Gi.out;have:=hL1n.out;omega
 have HO20:Hid (AR w w2 (L1++Ar t (S.take 0)) (.slice p1 L1.length c1)):=by
  show AR _ _ _ _
  rw [zDX,Ar,zEM,zBR]
  exact BG.out
 clear hS gj YN Dd Rg BG hL1n
 go_wp2_with fail
 go_loopw [0,20] (fun vv kv wr2=>∃(k:Nat),k≤S.length∧kv = .int .i64 (k:Int)∧Hid (AR w wr2 (L1++Ar t (S.take k)) vv)∧Hid (ME wr2 1 (.slice ps S.length cs) S.length (BM S) vv)∧Hid (∀s∈S.take k,s∈t)∧Hid (Yz wi (.slice pv E0.length cv) wr2 vv)) (fun _ kv _=>S.length-(intOf kv).toNat)
 case atStart=>exact ⟨0,zAJ _,rfl,HO20.out,zm.out,(by intro s hs;simp at hs),G0.out⟩
 case round=>
  obtain ⟨k,hk,rfl,GG,CF,Km,L5⟩:=hrel
  clear HO20 zm G0
  have Xg:(k:Int)≤2000000:=by omega
  obtain ⟨p4,c4,nM⟩:=GG.out.shape
  subst nM
  by_cases Fl:k<S.length
  ·have Rz:(k:Int)<(S.length:Int):=by omega
   obtain ⟨s,hs⟩:∃s,S[k]? = some s:=⟨_,zAC Fl⟩
   obtain ⟨gs,os,cs',e,_,_,Aj⟩:=CF.out.rd.at (fun e=>by have:=congrArg List.length e;rw [BE] at this;rw [this] at Fl;simp at Fl)
   simp only [zAN] at e
   obtain ⟨rfl,_,rfl⟩:=e
   have Pw:Hid (S.take (k+1)=S.take k++[s]):=by show _=_;rw [zAL,hs];rfl
   have lZ:=zAA (Lx (t:=t) hs)
   have HMs:Hid (s∈S):=zAG hs
   have YF:=zAA (fun W h=>VB (.slice pt t.length ct) t s W h KL.out vW.out)
   have Px:Hid (Rd wr 1 (.slice pt t.length ct) t.length (BM t)):=HT.out.below GG.out.AA
   have Wt:Hid ((L1++Ar t (S.take k)).length≤1000000000):=by
    show _≤_
    have h1:=GU t S k
    have h2:=Nq.out
    simp only [zAB]
    omega
   have s0:wr.cell? ⟨gs,os+k,none⟩=some (.string s):=Aj k _ (by rw [BM,zBQ,hs];rfl)
   obtain ⟨L,hL⟩:∃L,L1++Ar t (S.take k)=L:=⟨_,rfl⟩
   have Pu:Hid (L1++Ar t (S.take (k+1))=L++Ab (Df t s)):=by show _=_;rw [lZ.out,← hL,zAK L1]
   rw [hL] at GG Wt CF L5 ⊢
   clear hs Aj Fl hL lZ
   go_wp2_with fail
   refine (YF.out wr Px.out).mono ?_
   rintro en w5 ⟨rfl,W9⟩
   have bV:=zAA (GG.out.below W9)
   have bE:=zAA (L5.out.below W9)
   have KC:=zAA (CF.out.step (Ac.Ah W9 _) (AG.refl _ _))
   clear YF s0 GG CF L5 W9
   by_cases Ct:s∈t
   ·obtain ⟨j,hj,xp⟩:=Ey Ct
    have hjl:=(zAE.1 xp).1
    have T1:Df t s=j:=by rw [Df,hj];rfl
    rw [hj,show max (j:Int) 0=(j:Int) from Int.max_eq_left (by omega),show decide ((0:Int)≤(j:Int))=true from zBA (by omega)]
    rw [T1] at Pu
    have hwj:IntKind.u64.wrap (j:Int)=(j:Int):=by rw [zBB];have:=KL.out;omega
    have k8:Hid (j<18446744073709551616):=by show _<_;have:=KL.out;omega
    have R6:Hid (∀x∈S.take (k+1),x∈t):=by
     intro x hx
     rw [Pw.out] at hx
     rcases zBJ.1 hx with e | e
     ·exact Km.out x e
     ·simp at e;subst e;exact Ct
    clear hj xp hjl T1 Ct
    go_wp2_with fail
    refine (Cc w w5 L _ j bV.out k8.out Wt.out).mono ?_
    rintro en w6 ⟨r6,rfl,hO,hA⟩
    obtain ⟨L2,Fk⟩:∃L2,L1++Ar t (S.take (k+1))=L2:=⟨_,rfl⟩
    have Jf:=zAA Fk
    have Jg:Hid (AR w w6 L2 r6):=by show AR _ _ _ _;rw [← Fk,Pu.out];exact hO
    have Jl:=zAA (KC.out.step hA.Ai hA.fresh)
    have ra:=zAA (bE.out.step hA.Ai hA.fresh)
    obtain ⟨p6,c6,jx⟩:=Jg.out.shape
    subst jx
    clear hO hA bV KC bE Pu Km Fk
    go_wp2_with fail
    go_round
    case rel=>exact ⟨k+1,by omega,by go_num,(by show AR _ _ _ _;rw [Jf.out];exact Jg.out),Jl.out,R6.out,ra.out⟩
    case measure=>simp [intOf];omega
   ·rw [E9 Ct]
    rw [show max (-1:Int) 0=0 from rfl,show decide ((0:Int)≤-1)=false from rfl]
    have EZ:Hid (¬∀x∈labs,CV t x):=fun h=>Ct (EL.2 h s (by show s∈An labs;rw [KD.out];exact HMs.out))
    clear Ct
    go_wp2_with fail
    go_ret2
    exact ⟨bE.out.Ai,Or.inr ⟨rfl,EZ.out,bV.out.AA⟩⟩
  ·have Rz:¬(k:Int)<(S.length:Int):=by omega
   have ju:S.take k=S:=zAF (by omega)
   rw [ju] at GG CF Km L5 ⊢
   have Ws:Hid (∀x∈labs,CV t x):=EL.1 (by rw [KD.out];exact Km.out)
   have HE:Hid (E0++Ab labs.length++Ar t (An labs)=L1++Ar t S):=by show _=_;rw [Kn.out,KD.out]
   obtain ⟨L2,Fk⟩:∃L2,L1++Ar t S=L2:=⟨_,rfl⟩
   rw [Fk] at GG L5 HE ⊢
   clear ju Fl hk Fk
   go_wp2_with fail
   go_ret2
   exact ⟨L5.out.Ai,Or.inl ⟨_,rfl,Ws.out,by rw [HE.out];exact GG.out⟩⟩
def rL (w:World) (E0:List Nat) (chs:List Int) (en:Ending) (w':World):Prop:=
 (∃r,en = .returned (.tuple #[r,.int .i64 0])∧chs≠[]∧(∀n∈chs,DQ n)∧AR w w' (E0++Ab chs.length++Ax chs) r)∨
 (en = .returned (.tuple #[.slice none 0 0,.int .i64 23])∧(¬(chs≠[]∧∀n∈chs,DQ n))∧Below w.heap.size w w')
theorem YS (w wi:World) (E0:List Nat) (v cv:Value) (chs:List Int) (h:AR w wi E0 v) (hl:Rd w 1 cv chs.length (A1 chs)) (JG:chs.length≤1000000) (qU:∀n∈chs,-9223372036854775808≤n∧n<9223372036854775808)
  (hE:E0.length+(Ab chs.length).length+(Ax chs).length≤1000000000) :
  Calls Tryz.prog 104 #[v,cv] wi fun en w'=>rL w E0 chs en w':=by
 have HO:=zAA h;have HL:=zAA hl;have DP:=zAA JG;have YG:=zAA qU;have Gi:=zAA hE
 obtain ⟨pv,kv,hv⟩:=h.shape
 subst hv
 obtain ⟨pc,cc,hv⟩:=hl.shape
 subst hv
 have ZE:(chs.length:Int)≤1000000:=by omega
 have hw:IntKind.u64.wrap (chs.length:Int)=(chs.length:Int):=by rw [zBB];omega
 clear h hl JG qU hE
 by_cases DW:chs.length=0
 ·have G5:(chs.length:Int)=0:=by omega
  have EZ:Hid (¬(chs≠[]∧∀n∈chs,DQ n)):=fun h=>h.1 (zAI DW)
  clear DW
  go_enter Tryz.func104,Tryz.ntmps104
  go_wp2_with fail
  go_ret2
  exact Or.inr ⟨rfl,EZ.out,HO.out.AA⟩
 ·have G5:¬(chs.length:Int)=0:=by omega
  have gm:((chs.length:Int) == 0)=false:=by rw [zAQ];exact G5
  have Ej:Hid (chs≠[]):=fun e=>DW (by rw [e];rfl)
  clear DW
  go_enter Tryz.func104,Tryz.ntmps104
  go_wp2_with fail
  refine (Cc w wi E0 _ chs.length HO.out (by omega) (by have:=Gi.out;omega)).mono ?_
  rintro en w1 ⟨r1,rfl,hO,_⟩
  obtain ⟨L1,Yr⟩:∃L1,E0++Ab chs.length=L1:=⟨_,rfl⟩
  have Kn:=zAA Yr
  rw [Yr] at hO
  have ig:Hid (L1.length+(Ax chs).length≤1000000000):=by show _≤_;have:=Gi.out;rw [← Yr,zAB];omega
  have Dd:Hid (AR w w1 (L1++Ax (chs.take 0)) r1):=by show AR _ _ _ _;rw [zDX,Ax,zEM,zBR];exact hO
  obtain ⟨p1,c1,DA⟩:=hO.shape
  subst DA
  clear hO HO Yr
  go_wp2_with fail
  go_loopw [0,18] (fun vv kv wr2=>∃(k:Nat),k≤chs.length∧kv = .int .i64 (k:Int)∧Hid (AR w wr2 (L1++Ax (chs.take k)) vv)∧Hid (∀n∈chs.take k,DQ n)) (fun _ kv _=>chs.length-(intOf kv).toNat)
  case atStart=>exact ⟨0,zAJ _,rfl,Dd.out,(by intro s hs;simp at hs)⟩
  case round=>
   obtain ⟨k,hk,rfl,JD,Fj⟩:=hrel
   clear Dd
   have Xg:(k:Int)≤1000000:=by omega
   obtain ⟨p7,c7,UB⟩:=JD.out.shape
   subst UB
   by_cases Fl:k<chs.length
   ·have Rz:(k:Int)<(chs.length:Int):=by omega
    obtain ⟨n,hn⟩:∃n,chs[k]? = some n:=⟨_,zAC Fl⟩
    have dc:=HL.out.below JD.out.AA
    obtain ⟨gc,oc,cc',e,_,_,Aj⟩:=dc.at (fun e=>by have:=congrArg List.length e;rw [Ce] at this;rw [this] at Fl;simp at Fl)
    simp only [zAN] at e
    obtain ⟨rfl,_,rfl⟩:=e
    have n0:wr.cell? ⟨gc,oc+k,none⟩=some (.int .i64 n):=Aj k _ (by rw [A1,zBQ,hn];rfl)
    have bK:=zAA (Ln hn)
    have Pw:Hid (chs.take (k+1)=chs.take k++[n]):=by show _=_;rw [zAL,hn];rfl
    have t6:Hid (n∈chs):=zAG hn
    have Wt:Hid ((L1++Ax (chs.take k)).length≤1000000000):=by
     show _≤_
     have h1:=GO chs k
     have h2:=ig.out
     simp only [zAB]
     omega
    have fM:=zAA (dJ n wr)
    obtain ⟨L,hL⟩:∃L,L1++Ax (chs.take k)=L:=⟨_,rfl⟩
    have Pu:Hid (L1++Ax (chs.take (k+1))=L++Ab n.toNat):=by show _=_;rw [bK.out,← hL,zAK L1]
    rw [hL] at JD Wt ⊢
    clear hn Aj dc bK Fl hL
    by_cases P5:DQ n
    ·rw [zBA P5] at fM
     obtain ⟨m,hm⟩:∃m:Nat,n=(m:Int):=⟨n.toNat,by have:=P5.1;omega⟩
     subst hm
     have hmi:(m:Int)≤2147483647:=P5.2
     have xL:IntKind.u64.wrap (m:Int)=(m:Int):=by rw [zBB];omega
     have vN:Hid (∀x∈chs.take (k+1),DQ x):=by
      intro x hx
      rw [Pw.out] at hx
      rcases zBJ.1 hx with e | e
      ·exact Fj.out x e
      ·simp only [zCF] at e;rw [e];exact P5
     clear P5
     go_wp2_with fail
     refine fM.out.mono ?_
     rintro en w5 ⟨rfl,rfl⟩
     clear fM
     go_wp2_with fail
     refine (Cc w w5 L _ m JD.out (by omega) Wt.out).mono ?_
     rintro en w8 ⟨r8,rfl,hO,_⟩
     obtain ⟨L2,Fk⟩:∃L2,L1++Ax (chs.take (k+1))=L2:=⟨_,rfl⟩
     have Jf:=zAA Fk
     have bM:Hid (AR w w8 L2 r8):=by show AR _ _ _ _;rw [← Fk,Pu.out];exact hO
     obtain ⟨p8,c8,MY⟩:=bM.out.shape
     subst MY
     clear hO JD Pu Fj n0 Fk xL
     go_wp2_with fail
     go_round
     case rel=>exact ⟨k+1,by omega,by go_num,(by show AR _ _ _ _;rw [Jf.out];exact bM.out),vN.out⟩
     case measure=>simp [intOf];omega
    ·rw [zAV P5] at fM
     have EZ:Hid (¬(chs≠[]∧∀n∈chs,DQ n)):=fun h=>P5 (h.2 n t6.out)
     clear P5
     go_wp2_with fail
     refine fM.out.mono ?_
     rintro en w5 ⟨rfl,rfl⟩
     clear fM
     go_wp2_with fail
     go_ret2
     exact Or.inr ⟨rfl,EZ.out,JD.out.AA⟩
   ·have Rz:¬(k:Int)<(chs.length:Int):=by omega
    have ju:chs.take k=chs:=zAF (by omega)
    rw [ju] at JD Fj ⊢
    have HE:Hid (E0++Ab chs.length++Ax chs=L1++Ax chs):=by show _=_;rw [Kn.out]
    obtain ⟨L2,Fk⟩:∃L2,L1++Ax chs=L2:=⟨_,rfl⟩
    rw [Fk] at JD HE ⊢
    clear ju Fk
    go_wp2_with fail
    go_ret2
    exact Or.inl ⟨_,rfl,Ej.out,Fj.out,by rw [HE.out];exact JD.out⟩
theorem UO (tv lv:Value) (t:List ByteArray) (l:List DT) (w:World) (ht:Rd w 1 tv t.length (BM t)) (Yx:t.length≤1000000) (nL:AN CB t) (hl:bO w lv l) (JG:l.length≤1000000) (gz:∀r∈l,r.1.length≤1000000∧r.2.length≤1000000) (qU:∀r∈l,∀n∈r.2,-9223372036854775808≤n∧n<9223372036854775808) (hE:(Gp t l).length≤1000000000) :
  Calls Tryz.prog 64 #[tv,lv] w (EV w (BQ t l)):=by
 have HT:=zAA ht;have KL:=zAA Yx;have vW:=zAA nL;have HL:=zAA hl;have DP:=zAA JG;have C0:=zAA gz;have YG:=zAA qU;have Gi:=zAA hE
 obtain ⟨pt,ct,hv⟩:=ht.shape
 subst hv
 obtain ⟨pl,cl,hv⟩:=hl.shape
 subst hv
 have xu:(l.length:Int)≤1000000:=by omega
 have hw:IntKind.u64.wrap (l.length:Int)=(l.length:Int):=by rw [zBB];omega
 have Wu:Hid (AR w w [] (.slice none 0 0)):=Cp.nil w
 clear ht Yx nL hl JG gz qU hE
 go_enter Tryz.func64,Tryz.ntmps64
 go_wp2_with fail
 refine (Cc w w [] _ l.length Wu.out (by omega) (by simp)).mono ?_
 rintro en w1 ⟨r1,rfl,hO,_⟩
 have Dd:Hid (AR w w1 (CM t l 0) r1):=by
  show AR w w1 (Ab l.length++(l.take 0).flatMap (D6 t)) r1
  rw [zDX,zEM,zBR]
  simpa using hO
 obtain ⟨p1,c1,DA⟩:=Dd.out.shape
 subst DA
 clear hO Wu
 go_wp2_with fail
 go_loopw [6,16] (fun vv iv wr=>∃(i:Nat),i≤l.length∧iv = .int .i64 (i:Int)∧Hid (AR w wr (CM t l i) vv)∧Hid (Bu t l=Bu t (l.drop i))) (fun _ iv _=>l.length-(intOf iv).toNat)
 case atStart=>exact ⟨0,zAJ _,rfl,Dd.out,rfl⟩
 case round=>
  obtain ⟨i,hi,rfl,HO,HE⟩:=hrel
  clear Dd
  have KM:(i:Int)≤1000000:=by omega
  obtain ⟨pv,cv,DB⟩:=HO.out.shape
  subst DB
  by_cases Aq:i<l.length
  ·have AF:(i:Int)<(l.length:Int):=by omega
   obtain ⟨⟨labs,chs⟩,hr⟩:∃r,l[i]? = some r:=⟨_,zAC Aq⟩
   obtain ⟨AM,off,h1,h2,e,⟨q1,k1,e1⟩,⟨q2,k2,e2⟩,Jv⟩:=HL.out.always hr
   simp only at e1 e2
   subst e;subst e1;subst e2
   have T7:Hid (∀w',Below w.heap.size w w'→w'.cell? ⟨AM,off+i*2,none⟩=some (.slice q1 labs.length k1)∧w'.cell? ⟨AM,off+i*2+1,none⟩=some (.slice q2 chs.length k2)∧Rd w' 2 (.slice q1 labs.length k1) labs.length (Am labs)∧Rd w' 1 (.slice q2 chs.length k2) chs.length (A1 chs)):=fun w' hb=>by obtain ⟨a,b,c,d⟩:=Jv w' hb;exact ⟨a,b,c,d⟩
   have Ch:=zAG hr
   have YL:Hid (labs.length≤1000000∧chs.length≤1000000):=C0.out _ Ch
   have HRz:Hid (∀n∈chs,-9223372036854775808≤n∧n<9223372036854775808):=YG.out _ Ch
   have Nq:Hid ((CM t l i).length+(Ab labs.length).length+(Ar t (An labs)).length+(Ab chs.length).length+(Ax chs).length≤1000000000):=zAW (Ss hr) Gi.out
   have Gy:Hid (CM t l (i+1)=CM t l i++Ab labs.length++Ar t (An labs)++Ab chs.length++Ax chs):=MR hr
   have BH:Hid (Bu t l=if CI t (labs,chs)=0 then Bu t (l.drop (i+1)) else CI t (labs,chs)):=Pa hr HE.out
   obtain ⟨d0,d1,_,_⟩:=T7.out wr HO.out.AA
   have SD:Hid (Below wr.heap.size wr (wr.alloc (.cells #[.slice q1 labs.length k1,.slice q2 chs.length k2] 146))):=(zAM _ wr).alloc (zAD _) _
   have BG:=zAA (HO.out.below SD.out)
   have HG:Hid (Ao (wr.alloc (.cells #[.slice q1 labs.length k1,.slice q2 chs.length k2] 146)) wr.heap.size [.slice q1 labs.length k1,.slice q2 chs.length k2]):=Ao.new _ _ _
   obtain ⟨E0,gi⟩:∃E0,CM t l i=E0:=⟨_,rfl⟩
   rw [gi] at HO BG Nq Gy ⊢
   have ud:Hid (∀k,(Value.slice pv E0.length cv).ownBlock=some k→k<wr.heap.size):=fun k hk=>(HO.out.row.lt k hk).2
   clear hr Jv Ch HE gi HO
   go_wp2_with fail
   generalize wr.alloc (.cells #[.slice q1 labs.length k1,.slice q2 chs.length k2] 146)=w2 at *
   obtain ⟨g,hg⟩:∃g,wr.heap.size=g:=⟨_,rfl⟩
   rw [hg] at HG ud ⊢
   have g0:w2.cell? ⟨g,0,none⟩=some (.slice q1 labs.length k1):=HG.out.cell 0
   have g1:w2.cell? ⟨g,1,none⟩=some (.slice q2 chs.length k2):=HG.out.cell 1
   have lU:=zAA (cE w w2 E0 _ (.slice pt t.length ct) (.slice q1 labs.length k1) t labs BG.out HT.out KL.out vW.out (T7.out w (zAM _ _)).2.2.1 YL.out.1 (by have:=Nq.out;omega))
   clear hg d0 d1
   go_wp2_with fail
   refine lU.out.mono ?_
   rintro en w3 ⟨hM,hP⟩
   have g1':w3.cell? ⟨g,1,none⟩=some (.slice q2 chs.length k2):=hM.cell g1 (fun e=>by have:=ud.out g e;omega)
   clear lU HG g0 g1 ud hM
   rcases hP with ⟨r3,rfl,hIn,hO⟩ | ⟨rfl,hIn,hB⟩
   ·obtain ⟨E1,i9⟩:∃E1,E0++Ab labs.length++Ar t (An labs)=E1:=⟨_,rfl⟩
    have HE1n:Hid (E1.length+(Ab chs.length).length+(Ax chs).length≤1000000000):=by
     show _≤_
     have h2:=Nq.out
     rw [← i9]
     simp only [zAB]
     omega
    rw [i9] at hO Gy
    have Ew:=zAA hO
    have Km:=zAA hIn
    obtain ⟨p3,c3,UA⟩:=hO.shape
    subst UA
    have lU:=zAA (YS w w3 E1 _ (.slice q2 chs.length k2) chs Ew.out (T7.out w (zAM _ _)).2.2.2 YL.out.2 HRz.out HE1n.out)
    clear hO hIn BG i9 Nq
    go_wp2_with fail
    refine lU.out.mono ?_
    rintro en w4 hP
    clear lU
    rcases hP with ⟨r4,rfl,BC,P5,hO⟩ | ⟨rfl,nc,hB⟩
    ·rw [← Gy.out] at hO
     have zH:Hid (Bu t l=Bu t (l.drop (i+1))):=by
      show _=_
      rw [BH.out,if_pos (GT.2 ⟨Km.out,BC,P5⟩)]
     have GG:=zAA hO
     obtain ⟨L2,Fk⟩:∃L2,CM t l (i+1)=L2:=⟨_,rfl⟩
     have Jf:=zAA Fk
     rw [Fk] at GG
     obtain ⟨p4,c4,nM⟩:=GG.out.shape
     subst nM
     clear hO BC P5 Fk Ew g1'
     go_wp2_with fail
     go_round
     case rel=>exact ⟨i+1,by omega,by go_num,(by show AR _ _ _ _;rw [Jf.out];exact GG.out),zH.out⟩
     case measure=>simp [intOf];omega
    ·have EZ:Hid (BQ t l=(23,[])):=by
      have h1:CI t (labs,chs)=23:=by
       rw [CI,if_pos Km.out]
       by_cases hc:chs=[]
       ·rw [if_pos hc]
       ·rw [if_neg hc,if_neg (fun h=>nc ⟨hc,h⟩)]
      refine Gq (by decide) ?_
      rw [BH.out,h1];rfl
     have Dq:=zAA hB
     clear nc hB
     go_wp2_with fail
     go_ret2
     exact EV.Ep Dq.out EZ.out
   ·have EZ:Hid (BQ t l=(14,[])):=by
     have h1:CI t (labs,chs)=14:=by rw [CI,if_neg hIn]
     refine Gq (by decide) ?_
     rw [BH.out,h1];rfl
    have Dq:=zAA hB
    clear hIn hB
    go_wp2_with fail
    go_ret2
    exact EV.Ep Dq.out EZ.out
  ·have AF:¬(i:Int)<(l.length:Int):=by omega
   have fO:Hid (BQ t l=(0,CM t l i)):=by
    have h1:=HE.out
    rw [zBF (by omega)] at h1
    show _=_
    rw [BQ,h1,Vo t l i (by omega)];rfl
   go_wp2_with fail
   go_ret2
   exact ⟨by rw [fO.out];exact ⟨_,rfl,HO.out.row⟩,HO.out.AA⟩
end Go.Proofs.YtdcgbgecbeegmaaGreatDoor
end
