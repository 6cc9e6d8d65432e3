/- Texts 27. -/
import Derived.Test.YtdcgbgecbeegmaaGreatDoorMgSA
import Derived.Test.YtdcgbgecbeegmaaGreatDoorMgS26
import Derived.Test.YtdcgbgecbeegmaaGreatDoorMgS23
set_option linter.unusedVariables false
set_option linter.unusedSimpArgs false
set_option maxHeartbeats 400000000
set_option maxRecDepth 100000
section
namespace Go.Proofs.YtdcgbgecbeegmaaGreatDoor
open Go Go.RowKit
theorem iR:Cd Tryz.prog 41 61 2 48:=Cd.mk' (z:=.agg #[.slice none 0 0,.slice none 0 0]) Tryz.underlying41 (by kernel_rfl) rfl (by decide)
structure ME (wr:World) (sz:Nat) (sv:Value) (n:Nat) (vs:List Value) (vv:Value):Prop where
 rd:Rd wr sz sv n vs
 off:vs≠[]→∀k,sv.ownBlock=some k→vv.ownBlock≠some k
theorem ME.step {wr w':World} {sz:Nat} {sv:Value} {n:Nat} {vs:List Value} {vv v':Value} (h:ME wr sz sv n vs vv) (hm:Ac (fun k=>vv.ownBlock=some k) wr w') (hf:AG wr.heap.size vv v'):ME w' sz sv n vs v':=
 ⟨h.rd.FZ hm (fun e k hk he=>h.off e k hk he),fun e k hk he=>by
  rcases hf k he with f | f
  ·exact h.off e k hk f
  ·have:=h.rd.lt e k hk;omega⟩
theorem EH (w wr:World) (L:List Nat) (v:Value) (n:Nat) (h:AR w wr L v) (hn:n<9223372036854775808) (hL:L.length≤1000000000) :
  Calls Tryz.prog 78 #[v,.int .i64 (n:Int)] wr fun en w'=>∃r,en = .returned r∧AR w w' (L++Ab n) r∧Ac (fun k=>v.ownBlock=some k) wr w'∧AG wr.heap.size v r:=by
 have H:=zAA h
 obtain ⟨p,c,hv⟩:=h.shape
 subst hv
 have hw:IntKind.u64.wrap (n:Int)=(n:Int):=by rw [zBB];omega
 have jw:=AE (x:=n) (by omega)
 have C0:Hid ((L.length+(Ab n).length)*1≤140737488355328∧L.length+(Ab n).length≤maxLen):=by show _∧_;unfold maxLen;omega
 have HE:=zAA (fun W=>DE n (by omega) W)
 clear h hn hL jw
 go_enter Tryz.func78,Tryz.ntmps78
 go_wp2_with fail
 refine (HE.out wr).mono ?_
 rintro en w1 ⟨r,rfl,hM⟩
 have Dd:=zAA (H.out.below hM.2)
 have Ua:=zAA (Rd.Ad hM.1)
 have A6:=zAA hM.2
 have YJ:=zAA Dd.out.Cz
 obtain ⟨p1,c1,DA⟩:=(Rd.Ad hM.1).shape
 subst DA
 clear hM HE
 go_wp2_with (at_builtin;refine At Tryz.CG _ _ _ _ _ _ _ YJ.out Ua.out (A3 _) C0.out rfl _ _ rfl rfl rfl ?_)
 intro v2 w2 k1 m1 f1
 have BG:Hid (AR w w2 (L++Ab n) v2):=Dd.out.extended (e:=Ab n) k1 m1 f1
 have Ni:Hid (Ac (fun k=>(Value.slice p L.length c).ownBlock=some k) wr w2):=(Ac.Ah A6.out _).trans m1 (fun _ _ e=>e)
 have ii:Hid (AG wr.heap.size (.slice p L.length c) v2):=fun k hk=>by
  rcases f1 k hk with e | e
  ·exact Or.inl e
  ·exact Or.inr (zAW A6.out.size e)
 clear k1 m1 f1 YJ Ua C0
 go_wp2_with fail
 go_ret
 exact ⟨_,rfl,BG.out,Ni.out,ii.out⟩
def CM (t:List ByteArray) (l:List DT) (i:Nat):List Nat:=Ab l.length++(l.take i).flatMap (D6 t)
def Ar (t:List ByteArray) (S:List ByteArray):List Nat:=S.flatMap fun s=>Ab (Df t s)
def Ax (l:List Int):List Nat:=l.flatMap fun n=>Ab n.toNat
theorem TF (t:List ByteArray) (l:List AC):Ar t (An l)=l.flatMap (ED t):=by
 induction l with
 | nil=>rfl
 | cons x l ih=>
  rw [Ar,An,zBN,zBO,← An,← Ar,← Ar,ih]
  simp [Ar,ED]
theorem aI (t:List ByteArray) (r:DT):D6 t r=Ab r.1.length++Ar t (An r.1)++(Ab r.2.length++Ax r.2):=by rw [TF];rfl
theorem MR {t:List ByteArray} {l:List DT} {i:Nat} {r:DT} (h:l[i]? = some r):CM t l (i+1)=CM t l i++Ab r.1.length++Ar t (An r.1)++Ab r.2.length++Ax r.2:=by
 rw [CM,zAL,h,zBO,CM]
 simp [aI]
theorem Vo (t:List ByteArray) (l:List DT) (i:Nat) (h:l.length≤i):CM t l i=Gp t l:=by rw [CM,zAF h];rfl
theorem mH (t:List ByteArray) (l:List DT) (i:Nat):(CM t l i).length≤(Gp t l).length:=by
 have:Gp t l=CM t l i++(l.drop i).flatMap (D6 t):=by
  rw [CM,zAK,← zBO,zBD];rfl
 rw [this,zAB];omega
theorem GU (t:List ByteArray) (S:List ByteArray) (k:Nat):(Ar t (S.take k)).length≤(Ar t S).length:=by
 have:Ar t S=Ar t (S.take k)++Ar t (S.drop k):=by rw [Ar,Ar,Ar,← zBO,zBD]
 rw [this,zAB];omega
theorem GO (l:List Int) (k:Nat):(Ax (l.take k)).length≤(Ax l).length:=by
 have:Ax l=Ax (l.take k)++Ax (l.drop k):=by rw [Ax,Ax,Ax,← zBO,zBD]
 rw [this,zAB];omega
theorem Lx {t:List ByteArray} {S:List ByteArray} {k:Nat} {s:ByteArray} (h:S[k]? = some s):Ar t (S.take (k+1))=Ar t (S.take k)++Ab (Df t s):=by rw [zAL,h];simp [Ar]
theorem Ln {l:List Int} {k:Nat} {n:Int} (h:l[k]? = some n):Ax (l.take (k+1))=Ax (l.take k)++Ab n.toNat:=by rw [zAL,h];simp [Ax]
theorem Ss {t:List ByteArray} {l:List DT} {i:Nat} {r:DT} (h:l[i]? = some r):(CM t l i).length+(Ab r.1.length).length+(Ar t (An r.1)).length+(Ab r.2.length).length+(Ax r.2).length≤(Gp t l).length:=by
 have h1:=mH t l (i+1)
 rw [MR h] at h1
 simp only [zAB] at h1
 omega
theorem Pa {t:List ByteArray} {l:List DT} {i:Nat} {r:DT} (h:l[i]? = some r) (hd:Bu t l=Bu t (l.drop i)):Bu t l=if CI t r=0 then Bu t (l.drop (i+1)) else CI t r:=by
 have h1:l.drop i=r::l.drop (i+1):=by rw [zBV (zAE.1 h).1,(zAE.1 h).2]
 rw [hd,h1];rfl
theorem EL {l:List AC} {t:List ByteArray}:(∀s∈An l,s∈t)↔∀x∈l,CV t x:=by
 simp only [An,zBZ,zAS,zCX,zGU,CV]
 constructor
 ·intro h x hx;exact ⟨h x.1 ⟨x,hx,Or.inl rfl⟩,h x.2 ⟨x,hx,Or.inr rfl⟩⟩
 ·rintro h s ⟨x,hx,rfl | rfl⟩
  ·exact (h x hx).1
  ·exact (h x hx).2
theorem Gq {t:List ByteArray} {l:List DT} {k:Nat} (hk:k≠0) (h:Bu t l=k):BQ t l=(k,[]):=by rw [BQ,h,if_neg hk]
theorem UT (tv lv:Value) (t:List ByteArray) (l:List DT) (w:World) (ht:Rd w 1 tv t.length (BM t)) (Yx:t.length≤1000000) (hl:bO w lv l) (JG:l.length≤1000000) (gz:∀r∈l,r.1.length≤1000000∧r.2.length≤1000000) (qU:∀r∈l,∀n∈r.2,-9223372036854775808≤n∧n<9223372036854775808) (hE:(Gp t l).length≤1000000000) :
  Calls Tryz.prog 35 #[tv,lv] w (EV w (BQ t l)):=by
 have HT:=zAA ht;have KL:=zAA Yx;have HL:=zAA hl;have DP:=zAA JG;have C0:=zAA gz;have YG:=zAA qU;have Gi:=zAA hE
 obtain ⟨pt,ct,hv⟩:=ht.shape
 subst hv
 obtain ⟨pl,cl,hv⟩:=hl.shape
 subst hv
 have xu:(l.length:Int)≤1000000:=by omega
 have Wu:Hid (AR w w [] (.slice none 0 0)):=Cp.nil w
 clear ht Yx hl JG gz qU hE
 go_enter Tryz.func35,Tryz.ntmps35
 go_wp2_with fail
 refine (EH w w [] _ l.length Wu.out (by omega) (by simp)).mono ?_
 rintro en w1 ⟨r1,rfl,hO,_,_⟩
 have Dd:Hid (AR w w1 (CM t l 0) r1):=by
  show AR w w1 (Ab l.length++(l.take 0).flatMap (D6 t)) r1
  rw [zDX,zEM,zBR]
  simpa using hO
 obtain ⟨p1,c1,DA⟩:=Dd.out.shape
 subst DA
 clear hO Wu
 go_wp2_with fail
 go_loopw [6,7] (fun vv iv wr=>∃(i:Nat),i≤l.length∧iv = .int .i64 (i:Int)∧Hid (AR w wr (CM t l i) vv)∧Hid (Bu t l=Bu t (l.drop i))) (fun _ iv _=>l.length-(intOf iv).toNat)
 case atStart=>exact ⟨0,zAJ _,rfl,Dd.out,rfl⟩
 case round=>
  obtain ⟨i,hi,rfl,HO,HE⟩:=hrel
  have KM:(i:Int)≤1000000:=by omega
  obtain ⟨pv,cv,DB⟩:=HO.out.shape
  subst DB
  by_cases Aq:i<l.length
  ·have AF:(i:Int)<(l.length:Int):=by omega
   obtain ⟨⟨labs,chs⟩,hr⟩:∃r,l[i]? = some r:=⟨_,zAC Aq⟩
   obtain ⟨AM,off,h1,h2,e,⟨q1,k1,e1⟩,⟨q2,k2,e2⟩,Jv⟩:=HL.out.always hr
   simp only at e1 e2
   subst e;subst e1;subst e2
   have T7:Hid (∀w',Below w.heap.size w w'→w'.cell? ⟨AM,off+i*2,none⟩=some (.slice q1 labs.length k1)∧w'.cell? ⟨AM,off+i*2+1,none⟩=some (.slice q2 chs.length k2)∧Rd w' 2 (.slice q1 labs.length k1) labs.length (Am labs)∧Rd w' 1 (.slice q2 chs.length k2) chs.length (A1 chs)):=fun w' hb=>by obtain ⟨a,b,c,d⟩:=Jv w' hb;exact ⟨a,b,c,d⟩
   have Ch:=zAG hr
   have YL:Hid (labs.length≤1000000∧chs.length≤1000000):=C0.out _ Ch
   have HRz:Hid (∀n∈chs,-9223372036854775808≤n∧n<9223372036854775808):=YG.out _ Ch
   have gB:(labs.length:Int)≤1000000:=by have:=YL.out;omega
   have ZE:(chs.length:Int)≤1000000:=by have:=YL.out;omega
   have Nq:Hid ((CM t l i).length+(Ab labs.length).length+(Ar t (An labs)).length+(Ab chs.length).length+(Ax chs).length≤1000000000):=zAW (Ss hr) Gi.out
   have Gy:Hid (CM t l (i+1)=CM t l i++Ab labs.length++Ar t (An labs)++Ab chs.length++Ax chs):=MR hr
   have BH:Hid (Bu t l=if CI t (labs,chs)=0 then Bu t (l.drop (i+1)) else CI t (labs,chs)):=Pa hr HE.out
   obtain ⟨d0,d1,dl,dc⟩:=T7.out wr HO.out.AA
   have YN:=zAA (Ja (.slice q1 labs.length k1) labs wr dl (by have:=YL.out;omega))
   obtain ⟨E0,gi⟩:∃E0,CM t l i=E0:=⟨_,rfl⟩
   rw [gi] at HO Nq Gy ⊢
   clear hr Jv Ch HE dl dc gi
   go_wp2_with fail
   refine YN.out.mono ?_
   rintro en w2 ⟨sv,rfl,hS⟩
   obtain ⟨S,gj⟩:∃S,An labs=S:=⟨_,rfl⟩
   have KD:=zAA gj
   rw [gj] at hS Nq Gy
   have BG:=zAA (HO.out.below hS.AA)
   obtain ⟨ps,cs,hsv⟩:=hS.shape
   subst hsv
   have zm:Hid (ME w2 1 (.slice ps S.length cs) S.length (BM S) (.slice pv E0.length cv)):=⟨hS.rd,fun _ k hk he=>by have h1:=(hS.row.lt k hk).1;have h2:=(HO.out.row.lt k he).2;omega⟩
   have bN:Hid (S.length=2*labs.length):=by show _=_;rw [← gj];exact Da labs
   obtain ⟨d0,d1,_,_⟩:=T7.out w2 BG.out.AA
   clear hS gj YN HO d0 d1
   obtain ⟨d0,d1,_,_⟩:=T7.out w2 BG.out.AA
   go_wp2_with fail
   refine (EH w w2 E0 _ labs.length BG.out (by have:=YL.out;omega) (by have:=Nq.out;omega)).mono ?_
   rintro en w3 ⟨r3,rfl,hO,hM,hF⟩
   have Ew:Hid (AR w w3 (E0++Ab labs.length++Ar t (S.take 0)) r3):=by show AR _ _ _ _;rw [zDX];simpa [Ar] using hO
   have zn:=zAA (zm.out.step hM hF)
   clear hO hM hF BG zm d0 d1
   have hSi:(S.length:Int)≤2000000:=by have:=bN.out;have:=YL.out;omega
   obtain ⟨L3,wO⟩:∃L3,E0++Ab labs.length++Ar t (S.take 0)=L3:=⟨_,rfl⟩
   have Np:=zAA wO
   rw [wO] at Ew
   obtain ⟨p3,c3,UA⟩:=Ew.out.shape
   subst UA
   clear wO
   go_wp2_with fail
   go_loopw [6,9] (fun vv kv wr2=>∃(k:Nat),k≤S.length∧kv = .int .i64 (k:Int)∧Hid (AR w wr2 (E0++Ab labs.length++Ar t (S.take k)) vv)∧Hid (ME wr2 1 (.slice ps S.length cs) S.length (BM S) vv)∧Hid (∀s∈S.take k,s∈t)) (fun _ kv _=>S.length-(intOf kv).toNat)
   case atStart=>exact ⟨0,zAJ _,rfl,(by show AR _ _ _ _;rw [Np.out];exact Ew.out),zn.out,(by intro s hs;simp at hs)⟩
   case round=>
    obtain ⟨k,hk,rfl,GG,CF,Km⟩:=hrel
    have Xg:(k:Int)≤2000000:=by omega
    obtain ⟨p4,c4,nM⟩:=GG.out.shape
    subst nM
    by_cases Fl:k<S.length
    ·have Rz:(k:Int)<(S.length:Int):=by omega
     obtain ⟨s,hs⟩:∃s,S[k]? = some s:=⟨_,zAC Fl⟩
     obtain ⟨gs,os,cs',e,_,_,Aj⟩:=CF.out.rd.at (fun e=>by have:=congrArg List.length e;rw [BE] at this;rw [this] at Fl;simp at Fl)
     simp only [zAN] at e
     obtain ⟨rfl,_,rfl⟩:=e
     have s0:wr.cell? ⟨gs,os+k,none⟩=some (.string s):=Aj k _ (by rw [BM,zBQ,hs];rfl)
     have YF:=zAA (fun W h=>Q3 (.slice pt t.length ct) t s W h (by have:=KL.out;omega))
     have lZ:=zAA (Lx (t:=t) hs)
     have Pw:Hid (S.take (k+1)=S.take k++[s]):=by show _=_;rw [zAL,hs];rfl
     have Px:Hid (Rd wr 1 (.slice pt t.length ct) t.length (BM t)):=HT.out.below GG.out.AA
     have Wt:Hid ((E0++Ab labs.length++Ar t (S.take k)).length≤1000000000):=by
      show _≤_
      have h1:=GU t S k
      have h2:=Nq.out
      simp only [zAB]
      omega
     have HMs:Hid (s∈S):=zAG hs
     obtain ⟨L,hL⟩:∃L,E0++Ab labs.length++Ar t (S.take k)=L:=⟨_,rfl⟩
     have Pu:Hid (E0++Ab labs.length++Ar t (S.take (k+1))=L++Ab (Df t s)):=by show _=_;rw [lZ.out,← hL,zAK (E0++Ab labs.length)]
     rw [hL] at GG CF Wt ⊢
     clear hs Aj Fl hL lZ
     go_wp2_with fail
     refine (YF.out wr Px.out).mono ?_
     rintro en w5 ⟨rfl,rfl⟩
     clear YF s0
     by_cases Ct:s∈t
     ·obtain ⟨j,hj,xp⟩:=Ey Ct
      have hjl:=(zAE.1 xp).1
      have T1:Df t s=j:=by rw [Df,hj];rfl
      rw [hj]
      rw [T1] at Pu
      have hj0:¬(j:Int)<0:=by omega
      have k8:Hid (j<9223372036854775808):=by show _<_;have:=KL.out;omega
      have R6:Hid (∀x∈S.take (k+1),x∈t):=by
       intro x hx
       rw [Pw.out] at hx
       rcases zBJ.1 hx with e | e
       ·exact Km.out x e
       ·simp at e;subst e;exact Ct
      clear hj xp hjl T1 Ct
      go_wp2_with fail
      refine (EH w w5 L _ j GG.out k8.out Wt.out).mono ?_
      rintro en w6 ⟨r6,rfl,hO,hM,hF⟩
      obtain ⟨L2,Fk⟩:∃L2,E0++Ab labs.length++Ar t (S.take (k+1))=L2:=⟨_,rfl⟩
      have Jf:=zAA Fk
      have Jg:Hid (AR w w6 L2 r6):=by show AR _ _ _ _;rw [← Fk,Pu.out];exact hO
      have Jl:=zAA (CF.out.step hM hF)
      obtain ⟨p6,c6,jx⟩:=Jg.out.shape
      subst jx
      clear hO hM hF GG CF Pu Km Fk
      go_wp2_with fail
      go_round
      case rel=>exact ⟨k+1,by omega,by go_num,(by show AR _ _ _ _;rw [Jf.out];exact Jg.out),Jl.out,R6.out⟩
      case measure=>simp [intOf];omega
     ·rw [E9 Ct]
      have EZ:Hid (BQ t l=(14,[])):=by
       have h1:CI t (labs,chs)=14:=by
        rw [CI,if_neg (fun h=>Ct (EL.2 h s (by show s∈An labs;rw [KD.out];exact HMs.out)))]
       refine Gq (by decide) ?_
       rw [BH.out,h1];rfl
      have hb:=GG.out.AA
      have Dq:=zAA hb
      clear Ct hb
      go_wp2_with fail
      go_ret2
      exact EV.Ep Dq.out EZ.out
    ·have Rz:¬(k:Int)<(S.length:Int):=by omega
     have ju:S.take k=S:=zAF (by omega)
     rw [ju] at GG CF Km ⊢
     have Ws:Hid (∀x∈labs,CV t x):=EL.1 (by rw [KD.out];exact Km.out)
     have ig:Hid ((E0++Ab labs.length++Ar t S).length+(Ab chs.length).length+(Ax chs).length≤1000000000):=by
      show _≤_
      have h2:=Nq.out
      simp only [zAB]
      omega
     obtain ⟨E1,i9⟩:∃E1,E0++Ab labs.length++Ar t S=E1:=⟨_,rfl⟩
     rw [i9] at GG CF ig Gy ⊢
     obtain ⟨d0,d1,_,_⟩:=T7.out wr GG.out.AA
     clear ju Fl hk i9 CF Km Nq zn Ew
     by_cases DW:chs.length=0
     ·have G5:(chs.length:Int)=0:=by omega
      have EZ:Hid (BQ t l=(23,[])):=by
       have h1:CI t (labs,chs)=23:=by
        rw [CI,if_pos Ws.out,if_pos (zAI DW)]
       refine Gq (by decide) ?_
       rw [BH.out,h1];rfl
      have Dq:=zAA GG.out.AA
      clear DW
      go_wp2_with fail
      go_ret2
      exact EV.Ep Dq.out EZ.out
     ·have G5:¬(chs.length:Int)=0:=by omega
      have gm:((chs.length:Int) == 0)=false:=by rw [zAQ];exact G5
      have Ej:Hid (chs≠[]):=fun e=>DW (by rw [e];rfl)
      clear DW
      go_wp2_with fail
      clear Rz Xg
      generalize (k:Int)=k0 at *
      refine (EH w wr E1 _ chs.length GG.out (by have:=YL.out;omega) (by have:=ig.out;omega)).mono ?_
      rintro en w6 ⟨r6,rfl,hO,hM,hF⟩
      obtain ⟨L6,hL6⟩:∃L6,E1++Ab chs.length++Ax (chs.take 0)=L6:=⟨_,rfl⟩
      have vD:=zAA hL6
      have Jg:Hid (AR w w6 L6 r6):=by show AR _ _ _ _;rw [← hL6,zDX];simpa [Ax] using hO
      obtain ⟨p6,c6,jx⟩:=Jg.out.shape
      subst jx
      clear hO hM hF GG G5 gm d0 d1 hL6
      go_wp2_with fail
      go_loopw [6,11] (fun vv kv wr2=>∃(k:Nat),k≤chs.length∧kv = .int .i64 (k:Int)∧Hid (AR w wr2 (E1++Ab chs.length++Ax (chs.take k)) vv)∧Hid (∀n∈chs.take k,DQ n)) (fun _ kv _=>chs.length-(intOf kv).toNat)
      case atStart=>exact ⟨0,zAJ _,rfl,(by show AR _ _ _ _;rw [vD.out];exact Jg.out),(by intro s hs;simp at hs)⟩
      case round=>
       obtain ⟨k,hk,rfl,JD,Fj⟩:=hrel
       have Xg:(k:Int)≤1000000:=by omega
       obtain ⟨p7,c7,UB⟩:=JD.out.shape
       subst UB
       obtain ⟨d0,d1,_,dc⟩:=T7.out wr JD.out.AA
       by_cases Fl:k<chs.length
       ·have Rz:(k:Int)<(chs.length:Int):=by omega
        obtain ⟨n,hn⟩:∃n,chs[k]? = some n:=⟨_,zAC Fl⟩
        obtain ⟨gc,oc,cc',e,_,_,Aj⟩:=dc.at (fun e=>by have:=congrArg List.length e;rw [Ce] at this;rw [this] at Fl;simp at Fl)
        simp only [zAN] at e
        obtain ⟨rfl,_,rfl⟩:=e
        have n0:wr.cell? ⟨gc,oc+k,none⟩=some (.int .i64 n):=Aj k _ (by rw [A1,zBQ,hn];rfl)
        have bK:=zAA (Ln hn)
        have Pw:Hid (chs.take (k+1)=chs.take k++[n]):=by show _=_;rw [zAL,hn];rfl
        have t6:Hid (n∈chs):=zAG hn
        have Wt:Hid ((E1++Ab chs.length++Ax (chs.take k)).length≤1000000000):=by
         show _≤_
         have h1:=GO chs k
         have h2:=ig.out
         simp only [zAB] at h2 ⊢
         omega
        have nc:¬DQ n→BQ t l=(23,[]):=fun uI=>by
         have h1:CI t (labs,chs)=23:=by
          rw [CI,if_pos Ws.out,if_neg Ej.out,if_neg (fun h=>uI (h n t6.out))]
         refine Gq (by decide) ?_
         rw [BH.out,h1];rfl
        have Nn:=zAA nc
        have Dq:=zAA JD.out.AA
        clear hn Aj dc nc
        by_cases a1:n<1
        ·have EZ:=zAA (Nn.out (fun h=>by have:=h.1;omega))
         go_wp2_with fail
         go_ret2
         exact EV.Ep Dq.out EZ.out
        ·by_cases a2:(2147483647:Int)<n
         ·have EZ:=zAA (Nn.out (fun h=>by have:=h.2;omega))
          go_wp2_with fail
          go_ret2
          exact EV.Ep Dq.out EZ.out
         ·have HOkn:Hid (DQ n):=⟨by omega,by omega⟩
          obtain ⟨m,hm⟩:∃m:Nat,n=(m:Int):=⟨n.toNat,by omega⟩
          subst hm
          have k8:Hid (m<9223372036854775808):=by show _<_;omega
          have vN:Hid (∀x∈chs.take (k+1),DQ x):=by
           intro x hx
           rw [Pw.out] at hx
           rcases zBJ.1 hx with e | e
           ·exact Fj.out x e
           ·simp only [zCF] at e;rw [e];exact HOkn.out
          obtain ⟨L,hL⟩:∃L,E1++Ab chs.length++Ax (chs.take k)=L:=⟨_,rfl⟩
          have Pu:Hid (E1++Ab chs.length++Ax (chs.take (k+1))=L++Ab m):=by show _=_;rw [bK.out,← hL,zAK (E1++Ab chs.length)];rfl
          rw [hL] at JD Wt ⊢
          clear Fl hL bK Nn
          go_wp2_with fail
          refine (EH w wr L _ m JD.out k8.out Wt.out).mono ?_
          rintro en w8 ⟨r8,rfl,hO,hM,hF⟩
          obtain ⟨L2,Fk⟩:∃L2,E1++Ab chs.length++Ax (chs.take (k+1))=L2:=⟨_,rfl⟩
          have Jf:=zAA Fk
          have bM:Hid (AR w w8 L2 r8):=by show AR _ _ _ _;rw [← Fk,Pu.out];exact hO
          obtain ⟨p8,c8,MY⟩:=bM.out.shape
          subst MY
          clear hO hM hF JD Pu Fj a1 a2 n0 d0 d1 Fk
          go_wp2_with fail
          go_round
          case rel=>exact ⟨k+1,by omega,by go_num,(by show AR _ _ _ _;rw [Jf.out];exact bM.out),vN.out⟩
          case measure=>simp [intOf];omega
       ·have Rz:¬(k:Int)<(chs.length:Int):=by omega
        have ju:chs.take k=chs:=zAF (by omega)
        rw [ju] at JD Fj ⊢
        have yx:Hid (AR w wr (CM t l (i+1)) (.slice p7 (CM t l (i+1)).length c7)):=by show AR _ _ _ _;rw [Gy.out];exact JD.out
        have qY:(E1++Ab chs.length++Ax chs)=CM t l (i+1):=Gy.out.symm
        have zH:Hid (Bu t l=Bu t (l.drop (i+1))):=by
         show _=_
         rw [BH.out,if_pos (GT.2 ⟨Ws.out,Ej.out,Fj.out⟩)]
        rw [qY]
        obtain ⟨L2,Fk⟩:∃L2,CM t l (i+1)=L2:=⟨_,rfl⟩
        have Jf:=zAA Fk
        rw [Fk] at yx ⊢
        clear ju qY JD Fj Fl hk dc Fk
        go_wp2_with fail
        go_round
        case rel=>exact ⟨i+1,by omega,by go_num,(by show AR _ _ _ _;rw [Jf.out];exact yx.out),zH.out⟩
        case measure=>simp [intOf];omega
  ·have AF:¬(i:Int)<(l.length:Int):=by omega
   have fO:Hid (BQ t l=(0,CM t l i)):=by
    have h1:=HE.out
    rw [zBF (by omega)] at h1
    show _=_
    rw [BQ,h1,Vo t l i (by omega)];rfl
   go_wp2_with fail
   go_ret2
   exact ⟨by rw [fO.out];exact ⟨_,rfl,HO.out.row⟩,HO.out.AA⟩
theorem XO (tv lv:Value) (t:List ByteArray) (l:List DT) (w:World) (ht:Rd w 1 tv t.length (BM t)) (Yx:t.length≤1000000) (hl:bO w lv l) (JG:l.length≤1000000) (gz:∀r∈l,r.1.length≤1000000∧r.2.length≤1000000) (qU:∀r∈l,∀n∈r.2,-9223372036854775808≤n∧n<9223372036854775808) (hE:(Gp t l).length≤1000000000) :
  Calls Tryz.prog 35 #[tv,lv] w (YB w (BQ t l)):=(UT tv lv t l w ht Yx hl JG gz qU hE).mono fun _ _ h=>h.got
end Go.Proofs.YtdcgbgecbeegmaaGreatDoor
end
