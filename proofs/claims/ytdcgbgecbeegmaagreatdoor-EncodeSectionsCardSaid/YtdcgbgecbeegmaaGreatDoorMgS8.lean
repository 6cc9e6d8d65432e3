/- Texts 8. -/
import Derived.Test.YtdcgbgecbeegmaaGreatDoorMgSA
import Derived.Test.YtdcgbgecbeegmaaGreatDoorMgS5
set_option linter.unusedVariables false
set_option linter.unusedSimpArgs false
set_option maxHeartbeats 400000000
set_option maxRecDepth 100000
section
namespace Go.Proofs.YtdcgbgecbeegmaaGreatDoor
def Jo (rs:List (Nat × Nat)) (x:Nat):List (Nat × Nat):=match rs.getLast? with
 | some (v,c)=>if v=x∧c<128 then rs.dropLast++[(v,c+1)] else rs++[(x,1)]
 | none=>rs++[(x,1)]
def Bo (rs:List (Nat × Nat)) (l:List Nat):List (Nat × Nat):=l.foldl Jo rs
def Be (l:List Nat):List (Nat × Nat):=Bo [] l
def CP (r:Nat × Nat):List Bool:=Aa r.1 64++Aa (r.2-1) 7
def PY (l:List Nat):List Bool:=(Be l).flatMap CP
theorem Fd (rs:List (Nat × Nat)) (a b:List Nat):Bo rs (a++b)=Bo (Bo rs a) b:=by simp [Bo,zDL]
theorem bf (l:List Nat) (x:Nat):Be (l++[x])=Jo (Be l) x:=Fd [] l [x]
theorem YR (x:Nat):Jo [] x=[(x,1)]:=rfl
theorem Eo (p:List (Nat × Nat)) (v c x:Nat):Jo (p++[(v,c)]) x=if v=x∧c<128 then p++[(v,c+1)] else p++[(v,c)]++[(x,1)]:=by
 simp [Jo]
theorem Gm (rs:List (Nat × Nat)):rs=[]∨∃p v c,rs=p++[(v,c)]:=by
 rcases List.eq_nil_or_concat rs with h | ⟨p,⟨v,c⟩,h⟩
 ·exact Or.inl h
 ·exact Or.inr ⟨p,v,c,by simpa using h⟩
def okR (p:Option (Nat × Nat)) (v:Nat):Prop:=∀pv pc,p=some (pv,pc)→¬(pv=v∧pc<128)
def V6 (r:Nat × Nat):Prop:=1≤r.2∧r.2≤128∧r.1<18446744073709551616
def Kl:Option (Nat × Nat)→List (Nat × Nat)→Prop
 | _,[]=>True
 | p,r::rs=>V6 r∧okR p r.1∧Kl (some r) rs
def QO (p:Option (Nat × Nat)) (rs:List (Nat × Nat)):Option (Nat × Nat):=match rs.getLast? with
 | some r=>some r
 | none=>p
theorem SS (p:Option (Nat × Nat)) (rs:List (Nat × Nat)) (r:Nat × Nat):QO p (rs++[r])=some r:=by simp [QO]
theorem dN (p:Option (Nat × Nat)) (r:Nat × Nat) (rs:List (Nat × Nat)):QO p (r::rs)=QO (some r) rs:=by
 cases rs with
 | nil=>rfl
 | cons s rs=>simp [QO,List.getLast?_cons]
theorem MP {p:Option (Nat × Nat)} {rs:List (Nat × Nat)} {r:Nat × Nat}:Kl p (rs++[r])↔Kl p rs∧V6 r∧okR (QO p rs) r.1:=by
 induction rs generalizing p with
 | nil=>simp [Kl,QO]
 | cons s rs ih=>rw [zBX,Kl,Kl,ih,dN,and_assoc,and_assoc]
theorem iH {p:Option (Nat × Nat)} {rs:List (Nat × Nat)} (h:Kl p rs):∀r∈rs,V6 r:=by
 induction rs generalizing p with
 | nil=>intro r hr;cases hr
 | cons s rs ih=>
  intro r hr
  rcases zAS.1 hr with rfl | hr
  ·exact h.1
  ·exact ih h.2.2 r hr
theorem iG {rs:List (Nat × Nat)} (h:Kl none rs) {x:Nat} (hx:x<18446744073709551616):Kl none (Jo rs x):=by
 rcases Gm rs with rfl | ⟨p,v,c,rfl⟩
 ·exact ⟨⟨zAD _,by omega,hx⟩,(fun _ _ e=>by cases e),trivial⟩
 ·rw [Eo]
  obtain ⟨h1,h2,h3⟩:=MP.1 h
  split
  ·next hh=>exact MP.2 ⟨h1,⟨by omega,by show c+1≤128;omega,h2.2.2⟩,h3⟩
  ·next hh=>
   refine MP.2 ⟨h,⟨zAD _,by omega,hx⟩,?_⟩
   rw [SS]
   intro pv pc e
   cases e
   exact hh
theorem Rm {rs:List (Nat × Nat)} (h:Kl none rs) {l:List Nat} (hl:∀x∈l,x<18446744073709551616):Kl none (Bo rs l):=by
 induction l generalizing rs with
 | nil=>exact h
 | cons x l ih=>exact ih (iG h (hl x (by simp))) (fun y hy=>hl y (by simp [hy]))
theorem WE {l:List Nat} (hl:∀x∈l,x<18446744073709551616):Kl none (Be l):=Rm (rs:=[]) trivial hl
theorem kD (rs:List (Nat × Nat)) (x k:Nat) (hk:k<128) (h:okR (QO none rs) x):Bo rs (List.replicate (k+1) x)=rs++[(x,k+1)]:=by
 induction k with
 | zero=>
  show Jo rs x=_
  rcases Gm rs with rfl | ⟨p,v,c,rfl⟩
  ·rfl
  ·rw [Eo,if_neg]
   intro hh
   exact h v c (SS _ _ _) hh
 | succ k ih=>
  rw [List.replicate_succ',Fd,ih (by omega)]
  show Jo (rs++[(x,k+1)]) x=_
  rw [Eo,if_pos ⟨rfl,by omega⟩]
theorem dj (r:Nat × Nat):(CP r).length=71:=by simp [CP,Ae]
theorem GK (rs:List (Nat × Nat)):(rs.flatMap CP).length=71*rs.length:=by
 induction rs with
 | nil=>rfl
 | cons r rs ih=>rw [zBN,zAB,dj,ih,zAH];omega
theorem mh (rs:List (Nat × Nat)) (x:Nat):(Jo rs x).length≤rs.length+1:=by
 rcases Gm rs with rfl | ⟨p,v,c,rfl⟩
 ·simp [YR]
 ·rw [Eo];split<;>simp
theorem U4 (rs:List (Nat × Nat)) (l:List Nat):(Bo rs l).length≤rs.length+l.length:=by
 induction l generalizing rs with
 | nil=>simp [Bo]
 | cons x l ih=>
  have h:=ih (Jo rs x)
  have h2:=mh rs x
  show (Bo (Jo rs x) l).length≤_
  rw [zAH];omega
theorem Gu (l:List Nat):(Be l).length≤l.length:=by have:=U4 [] l;simpa [Be] using this
theorem Zl (l:List Nat):(PY l).length=71*(Be l).length:=GK _
theorem mE (l:List Nat):(PY l).length≤71*l.length:=by rw [Zl];have:=Gu l;omega
end Go.Proofs.YtdcgbgecbeegmaaGreatDoor
end
section
namespace Go.Proofs.YtdcgbgecbeegmaaGreatDoor
open Go Go.RowKit
def M7 (l:List Nat):List Value:=l.map fun x:Nat=>.int .i64 (x:Int)
theorem ac (a b:List Nat):M7 (a++b)=M7 a++M7 b:=by simp [M7]
theorem Tryz.infoInt:(Tryz.prog.info? 3).map (fun i=>(i.zero,i.size,i.bytes))=some (some (.int .i64 0),1,8):=by kernel_rfl
theorem Tryz.WO:Cd Tryz.prog 59 3 1 8:=Cd.mk' Tryz.underlying59 Tryz.infoInt rfl (by decide)
structure B6 (w wr:World) (rs:List (Nat × Nat)) (rv rc:Value):Prop where
 Qn:wr.ownsRow w.heap.size 81 1 rv rs.length (AL (rs.map Prod.fst))
 KZ:wr.ownsRow w.heap.size 3 1 rc rs.length (M7 (rs.map Prod.snd))
 apart:∀k,rv.ownBlock=some k→rc.ownBlock≠some k
 AA:Below w.heap.size w wr
theorem B6.drewN {w wr:World} {rs:List (Nat × Nat)} {rv rc:Value} (h:B6 w wr rs rv rc) (n:Nat):B6 w (wr.drewN n) rs rv rc:=
 ⟨(Ac.drewN (fun _=>False) wr n).owns h.Qn (fun _ _ e=>e),(Ac.drewN (fun _=>False) wr n).owns h.KZ (fun _ _ e=>e),h.apart,h.AA.trans ((Ac.drewN (fun _=>False) wr n).below h.AA.size (fun _ _ e=>e))⟩
theorem B6.B5 {w wr w1 w2:World} {rs:List (Nat × Nat)} {rv rc v1 v2:Value} {x:Nat} (h:B6 w wr rs rv rc)
  (k1:w1.ownsRow 0 81 1 v1 (rs.length+1) (AL (rs.map Prod.fst)++[.int .u64 (x:Int)])) (m1:Ac (fun k=>rv.ownBlock=some k) wr w1) (f1:AG wr.heap.size rv v1)
  (k2:w2.ownsRow 0 3 1 v2 (rs.length+1) (M7 (rs.map Prod.snd)++[.int .i64 1])) (m2:Ac (fun k=>rc.ownBlock=some k) w1 w2) (f2:AG w1.heap.size rc v2):B6 w w2 (rs++[(x,1)]) v1 v2:=by
 have hlo1:∀k,v1.ownBlock=some k→w.heap.size≤k:=fun k hk=>by
  rcases f1 k hk with e | e
  ·exact (h.Qn.lt k e).1
  ·have:=h.AA.size;omega
 have hlo2:∀k,v2.ownBlock=some k→w.heap.size≤k:=fun k hk=>by
  rcases f2 k hk with e | e
  ·exact (h.KZ.lt k e).1
  ·have:=h.AA.size;have:=m1.size;omega
 have hd:∀k,v1.ownBlock=some k→rc.ownBlock≠some k:=fun k hk e=>by
  rcases f1 k hk with e1 | e1
  ·exact h.apart k e1 e
  ·have:=(h.KZ.lt k e).2;omega
 have lk:w2.ownsRow 0 81 1 v1 (rs.length+1) (AL (rs.map Prod.fst)++[.int .u64 (x:Int)]):=m2.owns k1 (fun k hk e=>hd k hk e)
 refine ⟨?_,?_,fun k hk e=>?_,?_⟩
 ·rw [zAB,zCD,LB]
  exact Af lk hlo1
 ·rw [zAB,zCD,ac]
  exact Af k2 hlo2
 ·rcases f2 k e with e1 | e1
  ·exact hd k hk e1
  ·have:=(k1.lt k hk).2;omega
 ·exact (h.AA.trans (m1.below h.AA.size (fun k hk e=>by have:=(h.Qn.lt k e).1;omega))).trans (m2.below (zAW h.AA.size m1.size) (fun k hk e=>by have:=(h.KZ.lt k e).1;omega))
theorem B6.bump {w wr:World} {p:List (Nat × Nat)} {v c:Nat} {rv:Value} {g cap:Nat} (h:B6 w wr (p++[(v,c)]) rv (.slice (some ⟨g,0,none⟩) (p++[(v,c)]).length cap)) :
  B6 w (wr.setCell ⟨g,p.length,none⟩ (.int .i64 ((c+1:Nat):Int))) (p++[(v,c+1)]) rv (.slice (some ⟨g,0,none⟩) (p++[(v,c)]).length cap):=by
 have hm:Ac (fun k=>k=g) wr (wr.setCell ⟨g,p.length,none⟩ (.int .i64 ((c+1:Nat):Int))):=Ac.set _ _ _ _ (fun _=>rfl)
 have yM:∀k,rv.ownBlock=some k→¬k=g:=fun k hk e=>h.apart k hk (by rw [e];rfl)
 have hg:=(h.KZ.lt g rfl).1
 have hl:(p++[(v,c+1)]).length=(p++[(v,c)]).length:=by simp
 refine ⟨?_,?_,h.apart,h.AA.trans (hm.below h.AA.size (fun k hk e=>by omega))⟩
 ·have e:(p++[(v,c+1)]).map Prod.fst=(p++[(v,c)]).map Prod.fst:=by simp
  rw [hl,e]
  exact hm.owns h.Qn yM
 ·have e:M7 ((p++[(v,c+1)]).map Prod.snd)=(M7 ((p++[(v,c)]).map Prod.snd)).set p.length (.int .i64 ((c+1:Nat):Int)):=by
   simp [M7,zDQ]
  rw [hl,e]
  exact (h.KZ.stored p.length _).1
theorem aO (lv:Value) (l:List Nat) (w:World) (hl:Rd w 1 lv l.length (AL l)) (hn:l.length≤1000000000000) :
  Calls Tryz.prog 152 #[lv] w fun e w'=>∃rv rc,e = .returned (.tuple #[rv,rc])∧B6 w w' (Be l) rv rc:=by
 have HL:=zAA hl;have Mk:=zAA hn
 obtain ⟨pl,cl,hv⟩:=hl.shape
 subst hv
 clear hl hn
 go_enter Tryz.func152,Tryz.ntmps152
 go_wp2_with fail
 go_loopw [4,5,6] (fun vv cv iv wr=>∃(j:Nat),j≤l.length∧iv = .int .i64 (j:Int)∧Hid (B6 w wr (Be (l.take j)) vv cv)) (fun _ _ iv _=>l.length-(intOf iv).toNat)
 case atStart=>exact ⟨0,by omega,rfl,zBI _ _ _ _,zBI _ _ _ _,(fun k e=>by cases e),zAM _ _⟩
 case round=>
  obtain ⟨j,hj,rfl,Px⟩:=hrel
  by_cases Aq:j<l.length
  ·have AF:(j:Int)<(l.length:Int):=by omega
   have T1:(j:Int)≤1000000000000:=by have:=Mk.out;omega
   have Yh:=zAA (HL.out.below Px.out.AA)
   obtain ⟨b,off,c',e,T3,KG,Aj⟩:=Yh.out.at (fun e=>by have:=congrArg List.length e;rw [BP] at this;simp at this;subst this;simp at Aq)
   simp only [zAN] at e
   obtain ⟨rfl,_,rfl⟩:=e
   obtain ⟨x,hx⟩:∃x,l[j]=x:=⟨_,rfl⟩
   have Ry:wr.cell? ⟨b,off+j,none⟩=some (.int .u64 (x:Int)):=by rw [← hx];exact Aj j _ (DH l j Aq)
   have BH:Hid (Be (l.take (j+1))=Jo (Be (l.take j)) x):=by show _=_;rw [zAL,zAC Aq,hx];exact bf _ _
   have hSl:(Be (l.take j)).length≤1000000000000:=by have:=Gu (l.take j);rw [zAR] at this;have:=Mk.out;omega
   clear Aj hx T3 KG
   generalize uM:Be (l.take j)=rs at *
   clear uM
   obtain ⟨pv,cv,DB⟩:=(Rd.Ad Px.out.Qn).shape
   obtain ⟨pc,cc,sK⟩:=(Rd.Ad Px.out.KZ).shape
   subst DB;subst sK
   rcases Gm rs with rfl | ⟨p,v,c,rfl⟩
   ·rw [YR] at BH
    simp only [zBG] at Px ⊢
    have ru:Hid (([]:List (Nat × Nat)).length=0):=rfl
    go_wp2_with fail
    go_quiet (fail)
    have hct2:(wr.drewN nq).cell? ⟨b,off+j,none⟩=some (.int .u64 (x:Int)):=Ry
    have KL:Hid (B6 w (wr.drewN nq) [] (.slice pv 0 cv) (.slice pc 0 cc)):=Px.out.drewN _
    clear Px Yh
    generalize wr.drewN nq=wn at *
    have C0:Hid (1*8≤140737488355328∧0+1≤maxLen):=by show _∧_;unfold maxLen;omega
    have FT:Hid (wn.ownsRow 0 81 1 (.slice pv 0 cv) 0 (AL (([]:List (Nat × Nat)).map Prod.fst))):=by
     have h:=Af KL.out.Qn (base':=0) (fun _ _=>zAJ _)
     rw [ru.out] at h
     exact h
    have lg:Hid (∀w',Ac (fun k=>(Value.slice pv 0 cv).ownBlock=some k) wn w'→w'.ownsRow 0 3 1 (.slice pc 0 cc) 0 (M7 (([]:List (Nat × Nat)).map Prod.snd))):=fun w' hm=>by
     have h:=hm.owns (Af KL.out.KZ (base':=0) (fun _ _=>zAJ _)) (fun k hk e=>KL.out.apart k e hk)
     rw [ru.out] at h
     exact h
    go_wp2_with (at_builtin;refine AD Tryz.GJ wn #[.int .u64 (x:Int)] _ _ _ FT.out rfl (CC _ rfl) C0.out rfl _ _ rfl rfl rfl ?_)
    intro v1 w1 k1 m1 f1
    have K1:=zAA k1;have M1:=zAA m1;have F1:=zAA f1
    have Dd:=zAA (lg.out _ m1)
    obtain ⟨p1,c1,DA⟩:=(Rd.Ad k1).shape
    subst DA
    clear k1 m1 f1
    go_wp2_with (at_builtin;refine AD Tryz.WO w1 #[.int .i64 1] _ _ _ Dd.out rfl (CC _ rfl) C0.out rfl _ _ rfl rfl rfl ?_)
    intro v2 w2 k2 m2 f2
    have GA:Hid (B6 w w2 (Be (l.take (j+1))) (.slice p1 1 c1) v2):=by
     show B6 _ _ _ _ _
     rw [BH.out]
     exact KL.out.B5 (by rw [ru.out];exact K1.out) M1.out F1.out (by rw [ru.out];exact k2) m2 f2
    obtain ⟨p2,c2,Ji⟩:=(Rd.Ad k2).shape
    subst Ji
    clear k2 m2 f2 KL FT lg Dd K1 M1 F1
    go_wp2_with fail
    go_round
    case rel=>exact ⟨j+1,by omega,by go_num,GA.out⟩
    case measure=>simp [intOf];omega
   ·obtain ⟨gv,cv',DB⟩:∃g cap,(Value.slice pv (p++[(v,c)]).length cv) = .slice (some ⟨g,0,none⟩) (p++[(v,c)]).length cap:=by
     rcases BA Px.out.Qn with ⟨_,h0,_⟩ | ⟨g,cap,hv,_⟩
     ·simp at h0
     ·exact ⟨g,cap,hv⟩
    obtain ⟨gc,cc',sK⟩:∃g cap,(Value.slice pc (p++[(v,c)]).length cc) = .slice (some ⟨g,0,none⟩) (p++[(v,c)]).length cap:=by
     rcases BA Px.out.KZ with ⟨_,h0,_⟩ | ⟨g,cap,hv,_⟩
     ·simp at h0
     ·exact ⟨g,cap,hv⟩
    simp only [zAN] at DB sK
    obtain ⟨rfl,_,rfl⟩:=DB
    obtain ⟨rfl,_,rfl⟩:=sK
    have gn:wr.cell? ⟨gv,p.length,none⟩=some (.int .u64 (v:Int)):=by
     rw [Px.out.Qn.cellAt p.length (by simp)];simp [AL]
    have hcc:wr.cell? ⟨gc,p.length,none⟩=some (.int .i64 (c:Int)):=by
     rw [Px.out.KZ.cellAt p.length (by simp)];simp [M7]
    have hfc:wr.frozen? ⟨gc,p.length,none⟩=false:=Px.out.KZ.frozenAt _
    have ig:Hid (∀nq,B6 w ((wr.drewN nq).setCell ⟨gc,p.length,none⟩ (.int .i64 ((c+1:Nat):Int))) (p++[(v,c+1)]) (.slice (some ⟨gv,0,none⟩) (p++[(v,c)]).length cv) (.slice (some ⟨gc,0,none⟩) (p++[(v,c)]).length cc)):=fun nq=>(Px.out.drewN nq).bump
    have wQ:(p++[(v,c)]).length=p.length+1:=by simp
    rw [Eo] at BH
    obtain ⟨N,hN⟩:∃N,(p++[(v,c)]).length=N:=⟨_,rfl⟩
    obtain ⟨m,hm⟩:∃m,p.length=m:=⟨_,rfl⟩
    rw [hN] at Px ig wQ ⊢
    rw [hm] at gn hcc hfc wQ ig
    have lc:Hid ((p++[(v,c)]).length=N):=hN
    have hNi:(N:Int)-1=(m:Int):=by omega
    have xw:(m:Int)<(N:Int):=by omega
    have jq:(0:Int)≤(m:Int):=by omega
    have hN5:N≤1000000000000:=by rw [← hN];exact hSl
    clear hSl wQ hm hN
    have vH:Hid (N≤1000000000000):=hN5
    have hmi:(m:Int)≤1000000000000:=by omega
    clear hN5
    by_cases hvx:v=x
    ·subst hvx
     by_cases hc:c<128
     ·have hc':(c:Int)<128:=by omega
      rw [if_pos ⟨rfl,hc⟩] at BH
      clear hc
      go_wp2_with fail
      go_quiet (fail)
      have AP:Hid (B6 w ((wr.drewN nq).setCell ⟨gc,m,none⟩ (.int .i64 ((c:Int)+1))) (p++[(v,c+1)]) (.slice (some ⟨gv,0,none⟩) N cv) (.slice (some ⟨gc,0,none⟩) N cc)):=ig.out nq
      have hcc2:(wr.drewN nq).cell? ⟨gc,m,none⟩=some (.int .i64 (c:Int)):=hcc
      have hfc2:(wr.drewN nq).frozen? ⟨gc,m,none⟩=false:=hfc
      clear Px Yh ig hcc hfc gn Ry
      generalize wr.drewN nq=wn at *
      go_wp2_with fail
      go_round
      case rel=>exact ⟨j+1,by omega,by go_num,by rw [BH.out];exact AP.out⟩
      case measure=>simp [intOf];omega
     ·have hc':¬(c:Int)<128:=by omega
      rw [if_neg (fun h=>hc h.2)] at BH
      clear hc
      go_wp2_with fail
      go_quiet (fail)
      have hct2:(wr.drewN nq).cell? ⟨b,off+j,none⟩=some (.int .u64 (v:Int)):=Ry
      have KL:Hid (B6 w (wr.drewN nq) (p++[(v,c)]) (.slice (some ⟨gv,0,none⟩) N cv) (.slice (some ⟨gc,0,none⟩) N cc)):=Px.out.drewN _
      clear Px Yh
      clear gn hcc hfc Ry hNi xw jq hmi ig
      generalize wr.drewN nq=wn at *
      have C0:Hid ((N+1)*8≤140737488355328∧N+1≤maxLen):=by show _∧_;have:=vH.out;unfold maxLen;omega
      obtain ⟨VS,hVS⟩:∃VS,AL ((p++[(v,c)]).map Prod.fst)=VS:=⟨_,rfl⟩
      obtain ⟨CS,hCS⟩:∃CS,M7 ((p++[(v,c)]).map Prod.snd)=CS:=⟨_,rfl⟩
      have HVS:=zAA hVS;have zp:=zAA hCS
      clear hVS hCS
      have FT:Hid (wn.ownsRow 0 81 1 (.slice (some ⟨gv,0,none⟩) N cv) N VS):=by
       have h:=Af KL.out.Qn (base':=0) (fun _ _=>zAJ _)
       rw [lc.out,HVS.out] at h
       exact h
      have lg:Hid (∀w',Ac (fun k=>(Value.slice (some ⟨gv,0,none⟩) N cv).ownBlock=some k) wn w'→w'.ownsRow 0 3 1 (.slice (some ⟨gc,0,none⟩) N cc) N CS):=fun w' hm=>by
       have h:=hm.owns (Af KL.out.KZ (base':=0) (fun _ _=>zAJ _)) (fun k hk e=>KL.out.apart k e hk)
       rw [lc.out,zp.out] at h
       exact h
      go_wp2_with (at_builtin;refine AD Tryz.GJ wn #[.int .u64 (v:Int)] _ _ _ FT.out rfl (CC _ rfl) C0.out rfl _ _ rfl rfl rfl ?_)
      intro v1 w1 k1 m1 f1
      have K1:=zAA k1;have M1:=zAA m1;have F1:=zAA f1
      have Dd:=zAA (lg.out _ m1)
      obtain ⟨p1,c1,DA⟩:=(Rd.Ad k1).shape
      subst DA
      clear k1 m1 f1
      go_wp2_with (at_builtin;refine AD Tryz.WO w1 #[.int .i64 1] _ _ _ Dd.out rfl (CC _ rfl) C0.out rfl _ _ rfl rfl rfl ?_)
      intro v2 w2 k2 m2 f2
      have GA:Hid (B6 w w2 (Be (l.take (j+1))) (.slice p1 (N+1) c1) v2):=by
       show B6 _ _ _ _ _
       rw [BH.out]
       exact KL.out.B5 (by rw [lc.out,HVS.out];exact K1.out) M1.out F1.out (by rw [lc.out,zp.out];exact k2) m2 f2
      obtain ⟨p2,c2,Ji⟩:=(Rd.Ad k2).shape
      subst Ji
      clear k2 m2 f2 KL FT lg Dd K1 M1 F1
      go_wp2_with fail
      go_round
      case rel=>exact ⟨j+1,by omega,by go_num,GA.out⟩
      case measure=>simp [intOf];omega
    ·have hvb:((v:Int) == (x:Int))=false:=by rw [zAQ];omega
     have y5:¬(v:Int)=(x:Int):=by omega
     rw [if_neg (fun h=>hvx h.1)] at BH
     clear hvx
     go_wp2_with fail
     go_quiet (fail)
     have hct2:(wr.drewN nq).cell? ⟨b,off+j,none⟩=some (.int .u64 (x:Int)):=Ry
     have KL:Hid (B6 w (wr.drewN nq) (p++[(v,c)]) (.slice (some ⟨gv,0,none⟩) N cv) (.slice (some ⟨gc,0,none⟩) N cc)):=Px.out.drewN _
     clear Px Yh
     generalize wr.drewN nq=wn at *
     have C0:Hid ((N+1)*8≤140737488355328∧N+1≤maxLen):=by show _∧_;have:=vH.out;unfold maxLen;omega
     obtain ⟨VS,hVS⟩:∃VS,AL ((p++[(v,c)]).map Prod.fst)=VS:=⟨_,rfl⟩
     obtain ⟨CS,hCS⟩:∃CS,M7 ((p++[(v,c)]).map Prod.snd)=CS:=⟨_,rfl⟩
     have HVS:=zAA hVS;have zp:=zAA hCS
     clear hVS hCS
     have FT:Hid (wn.ownsRow 0 81 1 (.slice (some ⟨gv,0,none⟩) N cv) N VS):=by
      have h:=Af KL.out.Qn (base':=0) (fun _ _=>zAJ _)
      rw [lc.out,HVS.out] at h
      exact h
     have lg:Hid (∀w',Ac (fun k=>(Value.slice (some ⟨gv,0,none⟩) N cv).ownBlock=some k) wn w'→w'.ownsRow 0 3 1 (.slice (some ⟨gc,0,none⟩) N cc) N CS):=fun w' hm=>by
      have h:=hm.owns (Af KL.out.KZ (base':=0) (fun _ _=>zAJ _)) (fun k hk e=>KL.out.apart k e hk)
      rw [lc.out,zp.out] at h
      exact h
     go_wp2_with (at_builtin;refine AD Tryz.GJ wn #[.int .u64 (x:Int)] _ _ _ FT.out rfl (CC _ rfl) C0.out rfl _ _ rfl rfl rfl ?_)
     intro v1 w1 k1 m1 f1
     have K1:=zAA k1;have M1:=zAA m1;have F1:=zAA f1
     have Dd:=zAA (lg.out _ m1)
     obtain ⟨p1,c1,DA⟩:=(Rd.Ad k1).shape
     subst DA
     clear k1 m1 f1
     go_wp2_with (at_builtin;refine AD Tryz.WO w1 #[.int .i64 1] _ _ _ Dd.out rfl (CC _ rfl) C0.out rfl _ _ rfl rfl rfl ?_)
     intro v2 w2 k2 m2 f2
     have GA:Hid (B6 w w2 (Be (l.take (j+1))) (.slice p1 (N+1) c1) v2):=by
      show B6 _ _ _ _ _
      rw [BH.out]
      exact KL.out.B5 (by rw [lc.out,HVS.out];exact K1.out) M1.out F1.out (by rw [lc.out,zp.out];exact k2) m2 f2
     obtain ⟨p2,c2,Ji⟩:=(Rd.Ad k2).shape
     subst Ji
     clear k2 m2 f2 KL FT lg Dd K1 M1 F1
     go_wp2_with fail
     go_round
     case rel=>exact ⟨j+1,by omega,by go_num,GA.out⟩
     case measure=>simp [intOf];omega
  ·have AF:¬(j:Int)<(l.length:Int):=by omega
   have HD:Hid (Be (l.take j)=Be l):=by show _=_;rw [zAF (by omega)]
   rw [HD.out] at Px
   go_wp2_with fail
   go_ret2
   exact ⟨_,_,rfl,Px.out⟩
theorem kj (v lv:Value) (bs:List Bool) (l:List Nat) (w:World) (h:GY w v bs) (hl:Rd w 1 lv l.length (AL l)) (Ct:∀t∈l,C4 t) (Dz:l≠[]→∀k,lv.ownBlock=some k→v.ownBlock≠some k) (hz:bs.length+71*l.length≤70368744177000) :
  Calls Tryz.prog 112 #[v,lv] w fun e w'=>∃v',e = .returned v'∧Ag v (bs++PY l) w v' w':=by
 have H:=zAA h
 have HS:=zAA (aO lv l w hl (by omega))
 have HCh:=zAA (WE Ct)
 have HE:Hid (PY l=(Be l).flatMap CP):=rfl
 have HZ:Hid (bs.length+71*(Be l).length≤70368744177000):=by show _≤_;have:=Gu l;omega
 have RQ:Hid (∀k,v.ownBlock=some k→k<w.heap.size):=Ef h
 obtain ⟨pl,cl,hv⟩:=hl.shape
 subst hv
 obtain ⟨p0,c0,Yy⟩:=(Rd.Ad h).shape
 subst Yy
 clear h hl Ct Dz hz
 generalize Be l=rs at *
 go_enter Tryz.func112,Tryz.ntmps112
 go_wp2_with fail
 refine HS.out.mono ?_
 rintro e w1 ⟨rv,rc,rfl,hT⟩
 have HT:=zAA hT
 have rJ:Hid (Ag (.slice p0 bs.length c0) bs w1 (.slice p0 bs.length c0) w1):=⟨(Ac.Ah hT.AA (fun _=>False)).owns H.out (fun _ _ e=>e),Ac.refl _ _,AG.refl _ _⟩
 obtain ⟨pv,cv,DB⟩:=(Rd.Ad hT.Qn).shape
 obtain ⟨pc,cc,sK⟩:=(Rd.Ad hT.KZ).shape
 subst DB;subst sK
 have PD:Hid (∀g,w.heap.size≤g→¬(Value.slice p0 bs.length c0).ownBlock=some g):=fun g hg e=>by have:=RQ.out g e;omega
 clear hT HS
 go_wp2_with fail
 go_loopw [0,7] (fun v2 iv wr=>∃(i:Nat) (B:List Bool),i≤rs.length∧iv = .int .i64 (i:Int)∧Hid (B=bs++(rs.take i).flatMap CP)∧Hid (Ag (.slice p0 bs.length c0) B w1 v2 wr)) (fun _ iv _=>rs.length-(intOf iv).toNat)
 case atStart=>exact ⟨0,bs,by omega,rfl,by show _=_;simp,rJ.out⟩
 case round=>
  obtain ⟨i,B,hi,rfl,HB,HW⟩:=hrel
  obtain ⟨p2,c2,Ji⟩:=(Rd.Ad HW.out.own).shape
  subst Ji
  by_cases Aq:i<rs.length
  ·have AF:(i:Int)<(rs.length:Int):=by omega
   have bQ:(i:Int)≤70368744177000:=by have:=HZ.out;omega
   have lh:Hid (wr.ownsRow w.heap.size 81 1 (.slice pv rs.length cv) rs.length (AL (rs.map Prod.fst))):=HW.out.Ai.owns HT.out.Qn (fun k hk e=>PD.out k (HT.out.Qn.lt k hk).1 e)
   have HCr:Hid (wr.ownsRow w.heap.size 3 1 (.slice pc rs.length cc) rs.length (M7 (rs.map Prod.snd))):=HW.out.Ai.owns HT.out.KZ (fun k hk e=>PD.out k (HT.out.KZ.lt k hk).1 e)
   obtain ⟨gv,cv',DB⟩:∃g cap,(Value.slice pv rs.length cv) = .slice (some ⟨g,0,none⟩) rs.length cap:=by
    rcases BA lh.out with ⟨_,h0,_⟩ | ⟨g,cap,hv,_⟩
    ·omega
    ·exact ⟨g,cap,hv⟩
   obtain ⟨gc,cc',sK⟩:∃g cap,(Value.slice pc rs.length cc) = .slice (some ⟨g,0,none⟩) rs.length cap:=by
    rcases BA HCr.out with ⟨_,h0,_⟩ | ⟨g,cap,hv,_⟩
    ·omega
    ·exact ⟨g,cap,hv⟩
   simp only [zAN] at DB sK
   obtain ⟨rfl,_,rfl⟩:=DB
   obtain ⟨rfl,_,rfl⟩:=sK
   obtain ⟨x,c,hxc⟩:∃x c,rs[i]=(x,c):=⟨_,_,rfl⟩
   have hg:rs[i]? = some (x,c):=by rw [zAC Aq,hxc]
   obtain ⟨FC,Vw,sO⟩:V6 (x,c):=iH HCh.out _ (hxc ▸ zDI Aq)
   have gn:wr.cell? ⟨gv,i,none⟩=some (.int .u64 (x:Int)):=by
    rw [lh.out.cellAt i (by omega)];simp [AL,hg]
   have vm:Hid (∀w',Ac (fun k=>(Value.slice p2 B.length c2).ownBlock=some k) wr w'→w'.cell? ⟨gc,i,none⟩=some (.int .i64 (c:Int))):=fun w' hm=>by
    have h:=hm.owns HCr.out (fun k hk e=>by
     rcases HW.out.fresh k e with e1 | e1
     ·exact PD.out k (HCr.out.lt k hk).1 e1
     ·have:=(HT.out.KZ.lt k hk).2;omega)
    rw [h.cellAt i (by omega)];simp [M7,hg]
   have Pw:Hid ((rs.take (i+1)).flatMap CP=(rs.take i).flatMap CP++(Aa x 64++Aa (c-1) 7)):=by
    show _=_
    rw [zAL,hg,zBO];simp [CP]
   have kY:Hid (B.length=bs.length+71*i):=by show _=_;rw [HB.out,zAB,GK,zAR,zFW hi]
   have HX:=zAA sO
   have HCb:Hid (1≤c∧c≤128):=⟨FC,Vw⟩
   clear hg hxc FC Vw sO
   go_wp2_with fail
   refine (Bn _ B x 64 _ HW.out.own HX.out (by omega) (by have:=kY.out;have:=HZ.out;omega)).mono ?_
   rintro en w7 ⟨v7,rfl,hR⟩
   have hcc:=vm.out w7 hR.Ai
   have vQ:Hid (Ag (.slice p0 bs.length c0) (B++Aa x 64) w1 v7 w7):=HW.out.then hR
   have Vb:Hid ((B++Aa x 64).length=bs.length+71*i+64):=by show _=_;rw [zAB,Ae,kY.out]
   have qD:Hid (B++Aa x 64=(bs++(rs.take i).flatMap CP)++Aa x 64):=by show _=_;rw [HB.out]
   clear hR HW lh HCr gn vm
   generalize B++Aa x 64=B2 at *
   obtain ⟨p7,c7,UB⟩:=(Rd.Ad vQ.out.own).shape
   subst UB
   have Rw:(c:Int)-1=((c-1:Nat):Int):=by have:=HCb.out;omega
   have gq:IntKind.u64.wrap ((c-1:Nat):Int)=((c-1:Nat):Int):=by rw [zBB];have:=HCb.out;omega
   have gm:(c:Int)≤128:=by have:=HCb.out;omega
   have HC7:Hid (c-1<18446744073709551616):=by show _<_;have:=HCb.out;omega
   generalize c-1=c7' at *
   go_wp2_with fail
   refine (Bn _ _ c7' 7 _ vQ.out.own HC7.out (by omega) (by have:=Vb.out;have:=HZ.out;omega)).mono ?_
   rintro en w8 ⟨v8,rfl,hR⟩
   have Pv:Hid (Ag (.slice p0 bs.length c0) (B2++Aa c7' 7) w1 v8 w8):=vQ.out.then hR
   have vj:Hid (B2++Aa c7' 7=bs++((rs.take i).flatMap CP++(Aa x 64++Aa c7' 7))):=by show _=_;rw [qD.out];simp [zAK]
   clear hR vQ
   generalize B2++Aa c7' 7=B3 at *
   obtain ⟨p8,c8,MY⟩:=(Rd.Ad Pv.out.own).shape
   subst MY
   go_wp2_with fail
   go_round
   case rel=>exact ⟨i+1,B3,by omega,by go_num,by show _=_;rw [Pw.out];exact vj.out,Pv.out⟩
   case measure=>simp [intOf];omega
  ·have AF:¬(i:Int)<(rs.length:Int):=by omega
   have HBe:Hid (B=bs++PY l):=by show _=_;rw [HB.out,HE.out,zAF (by omega)]
   go_wp2_with fail
   go_ret
   rw [← HBe.out]
   refine ⟨_,rfl,HW.out.own,(Ac.Ah HT.out.AA _).trans HW.out.Ai (fun _ _ e=>e),fun k hk=>?_⟩
   rcases HW.out.fresh k hk with e | e
   ·exact Or.inl e
   ·have:=HT.out.AA.size;exact Or.inr (by omega)
end Go.Proofs.YtdcgbgecbeegmaaGreatDoor
end
