/- Texts 32. -/
import Derived.Test.YtdcgbgecbeegmaaGreatDoorMgSA
import Derived.Test.YtdcgbgecbeegmaaGreatDoorMgS22
import Derived.OwnWalk
set_option linter.unusedVariables false
set_option linter.unusedSimpArgs false
set_option maxHeartbeats 400000000
set_option maxRecDepth 100000
section
namespace Go.Proofs.YtdcgbgecbeegmaaGreatDoor
open Go Go.RowKit
theorem j5 (S:List (List Nat)) (d:List Nat):∀id,Eu id (S++[d])=Eu id S++AH (id+S.length) d:=by
 induction S with
 | nil=>intro id;simp [Eu]
 | cons x S ih=>intro id;rw [zBX,Eu,Eu,ih,zAK,zAH,show id+1+S.length=id+(S.length+1) by omega]
theorem jW (S:List (List Nat)) (d:List Nat):∀id a,EU id a (S++[d])=EU id a S++[a+(Eu id S).length]:=by
 induction S with
 | nil=>intro id a;simp [EU,Eu]
 | cons x S ih=>intro id a;rw [zBX,EU,EU,ih,zBX,Eu,zAB,show a+(AH id x).length+(Eu (id+1) S).length=a+((AH id x).length+(Eu (id+1) S).length) by omega]
def Fx (S:List (List Nat)) (i:Nat):List Nat:=QJ++Eu 1 (S.take i)
def atTo (S:List (List Nat)) (i:Nat):List Nat:=EU 1 5 (S.take i)++List.replicate (5-i) 0
theorem Sd {S:List (List Nat)} {i:Nat} {d:List Nat} (h:S[i]? = some d):Fx S (i+1)=Fx S i++AH (1+i) d:=by
 have hi:=(zAE.1 h).1
 have e:S.take (i+1)=S.take i++[d]:=by rw [zAL,h];rfl
 rw [Fx,e,j5,zAR,zFW (by omega),Fx,zAK]
theorem PL (S:List (List Nat)) (i:Nat):(Fx S i).length=5+(Eu 1 (S.take i)).length:=by rw [Fx,zAB];rfl
theorem YW (S:List (List Nat)) (i:Nat):(Fx S i).length≤(FJ S).length:=by
 have key:∀(S:List (List Nat)) (id i:Nat),(Eu id (S.take i)).length≤(Eu id S).length:=by
  intro S
  induction S with
  | nil=>intro id i;simp [Eu]
  | cons x S ih=>
   intro id i
   cases i with
   | zero=>simp [Eu]
   | succ i=>rw [zDR,Eu,Eu,zAB,zAB];have:=ih (id+1) i;omega
 have:=key S 1 i
 rw [PL,FJ,zAB,Cf,Kr]
 simp only [zAB]
 have:QJ.length=5:=rfl
 omega
theorem gN:∀(S:List (List Nat)) (id a:Nat),∀x∈EU id a S,x≤a+(Eu id S).length
 | [],_,_,x,hx=>by cases hx
 | d::S,id,a,x,hx=>by
  rw [EU] at hx
  rw [Eu,zAB]
  rcases zAS.1 hx with rfl | hx
  ·omega
  ·have:=gN S (id+1) _ x hx;omega
theorem yF {S:List (List Nat)} (h4:S.length=4):atTo S 4=EU 1 5 S++[0]:=by
 rw [atTo,zAF (by omega)];rfl
theorem cH {S:List (List Nat)} (h4:S.length=4):Fx S 4=QJ++Eu 1 S:=by
 rw [Fx,zAF (by omega)]
theorem xX {S:List (List Nat)} {i:Nat} {d:List Nat} (h:S[i]? = some d):(Fx S i).length+(AH (1+i) d).length≤(FJ S).length:=by
 have:=YW S (i+1)
 rw [Sd h,zAB] at this
 exact this
theorem Tn (va vb:List Value) (A B:List (List Nat)) (w:World) (ha:cj w va A) (hb:cj w vb B) (ha4:A.length=4) (qT:B.length=4) (oa:∀d∈A,∀c∈d,c<256) (ob:∀d∈B,∀c∈d,c<256) :
  Calls Tryz.prog 16 #[.agg va.toArray,.agg vb.toArray] w fun e w'=>e = .returned (.bool (decide (A=B)))∧Below w.heap.size w w':=by
 have HA:=zAA ha;have HB:=zAA hb;have L5:=zAA ha4;have CF:=zAA qT;have OA:=zAA oa;have OB:=zAA ob
 clear ha hb ha4 qT oa ob
 go_enter Tryz.func16,Tryz.ntmps16
 go_wp2_with (refine GX rfl _ _ rfl va rfl ?_)
 intro w1 hK hB hS
 have Je:=zAA hK;have A6:=zAA hB;have HS1:=zAA hS
 clear hK hB hS
 go_wp2_with (refine GX rfl _ _ rfl vb rfl ?_)
 intro w2 hK hB hS
 have E4:=zAA hK;have AP:Hid (Below w.heap.size w w2):=A6.out.trans (hB.mono A6.out.size)
 have vA:=zAA (Je.out.of_same (hB.block _ Je.out.lt))
 have G0:=zAA (HA.out.below AP.out);have HBv2:=zAA (HB.out.below AP.out)
 obtain ⟨ga,xh⟩:∃ga,w.heap.size=ga:=⟨_,rfl⟩
 obtain ⟨gb,MX⟩:∃gb,w1.heap.size=gb:=⟨_,rfl⟩
 have HGa:=zAA xh
 rw [xh] at vA ⊢
 rw [MX] at E4 ⊢
 clear hK hB hS xh MX Je A6 HS1 HA HB
 go_wp2_with fail
 go_loopw [5] (fun iv wr=>∃(i:Nat),i≤4∧iv = .int .i64 (i:Int)∧Hid (A.take i=B.take i)∧Hid (∃n,wr=w2.drewN n)) (fun iv _=>4-(intOf iv).toNat)
 case atStart=>exact ⟨0,zAJ _,rfl,rfl,⟨0,rfl⟩⟩
 case round=>
  obtain ⟨i,hi,rfl,HE,HW⟩:=hrel
  have KM:(i:Int)≤4:=by omega
  have Dq:Hid (Below w2.heap.size w2 wr):=by obtain ⟨n,rfl⟩:=HW.out;exact (Ac.drewN (fun _=>False) w2 n).below (zAD _) (fun _ _ e=>e)
  have tT:Hid (Below w.heap.size w wr):=AP.out.trans (Dq.out.mono AP.out.size)
  by_cases Aq:i<4
  ·have AF:(i:Int)<4:=by omega
   obtain ⟨da,hda⟩:∃d,A[i]? = some d:=⟨_,zAC (by have:=L5.out;omega)⟩
   obtain ⟨db,hdb⟩:∃d,B[i]? = some d:=⟨_,zAC (by have:=CF.out;omega)⟩
   obtain ⟨pa,ca,uP,hra⟩:=G0.out.get hda
   obtain ⟨pb,cb,hvb,xA⟩:=HBv2.out.get hdb
   have ca0:w2.cell? ⟨ga,i,none⟩=some (.slice pa da.length ca):=by rw [vA.out.cell];exact uP
   have cb0:w2.cell? ⟨gb,i,none⟩=some (.slice pb db.length cb):=by rw [E4.out.cell];exact hvb
   have HC:Hid (∀w',Below wr.heap.size wr w'→w'.cell? ⟨ga,i,none⟩=some (.slice pa da.length ca)∧w'.cell? ⟨gb,i,none⟩=some (.slice pb db.length cb)∧True):=fun w' hb=>by
    have LQ:Below w2.heap.size w2 w':=Dq.out.trans (hb.mono Dq.out.size)
    exact ⟨(LQ.cell vA.out.lt).trans ca0,(LQ.cell E4.out.lt).trans cb0,trivial⟩
   have Yj:Hid (∀w',Below wr.heap.size wr w'→Rd w' 1 (.slice pa da.length ca) da.length (B9 da)):=fun w' hb=>hra.below (Dq.out.trans (hb.mono Dq.out.size))
   have YL:Hid (∀w',Below wr.heap.size wr w'→Rd w' 1 (.slice pb db.length cb) db.length (B9 db)):=fun w' hb=>xA.below (Dq.out.trans (hb.mono Dq.out.size))
   have HQ:=zAA (Wh (OA.out da (zAG hda)) (OB.out db (zAG hdb)))
   have HDa:=zAA hda;have HDb:=zAA hdb
   clear hda hdb uP hra hvb xA ca0 cb0
   go_wp2_with fail
   refine AI (fun w'=>Below wr.heap.size wr w') [] [0,1,2,4,5,6,3,7,8] (by kernel_rfl) (by kernel_rfl) (by kernel_rfl) ?_ ?_ ?_
   ·intro c a a' w hd h;exact ⟨hd ▸ h.1,h.2⟩
   ·exact (zAM _ wr).drew
   simp only [Cj,zBC,zCP,zBE,zAY,zBM]
   repeat (first
        | (refine takeH_skip rfl ?_; simp only [Act.put, List.setIfInBounds_toArray, List.set_cons_succ, List.set_cons_zero])
        | (refine takeH_blind rfl rfl ?_; apply Exists.intro; refine ⟨fun w => ?_, ?_⟩; (go_simp; try with_reducible rfl); simp only [Act.put, List.setIfInBounds_toArray, List.set_cons_succ, List.set_cons_zero])
        | (refine takeH_reads rfl rfl ?_; apply Exists.intro; refine ⟨fun w' hS => ?_, ?_⟩; (obtain ⟨d0, d1, d2⟩ := HC.out w' hS; go_simp; try with_reducible rfl); simp only [Act.put, List.setIfInBounds_toArray, List.set_cons_succ, List.set_cons_zero]))
   refine Gx rfl rfl (.string (EY da)) (fun w' hS=>NE _ _ _ rfl rfl ((Yj.out w' hS).conv _ _ _ Tryz.underlying25 Tryz.underlying5 Tryz.underlying9)) ?_
   simp only [Act.put,zAZ,zBT,zBL]
   refine Gx rfl rfl (.string (EY db)) (fun w' hS=>NE _ _ _ rfl rfl ((YL.out w' hS).conv _ _ _ Tryz.underlying25 Tryz.underlying5 Tryz.underlying9)) ?_
   simp only [Act.put,zAZ,zBT,zBL]
   have F3:Hid (∃n,wr.drew=w2.drewN n):=by obtain ⟨n,rfl⟩:=HW.out;exact ⟨n+1,rfl⟩
   by_cases hq:da=db
   ·have nk:((EY da).toList == (EY db).toList)=true:=by rw [HQ.out];exact zBA hq
    have Ev:Hid (A.take (i+1)=B.take (i+1)):=by show _=_;rw [zAL,zAL,HDa.out,HDb.out,HE.out,hq]
    clear HQ hq HC Yj YL
    generalize EY da=s1 at *
    generalize EY db=s2 at *
    repeat (first
        | (refine takeH_skip rfl ?_; simp only [Act.put, List.setIfInBounds_toArray, List.set_cons_succ, List.set_cons_zero])
        | (refine takeH_blind rfl rfl ?_; apply Exists.intro; refine ⟨fun w => ?_, ?_⟩; (go_simp; try with_reducible rfl); simp only [Act.put, List.setIfInBounds_toArray, List.set_cons_succ, List.set_cons_zero]))
    refine Bv ?_
    clear HW
    generalize wr.drew=w3 at *
    go_wp2_with fail
    go_round
    case rel=>exact ⟨i+1,by omega,by go_num,Ev.out,F3.out⟩
    case measure=>simp [intOf];omega
   ·have nk:((EY da).toList == (EY db).toList)=false:=by rw [HQ.out];exact zAV hq
    have Ev:Hid (¬A=B):=fun e=>hq (by have h1:=HDa.out;rw [e,HDb.out] at h1;exact (zDT h1).symm)
    have HBf:Hid (Below w.heap.size w wr.drew):=by obtain ⟨n,h⟩:=F3.out;rw [h];exact AP.out.trans (((Ac.drewN (fun _=>False) w2 n).below (zAD _) (fun _ _ e=>e)).mono AP.out.size)
    clear HQ hq HC Yj YL
    generalize EY da=s1 at *
    generalize EY db=s2 at *
    repeat (first
        | (refine takeH_skip rfl ?_; simp only [Act.put, List.setIfInBounds_toArray, List.set_cons_succ, List.set_cons_zero])
        | (refine takeH_blind rfl rfl ?_; apply Exists.intro; refine ⟨fun w => ?_, ?_⟩; (go_simp; try with_reducible rfl); simp only [Act.put, List.setIfInBounds_toArray, List.set_cons_succ, List.set_cons_zero]))
    refine Bv ?_
    clear HW F3
    generalize wr.drew=w3 at *
    go_wp2_with fail
    go_ret
    exact ⟨by rw [zAV Ev.out];rfl,HBf.out⟩
  ·have AF:¬(i:Int)<4:=by omega
   have HX:Hid (A=B):=by
    have h:=HE.out
    rw [zAF (by have:=L5.out;omega),zAF (by have:=CF.out;omega)] at h
    exact h
   go_wp2_with fail
   go_ret
   exact ⟨by rw [zBA HX.out];rfl,tT.out⟩
def Yn (w:World):Prop:=∀i:Nat,i<16→w.cell? ⟨0,i,none⟩=some (.int .u32 ((Ms.getD i 0:Nat):Int))
theorem Yn.below {w w':World} {B:Nat} (h:Yn w) (hb:Below B w w') (hB:w.heap.size≤B):Yn w':=fun i hi=>(hb.cell (zAO (zAP w _ (h i hi)) hB)).trans (h i hi)
theorem qw (s c:Nat) (hs:s<4294967296) (hc:c<256):∃X Y:Nat,X=s ^^^ c∧X<4294967296∧Y=X / 16 ^^^ Ms.getD (X % 16) 0∧Y<4294967296∧Ra s c=Y / 16 ^^^ Ms.getD (Y % 16) 0:=by
 have hX:s ^^^ c<4294967296:=TS hs (by omega)
 have e:∀Z,Z / 16 ^^^ Ms.getD (Z % 16) 0=GE 4 Z:=fun Z=>by rw [Zy _ (zFO _ (by decide)),← shr4]
 refine ⟨_,_,rfl,hX,rfl,?_,?_⟩
 ·rw [e];exact XX hX
 ·rw [e,e,bg]
theorem Zz (i:Nat):Ms.getD (i % 16) 0<4294967296:=by
 rw [Zy _ (zFO _ (by decide))];exact XX (by have:=zFO i (show 0<16 by decide);omega)
theorem cZ (s:Nat) (v:Value) (l:List Nat) (w:World) (hT:Yn w) (hs:s<4294967296) (h:Rd w 1 v l.length (B9 l)) (hl:∀c∈l,c<256) :
  Calls Tryz.prog 171 #[.int .u32 (s:Int),v] w fun e w'=>e = .returned (.int .u32 (Jd s l:Int))∧w=w':=by
 have Xi:(l.length:Int)≤9223372036854775807:=by have:=h.le;unfold maxLen at this;omega
 obtain ⟨p,c,hv⟩:=h.shape
 subst hv
 have H2:=zAA h;clear h
 have HM:=zAA hl;clear hl
 have HT:=zAA hT;clear hT
 have HX:Hid (∀k,Jd s (l.take k)<4294967296):=fun k=>fF hs _ (fun c hc=>HM.out c (zEE hc))
 go_enter Tryz.func171,Tryz.ntmps171
 go_wp2_with fail
 go_loop [0,9] (fun x i=>∃k:Nat,k≤l.length∧i = .int .i64 (k:Int)∧x = .int .u32 (Jd s (l.take k):Int)) (fun _ i=>l.length-(intOf i).toNat)
 case atStart=>exact ⟨0,by omega,rfl,rfl⟩
 case round=>
  obtain ⟨k,hk,rfl,rfl⟩:=hrel
  by_cases Aq:k<l.length
  ·have AF:(k:Int)<(l.length:Int):=by omega
   obtain ⟨b,off,c',e,_,_,hc⟩:=H2.out.at (fun e=>by have:=congrArg List.length e;rw [Fg] at this;simp at this;subst this;simp at Aq)
   simp only [zAN] at e
   obtain ⟨rfl,_,rfl⟩:=e
   have Aj:=hc k _ (g9 _ _ Aq)
   have hu:=HM.out _ (zDI Aq)
   have HS:=zAA (U6 s l k Aq)
   have hZ:=HX.out k
   clear hc
   generalize Jd s (l.take k)=Z at *
   generalize l[k]=u at *
   obtain ⟨X,Y,hX,hX32,hY,hY32,hE⟩:=qw Z u hZ hu
   have t1:=HT.out (X % 16) (zFO _ (by decide))
   have t2:=HT.out (Y % 16) (zFO _ (by decide))
   have e1:=u32_xor_nat Z u hZ (by omega)
   have e2:=u32_xor_nat (X / 16) _ (by omega) (Zz X)
   have e3:=u32_xor_nat (Y / 16) _ (by omega) (Zz Y)
   rw [← hX] at e1
   rw [← hY] at e2
   rw [← hE] at e3
   have HS2:Hid (Jd s (l.take (k+1))=Ra Z u):=HS
   clear HS hX hY hE
   generalize Ra Z u=V at *
   generalize Ms.getD (X % 16) 0=F1 at *
   generalize Ms.getD (Y % 16) 0=F2 at *
   have e2':bits .xor .u32 ((X:Int) / 16) (F1:Int)=(Y:Int):=e2
   have e3':bits .xor .u32 ((Y:Int) / 16) (F2:Int)=(V:Int):=e3
   clear e2 e3
   go_wp2_with fail
   go_round
   case rel=>exact ⟨k+1,by omega,by go_num,by rw [HS2.out]⟩
   case measure=>simp [intOf];omega
  ·have AF:¬(k:Int)<(l.length:Int):=by omega
   have HK:Hid (Jd s (l.take k)=Jd s l):=by show _=_;rw [show k=l.length by omega,X7]
   rw [HK.out]
   clear hk Aq
   go_wp2_with fail
   go_ret
   exact ⟨rfl,rfl⟩
theorem rX (v:Value) (l:List Nat) (w:World) (hT:Yn w) (h:Rd w 1 v l.length (B9 l)) (hl:∀c∈l,c<256) :
  Calls Tryz.prog 124 #[v] w fun e w'=>e = .returned (.int .u32 (Nz l:Int))∧w=w':=by
 have hU:=fF (show 4294967295<4294967296 by decide) l hl
 have HE:=zAA (iP l hl)
 have HB:Hid (bits .xor .u32 4294967295 ((Jd 4294967295 l:Nat):Int)=((4294967295 ^^^ Jd 4294967295 l:Nat):Int)):=u32_xor_nat 4294967295 _ (by decide) hU
 have HT:=zAA hT
 have H2:=zAA h;clear h
 have HM:=zAA hl;clear hl hT hU
 go_enter Tryz.func124,Tryz.ntmps124
 go_wp2_with fail
 refine (cZ 4294967295 v l _ HT.out (by decide) H2.out HM.out).mono ?_
 rintro e w2 ⟨rfl,rfl⟩
 generalize Jd 4294967295 l=X at *
 go_wp2_with fail
 go_ret
 exact ⟨tF (by rw [HE.out,← HB.out];rfl),rfl⟩
theorem iQ (v:Value) (l:List Nat) (w:World) (hT:Yn w) (h:Rd w 1 v l.length (B9 l)) (hl:∀c∈l,c<256) :
  Calls Tryz.prog 87 #[v] w fun e w'=>∃r,e = .returned r∧MI w w' 5 1 r 4 (B9 (s5 (Nz l))):=by
 have HT:=zAA hT
 have H2:=zAA h;clear h
 have HM:=zAA hl;clear hl hT
 go_enter Tryz.func87,Tryz.ntmps87
 go_wp2_with fail
 refine (rX v l _ HT.out H2.out HM.out).mono ?_
 rintro e w2 ⟨rfl,rfl⟩
 have hS:=mz l
 obtain ⟨S,gj⟩:∃S,Nz l=S:=⟨_,rfl⟩
 have HE:=zAA (tQ _ (gj ▸ hS))
 rw [gj] at hS ⊢
 have KD:=zAA gj
 clear gj
 go_wp2_with fail
 go_ret
 rw [KD.out]
 refine ⟨_,rfl,?_,(zAM _ _).alloc (zAD _) _⟩
 rw [HE.out]
 exact zCZ (base:=w.heap.size) w #[.int .u8 ((S:Int) % 256),.int .u8 ((S:Int) / 256 % 256),.int .u8 ((S:Int) / 65536 % 256),.int .u8 ((S:Int) / 16777216)] 4 (zAD _) (by simp [maxLen]) (by simp)
theorem Sk (v:Value) (l:List Nat) (w:World) (hT:Yn w) (h:Rd w 1 v l.length (B9 l)) (hl:∀c∈l,c<256) (hn:l.length≤140737488355000) :
  Calls Tryz.prog 53 #[v] w fun e w'=>∃r,e = .returned r∧MI w w' 5 1 r (Db l).length (B9 (Db l)):=by
 have HT:=zAA hT
 have H2:=zAA h
 have HM:=zAA hl
 obtain ⟨q,c,hv⟩:=h.shape
 subst hv
 clear h hl hT
 obtain ⟨i,z,hi,hz,Cn,PB,Me⟩:=Tryz.CG.hi
 have HI:=zAA hi;have HZ:=zAA hz;have EQ:=zAA Cn
 have HC:Hid ((l.length:Int)+4=((l.length+4:Nat):Int)):=by show _=_;omega
 have k7:Hid (i.bytes*(l.length+4)≤281474976710656):=by show _≤_;rw [PB];omega
 have k9:Hid (l.length+4≤maxLen):=by show _≤_;unfold maxLen;omega
 have HL:Hid ((0+l.length)*1≤140737488355328∧0+l.length≤maxLen):=by show _∧_;unfold maxLen;omega
 have Jf:Hid ((l.length+4)*1≤140737488355328∧l.length+4≤maxLen):=by show _∧_;unfold maxLen;omega
 clear hi hz Cn PB Me
 have Xi:(l.length:Int)+4≤140737488355328:=by omega
 go_enter Tryz.func53,Tryz.ntmps53
 go_wp2_with (refine wpList_make_own _ rfl _ _ _ rfl 0 5 i z 1 Tryz.underlying25 HI.out HZ.out EQ.out _ _ _ (l.length+4) rfl rfl HC.out k7.out k9.out (zAJ _) ?_)
 intro w1 Au gu
 have HB:Hid (Below w.heap.size w w1):=(Ac.EF gu).below (zAD _) (fun k hk e=>by cases e)
 have HO:=zAA Au
 have HR:=zAA (H2.out.below HB.out)
 clear Au gu
 go_wp2_with (at_builtin;refine At Tryz.CG _ _ _ _ _ _ _ HO.out HR.out (A3 _) HL.out rfl _ _ rfl rfl rfl ?_)
 intro v' w2 Au AU DK
 obtain ⟨q1,c1,DA⟩:=(Rd.Ad Au).shape
 subst DA
 have Dd:=zAA Au
 have vx:Hid (∀k,(Value.slice q1 l.length c1).ownBlock=some k→w.heap.size≤k):=fun k hk=>by
  rcases DK k hk with e | e
  ·simp [Value.ownBlock] at e;omega
  ·have:=HB.out.size;omega
 have A6:=zAA (HB.out.trans (AU.below HB.out.size (fun k hk e=>by simp [Value.ownBlock] at e;omega)))
 have TX:=zAA (H2.out.below A6.out)
 have JL:=zAA (HT.out.below A6.out (zAD _))
 clear Au AU DK HO HR HB
 go_wp2_with fail
 refine (iQ _ l _ JL.out TX.out HM.out).mono ?_
 rintro e w3 ⟨r,rfl,hM⟩
 obtain ⟨q3,c3,hr⟩:=(Rd.Ad hM.1).shape
 subst hr
 have Ft:=zAA (Rd.Ad hM.1)
 have Ew:=zAA ((Ac.Ah hM.2 (fun _=>False)).owns Dd.out (fun _ _ e=>e))
 have BS:=zAA (A6.out.trans (hM.2.mono A6.out.size))
 have HW:Hid (Db l=l++s5 (Nz l)):=rfl
 clear hM
 go_wp2_with (at_builtin;refine At Tryz.CG _ _ _ _ _ _ _ Ew.out Ft.out (A3 _) Jf.out rfl _ _ rfl rfl rfl ?_)
 intro v2 w4 Au AU DK
 have Ni:Hid (MI w w4 5 1 v2 (Db l).length (B9 (Db l))):=by
  refine ⟨?_,BS.out.trans (AU.below BS.out.size (fun k hk e=>by have:=vx.out k e;omega))⟩
  have h2:=Af Au (base':=w.heap.size) (fun k hk=>by
   rcases DK k hk with e | e
   ·exact vx.out k e
   ·have:=BS.out.size;omega)
  rw [← Cb,← HW.out,← dO (Nz l),← zAB,← HW.out] at h2
  exact h2
 clear Au AU DK
 go_wp2_with fail
 go_ret
 exact ⟨_,rfl,Ni.out⟩
end Go.Proofs.YtdcgbgecbeegmaaGreatDoor
end
