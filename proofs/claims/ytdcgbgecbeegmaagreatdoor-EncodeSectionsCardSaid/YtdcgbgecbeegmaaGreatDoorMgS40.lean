/- Texts 40. -/
import Derived.Test.YtdcgbgecbeegmaaGreatDoorMgSA
import Derived.Test.YtdcgbgecbeegmaaGreatDoorMgS34
import Derived.Test.YtdcgbgecbeegmaaGreatDoorMgS39
import Derived.Maps.RangeWalk
set_option linter.unusedVariables false
set_option linter.unusedSimpArgs false
set_option maxHeartbeats 400000000
set_option maxRecDepth 100000
section
namespace Go.Proofs.YtdcgbgecbeegmaaGreatDoor
open Go Go.RowKit
theorem XJ {l:List Nat} (h:RZ l=true):Lt l=Zh l:=if_pos h
theorem tB {l:List Nat} (h:RZ l=false):Lt l=[]:=by rw [Lt,h];rfl
def Q7 (l:List Nat):Int:=if RZ l then ((Zh l).length:Int) else -1
theorem br {w:World} {lv:Value} {l:List Nat} (hl:Rd w 1 lv l.length (AL l)):l≠[]→∀k,lv.ownBlock=some k→k<w.heap.size:=fun BC=>hl.lt (fun e=>BC (by simpa [AL] using e))
end Go.Proofs.YtdcgbgecbeegmaaGreatDoor
end
section
namespace Go.Proofs.YtdcgbgecbeegmaaGreatDoor
open Go Go.RowKit Go.Maps
theorem Xv:Keyed Tryz.prog 81:=int_keyed Tryz.underlying81
theorem Tc {P:Program} {e:TypeId} (he:P.underlying e=some .bool) {v:Value} {y:DataW Unit × List MemPlace} (h:plainElem P e v=some y):∃c,v = .bool c:=by
 unfold plainElem at h
 rw [he] at h
 cases v<;>simp at h
 exact ⟨_,rfl⟩
theorem iC (v:Value) (y:DataW Unit × List MemPlace) (h:plainElem Tryz.prog 4 v=some y):∃c,v = .bool c:=Tc Tryz.underlying4 h
theorem ZV (key:Value) (kl:Lit) (h:keyOf Tryz.prog 81 key=some kl):∃x:Nat,key = .int .u64 (x:Int)∧kl = .int .u64 (x:Int)∧C4 x:=by
 obtain ⟨x,rfl,rfl,hw⟩:=Maps.keyOf_int_inv Tryz.underlying81 h
 have h1:IntKind.u64.min=0:=rfl
 have h2:IntKind.u64.max=18446744073709551615:=rfl
 have h3:IntKind.u64.min≤x∧x≤IntKind.u64.max:=by simpa [Lit.wf] using hw
 have hx:0≤x∧x<18446744073709551616:=by omega
 obtain ⟨n,rfl⟩:∃n:Nat,x=(n:Int):=⟨x.toNat,by omega⟩
 exact ⟨n,rfl,rfl,by show n<_;omega⟩
theorem dL (key:Value) (kl:Lit) (h:keyOf Tryz.prog 81 key=some kl):∃x:Nat,key = .int .u64 (x:Int):=by obtain ⟨x,h,_⟩:=ZV key kl h;exact ⟨x,h⟩
theorem sY {x:Nat} (h:C4 x):keyOf Tryz.prog 81 (.int .u64 (x:Int))=some (.int .u64 (x:Int)):=by
 have h':x<18446744073709551616:=h
 exact keyOf_int_mk Tryz.underlying81 (by have h1:IntKind.u64.min=0:=rfl;have h2:IntKind.u64.max=18446744073709551615:=rfl;simp [Lit.wf];omega)
theorem iD (v:Value) (y:DataW Unit × List MemPlace) (h:plainElem Tryz.prog 4 v=some y):∃c:Nat,v = .bool (decide (c=1)):=by
 obtain ⟨c,rfl⟩:=iC v y h
 cases c
 ·exact ⟨0,rfl⟩
 ·exact ⟨1,rfl⟩
def Ko (D:DataW Unit) (l:List Nat):Prop:=∀x:Nat,Maps.has D (.int .u64 (x:Int))=true↔x∈l
theorem Ko.empty:Ko (.map []) []:=fun x=>by simp [Maps.has]
theorem Ko.put {D:DataW Unit} {l:List Nat} (h:Ko D l) (hm:IsMap D) (y:Nat) (d:DataW Unit):Ko (D.put (.int .u64 (y:Int)) d) (l++[y]):=fun x=>by
 by_cases e:x=y
 ·subst e
  rw [has_put_same hm (by simp [WideAt.IsKeyLit]) d]
  simp
 ·rw [has_put_other (by simp;omega) d,h x]
  simp [e]
def Wq (D:DataW Unit) (left:Lit→Bool) (ss:List Nat):Prop:=ss.Nodup∧∀x:Nat,x∈ss↔(Maps.has D (.int .u64 (x:Int))=true∧left (.int .u64 (x:Int))=false)
theorem Wq.start (D:DataW Unit):Wq D (Maps.has D) []:=⟨List.nodup_nil,fun x=>by cases Maps.has D (.int .u64 (x:Int))<;>simp⟩
theorem Wq.step {D:DataW Unit} {left:Lit→Bool} {ss:List Nat} (h:Wq D left ss) {x:Nat} {y:DataW Unit} (Yv:left (.int .u64 (x:Int))=true) (Jv:∀zd,D.atKey (.int .u64 (x:Int)) zd=y):Wq D (fun z=>left z && !z.sameKey (.int .u64 (x:Int))) (ss++[x]):=by
 have xj:Maps.has D (.int .u64 (x:Int))=true:=has_true_of_atKey Jv
 have RA:x∉ss:=fun hx=>by have:=((h.2 x).1 hx).2;rw [Yv] at this;cases this
 refine ⟨List.nodup_append.2 ⟨h.1,by simp,fun a ha b hb=>by simp at hb;subst hb;exact fun e=>RA (e ▸ ha)⟩,fun y=>?_⟩
 by_cases hy:y=x
 ·subst hy;simp [xj,Lit.sameKey]
 ·have hyi:¬(y:Int)=(x:Int):=by omega
  simp [h.2 y,hy,Lit.sameKey,hyi]
theorem Wq.mem {D:DataW Unit} {left:Lit→Bool} {ss l:List Nat} (h:Wq D left ss) (hk:Ko D l) (hl:∀kl,left kl=false) (x:Nat):x∈ss↔x∈l:=by
 rw [h.2 x,hl,hk x];simp
theorem bd {ss l:List Nat} {z:Array Nat} (hn:ss.Nodup) (hm:∀x,x∈ss↔x∈l) (hp:Sort.PermIn 0 ss.length ss.toArray z) (hs:Sort.SortedIn AB 0 ss.length z):z.toList=A2 l:=by
 have Ed:z.size=ss.length:=by rw [hp.1];simp
 have Vy:z.toList.Perm ss:=by
  have h:=hp.2.2
  have e1:z.extract 0 ss.length=z:=by rw [← Ed];exact zDJ
  have e2:ss.toArray.extract 0 ss.length=ss.toArray:=by
   have:ss.toArray.size=ss.length:=by simp
   rw [← this];exact zDJ
  rw [e1,e2] at h
  simpa using h
 have qV:z.toList.Nodup:=Vy.nodup_iff.2 hn
 refine (NA l z.toList ?_ (fun x=>by rw [Vy.mem_iff,hm])).symm
 refine zBW.2 (fun i j hi hj C3=>?_)
 have hi':i<z.size:=by simpa using hi
 have hj':j<z.size:=by simpa using hj
 have h1:=hs i j (zAJ _) C3 (by omega)
 rw [zDW z j hj',zDW z i hi'] at h1
 have h2:z[i]≠z[j]:=by
  have:=zBW.1 qV i j hi hj C3
  simpa using this
 simp [AB] at h1
 simp only [Array.getElem_toList]
 omega
theorem dy {S:Nat→Prop} {w w':World} {row:Option Nat} (h:w.grownBy w' row) (hS:∀k,row=some k→S k):Ac S w w':=
 ⟨h.os,h.tape,h.output,h.size,fun k hk hn=>h.block k hk (fun e=>hn (hS k e.symm))⟩
theorem SY {w w':World} {row:Option Nat} (h:Ac (fun k=>row=some k) w w'):w.grownBy w' row:=
 ⟨h.os,h.tape,h.output,h.size,fun k hk hn=>h.block k hk (fun e=>hn e.symm)⟩
theorem K4 (lv:Value) (l:List Nat) (w:World) (hl:Rd w 1 lv l.length (AL l)) (ok:∀t∈l,C4 t) (hn:l.length≤1000000000) :
  Calls Tryz.prog 236 #[lv] w fun e w'=>∃r,e = .returned r∧MI w w' 81 1 r (A2 l).length (AL (A2 l)):=by
 have HL:=zAA hl;have Fj:=zAA ok;have Mk:=zAA hn
 obtain ⟨pl,cl,hv⟩:=hl.shape
 subst hv
 have nD:(l.length:Int)≤1000000000:=by omega
 clear hl ok hn
 have hmm:=@run_makeMap Tryz.prog
 have T8:Hid (Below w.heap.size w (w.alloc (.map #[] 0))):=(zAM _ _).alloc (zAD _) _
 have zY:Hid ((w.alloc (.map #[] 0)).ownsMap Tryz.prog 81 (plainElem (H:=Unit) Tryz.prog 4) w.heap.size 0 (.map [])):=World.ownsMap_made _ _ _ _
 go_enter Tryz.func236,Tryz.ntmps236
 go_wp2_with fail
 clear hmm
 go_loopw [11] (fun iv wr=>∃(i:Nat) (D:DataW Unit),i≤l.length∧iv = .int .i64 (i:Int)∧Hid (wr.ownsMap Tryz.prog 81 (plainElem (H:=Unit) Tryz.prog 4) w.heap.size i D)∧Hid (Ko D (l.take i))∧Hid (Below w.heap.size w wr)) (fun iv _=>l.length-(intOf iv).toNat)
 case atStart=>exact ⟨0,_,zAJ _,rfl,zY.out,by show Ko _ _;rw [zDX];exact Ko.empty,T8.out⟩
 case round=>
  obtain ⟨i,D,hi,rfl,HM,HK,HB⟩:=hrel
  clear zY T8
  by_cases Aq:i<l.length
  ·have nA:(i:Int)<(l.length:Int):=by omega
   obtain ⟨b,off,c',e,T3,KG,Aj⟩:=(HL.out.below HB.out).at (fun e=>by have:=congrArg List.length e;rw [BP] at this;simp at this;subst this;simp at Aq)
   simp only [zAN] at e
   obtain ⟨rfl,_,rfl⟩:=e
   obtain ⟨y,hy⟩:∃y,l[i]=y:=⟨_,rfl⟩
   have Ry:wr.cell? ⟨b,off+i,none⟩=some (.int .u64 (y:Int)):=by rw [← hy];exact Aj i _ (DH l i Aq)
   have HY:Hid (C4 y):=by rw [← hy];exact Fj.out _ (zDI Aq)
   have HT:Hid (l.take (i+1)=l.take i++[y]):=by show _=_;rw [zAL,zAC Aq,hy];rfl
   have k9:Hid (i<maxLen):=by show _<_;have:=Mk.out;unfold maxLen;omega
   clear Aj T3 KG hy
   go_wp2_with (first
    | (at_mapUpdate;refine wpList_mapUpdate_own _ rfl _ _ _ 345 rfl 81 4 Xv Tryz.underlying345 _ w.heap.size i _ rfl HM.out k9.out _ _ _ rfl rfl (sY HY.out) _ [] (plainElem_bool Tryz.underlying4 true) ?_;intro w1 ZL np)
    | go_in)
   have lO:=zAA ZL
   have Je:Hid (Ko (D.put (.int .u64 (y:Int)) (.lit (.bool true))) (l.take (i+1))):=by
    show Ko _ _
    rw [HT.out]
    exact HK.out.put HM.out.isMap y _
   have A6:=zAA (HB.out.grown np HB.out.size (fun j hj=>by cases hj;exact zAD _))
   clear ZL np
   go_round
   case rel=>exact ⟨i+1,_,by omega,by go_num,lO.out,Je.out,A6.out⟩
   case measure=>simp [intOf]<;>omega
  ·have nA:¬(i:Int)<(l.length:Int):=by omega
   have Je:Hid (Ko D l):=by
    have h:=HK.out
    rw [zAF (by omega)] at h
    exact h
   have EQ:Hid (Maps.size D≤l.length):=zAW HM.out.size_le hi
   clear HK
   go_wp2_with (first
    | (at_range;refine wpList_range_own _ rfl _ 345 rfl 81 4 Xv Tryz.underlying345 _ w.heap.size i D rfl HM.out ?_;intro w0 jr NN T4)
    | go_in)
   try go_frame
   have rC:=zAA jr
   have AP:=zAA (HB.out.grown NN HB.out.size (fun j hj=>by cases hj))
   have HIt:Hid (w.heap.size≤wr.heap.size):=HB.out.size
   clear jr NN T4 HM HB
   generalize wr.heap.size=rb at *
   go_loopw [6] (fun v wr=>∃(left:Lit→Bool) (cnt:Nat) (ss:List Nat),Hid (wr.ranges Tryz.prog 81 (plainElem (H:=Unit) Tryz.prog 4) w.heap.size rb i D left cnt)∧Hid (ss.length+cnt≤l.length)∧Hid (wr.ownsRow 0 81 1 v ss.length (AL ss))∧Hid (∀k,v.ownBlock=some k→w.heap.size<k∧k≠rb)∧Hid (Wq D left ss)∧Hid (Below w.heap.size w wr)) (fun _ wr=>wr.rangeLeft w.heap.size rb)
   case atStart=>exact ⟨_,_,[],rC.out,by show _≤_;simpa using EQ.out,zBI _ _ _ _,(by show ∀k,_;intro k e;cases e),Wq.start D,AP.out⟩
   case round=>
    obtain ⟨left,cnt,ss,HR,HC,HO,HF,Jf,HB⟩:=hrel
    clear rC AP
    go_wp2_with (first
     | (at_next;refine wpList_next_ranges _ rfl _ rfl 81 Xv (plainElem (H:=Unit) Tryz.prog 4) (fun x:Nat=>Value.int .u64 (x:Int)) (fun c:Nat=>Value.bool (decide (c=1))) dL iD w.heap.size rb i _ _ _ rfl HR.out ?_ ?_)
     | go_in)
    ·intro DW Uy
     have im:=zAA (Jf.out.mem Je.out Uy)
     clear DW Uy
     rcases HO.out.2 with ⟨EB,hz⟩ | ⟨g,cap,cur,hv,FB,hb,h1,h2,h3,h4⟩
     ·subst EB
      have HE:Hid (A2 l=[]):=by
       have:ss=[]:=zAI hz
       subst this
       exact NA l [] List.Pairwise.nil im.out
      clear hz
      go_wp2_with fail
      refine (qi wr).mono ?_
      rintro e w5 ⟨rfl,rfl⟩
      go_wp2_with fail
      go_ret
      refine ⟨_,rfl,?_,HB.out⟩
      rw [HE.out]
      exact zBI _ _ _ _
     ·subst hv
      have hg:g<wr.heap.size:=(zAX.1 hb).1
      have Bg:ss.length<4611686018427387904:=by have:=HC.out;omega
      have HSU:Hid (SU wr wr g ss.length cap ss.toArray):=⟨by simp,by simpa using HO.out,Ac.refl _ _⟩
      have HS:=zAA (ql g ss.length cap ss.toArray wr HSU.out Bg hg)
      clear FB hb h1 h2 h3 h4 hg HSU
      go_wp2_with fail
      refine HS.out.mono ?_
      rintro e w5 ⟨rfl,z,By,Co,CU⟩
      have HE:=zAA (bd Jf.out.1 im.out Co CU)
      have HZ:=zAA By
      have HZs:Hid ((A2 l).length=ss.length):=by show _=_;rw [← HE.out,zGM];exact HZ.out.sz
      clear By Co CU HS
      go_wp2_with fail
      go_ret
      refine ⟨_,rfl,?_,?_⟩
      ·rw [HZs.out,← HE.out]
       exact Af HZ.out.row (fun k hk=>by have:=(HF.out k hk).1;omega)
      ·exact HB.out.trans (HZ.out.Ai.below HB.out.size (fun k hk e=>by have:=(HF.out g rfl).1;omega))
    ·intro x c kl yd yp w2 cnt2 nz Yv hv Jv js Aq Yu KN hen
     obtain ⟨x',ex,rfl,sO⟩:=ZV _ _ nz
     have e2:(x:Int)=(x':Int):=by simpa using ex
     obtain rfl:x=x':=by omega
     have KK:=zAA js
     have Ub:=zAA Yu
     have Np:=zAA (Jf.out.step Yv Jv)
     have lN:=zAA Aq
     have BG:Hid (w2.ownsRow 0 81 1 u6 ss.length (AL ss)):=(dy (S:=fun k=>k=rb) Yu (fun k e=>by cases e;rfl)).owns HO.out (fun k hk e=>(HF.out k hk).2 e)
     have Nn:Hid ((ss.length+1)*8≤140737488355328∧ss.length+1≤maxLen):=by show _∧_;have:=HC.out;unfold maxLen;omega
     clear nz Yv hv Jv js Yu KN Aq ex e2 sO
     go_wp2_with (first
      | (at_builtin;refine AD Tryz.GJ w2 #[.int .u64 (x:Int)] _ _ _ BG.out rfl (by simp [Value.oneCell']) Nn.out rfl _ _ rfl rfl rfl ?_;intro v5 w5 k1 k2 k3)
      | go_in)
     have Ft:=zAA (KK.out.kept (SY k2) (fun e=>by have:=(HF.out _ e.symm).1;omega) (fun e=>(HF.out _ e.symm).2 rfl))
     have Ew:Hid (w5.ownsRow 0 81 1 v5 (ss++[x]).length (AL (ss++[x]))):=by
      have h:=k1
      rw [show AL (ss++[x])=AL ss++[.int .u64 (x:Int)] by simp [AL],zAB]
      exact h
     have lG:Hid (∀k,v5.ownBlock=some k→w.heap.size<k∧k≠rb):=fun k hk=>by
      rcases k3 k hk with e | e
      ·exact HF.out k e
      ·have h1:=KK.out.lt
       have h2:=HIt.out
       omega
     have BS:Hid (Below w.heap.size w w5):=(HB.out.grown Ub.out HB.out.size (fun j hj=>by cases hj;exact HIt.out)).grown (SY k2) (zAW HB.out.size Ub.out.size) (fun j hj=>zEQ (HF.out j hj).1)
     have rh:Hid ((ss++[x]).length+cnt2≤l.length):=by show _≤_;have:=HC.out;have:=lN.out;rw [zAB,zDY];omega
     clear k1 k2 k3
     go_round
     case rel=>exact ⟨_,cnt2,ss++[x],Ft.out,rh.out,Ew.out,lG.out,Np.out,BS.out⟩
     case measure=>rw [Ft.out.left_eq,HR.out.left_eq];exact lN.out
end Go.Proofs.YtdcgbgecbeegmaaGreatDoor
end
section
namespace Go.Proofs.YtdcgbgecbeegmaaGreatDoor
open Go Go.RowKit
theorem WD {c:Nat} (h1:1≤c) (h:c<4611686018427387904):Lib.bitLen (c-1)=CD c:=by
 by_cases h2:c≤1
 ·obtain rfl:c=1:=by omega
  rw [CD,if_pos h2];rfl
 ·have e1:=JR (c-1) (by omega) (by omega)
  rw [CD,if_neg h2]
  have e2:2 ^ (c-1).log2≤c-1:=Nat.log2_self_le (by omega)
  have e3:c-1<2 ^ ((c-1).log2+1):=Nat.lt_log2_self
  obtain ⟨L,hL⟩:∃L,Lib.bitLen (c-1)=L:=⟨_,rfl⟩
  obtain ⟨k,hk⟩:∃k,(c-1).log2=k:=⟨_,rfl⟩
  rw [hL] at e1 ⊢
  rw [hk] at e2 e3 ⊢
  have a1:2 ^ k<2 ^ L:=by omega
  have a2:k<L:=(Nat.pow_lt_pow_iff_right (by decide)).1 a1
  have a3:2 ^ L<2 ^ (k+2):=by
   have:2 ^ (k+2)=2*2 ^ (k+1):=by rw [zDS 2 (k+1)];omega
   omega
  have a4:L<k+2:=(Nat.pow_lt_pow_iff_right (by decide)).1 a3
  omega
theorem Wp (c:Int) (w:World) (hl : -9223372036854775808≤c) (hc:c≤1152921504606846976) :
  Calls Tryz.prog 237 #[.int .i64 c] w fun e w'=>e = .returned (.int .i64 (EN c))∧w'=w:=by
 by_cases h:c<1
 ·have HW:Hid (EN c=0):=by
   show _=_
   rw [EN,CD,if_pos (by omega)];rfl
  go_enter Tryz.func237,Tryz.ntmps237
  go_wp2_with fail
  go_ret
  rw [HW.out]
  exact ⟨rfl,rfl⟩
 ·obtain ⟨n,rfl⟩:∃n:Nat,c=(n:Int)+1:=⟨(c-1).toNat,by omega⟩
  have HW:Hid ((Lib.bitLen n:Int)=EN ((n:Int)+1)):=by
   show _=_
   rw [EN,show ((n:Int)+1).toNat=n+1 by omega,← WD (by omega) (by omega)];rfl
  have FC:¬(n:Int)+1<1:=h
  have hs:(n:Int)+1-1=(n:Int):=by omega
  have hB:=zAA (Nv n (by omega) w)
  clear hl
  go_enter Tryz.func237,Tryz.ntmps237
  go_wp2_with fail
  refine hB.out.mono ?_
  rintro e w2 ⟨rfl,rfl⟩
  go_wp2_with fail
  go_ret
  rw [HW.out]
  exact ⟨rfl,rfl⟩
def ln (d:List Nat) (x i j:Nat):Prop:=i≤j∧j≤d.length∧(∀k,k<i→d.getD k 0<x)∧(∀k,j≤k→k<d.length→x≤d.getD k 0)
theorem ln.done {d:List Nat} {x i:Nat} (ha:bD d) (hx:x∈d) (h:ln d x i i):i<d.length∧d.getD i 0=x∧d.idxOf x=i:=by
 have hm:=zET hx
 have he:=dx hx
 obtain ⟨h1,h2,h3,h4⟩:=h
 have T0:i≤d.idxOf x:=Nat.le_of_not_lt (fun Aq=>by have:=h3 _ Aq;omega)
 have nk:d.idxOf x=i:=by
  by_cases e:d.idxOf x=i
  ·exact e
  ·exfalso
   have h5:=h4 i (zAD _) (by omega)
   have h6:d.getD i 0<d.getD (d.idxOf x) 0:=by
    rw [zBP,zBP,zAC hm,zAC (show i<d.length by omega)]
    exact zBW.1 ha i _ (by omega) hm (by omega)
   omega
 exact ⟨by omega,by rw [← nk];exact he,nk⟩
theorem YU {d:List Nat} (ha:bD d) {i j:Nat} (C3:i≤j) (hj:j<d.length):d.getD i 0≤d.getD j 0:=by
 by_cases e:i=j
 ·subst e;exact zAD _
 ·rw [zBP,zBP,zAC hj,zAC (show i<d.length by omega)]
  exact zEQ (zBW.1 ha i j (by omega) hj (by omega))
theorem ln.up {d:List Nat} {x i j h:Nat} (ha:bD d) (b:ln d x i j) (h2:h<j) (hl:d.getD h 0<x):ln d x (h+1) j:=
 ⟨h2,b.2.1,fun k hk=>zGS (YU ha (by omega) (by have:=b.2.1;omega)) hl,b.2.2.2⟩
theorem ln.down {d:List Nat} {x i j h:Nat} (ha:bD d) (b:ln d x i j) (h1:i≤h) (h2:h<j) (hl:x≤d.getD h 0):ln d x i h:=
 ⟨h1,by have:=b.2.1;omega,b.2.2.1,fun k hk ll=>zAW hl (YU ha hk ll)⟩
theorem cM (dv:Value) (d:List Nat) (x:Nat) (w:World) (hd:Rd w 1 dv d.length (AL d)) (ha:bD d) (hx:x∈d) (hn:d.length≤1000000000) :
  Calls Tryz.prog 282 #[dv,.int .u64 (x:Int)] w fun e w'=>e = .returned (.tuple #[.int .i64 (d.idxOf x:Int),.bool true])∧Below w.heap.size w w':=by
 have HD:=zAA hd;have HA:=zAA ha;have HX:=zAA hx;have Mk:=zAA hn
 obtain ⟨b,off,c,e,_,_,Aj⟩:=hd.at (fun e=>by have:=congrArg List.length e;rw [BP] at this;simp at this;subst this;cases hx)
 subst e
 have TV:Hid (∀(i:Nat),i<d.length→w.cell? ⟨b,off+i,none⟩=some (.int .u64 ((d.getD i 0:Nat):Int))):=fun i hi=>Aj i _ (by rw [DH d i hi,zBP,zAC hi];rfl)
 have nD:(d.length:Int)≤1000000000:=by omega
 clear hd ha hx Aj hn
 go_enter Tryz.func282,Tryz.ntmps282
 go_wp2_with fail
 go_loopw [7,8] (fun iv jv wr=>∃(i j:Nat),iv = .int .i64 (i:Int)∧jv = .int .i64 (j:Int)∧Hid (ln d x i j)∧Hid (Below w.heap.size w wr)) (fun iv jv _=>(intOf jv-intOf iv).toNat)
 case atStart=>exact ⟨0,d.length,rfl,rfl,⟨zAJ _,zAD _,fun k hk=>by omega,fun k hk ll=>by omega⟩,zAM _ _⟩
 case round=>
  obtain ⟨i,j,rfl,rfl,HB,HW⟩:=hrel
  by_cases C3:i<j
  ·have B1:(i:Int)<(j:Int):=by omega
   obtain ⟨h,hh⟩:∃h,(i+j) / 2=h:=⟨_,rfl⟩
   have HH:Hid (((i:Int)+(j:Int)) / 2=(h:Int)):=by show _=_;omega
   have yQ:=HB.out.2.1
   have hjm:(j:Int)≤1000000000:=by omega
   have h1:i≤h:=by omega
   have h2:h<j:=by omega
   clear hh
   have FC:wr.cell? ⟨b,off+(i+j) / 2,none⟩=some (.int .u64 ((d.getD h 0:Nat):Int)):=by
    rw [show (i+j) / 2=h by have:=HH.out;omega]
    exact (Ac.Ah HW.out (fun _=>False)).cell (TV.out h (by omega)) (fun e=>e)
   have hhm:((i:Int)+(j:Int)) / 2<(d.length:Int):=by rw [HH.out];omega
   obtain ⟨y,hy⟩:∃y,d.getD h 0=y:=⟨_,rfl⟩
   rw [hy] at FC
   have HY:=zAA hy
   clear hy
   go_wp2_with fail
   refine (Ak y x wr).mono ?_
   rintro e w2 ⟨rfl,rfl⟩
   cases hl:AB y x with
   | true=>
    have AP:Hid (ln d x (h+1) j):=HB.out.up HA.out h2 (by rw [HY.out];simpa [AB] using hl)
    go_wp2_with fail
    go_round
    case rel=>exact ⟨h+1,j,by rw [HH.out];go_num,rfl,AP.out,HW.out⟩
    case measure=>simp [intOf];have:=HH.out;omega
   | false=>
    have AP:Hid (ln d x i h):=HB.out.down HA.out h1 h2 (by rw [HY.out];simpa [AB] using hl)
    go_wp2_with fail
    go_round
    case rel=>exact ⟨i,h,rfl,by rw [HH.out],AP.out,HW.out⟩
    case measure=>simp [intOf];have:=HH.out;omega
  ·have B1:¬(i:Int)<(j:Int):=by omega
   obtain rfl:i=j:=by have:=HB.out.1;omega
   obtain ⟨d1,d2,d3⟩:=HB.out.done HA.out HX.out
   have FC:wr.cell? ⟨b,off+i,none⟩=some (.int .u64 (x:Int)):=by
    have h:=(Ac.Ah HW.out (fun _=>False)).cell (TV.out i d1) (fun e=>e)
    rw [d2] at h
    exact h
   have d1i:(i:Int)<(d.length:Int):=by omega
   have HI:=zAA d3
   clear d2 d3
   go_wp2_with fail
   go_ret2
   rw [HI.out]
   exact ⟨rfl,HW.out⟩
theorem Ki {w w':World} (h:Below w.heap.size w w') (p:Nat) (v:Value):JE w w' p v v:=⟨Ac.Ah h _,AG.refl _ _⟩
theorem Rd.Jd {w w':World} {p:Nat} {v v' lv:Value} {l:List Nat} (h:Rd w 1 lv l.length (AL l)) (hu:JE w w' p v v') (Dz:∀k,lv.ownBlock=some k→k≠p∧v.ownBlock≠some k):Rd w' 1 lv l.length (AL l):=
 h.Ai hu.Ai (fun k hk e=>e.elim (Dz k hk).1 (Dz k hk).2)
theorem g8 {l:List Nat} {i:Nat} (h:i<l.length):AL l≠[]:=fun e=>by have:=congrArg List.length e;rw [BP] at this;simp at this;subst this;simp at h
theorem Tg (p:Nat) (v dv:Value) (bits:List Bool) (d:List Nat) (w:World) (hW:Ay w p v bits) (hd:Rd w 1 dv d.length (AL d)) (h0:0<d.length) (hk:d.length≤128)
  (Dz:∀k,dv.ownBlock=some k→k≠p∧v.ownBlock≠some k) (hz:bits.length+9000≤1125899906842000) :
  Calls Tryz.prog 238 #[.pointer (some ⟨p,0,none⟩),dv] w fun e w'=>e = .returned (.tuple #[])∧Cy p v (bits++(Aa (d.length-1) 7++Ba d)) w w':=by
 have HD:=zAA hd;have Nm:=zAA Dz;have HZ:=zAA hz
 have nD:(d.length:Int)≤128:=by omega
 have HB:=zAA (KA p v bits (d.length-1) 7 w hW (by omega) (by omega))
 have hc:(d.length:Int)-1=((d.length-1:Nat):Int):=by omega
 obtain ⟨m,hm⟩:∃m,d.length-1=m:=⟨_,rfl⟩
 rw [hm] at HB hc ⊢
 have jq:(m:Int)≤128:=by omega
 obtain ⟨q,c,hv⟩:=hd.shape
 subst hv
 clear hd Dz hz hW hm
 go_enter Tryz.func238,Tryz.ntmps238
 go_wp2_with fail
 refine HB.out.mono ?_
 rintro e w2 ⟨rfl,v2,RV,Xa⟩
 have F3:=zAA RV;have Py:=zAA Xa
 have KK:=zAA (HD.out.Jd Xa Nm.out)
 clear RV Xa HB
 go_wp2_with fail
 go_loopw [14] (fun kv wr=>∃(k:Nat) (v':Value),k≤d.length∧kv = .int .i64 (k:Int)∧Hid (Ay wr p v' (bits++Aa m 7++Ba (d.take k)))∧Hid (JE w wr p v v')∧Hid (Rd wr 1 (.slice q d.length c) d.length (AL d))) (fun kv _=>d.length-(intOf kv).toNat)
 case atStart=>exact ⟨0,v2,zAJ _,rfl,by show Ay _ _ _ _;rw [zDX];simpa [Ba] using F3.out,Py.out,KK.out⟩
 case round=>
  obtain ⟨k,v',Xg,rfl,HW,HU,HR⟩:=hrel
  clear F3 Py KK
  by_cases Aq:k<d.length
  ·have nA:(k:Int)<(d.length:Int):=by omega
   obtain ⟨b,off,c',e,_,_,Aj⟩:=HR.out.at (g8 Aq)
   simp only [zAN] at e
   obtain ⟨rfl,_,rfl⟩:=e
   obtain ⟨y,hy⟩:∃y,d[k]=y:=⟨_,rfl⟩
   have Ry:wr.cell? ⟨b,off+k,none⟩=some (.int .u64 (y:Int)):=by rw [← hy];exact Aj k _ (DH d k Aq)
   have HT:Hid (Ba (d.take (k+1))=Ba (d.take k)++Aa y 64):=LF d k Aq y hy
   have HC:=zAA (KA p v' _ y 64 wr HW.out (by omega) (by
    rw [zAB,zAB,Ae,Dl,zAR];have:=HZ.out;omega))
   clear Aj hy
   go_wp2_with fail
   refine HC.out.mono ?_
   rintro e w3 ⟨rfl,v3,Xb,qR⟩
   have fQ:Hid (Ay w3 p v3 (bits++Aa m 7++Ba (d.take (k+1)))):=by
    show Ay _ _ _ _
    rw [HT.out,← zAK];exact Xb
   have Vg:=zAA (HU.out.trans qR)
   have Ft:=zAA (HD.out.Jd Vg.out Nm.out)
   clear Xb qR HC
   go_wp2_with fail
   go_round
   case rel=>exact ⟨k+1,v3,by omega,by go_num,fQ.out,Vg.out,Ft.out⟩
   case measure=>simp [intOf];omega
  ·have nA:¬(k:Int)<(d.length:Int):=by omega
   have HF:Hid (Ay wr p v' (bits++(Aa m 7++Ba d))):=by
    have h:=HW.out
    rw [zAF (by omega),zAK] at h
    exact h
   go_wp2_with fail
   go_end0
   exact ⟨rfl,v',HF.out,HU.out⟩
theorem aF (p:Nat) (v lv dv:Value) (bits:List Bool) (l d:List Nat) (w:World) (hW:Ay w p v bits) (hl:Rd w 1 lv l.length (AL l)) (hd:Rd w 1 dv d.length (AL d)) (ha:bD d) (Ct:∀x∈l,x∈d) (hk:d.length≤128)
  (hapl:∀k,lv.ownBlock=some k→k≠p∧v.ownBlock≠some k) (hapd:∀k,dv.ownBlock=some k→k≠p∧v.ownBlock≠some k) (hn:l.length≤1000000000) (hz:bits.length+7*l.length≤70368744177000) :
  Calls Tryz.prog 239 #[.pointer (some ⟨p,0,none⟩),lv,dv] w fun e w'=>e = .returned (.tuple #[])∧Cy p v (bits++Bh d.length (l.map fun x=>d.idxOf x)) w w':=by
 have HL:=zAA hl;have HD:=zAA hd;have Fi:=zAA hapl;have tS:=zAA hapd;have HZ:=zAA hz;have HA:=zAA ha;have Km:=zAA Ct;have HW0:=zAA hW
 have HK:=zAA hk
 have nD:(l.length:Int)≤1000000000:=by omega
 have hdi:(d.length:Int)≤128:=by omega
 obtain ⟨q,c,hv⟩:=hl.shape
 subst hv
 obtain ⟨q2,c2,hv⟩:=hd.shape
 subst hv
 have fJ:=zAA (Wp (d.length:Int) w (by omega) (by omega))
 have wh:Hid (EN (d.length:Int)=(CD d.length:Int)):=by show _=_;rw [EN,zCA]
 have hw7:=Po hk
 obtain ⟨t,ht⟩:∃t,CD d.length=t:=⟨_,rfl⟩
 rw [ht] at wh hw7
 rw [wh.out] at fJ
 have HTt:=zAA ht
 have ZO:(t:Int)≤7:=by omega
 clear hl hd hapl hapd hz ha Ct hW hk ht hn wh
 go_enter Tryz.func239,Tryz.ntmps239
 go_wp2_with fail
 refine fJ.out.mono ?_
 rintro e w2 ⟨rfl,rfl⟩
 clear fJ
 go_wp2_with fail
 go_loopw [16] (fun kv wr=>∃(k:Nat) (v':Value),k≤l.length∧kv = .int .i64 (k:Int)∧Hid (Ay wr p v' (bits++Bh d.length ((l.map fun x=>d.idxOf x).take k)))∧Hid (JE w2 wr p v v')) (fun kv _=>l.length-(intOf kv).toNat)
 case atStart=>exact ⟨0,v,zAJ _,rfl,by show Ay _ _ _ _;rw [zDX];simpa [Bh] using HW0.out,JE.refl _ _ _⟩
 case round=>
  obtain ⟨k,v',Xg,rfl,HW,HU⟩:=hrel
  by_cases Aq:k<l.length
  ·have nA:(k:Int)<(l.length:Int):=by omega
   have HR:=zAA (HL.out.Jd HU.out Fi.out)
   have Yk:=zAA (HD.out.Jd HU.out tS.out)
   obtain ⟨b,off,c',e,_,_,Aj⟩:=HR.out.at (g8 Aq)
   simp only [zAN] at e
   obtain ⟨rfl,_,rfl⟩:=e
   obtain ⟨y,hy⟩:∃y,l[k]=y:=⟨_,rfl⟩
   have Ry:wr.cell? ⟨b,off+k,none⟩=some (.int .u64 (y:Int)):=by rw [← hy];exact Aj k _ (DH l k Aq)
   have HY:Hid (y∈d):=Km.out y (by rw [← hy];exact zDI Aq)
   obtain ⟨z,hz⟩:∃z,d.idxOf y=z:=⟨_,rfl⟩
   have By:z<d.length:=by rw [← hz];exact zET HY.out
   have hzi:(z:Int)<(d.length:Int):=by omega
   have Yv:k<(l.map fun x=>d.idxOf x).length:=by rw [zAT];exact Aq
   have HT:Hid (Bh d.length ((l.map fun x=>d.idxOf x).take (k+1))=Bh d.length ((l.map fun x=>d.idxOf x).take k)++Aa z t):=by
    show _=_
    rw [UC d.length (l.map fun x=>d.idxOf x) k Yv z (by rw [List.getElem_map,hy,hz]),HTt.out]
   have HS:=zAA (cM (.slice q2 d.length c2) d y wr Yk.out HA.out HY.out (by have:=HK.out;omega))
   rw [hz] at HS
   have Ei:Hid ((bits++Bh d.length ((l.map fun x=>d.idxOf x).take k)).length+64≤1125899906842624):=by
    show _≤_
    rw [zAB,F7,zAR,zAT,HTt.out]
    have h1:=Nat.mul_le_mul hw7 (Nat.min_le_right k l.length)
    have:=HZ.out
    omega
   clear Aj hy Yv hz
   go_wp2_with fail
   refine HS.out.mono ?_
   rintro e w3 ⟨rfl,FG⟩
   have fQ:=zAA (HW.out.below FG)
   have Vg:=zAA (HU.out.trans (Ki FG p v'))
   clear FG HS
   have HC:=zAA (KA p v' _ z t w3 fQ.out (by omega) Ei.out)
   go_wp2_with fail
   refine HC.out.mono ?_
   rintro e w4 ⟨rfl,v4,Ys,zsoA⟩
   have HW4:Hid (Ay w4 p v4 (bits++Bh d.length ((l.map fun x=>d.idxOf x).take (k+1)))):=by
    show Ay _ _ _ _
    rw [HT.out,← zAK];exact Ys
   have uc:=zAA (Vg.out.trans zsoA)
   clear Ys zsoA HC fQ Vg
   go_wp2_with fail
   go_round
   case rel=>exact ⟨k+1,v4,by omega,by go_num,HW4.out,uc.out⟩
   case measure=>simp [intOf];omega
  ·have nA:¬(k:Int)<(l.length:Int):=by omega
   have HF:Hid (Ay wr p v' (bits++Bh d.length (l.map fun x=>d.idxOf x))):=by
    have h:=HW.out
    rw [zAF (by rw [zAT];omega)] at h
    exact h
   go_wp2_with fail
   go_end0
   exact ⟨rfl,v',HF.out,HU.out⟩
theorem Zf (p:Nat) (v lv:Value) (bits:List Bool) (l:List Nat) (w:World) (hW:Ay w p v bits) (hl:Rd w 1 lv l.length (AL l)) (ok:∀t∈l,C4 t)
  (Dz:l≠[]→∀k,lv.ownBlock=some k→k≠p∧v.ownBlock≠some k) (hn:l.length≤1000000000) (hz:bits.length+8199+7*l.length≤70368744177000) :
  Calls Tryz.prog 191 #[.pointer (some ⟨p,0,none⟩),lv] w fun e w'=>e = .returned (.int .i64 (if RZ l then 0 else 7))∧Cy p v (bits++Lt l) w w':=by
 by_cases EB:l=[]
 ·subst EB
  have HE:Hid (RZ []=true∧bits++Lt []=bits):=by
   show _∧_
   have:RZ []=true:=by decide
   exact ⟨this,by rw [XJ this];simp [Zh]⟩
  have HW:=zAA hW
  obtain ⟨q,c,hv⟩:=hl.shape
  subst hv
  clear hl ok Dz hz hW
  rw [HE.out.1,HE.out.2]
  go_enter Tryz.func191,Tryz.ntmps191
  go_wp2_with fail
  go_ret
  exact ⟨by simp,v,HW.out,JE.refl _ _ _⟩
 ·have RB:0<l.length:=zFF.2 EB
  have Fi:=zAA (Dz EB)
  have HL:=zAA hl;have Fj:=zAA ok;have HW:=zAA hW;have HZ:=zAA hz;have HN:=zAA hn
  have zE:=zAA (K4 lv l w hl ok hn)
  have Yc:=zAA (PU l)
  have vo:Hid (0<(A2 l).length):=by
   show _<_
   obtain ⟨x,hx⟩:∃x,x∈l:=⟨l[0],zDI RB⟩
   exact List.length_pos_of_mem ((Ge l x).2 hx)
  have Gi:Hid (RZ l=true→Lt l=Aa ((A2 l).length-1) 7++(Ba (A2 l)++Bh (A2 l).length (l.map fun x=>(A2 l).idxOf x))):=fun h=>by rw [XJ h,Zh,if_neg EB]
  have lS:Hid (RZ l=decide ((A2 l).length≤128)):=by show _=_;rfl
  obtain ⟨q,c,hv⟩:=hl.shape
  subst hv
  have BC:¬(l.length:Int)=0:=by omega
  have Yw:((l.length:Int) == 0)=false:=by rw [zAQ];exact BC
  obtain ⟨ev,hev⟩:∃ev:Int,(if RZ l then 0 else 7)=ev:=⟨_,rfl⟩
  have HEv:=zAA hev
  rw [hev]
  clear hl ok Dz hz hW hn EB RB hev
  go_enter Tryz.func191,Tryz.ntmps191
  go_wp2_with fail
  refine zE.out.mono ?_
  rintro e w2 ⟨r,rfl,hO,hB⟩
  obtain ⟨qd,cd,hv⟩:=(Rd.Ad hO).shape
  subst hv
  have HR:=zAA (Rd.Ad hO)
  have vF:Hid (∀k,(Value.slice qd (A2 l).length cd).ownBlock=some k→w.heap.size≤k):=fun k hk=>(hO.lt k hk).1
  have HB:=zAA hB
  have F3:=zAA (HW.out.below hB)
  have Jf:=zAA (HL.out.below hB)
  have tS:Hid (∀k,(Value.slice qd (A2 l).length cd).ownBlock=some k→k≠p∧v.ownBlock≠some k):=fun k hk=>by
   have h1:=vF.out k hk
   have h2:=HW.out.AM.lt
   exact ⟨by omega,fun e=>by have:=Ef HW.out.own k e;omega⟩
  clear hO hB zE
  by_cases hk:(A2 l).length≤128
  ·have gx:¬(128:Int)<((A2 l).length:Int):=by omega
   have Wv:Hid (RZ l=true):=by show _=_;rw [lS.out];exact zBA hk
   have fP:=zAA (Tg p v _ bits (A2 l) w2 F3.out HR.out vo.out hk tS.out (by have:=HZ.out;omega))
   go_wp2_with fail
   refine fP.out.mono ?_
   rintro e w3 ⟨rfl,v3,Xb,qR⟩
   have fQ:=zAA Xb
   have Vg:=zAA qR
   have Np:=zAA (Jf.out.Jd qR Fi.out)
   have Ft:=zAA (HR.out.Jd qR tS.out)
   have lG:=zAA qR.fresh
   have wU:∀(u:Value) (k:Nat),u.ownBlock=some k→k<w2.heap.size→(k≠p∧v.ownBlock≠some k)→k≠p∧v3.ownBlock≠some k:=fun u k hk h1 h2=>⟨h2.1,fun e=>(lG.out k e).elim h2.2 (fun h=>by omega)⟩
   have TW:=zAA (aF p v3 (.slice q l.length c) (.slice qd (A2 l).length cd) _ l (A2 l) w3 fQ.out Np.out Ft.out (PT l) (fun x hx=>(Ge l x).2 hx) hk
    (fun k hk=>wU _ k hk (br Jf.out (fun e=>by have:=vo.out;rw [e] at this;simp [A2,Dv] at this) k hk) (Fi.out k hk))
    (fun k hk=>wU _ k hk (br HR.out (fun e=>by have:=vo.out;rw [e] at this;simp at this) k hk) (tS.out k hk)) HN.out (by
     rw [zAB,zAB,Ae,Dl];have:=HZ.out;omega))
   clear Xb qR wU fP
   go_wp2_with fail
   refine TW.out.mono ?_
   rintro e w4 ⟨rfl,v4,Ys,zsoA⟩
   have HW4:Hid (Ay w4 p v4 (bits++Lt l)):=by
    show Ay _ _ _ _
    rw [Gi.out Wv.out]
    simpa [zAK] using Ys
   have uc:=zAA (((Ki HB.out p v).trans Vg.out).trans zsoA)
   clear Ys zsoA TW
   go_wp2_with fail
   go_ret
   rw [← HEv.out,Wv.out]
   exact ⟨by simp,v4,HW4.out,uc.out⟩
  ·have gx:(128:Int)<((A2 l).length:Int):=by omega
   have Wv:Hid (RZ l=false):=by show _=_;rw [lS.out];exact zAV hk
   have HP:Hid (bits++Lt l=bits):=by show _=_;rw [tB Wv.out,zBR]
   go_wp2_with fail
   go_ret
   rw [← HEv.out,Wv.out,HP.out]
   exact ⟨by simp,v,F3.out,Ki HB.out p v⟩
theorem WN (lv:Value) (l:List Nat) (w:World) (hl:Rd w 1 lv l.length (AL l)) (ok:∀t∈l,C4 t) (hn:l.length≤1000000000) :
  Calls Tryz.prog 190 #[lv] w fun e w'=>e = .returned (.int .i64 (Q7 l))∧Below w.heap.size w w':=by
 by_cases EB:l=[]
 ·subst EB
  have HE:Hid (Q7 []=0):=by
   show _=_
   have:RZ []=true:=by decide
   rw [Q7,if_pos this];simp [Zh]
  obtain ⟨q,c,hv⟩:=hl.shape
  subst hv
  clear hl ok
  rw [HE.out]
  go_enter Tryz.func190,Tryz.ntmps190
  go_wp2_with fail
  go_ret
  exact ⟨rfl,zAM _ _⟩
 ·have RB:0<l.length:=zFF.2 EB
  have BC:¬(l.length:Int)=0:=by omega
  have Yw:((l.length:Int) == 0)=false:=by rw [zAQ];exact BC
  have zE:=zAA (K4 lv l w hl ok hn)
  have Gi:Hid (RZ l=true→Q7 l=7+((A2 l).length:Int)*64+(l.length:Int)*(CD (A2 l).length:Int)):=fun h=>by
   rw [Q7,if_pos h,Zh,if_neg EB,zAB,zAB,Ae,Dl,F7,zAT]
   simp only [Int.natCast_add,Int.natCast_mul]
   rw [Int.mul_comm (CD _:Int)]
   omega
  have lS:Hid (RZ l=decide ((A2 l).length≤128)):=by show _=_;rfl
  have HN:=zAA hn
  obtain ⟨q,c,hv⟩:=hl.shape
  subst hv
  have QL:(l.length:Int)≤1000000000:=by omega
  clear hl ok hn EB RB
  go_enter Tryz.func190,Tryz.ntmps190
  go_wp2_with fail
  refine zE.out.mono ?_
  rintro e w2 ⟨r,rfl,hO,hB⟩
  obtain ⟨qd,cd,hv⟩:=(Rd.Ad hO).shape
  subst hv
  have HB:=zAA hB
  clear hO hB zE
  by_cases hk:(A2 l).length≤128
  ·have gx:¬(128:Int)<((A2 l).length:Int):=by omega
   have Wv:Hid (RZ l=true):=by show _=_;rw [lS.out];exact zBA hk
   have EQ:=zAA (Gi.out Wv.out)
   have hdi:((A2 l).length:Int)≤128:=by omega
   have fJ:=zAA (Wp ((A2 l).length:Int) w2 (by omega) (by omega))
   have hw7:=Po hk
   rw [show EN ((A2 l).length:Int)=(CD (A2 l).length:Int) by rw [EN,zCA]] at fJ
   generalize (A2 l).length=k at *
   generalize CD k=t at *
   have ZO:(t:Int)≤7:=by omega
   have hmb:(l.length:Int)*(t:Int)≤7000000000:=by
    have:=Int.mul_le_mul QL ZO (by omega) (by omega)
    omega
   have hmp:(0:Int)≤(l.length:Int)*(t:Int):=Int.mul_nonneg (by omega) (by omega)
   clear hk
   go_wp2_with fail
   refine fJ.out.mono ?_
   rintro e w3 ⟨rfl,rfl⟩
   clear fJ
   go_wp2_with fail
   go_ret
   rw [EQ.out]
   exact ⟨by rfl,HB.out⟩
  ·have gx:(128:Int)<((A2 l).length:Int):=by omega
   have Wv:Hid (Q7 l = -1):=by show _=_;rw [Q7,lS.out,zAV hk];rfl
   go_wp2_with fail
   go_ret
   rw [Wv.out]
   exact ⟨by rfl,HB.out⟩
end Go.Proofs.YtdcgbgecbeegmaaGreatDoor
end
