/- Texts 37. -/
import Derived.Test.YtdcgbgecbeegmaaGreatDoorMgSA
import Derived.Test.YtdcgbgecbeegmaaGreatDoorMgS34
set_option linter.unusedVariables false
set_option linter.unusedSimpArgs false
set_option maxHeartbeats 400000000
set_option maxRecDepth 100000
section
namespace Go.Proofs.YtdcgbgecbeegmaaGreatDoor
open Go Go.RowKit Go.Shelf
attribute [local go_sem] Oper.semAt_some
structure YO (l:List Nat) (x n:Nat):Prop where
 one:1≤n
 most:n≤128
 le:n≤l.length
 all:l.take n=List.replicate n x
 stop:∀y,l[n]? = some y→¬(x=y∧n<128)
theorem cC (ps rs:List (Nat × Nat)) (h:rs≠[]) (x:Nat):Jo (ps++rs) x=ps++Jo rs x∧Jo rs x≠[]:=by
 rcases Gm rs with rfl | ⟨p,v,c,rfl⟩
 ·exact absurd rfl h
 ·rw [← zAK,Eo,Eo]
  split<;>simp
theorem RK (ps:List (Nat × Nat)) (l:List Nat):∀(rs:List (Nat × Nat)),rs≠[]→Bo (ps++rs) l=ps++Bo rs l:=by
 induction l with
 | nil=>intro rs _;rfl
 | cons x l ih=>
  intro rs h
  obtain ⟨h1,h2⟩:=cC ps rs h x
  show Bo (Jo (ps++rs) x) l=ps++Bo (Jo rs x) l
  rw [h1,ih _ h2]
theorem fp {l:List Nat} {x n:Nat} (h:YO l x n):Be l=(x,n)::Be (l.drop n):=by
 have e:Be l=Bo (Bo [] (l.take n)) (l.drop n):=by rw [← Fd,zBD];rfl
 obtain ⟨k,hk⟩:∃k,n=k+1:=⟨n-1,by have:=h.one;omega⟩
 have e2:Bo [] (l.take n)=[(x,n)]:=by
  rw [h.all,hk,kD [] x k (by have:=h.most;omega) (fun _ _ e=>by cases e)];rfl
 rw [e,e2]
 cases hd:l.drop n with
 | nil=>rfl
 | cons y r=>
  have hy:l[n]? = some y:=by
   have:(l.drop n)[0]? = some y:=by rw [hd];rfl
   rwa [zFQ] at this
  have ha:Jo [(x,n)] y=[(x,n)]++[(y,1)]:=by
   rw [show [(x,n)]=[]++[(x,n)] from rfl,Eo,if_neg (h.stop y hy)]
  show Bo (Jo [(x,n)] y) r=(x,n)::Bo (Jo [] y) r
  rw [ha,RK _ _ _ (by simp)]
  rfl
theorem fu:Pz Tryz.prog 301 2 [.int .u64 0,.int .i64 0]:=Pz.mk' Tryz.underlying301 rfl (by kernel_rfl) rfl
theorem WW (lv:Value) (l:List Nat) (w:World) (hl:Rd w 1 lv l.length (AL l)) (BC:l≠[]) :
  Calls Tryz.prog 277 #[lv] w fun e w'=>∃x n,YO l x n∧e = .returned (.agg #[.int .u64 (x:Int),.int .i64 (n:Int)])∧Below w.heap.size w w':=by
 obtain ⟨x0,tl,GD⟩:=List.exists_cons_of_ne_nil BC
 obtain ⟨b,off,c,e,T3,KG,Aj⟩:=hl.at (by rw [GD];simp [AL])
 subst e
 have TV:Hid (∀(i t:Nat),l[i]? = some t→w.cell? ⟨b,off+i,none⟩=some (.int .u64 (t:Int))):=fun i t h=>Aj i _ (by rw [AL,zBQ,h];rfl)
 have Pu:=zAA hl.le
 have DW:w.cell? ⟨b,off,none⟩=some (.int .u64 (x0:Int)):=by have:=TV.out 0 x0 (by rw [GD];rfl);simpa using this
 have HX:Hid (l[0]? = some x0):=by show _=_;rw [GD];rfl
 have RB:(0:Int)<(l.length:Int):=by rw [GD];simp only [zAH];omega
 have SH:1≤l.length:=by omega
 have gB:(l.length:Int)≤9223372036854775807:=by have:=Pu.out;unfold maxLen at this;omega
 clear hl BC GD T3 KG Aj
 have fJ:=zAA DW
 clear DW
 go_enter Tryz.func277,Tryz.ntmps277
 go_wp2_with fail
 obtain ⟨w1,Cg⟩:∃w1,w.alloc (.cells #[.int .u64 0,.int .i64 0] 301)=w1:=⟨_,rfl⟩
 have Je:Hid (Ao w1 w.heap.size [.int .u64 0,.int .i64 0]):=by rw [← Cg];exact Ao.new w _ _
 have A6:Hid (Below w.heap.size w w1):=by rw [← Cg];exact (zAM _ w).alloc (zAD _) _
 rw [Cg]
 clear Cg
 go_loopw [3] (fun nv wr=>∃(n:Nat),1≤n∧n≤l.length∧n≤128∧nv = .int .i64 (n:Int)∧Hid (l.take n=List.replicate n x0)∧Hid (Below w.heap.size w wr∧Ao wr w.heap.size [.int .u64 0,.int .i64 0])) (fun nv _=>l.length-(intOf nv).toNat)
 case atStart=>exact ⟨1,zAD _,SH,by omega,rfl,by
  show _=_
  rw [List.take_one,List.head?_eq_getElem?,HX.out];rfl,A6.out,Je.out⟩
 case round=>
  obtain ⟨n,h1,h2,h3,rfl,HA,Yb⟩:=hrel
  have gq:wr.cell? ⟨b,off,none⟩=some (.int .u64 (x0:Int)):=(Yb.out.1.cell (zAP w _ fJ.out)).trans fJ.out
  have ja:wr.cell? ⟨w.heap.size,0,none⟩=some (.int .u64 0):=by rw [Yb.out.2.cell];rfl
  have wL:=Yb.out.2.free 0
  have MW:wr.cell? ⟨w.heap.size,1,none⟩=some (.int .i64 0):=by rw [Yb.out.2.cell];rfl
  have wM:=Yb.out.2.free 1
  have hn128:(n:Int)≤128:=by omega
  by_cases Aq:n<l.length
  ·have AF:(n:Int)<(l.length:Int):=by omega
   obtain ⟨y,hy⟩:∃y,l[n]? = some y:=⟨_,zAC Aq⟩
   have hcn:wr.cell? ⟨b,off+n,none⟩=some (.int .u64 (y:Int)):=(Yb.out.1.cell (p:=⟨b,off+n,none⟩) (zAP w ⟨b,off+n,none⟩ (TV.out n y hy))).trans (TV.out n y hy)
   have HY:=zAA hy
   clear hy
   by_cases hm:n<128
   ·have hm':(n:Int)<128:=by omega
    by_cases he:y=x0
    ·subst he
     go_wp2_with fail
     go_quiet (fail)
     have PE:Hid (Below w.heap.size w (wr.drewN nq)∧Ao (wr.drewN nq) w.heap.size [.int .u64 0,.int .i64 0]):=⟨Yb.out.1.trans ⟨rfl,rfl,rfl,zAD _,fun _ _=>rfl⟩,Yb.out.2⟩
     have G0:Hid (l.take (n+1)=List.replicate (n+1) y):=by
      show _=_
      rw [zAL,HY.out,HA.out,List.replicate_succ'];rfl
     clear Yb HA gq ja wL MW wM hcn
     generalize wr.drewN nq=wn at *
     go_wp2_with fail
     go_round
     case rel=>exact ⟨n+1,by omega,by omega,by omega,by go_num,G0.out,PE.out⟩
     case measure=>simp [intOf];omega
    ·have RW:((y:Int) == (x0:Int))=false:=by rw [zAQ];omega
     have LQ:¬(y:Int)=(x0:Int):=by omega
     have HR:Hid (YO l x0 n):=⟨h1,h3,h2,HA.out,fun z hz h=>by rw [HY.out] at hz;cases hz;exact he h.1.symm⟩
     clear he
     go_wp2_with fail
     go_quiet (fail)
     have PE:Hid (Below w.heap.size w (wr.drewN nq)∧Ao (wr.drewN nq) w.heap.size [.int .u64 0,.int .i64 0]):=⟨Yb.out.1.trans ⟨rfl,rfl,rfl,zAD _,fun _ _=>rfl⟩,Yb.out.2⟩
     have hcw2:(wr.drewN nq).cell? ⟨b,off,none⟩=some (.int .u64 (x0:Int)):=gq
     have hK02:(wr.drewN nq).cell? ⟨w.heap.size,0,none⟩=some (.int .u64 0):=ja
     have hF02:(wr.drewN nq).frozen? ⟨w.heap.size,0,none⟩=false:=wL
     have hK12:(wr.drewN nq).cell? ⟨w.heap.size,1,none⟩=some (.int .i64 0):=MW
     have hF12:(wr.drewN nq).frozen? ⟨w.heap.size,1,none⟩=false:=wM
     clear Yb HA gq ja wL MW wM hcn
     generalize wr.drewN nq=wn at *
     go_wp2_with fail
     refine zCB (Di (p:=2) fu (by kernel_rfl) _ w.heap.size rfl [.int .u64 (x0:Int),.int .i64 (n:Int)] ?_ rfl) rfl ⟨x0,n,HR.out,rfl,?_⟩
     ·simpa using (PE.out.2.set 0 (.int .u64 (x0:Int))).set 1 (.int .i64 (n:Int))
     ·exact PE.out.1.trans (((Ac.set (fun k=>k=w.heap.size) wn ⟨w.heap.size,0,none⟩ _ (fun _=>rfl)).trans (Ac.set (fun k=>k=w.heap.size) _ ⟨w.heap.size,1,none⟩ _ (fun _=>rfl)) (fun _ _ e=>e)).below PE.out.1.size (fun j hj e=>by omega))
   ·have HR:Hid (YO l x0 n):=⟨h1,h3,h2,HA.out,fun z hz h=>hm h.2⟩
    obtain rfl:n=128:=by omega
    have hd:decide ((128:Int)<(l.length:Int))=true:=by simpa using AF
    go_wp2_with fail
    go_quiet (fail)
    have PE:Hid (Below w.heap.size w (wr.drewN nq)∧Ao (wr.drewN nq) w.heap.size [.int .u64 0,.int .i64 0]):=⟨Yb.out.1.trans ⟨rfl,rfl,rfl,zAD _,fun _ _=>rfl⟩,Yb.out.2⟩
    have hcw2:(wr.drewN nq).cell? ⟨b,off,none⟩=some (.int .u64 (x0:Int)):=gq
    have hK02:(wr.drewN nq).cell? ⟨w.heap.size,0,none⟩=some (.int .u64 0):=ja
    have hF02:(wr.drewN nq).frozen? ⟨w.heap.size,0,none⟩=false:=wL
    have hK12:(wr.drewN nq).cell? ⟨w.heap.size,1,none⟩=some (.int .i64 0):=MW
    have hF12:(wr.drewN nq).frozen? ⟨w.heap.size,1,none⟩=false:=wM
    clear Yb HA gq ja wL MW wM hcn
    generalize wr.drewN nq=wn at *
    go_wp2_with fail
    refine zCB (Di (p:=2) fu (by kernel_rfl) _ w.heap.size rfl [.int .u64 (x0:Int),.int .i64 ((128:Nat):Int)] ?_ rfl) rfl ⟨x0,128,HR.out,rfl,?_⟩
    ·simpa using (PE.out.2.set 0 (.int .u64 (x0:Int))).set 1 (.int .i64 ((128:Nat):Int))
    ·exact PE.out.1.trans (((Ac.set (fun k=>k=w.heap.size) wn ⟨w.heap.size,0,none⟩ _ (fun _=>rfl)).trans (Ac.set (fun k=>k=w.heap.size) _ ⟨w.heap.size,1,none⟩ _ (fun _=>rfl)) (fun _ _ e=>e)).below PE.out.1.size (fun j hj e=>by omega))
  ·have AF:¬(n:Int)<(l.length:Int):=by omega
   have HR:Hid (YO l x0 n):=⟨h1,h3,h2,HA.out,fun z hz h=>by rw [zCJ (by omega)] at hz;cases hz⟩
   go_wp2_with fail
   go_quiet (fail)
   have PE:Hid (Below w.heap.size w (wr.drewN nq)∧Ao (wr.drewN nq) w.heap.size [.int .u64 0,.int .i64 0]):=⟨Yb.out.1.trans ⟨rfl,rfl,rfl,zAD _,fun _ _=>rfl⟩,Yb.out.2⟩
   have hcw2:(wr.drewN nq).cell? ⟨b,off,none⟩=some (.int .u64 (x0:Int)):=gq
   have hK02:(wr.drewN nq).cell? ⟨w.heap.size,0,none⟩=some (.int .u64 0):=ja
   have hF02:(wr.drewN nq).frozen? ⟨w.heap.size,0,none⟩=false:=wL
   have hK12:(wr.drewN nq).cell? ⟨w.heap.size,1,none⟩=some (.int .i64 0):=MW
   have hF12:(wr.drewN nq).frozen? ⟨w.heap.size,1,none⟩=false:=wM
   clear Yb HA gq ja wL MW wM
   generalize wr.drewN nq=wn at *
   go_wp2_with fail
   refine zCB (Di (p:=2) fu (by kernel_rfl) _ w.heap.size rfl [.int .u64 (x0:Int),.int .i64 (n:Int)] ?_ rfl) rfl ⟨x0,n,HR.out,rfl,?_⟩
   ·simpa using (PE.out.2.set 0 (.int .u64 (x0:Int))).set 1 (.int .i64 (n:Int))
   ·exact PE.out.1.trans (((Ac.set (fun k=>k=w.heap.size) wn ⟨w.heap.size,0,none⟩ _ (fun _=>rfl)).trans (Ac.set (fun k=>k=w.heap.size) _ ⟨w.heap.size,1,none⟩ _ (fun _=>rfl)) (fun _ _ e=>e)).below PE.out.1.size (fun j hj e=>by omega))
abbrev Rn:Type:={ r:Nat × Nat // V6 r }
def pT (r:Rn):Value:=.agg #[.int .u64 (r.1.1:Int),.int .i64 (r.1.2:Int)]
def D8 (ys:List Rn):List (Nat × Nat):=ys.map Subtype.val
theorem Nc (ys:List Rn) (x:Rn):D8 (ys++[x])=D8 ys++[x.1]:=by simp [D8]
def Ns (w:World) (k:Nat):Prop:=∃(x n:Int) (fz:Nat × Nat),w.heap[k]? = some (.cells #[.int .u64 x,.int .i64 n] 301 fz)
def LJ (K:Nat→Prop) (A B:World):Prop:=Bs K A B∧∀k,Ns A k→B.heap[k]? = A.heap[k]?
theorem Ns.keep {A B:World} {k:Nat} (h:Ns A k) (e:B.heap[k]? = A.heap[k]?):Ns B k:=by
 obtain ⟨x,n,fz,h⟩:=h
 exact ⟨x,n,fz,e.trans h⟩
theorem VF {K:Nat→Prop} {A B C:World} (h:LJ K A B) (k:LJ K B C):LJ K A C:=
 ⟨D2 h.1 k.1,fun j hj=>(k.2 j (hj.keep (h.2 j hj))).trans (h.2 j hj)⟩
theorem VE {K:Nat→Prop} {w:World} (hK:∀k,K k→k<w.heap.size) (W:World) (l:Nat) (o o':Obj) (hl:w.heap.size≤l) (h:W.heap[l]? = some o) (ho:o.isCells=false) (hw:o.isWalk=false):LJ K W (W.putObj l o'):=
 ⟨Lj hK W l o o' hl h ho hw,fun k ⟨x,n,fz,hk⟩=>(grownBy_putObj' W l o').block k (zAX.1 hk).1 (fun e=>by cases e;rw [hk] at h;cases h;cases ho)⟩
theorem J2 {K S:Nat→Prop} {w W W':World} (hm:Ac S W W') (hs:w.heap.size≤W.heap.size) (hK:∀k,K k→k<w.heap.size) (hKS:∀k,K k→¬S k) (hR:∀k,S k→¬Ns W k):LJ K W W':=
 ⟨fun k hk=>hm.block k (by have:=hK k hk;omega) (hKS k hk),fun k hk=>hm.block k (by obtain ⟨_,_,_,e⟩:=hk;exact (zAX.1 e).1) (fun e=>hR k e hk)⟩
theorem ak (p:Option Addr) (m c:Nat) (w:World) (n:Nat) :
  CallsIn Fence.wide n Tryz.prog 233 #[.slice p m c] w fun e w'=>e = .returned (.func (.func 276) #[] #[.pointer (some ⟨w.heap.size,0,none⟩)])∧w'=w.alloc (.cells #[.slice p m c] 113):=by
 refine zCQ.2 ?_
 go_enter Tryz.func233,Tryz.ntmps233
 go_wp2_with fail
 go_ret
 exact ⟨rfl,rfl⟩
theorem Ts (n:Nat) (hn:1≤n) (b:Nat) (lv:Value) (l:List Nat) (w:World) (hc:w.cell? ⟨b,0,none⟩=some lv) (hl:Rd w 1 lv l.length (AL l)) (P5:∀t∈l,t<18446744073709551616) :
  SeqStopsK Fence.wide n Tryz.prog 276 #[.pointer (some ⟨b,0,none⟩)] (fun r:Rn=>#[pT r]) (LJ (fun k=>k=b∨(l≠[]∧lv.ownBlock=some k))) (fun ys=>D8 ys=Be l) (fun _=>True) (Be l).length w:=by
 intro r J Jx W hW hJ hJx hY h0
 have hb:b<w.heap.size:=zAP w _ hc
 have vB:Hid (∀k,(k=b∨(l≠[]∧lv.ownBlock=some k))→k<w.heap.size):=fun k hk=>by
  rcases hk with e | ⟨h1,e⟩
  ·omega
  ·exact hl.lt (fun e=>h1 (by simpa [AL] using e)) k e
 have bT:Hid (Bs (fun k=>k=b∨(l≠[]∧lv.ownBlock=some k)) w W):=fun k hk=>hW.block k (vB.out k hk)
 have HC:=zAA hc;have HL:=zAA hl;have Fj:=zAA P5
 have HJ:=zAA hJ
 have HY:=zAA hY
 have Xi:(l.length:Int)≤9223372036854775807:=by have:=hl.le;unfold maxLen at this;omega
 clear hc hJ hY P5
 obtain ⟨p,c,hv⟩:=hl.shape
 subst hv
 clear hl
 obtain ⟨K,hK⟩:∃K:Nat→Prop,(fun k=>k=b∨(l≠[]∧(Value.slice p l.length c).ownBlock=some k))=K:=⟨_,rfl⟩
 have bU:Hid (K b):=by rw [← hK];exact Or.inl rfl
 have vC:Hid (l≠[]→∀k,(Value.slice p l.length c).ownBlock=some k→K k):=by rw [← hK];exact fun h k hk=>Or.inr ⟨h,hk⟩
 have HKs:Hid (∀k,K k→k<w.heap.size):=by rw [← hK];exact vB.out
 rw [hK] at bT HY
 clear hK vB
 refine zGC Tryz.func276 rfl trivial ?_ rfl
 simp only [Tryz.ntmps276,zCC,zAH,zBG,Nat.reduceAdd,Nat.reduceSub,zCL,zCM,zCV,zCO,zBK,zBX]
 gi_wp2
 gi_loopw [3] (fun iv wr=>∃(i:Nat) (pre:List Rn),i≤l.length∧iv = .int .i64 (i:Int)∧Hid (Be l=D8 pre++Be (l.drop i))∧Hid (J pre wr∧Bs K w wr)) (fun iv _=>l.length-(intOf iv).toNat)
 case atStart=>exact ⟨0,[],zAJ _,rfl,rfl,h0,bT.out⟩
 case round=>
  obtain ⟨i,pre,hi,rfl,HP,HI⟩:=hrel
  have cb:=(HI.out.2.cell bU.out 0).trans HC.out
  by_cases h:i<l.length
  ·have Aq:(i:Int)<(l.length:Int):=by omega
   have NQ:(i:Int)≤(l.length:Int):=by omega
   have BC:l≠[]:=fun e=>by rw [e] at h;simp at h
   have HR:=zAA (HI.out.2.rd HL.out (vC.out BC))
   have Yc:Hid ((l.drop i).length=l.length-i):=zCN
   have Vc:Hid (l.drop i≠[]):=fun e=>by have:=congrArg List.length e;rw [zCN,zBG] at this;omega
   have HDu:Hid ((AL l).drop (i*1)=AL (l.drop i)):=by show _=_;rw [zFI,AL,AL,List.map_drop]
   have G5:¬(c=i):=by
    obtain ⟨_,_,e,_,h2,_⟩:=HR.out
    simp only [zAN] at e
    obtain ⟨_,_,rfl⟩:=e
    omega
   have hci2:i<c:=by
    obtain ⟨_,_,e,_,h2,_⟩:=HR.out
    simp only [zAN] at e
    obtain ⟨_,_,rfl⟩:=e
    omega
   clear BC
   have Yk:Hid (Rd wr 1 (.slice (Option.map (fun x:Addr=>x.add i) p) (l.length-i) (c-i)) (l.drop i).length (AL (l.drop i))):=by
    have h:=HR.out.from i (by omega)
    rw [HDu.out] at h
    rw [Yc.out]
    show Rd _ _ _ _ _
    unfold sliced at h
    rw [if_neg (by omega)] at h
    simpa using h
   have Yd:=zAA (WW _ _ wr Yk.out Vc.out)
   clear Yk Vc HDu HR
   gi_wp2
   refine ⟨trivial,(zCQ.2 Yd.out).mono ?_⟩
   rintro e w2 ⟨x,k,hH,rfl,hB⟩
   have qI:=zAA (fp hH)
   have lk:=hH.one
   have Xf:=hH.most
   have qH:Hid (V6 (x,k)):=by
    refine ⟨lk,Xf,Fj.out x ?_⟩
    have:x∈(l.drop i).take k:=by rw [hH.all];exact List.mem_replicate.2 ⟨by omega,rfl⟩
    exact zFB (zEE this)
   have ll:k≤l.length-i:=by have:=hH.le;rw [Yc.out] at this;exact this
   clear hH Yd
   have Ue:Hid (J pre w2∧Bs K w w2):=⟨HJ.out pre wr _ none HI.out.1 (QI hB) (fun r e=>by cases e),NU HI.out.2 HKs.out hB⟩
   have Uf:Hid (J pre (w2.alloc (.cells #[.int .u64 (x:Int),.int .i64 (k:Int)] 301))∧Bs K w (w2.alloc (.cells #[.int .u64 (x:Int),.int .i64 (k:Int)] 301))):=by
    have EP:Below w2.heap.size w2 (w2.alloc (.cells #[.int .u64 (x:Int),.int .i64 (k:Int)] 301)):=(zAM _ w2).alloc (zAD _) _
    have Ed:W.heap.size≤w2.heap.size→True:=fun _=>trivial
    exact ⟨HJ.out pre w2 _ none Ue.out.1 (QI EP) (fun r e=>by cases e),NU Ue.out.2 HKs.out EP⟩
   obtain ⟨z,hz⟩:∃z:Rn,z=⟨(x,k),qH.out⟩:=⟨_,rfl⟩
   have HZ:Hid (z.1=(x,k)):=by rw [hz];rfl
   have hze:pT z = .agg #[.int .u64 (x:Int),.int .i64 (k:Int)]:=by rw [hz];rfl
   have hex:Hid (Be l=D8 (pre++[z])++Be (l.drop (i+k))):=by
    show _=_
    rw [Nc,HZ.out,HP.out,qI.out,List.drop_drop,zAK];rfl
   have Bg:pre.length<(Be l).length:=by
    rw [hex.out,Nc,zAB,zAB,zDY]
    have:(D8 pre).length=pre.length:=by simp [D8]
    omega
   obtain ⟨fn,tmps,assign,body,jz,hR⟩:=HY.out pre z _ Uf.out.1 Bg
   rw [hze] at jz
   have li:=zAA hR
   have zM:=zAA hex
   clear HI cb hB G5 hci2 Ue hR hex Bg hze hz HP qI
   gi_wp2
   refine li.out.mono ?_
   rintro e W3 (⟨rfl,Uv,Xf⟩ | ⟨rfl,P0⟩)
   ·have bH:=zAA (And.intro Uv (D2 Uf.out.2 Xf.1))
    have hcr:W3.cell? ⟨w2.heap.size,1,none⟩=some (.int .i64 (k:Int)):=by
     have hb:=Ao.new w2 #[.int .u64 (x:Int),.int .i64 (k:Int)] 301
     rw [(hb.of_same (Xf.2 _ ⟨_,_,_,World.alloc_heap_new w2 _⟩)).cell];rfl
    clear Uv Xf
    have Fl:(k:Int)≤128:=by omega
    gi_wp2
    go_roundw
    case rel=>exact ⟨i+k,_,by omega,by go_num,zM.out,bH.out⟩
    case measure=>simp [intOf];omega
   ·gi_wp2
    refine zCB (zDZ rfl _ _ _) rfl ?_
    exact ⟨⟨_,rfl⟩,.inr ⟨_,trivial,P0⟩⟩
  ·have Aq:¬(i:Int)<(l.length:Int):=by omega
   have HE:Hid (D8 pre=Be l):=by
    show _=_
    rw [HP.out,zBF (by omega)]
    simp [Be,Bo]
   clear HP
   gi_wp2
   go_end0
   exact ⟨⟨_,rfl⟩,.inl ⟨_,HE.out,HI.out.1⟩⟩
theorem aX (lv:Value) (l:List Nat) (w:World) (hl:Rd w 1 lv l.length (AL l)) (P5:∀t∈l,C4 t) (hz:71*l.length≤70368744177000) :
  Calls Tryz.prog 187 #[lv] w fun e w'=>e = .returned (.int .i64 ((PY l).length:Int))∧Below w.heap.size w w':=by
 obtain ⟨p,c,hv⟩:=hl.shape
 subst hv
 have HL:=zAA hl;have Fj:=zAA P5
 have HZ:Hid (71*(Be l).length≤70368744177000):=by show _≤_;have:=Gu l;omega
 have HLT:Hid (l≠[]→∀k,(Value.slice p l.length c).ownBlock=some k→k<w.heap.size):=fun h=>hl.lt (fun e=>h (by simpa [AL] using e))
 clear hl P5 hz
 refine (zCQ (n:=9)).1 ?_
 refine callsIn_of_wp_marks Tryz.func187 rfl trivial ?_ rfl
 simp only [Tryz.ntmps187,zCC,zAH,zBG,Nat.reduceAdd,Nat.reduceSub,zCL,zCM,zCV,zCO,zBK,zBX]
 gi_wp2_with (refine ⟨trivial,?_⟩;gi_at_call 233;refine (ak p _ c _ _).mono ?_;rintro e w' ⟨rfl,rfl⟩)
 obtain ⟨W0,Gr⟩:∃W0,(w.alloc (.cells #[.int .i64 0] 3)).alloc (.cells #[.slice p l.length c] 113)=W0:=⟨_,rfl⟩
 have T4:W0.heap.size=w.heap.size+2:=by rw [← Gr];simp
 have MV:Below w.heap.size w W0:=by rw [← Gr];exact ((zAM _ w).alloc (zAD _) _).alloc (by simp) _
 have KF:Ao W0 w.heap.size [.int .i64 0]:=by rw [← Gr];exact (Ao.new w _ _).alloc _
 have GD:W0.cell? ⟨w.heap.size+1,0,none⟩=some (.slice p l.length c):=by
  have:=(Ao.new (w.alloc (.cells #[.int .i64 0] 3)) #[.slice p l.length c] 113).cell 0
  rw [Gr] at this
  simpa using this
 have Uy:=HL.out.below MV
 have Ug:Hid (∀k,(k=w.heap.size+1∨(l≠[]∧(Value.slice p l.length c).ownBlock=some k))→k≠w.heap.size∧k<W0.heap.size):=fun k hk=>by
  rcases hk with e | ⟨h,e⟩
  ·omega
  ·have:=HLT.out h k e;omega
 have No:=zAA (Ts 8 (by omega) (w.heap.size+1) _ l W0 GD Uy Fj.out)
 rw [Gr]
 clear Gr GD Uy
 obtain ⟨K,hK⟩:∃K:Nat→Prop,(fun k=>k=w.heap.size+1∨(l≠[]∧(Value.slice p l.length c).ownBlock=some k))=K:=⟨_,rfl⟩
 have R7:Hid (∀k,K k→k≠w.heap.size∧k<W0.heap.size):=by rw [← hK];exact Ug.out
 rw [hK] at No
 clear hK Ug
 have HE:Hid ((PY l).length=71*(Be l).length):=by show _=_;rw [PY,GK]
 generalize Be l=rs at *
 refine wpIn_rangeFunc_ownG rfl (by omega) (gf:=276) (lb:=#[.pointer (some ⟨w.heap.size+1,0,none⟩)]) rfl trivial (enters_of Tryz.func276 (by kernel_rfl) rfl)
  No.out (fun h k=>VF h k) (fun W l o o' h1 h2 h3 h4=>VE (fun k hk=>(R7.out k hk).2) W l o o' h1 h2 h3 h4) (zAM _ _) (fun _=>rfl)
  (fun pre W=>Ao W w.heap.size [.int .i64 ((71*pre.length:Nat):Int)]∧Ac (fun k=>k=w.heap.size) W0 W)
  (fun _ _ _=>False)
  (OwnFrom.and (Own.from (LT _ _) _) (J8 (zAD _)))
  (fun _ _ _ _ _ hs _ _=>hs)
  ⟨KF,Ac.refl _ _⟩
  (fun x=>{ tmps:=#[.slice p l.length c,undef,.int .i64 0,.pointer (some ⟨w.heap.size,0,none⟩),.slice p l.length c,.func (.func 276) #[] #[.pointer (some ⟨w.heap.size+1,0,none⟩)],pT x,undef,undef,undef],defers:=[] }) ?assign ?body ?done ?stop
 case assign=>
  intro l x W K hK
  simp only [zEN,zEC,zED,zEA,zDP,zFA,zAZ,zBL,zBT]
  gi_wp2
  exact hK
 case body=>
  rintro l pre x W ⟨hn,hM0⟩ Bg
  obtain ⟨Z,hZe⟩:∃Z,71*pre.length=Z:=⟨_,rfl⟩
  have hZ:Z≤70368744177000:=by have:=HZ.out;omega
  have hZ2:((71*(pre++[x]).length:Nat):Int)=(Z:Int)+71:=by rw [zAB,zDY];omega
  have RR:=zAA hZ2
  rw [hZe] at hn
  have c0:W.cell? ⟨w.heap.size,0,none⟩=some (.int .i64 (Z:Int)):=by rw [hn.cell];rfl
  have f0:=hn.free 0
  have HN:=zAA hn;have zY:=zAA hM0
  clear hn hM0 hZ2 hZe
  gi_wp2
  have hM:Ac (fun k=>k=w.heap.size) W (W.setCell ⟨w.heap.size,0,none⟩ (.int .i64 ((Z:Int)+71))):=Ac.set (fun k=>k=w.heap.size) W ⟨w.heap.size,0,none⟩ _ (fun _=>rfl)
  refine ⟨(KeepsOthers.J5 hM (fun k o hk ho=>?_)).from _,J2 hM zY.out.size (fun k hk=>(R7.out k hk).2) (fun k hk=>(R7.out k hk).1) ?_,?_,?_⟩
  ·subst hk
   obtain ⟨t,ht⟩:=HN.out
   rw [ht] at ho
   cases ho;rfl
  ·rintro k rfl ⟨x,n,fz,e⟩
   obtain ⟨t,ht⟩:=HN.out
   rw [ht] at e
   simp at e
  ·rw [RR.out]
   simpa using HN.out.set 0 (.int .i64 ((Z:Int)+71))
  ·exact zY.out.trans hM (fun _ _ e=>e)
 case done=>
  rintro D zs W hD Me ⟨hn,hM0⟩ hK
  have Ev:Hid (((71*zs.length:Nat):Int)=((PY l).length:Int)):=by
   show _=_
   have:zs.length=rs.length:=by rw [← Me];simp [D8]
   rw [HE.out,this]
  have c0:W.cell? ⟨w.heap.size,0,none⟩=some (.int .i64 ((71*zs.length:Nat):Int)):=by rw [hn.cell];rfl
  clear hn No
  have hB:=MV.trans (hM0.below (B:=w.heap.size) (by omega) (fun k hk e=>by omega))
  generalize ((71*zs.length:Nat):Int)=Z at *
  gi_wp2
  refine ⟨by simp,.inl ⟨_,_,rfl,run_takeDeferred hK,?_⟩⟩
  exact ⟨_,results_tmp rfl _ _ _,by rw [← Ev.out];rfl,hB.trans (belowK_b (w:=w) (zAD _) W D _ _ (by omega) hK rfl rfl)⟩
 case stop=>
  rintro D c pre W _ _ h _
  exact h.elim
theorem n4 {W:World} {b:Nat} {x n:Int} {fz:Nat × Nat} (h:W.heap[b]? = some (.cells #[.int .u64 x,.int .i64 n] 301 fz)):Ns W b:=⟨x,n,fz,h⟩
theorem XE {W:World} {base:Nat} {e:TypeId} {sz:Nat} {v:Value} {n:Nat} {xs:List Value} (h:W.ownsRow base e sz v n xs) (he:e≠301) {k:Nat} (hk:v.ownBlock=some k):¬Ns W k:=by
 rintro ⟨x,m,fz,hr⟩
 rcases h.2 with ⟨rfl,_⟩ | ⟨g,cap,cur,rfl,_,MX,_⟩
 ·simp [Value.ownBlock] at hk
 ·obtain rfl:g=k:=by simpa [Value.ownBlock] using hk
  rw [MX] at hr
  simp at hr
  exact he hr.2.1
theorem TR {W:World} {p:Nat} {v:Value} {out:List Bool} (h:Ay W p v out):∀k,(k=p∨v.ownBlock=some k)→¬Ns W k:=by
 rintro k (rfl | hk)
 ·rintro ⟨x,n,fz,hr⟩
  obtain ⟨t,ht⟩:=h.AM
  rw [ht] at hr
  simp at hr
 ·exact XE h.own (by decide) hk
def MJ (W:World) (b:Nat) (r:Rn):Prop:=W.heap[b]? = some (.cells #[.int .u64 (r.1.1:Int),.int .i64 (r.1.2:Int)] 301 (0,0))
theorem MJ.AM {W:World} {b:Nat} {r:Rn} (h:MJ W b r):Ao W b [.int .u64 (r.1.1:Int),.int .i64 (r.1.2:Int)]:=⟨_,h⟩
theorem MJ.is {W:World} {b:Nat} {r:Rn} (h:MJ W b r):Ns W b:=n4 h
theorem eZ {β:Type} {B:Nat} (b:Nat) (r:Rn):OwnFrom B (fun (_:β) W=>MJ W b r):=fun _ W W' row h hg hr=>(hg.block b (zAX.1 h).1 (Qh h (fun j e=>(hr j e).2))).trans h
theorem e7 (p:Nat) (v lv:Value) (bits:List Bool) (l:List Nat) (w:World) (hW:Ay w p v bits)
  (hl:Rd w 1 lv l.length (AL l)) (P5:∀t∈l,C4 t) (Dz:l≠[]→∀k,lv.ownBlock=some k→k≠p∧v.ownBlock≠some k) (hz:bits.length+71*l.length≤70368744177000) :
  Calls Tryz.prog 188 #[.pointer (some ⟨p,0,none⟩),lv] w fun e w'=>e = .returned (.int .i64 0)∧Cy p v (bits++PY l) w w':=by
 obtain ⟨q,c,hv⟩:=hl.shape
 subst hv
 have HL:=zAA hl;have Fj:=zAA P5;have HW:=zAA hW;have Nm:=zAA Dz
 have HZ:Hid (bits.length+71*(Be l).length≤70368744177000):=by show _≤_;have:=Gu l;omega
 have HLT:Hid (l≠[]→∀k,(Value.slice q l.length c).ownBlock=some k→k<w.heap.size):=fun h=>hl.lt (fun e=>h (by simpa [AL] using e))
 clear hl P5 hz hW Dz
 refine (zCQ (n:=9)).1 ?_
 refine callsIn_of_wp_marks Tryz.func188 rfl trivial ?_ rfl
 simp only [Tryz.ntmps188,zCC,zAH,zBG,Nat.reduceAdd,Nat.reduceSub,zCL,zCM,zCV,zCO,zBK,zBX]
 gi_wp2_with (refine ⟨trivial,?_⟩;gi_at_call 233;refine (ak q _ c _ _).mono ?_;rintro e w' ⟨rfl,rfl⟩)
 obtain ⟨w1,Cg⟩:∃w1,w.alloc (.cells #[.pointer (some ⟨p,0,none⟩)] 189)=w1:=⟨_,rfl⟩
 have Lg:w1.heap.size=w.heap.size+1:=by rw [← Cg];simp
 have NK:Below w.heap.size w w1:=by rw [← Cg];exact (zAM _ w).alloc (zAD _) _
 have ZP:Ao w1 w.heap.size [.pointer (some ⟨p,0,none⟩)]:=by rw [← Cg];exact Ao.new w _ _
 rw [Cg]
 clear Cg
 obtain ⟨W0,Gr⟩:∃W0,w1.alloc (.cells #[.slice q l.length c] 113)=W0:=⟨_,rfl⟩
 have T4:W0.heap.size=w.heap.size+2:=by rw [← Gr];simp [Lg]
 have MV:Below w.heap.size w W0:=by rw [← Gr];exact NK.alloc (by omega) _
 have uy:Ao W0 w.heap.size [.pointer (some ⟨p,0,none⟩)]:=by rw [← Gr];exact ZP.alloc _
 have GD:W0.cell? ⟨w.heap.size+1,0,none⟩=some (.slice q l.length c):=by
  have:=(Ao.new w1 #[.slice q l.length c] 113).cell 0
  rw [Gr,Lg] at this
  simpa using this
 rw [Gr]
 clear Gr
 have rz:Hid (p<w.heap.size∧∀k,v.ownBlock=some k→k<w.heap.size):=⟨HW.out.AM.lt,Ef HW.out.own⟩
 have qM:=zAA uy;have T8:=zAA MV;have R9:=zAA T4
 have HW0:=zAA (HW.out.below MV)
 have Ug:Hid (∀k,(k=w.heap.size+1∨(l≠[]∧(Value.slice q l.length c).ownBlock=some k))→k≠p∧v.ownBlock≠some k∧k<W0.heap.size):=fun k hk=>by
  have h1:=rz.out.1
  rcases hk with e | ⟨h,e⟩
  ·exact ⟨by omega,fun e2=>by have:=rz.out.2 _ e2;omega,by omega⟩
  ·have:=HLT.out h k e
   exact ⟨(Nm.out h k e).1,(Nm.out h k e).2,by omega⟩
 have No:=zAA (Ts 8 (by omega) (w.heap.size+1) _ l W0 GD (HL.out.below MV) Fj.out)
 clear GD uy ZP NK MV T4 Lg
 obtain ⟨K,hK⟩:∃K:Nat→Prop,(fun k=>k=w.heap.size+1∨(l≠[]∧(Value.slice q l.length c).ownBlock=some k))=K:=⟨_,rfl⟩
 have R7:Hid (∀k,K k→k≠p∧v.ownBlock≠some k∧k<W0.heap.size):=by rw [← hK];exact Ug.out
 rw [hK] at No
 clear hK Ug
 have wk:Hid (¬(w.heap.size=p∨v.ownBlock=some w.heap.size)):=fun e=>by
  have h1:=rz.out
  rcases e with e | e
  ·omega
  ·have:=h1.2 _ e;omega
 have HE:Hid (PY l=(Be l).flatMap CP):=rfl
 generalize Be l=rs at *
 refine wpIn_rangeFunc_ownH rfl (by omega) (gf:=276) (lb:=#[.pointer (some ⟨w.heap.size+1,0,none⟩)]) rfl trivial (enters_of Tryz.func276 (by kernel_rfl) rfl)
  No.out (fun h k=>VF h k) (fun W l o o' h1 h2 h3 h4=>VE (fun k hk=>(R7.out k hk).2.2) W l o o' h1 h2 h3 h4) (zAM _ _) (fun _=>rfl)
  (fun pre W=>mf p v W0 (bits++(D8 pre).flatMap CP) W)
  (fun _ _ _=>False)
  (LU (zAD _) p v (fun pre:List Rn=>bits++(D8 pre).flatMap CP))
  (fun _ _ _ _ _ hs _ _=>hs)
  ⟨v,by simpa [D8] using HW0.out,JE.refl _ _ _⟩
  (fun x a' W=>∃b,a'={ tmps:=#[.pointer (some ⟨p,0,none⟩),.slice q l.length c,.pointer (some ⟨w.heap.size,0,none⟩),undef,.int .i64 0,.pointer (some ⟨b,0,none⟩),.pointer (some ⟨p,0,none⟩),.bool false,.slice q l.length c,.func (.func 276) #[] #[.pointer (some ⟨w.heap.size+1,0,none⟩)],pT x,undef,undef,undef,undef,undef,undef,undef,undef,undef,undef],defers:=[] }∧MJ W b x)
  ?ax ?assign ?body ?done ?stop
 case ax=>
  rintro x a' s W W' row ⟨b,h1,h2⟩ hg hr
  exact ⟨b,h1,eZ (β:=Unit) b x () W W' row h2 hg hr⟩
 case assign=>
  intro l pre x W K hI hK
  obtain ⟨⟨xv,xn⟩,hx⟩:=x
  simp only [pT,zEN,zEC,zED,zEA,zDP,zFA,zAZ,zBL,zBT]
  gi_wp2
  obtain ⟨v',hW',hU'⟩:=hI
  have hB:Below W.heap.size W (W.alloc (.cells #[.int .u64 (xv:Int),.int .i64 (xn:Int)] 301)):=(zAM _ W).alloc (zAD _) _
  refine hK _ _ ((KeepsOthers.alloc W _).from _) (J2 (Ac.alloc (fun _=>False) W _) hU'.Ai.size (fun k hk=>(R7.out k hk).2.2) (fun _ _ e=>e) (fun _ e=>e.elim)) ⟨v',hW'.below hB,hU'.trans ⟨Ac.Ah hB _,AG.refl _ _⟩⟩ ⟨W.heap.size,rfl,World.alloc_heap_new W _⟩
 case body=>
  rintro l pre x a' W hlw xB ⟨v',hW',hU'⟩ ⟨b,rfl,hRB⟩ Bg
  obtain ⟨⟨xv,xn⟩,hx⟩:=x
  obtain ⟨m,rfl⟩:∃m,xn=m+1:=⟨xn-1,by have:=hx.1;simp at this;omega⟩
  have hm:m≤127:=by have:=hx.2.1;simp at this;omega
  have za:xv<18446744073709551616:=hx.2.2
  have hm':(m:Int)≤127:=by omega
  have jq:(0:Int)≤(m:Int):=by omega
  have io:Hid (bits++(D8 (pre++[⟨(xv,m+1),hx⟩])).flatMap CP=(bits++(D8 pre).flatMap CP)++Aa xv 64++Aa m 7):=by
   show _=_
   rw [Nc,zBO,zBN,zEM,zBR,CP];simp
  have hol:(bits++(D8 pre).flatMap CP).length+200≤1125899906842624:=by
   rw [zAB,GK]
   have:(D8 pre).length=pre.length:=by simp [D8]
   have:=HZ.out
   omega
  generalize bits++(D8 pre).flatMap CP=out0 at *
  have HW':=zAA hW';have HU':=zAA hU';have HRB:=zAA hRB
  have hXW:=hU'.Ai.AM qM.out wk.out
  have HXW:=zAA hXW
  have c0:W.cell? ⟨w.heap.size,0,none⟩=some (.pointer (some ⟨p,0,none⟩)):=by rw [hXW.cell];rfl
  have d0:W.cell? ⟨b,0,none⟩=some (.int .u64 (xv:Int)):=by rw [hRB.AM.cell];rfl
  have HWB:=zAA (KA p v' _ xv 64 W hW' (by omega) (by omega))
  have HNr:=zAA (TR hW')
  have HXv:Hid (¬(w.heap.size=p∨v'.ownBlock=some w.heap.size)):=fun e=>by
   rcases e with e | e
   ·exact wk.out (Or.inl e)
   ·rcases hU'.fresh _ e with e2 | e2
    ·exact wk.out (Or.inr e2)
    ·have:=qM.out.lt;omega
  clear hW' hU' hRB hXW
  gi_wp2_with fail
  refine ⟨trivial,(CallsIn.inRound l (zCQ.2 HWB.out)).mono ?_⟩
  rintro e w5 ⟨rfl,v5,hW5,sp⟩
  have hR5:MJ w5 b ⟨(xv,m+1),hx⟩:=(sp.Ai.block b (zAX.1 HRB.out).1 (fun e=>HNr.out b e HRB.out.is)).trans HRB.out
  have hX5:=sp.Ai.AM HXW.out HXv.out
  have c5:w5.cell? ⟨w.heap.size,0,none⟩=some (.pointer (some ⟨p,0,none⟩)):=by rw [hX5.cell];rfl
  have d5:w5.cell? ⟨b,1,none⟩=some (.int .i64 ((m:Int)+1)):=by rw [hR5.AM.cell];rfl
  have l9:=zAA (KA p v5 _ m 7 w5 hW5 (by omega) (by rw [zAB,Ae];omega))
  have HU5:=zAA sp
  clear hW5 sp hR5 hX5 HWB c0 d0
  gi_wp2_with fail
  refine ⟨trivial,(CallsIn.inRound l (zCQ.2 l9.out)).mono ?_⟩
  rintro e w6 ⟨rfl,v6,qS,hU6⟩
  have Ww:Hid (JE W w6 p v' v6):=HU5.out.trans hU6
  have HWf:=zAA qS
  clear qS hU6 l9 HU5
  gi_wp2_with fail
  refine ⟨(QZ HW'.out Ww.out.Ai).from _,J2 Ww.out.Ai HU'.out.Ai.size (fun k hk=>(R7.out k hk).2.2) (fun k hk e=>?_) HNr.out,v6,?_,HU'.out.trans Ww.out⟩
  ·have h1:=R7.out k hk
   rcases e with e | e
   ·exact h1.1 e
   ·rcases HU'.out.fresh k e with e2 | e2
    ·exact h1.2.1 e2
    ·omega
  ·rw [io.out]
   exact HWf.out
 case done=>
  rintro D zs W hD Me hI hK
  have HI:=zAA hI
  have Ev:Hid (PY l=(D8 zs).flatMap CP):=by show _=_;rw [HE.out,Me]
  clear hI No Me
  gi_wp2
  refine ⟨by simp,.inl ⟨_,_,rfl,run_takeDeferred hK,?_⟩⟩
  refine ⟨_,results_tmp rfl _ _ _,rfl,?_⟩
  obtain ⟨v',hW',hU'⟩:=LU (β:=Unit) (zAD W0.heap.size) p v (fun _=>bits++(D8 zs).flatMap CP) () W (W.putObj D (.deferred none)) (some D) HI.out (grownBy_putObj' _ _ _) (fun r e=>by cases e;exact ⟨hD,_,hK,rfl⟩)
  have u1:JE w W0 p v v:=⟨Ac.Ah T8.out _,AG.refl _ _⟩
  rw [Ev.out]
  exact ⟨v',hW',u1.trans hU'⟩
 case stop=>
  rintro D c pre W _ _ h _
  exact h.elim
end Go.Proofs.YtdcgbgecbeegmaaGreatDoor
end
