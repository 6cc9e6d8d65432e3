/- Texts 33. -/
import Derived.Test.YtdcgbgecbeegmaaGreatDoorMgSA
import Derived.Test.YtdcgbgecbeegmaaGreatDoorMgS25
import Derived.Test.YtdcgbgecbeegmaaGreatDoorMgS27
import Derived.Test.YtdcgbgecbeegmaaGreatDoorMgS30
import Derived.Test.YtdcgbgecbeegmaaGreatDoorMgS31
import Derived.Test.YtdcgbgecbeegmaaGreatDoorMgS32
set_option linter.unusedVariables false
set_option linter.unusedSimpArgs false
set_option maxHeartbeats 400000000
set_option maxRecDepth 100000
section
namespace Go.Proofs.YtdcgbgecbeegmaaGreatDoor
open Go Go.RowKit
def Gb (l:List Dt):List (List Dt):=(List.range ((l.length+119) / 120)).map fun k=>(l.drop (120*k)).take 120
def KB (l:List Dt) (k:Nat):List (List Dt):=(List.range k).map fun k=>(l.drop (120*k)).take 120
theorem LZ (l:List Dt):KB l ((l.length+119) / 120)=Gb l:=rfl
theorem TN (l:List Dt) (k:Nat):KB l (k+1)=KB l k++[(l.drop (120*k)).take 120]:=by
 rw [KB,zEU,zCD];rfl
theorem kW (l:List Dt):(Gb l).flatten=l:=by
 have h:∀k,(KB l k).flatten=l.take (120*k):=by
  intro k
  induction k with
  | zero=>simp [KB]
  | succ k ih=>
   rw [TN,zFE,ih,show 120*(k+1)=120*k+120 by omega,List.take_add]
   simp
 rw [← LZ,h,zAF (by omega)]
theorem bA {l:List Dt} {c:List Dt} (h:c∈Gb l):c≠[]∧c.length≤120∧∀s∈c,s∈l:=by
 obtain ⟨k,hk,rfl⟩:=zBU.1 h
 have hk':=zFN.1 hk
 refine ⟨fun e=>?_,by rw [zAR];omega,fun s hs=>zFB (zEE hs)⟩
 have:=congrArg List.length e
 rw [zAR,zCN,zBG] at this
 omega
def N0 (l:List Dt):List Int:=(Gb l).map fun c=>((B0 c).1.length:Int)
def Cx (s:AJ):DT:=(s.1,N0 s.2)
def MM (l:List Dt):List Nat:=(Gb l).flatMap fun c=>(B0 c).1
def Ap (b:List AJ):List Nat:=b.flatMap fun s=>MM s.2
def CJ (b:List AJ):List ByteArray:=Bp (AK b)
def C5 (b:List AJ):List (List Nat):=[(BR (CJ b)).2,(BQ (CJ b) (b.map Cx)).2,Ap b,(Cl (CJ b) (Bk (b.map Prod.fst))).2]
def K6 (b:List AJ):Nat × List Nat:=if A0 b=0 then (0,FJ (C5 b)) else (A0 b,[])
theorem Nf (b:List AJ):(C5 b).length=4:=rfl
theorem Nw {b:List AJ} {i:Nat} {s:AJ} (h:b[i]? = some s):Ap (b.take (i+1))=Ap (b.take i)++MM s.2:=by
 rw [Ap,zAL,h,zBO];simp [Ap]
theorem Vh {α:Type} {lt:α→α→Bool} (tr:∀a b c,lt a b=true→lt b c=true→lt a c=true) {a b:α} {l:List α} (h:lt a b=true) (hl:AN lt (b::l)):AN lt (a::b::l):=by
 obtain ⟨h1,h2⟩:=zAU.1 hl
 refine zAU.2 ⟨fun c hc=>?_,hl⟩
 rcases zAS.1 hc with rfl | hc
 ·exact h
 ·exact tr _ _ _ h (h1 c hc)
theorem FK:∀(l:List AC) (p:Option ByteArray),A5 p l=0→(∀x∈l,B4 x=0)∧AN My l∧∀n,p=some n→∀x,l.head? = some x→CB n x.1=true
 | [],p,_=>⟨fun x hx=>(by cases hx),List.Pairwise.nil,fun n _ x hx=>by cases hx⟩
 | x::l,p,h=>by
  unfold A5 at h
  by_cases ho:B4 x=0
  ·rw [if_neg (zCI ho)] at h
   have key:A5 (some x.1) l=0∧∀n,p=some n→CB n x.1=true:=by
    cases p with
    | none=>exact ⟨h,fun n e=>by cases e⟩
    | some n=>
     simp only at h
     by_cases hx:x.1=n
     ·rw [if_pos hx] at h;cases h
     ·rw [if_neg hx] at h
      cases hl:CB x.1 n with
      | true=>rw [hl,if_pos rfl] at h;cases h
      | false=>
       rw [hl,if_neg (by decide)] at h
       refine ⟨h,fun m e=>?_⟩
       cases e
       cases hn:CB n x.1 with
       | true=>rfl
       | false=>exact absurd (Bz.kQ _ _ hl hn) hx
   obtain ⟨h1,h2,h3⟩:=FK l _ key.1
   refine ⟨fun y hy=>?_,?_,fun n e y hy=>?_⟩
   ·rcases zAS.1 hy with rfl | hy
    ·exact ho
    ·exact h1 y hy
   ·cases l with
    | nil=>exact zAU.2 ⟨fun y hy=>(by cases hy),List.Pairwise.nil⟩
    | cons y l=>exact Vh Qa.tr (h3 x.1 rfl y rfl) h2
   ·cases hy
    exact key.2 n e
  ·rw [if_pos ho] at h;exact absurd h ho
theorem KW {b:List AJ} (h:A0 b=0):Mj b:=by
 have key:∀(l:List AJ) (p:Option (List AC)),Bb p l=0→(∀s∈l,Cr s=0)∧AN P9 l∧∀q,p=some q→∀s,l.head? = some s→Az q s.1 = -1:=by
  intro l
  induction l with
  | nil=>intro p _;exact ⟨fun s hs=>(by cases hs),List.Pairwise.nil,fun q _ s hs=>by cases hs⟩
  | cons s l ih=>
   intro p h
   unfold Bb at h
   by_cases hs:Cr s=0
   ·rw [if_neg (zCI hs)] at h
    have hk:Bb (some s.1) l=0∧∀q,p=some q→Az q s.1 = -1:=by
     cases p with
     | none=>exact ⟨h,fun q e=>by cases e⟩
     | some q=>
      simp only at h
      by_cases h0:Az q s.1=0
      ·rw [if_pos h0] at h;cases h
      ·rw [if_neg h0] at h
       by_cases h1:0<Az q s.1
       ·rw [if_pos h1] at h;cases h
       ·rw [if_neg h1] at h
        refine ⟨h,fun q' e=>?_⟩
        cases e
        have:=BJ.Yo q s.1
        omega
    obtain ⟨k1,k2,k3⟩:=ih _ hk.1
    refine ⟨fun t ht=>?_,?_,fun q e t ht=>by cases ht;exact hk.2 q e⟩
    ·rcases zAS.1 ht with rfl | ht
     ·exact hs
     ·exact k1 t ht
    ·cases l with
     | nil=>exact zAU.2 ⟨fun y hy=>(by cases hy),List.Pairwise.nil⟩
     | cons t l=>exact Vh J4.tr (by simpa [P9] using k3 s.1 rfl t rfl) k2
   ·rw [if_pos hs] at h;exact absurd h hs
 obtain ⟨h1,h2,_⟩:=key b none h
 have one:∀s∈b,BZ s.1=0∧s.2≠[]∧Bj s.2=0:=fun s hs=>by
  have h:=h1 s hs
  unfold Cr at h
  by_cases hc:BZ s.1=0
  ·rw [if_neg (zCI hc)] at h
   by_cases h0:s.2=[]
   ·rw [if_pos h0] at h;cases h
   ·rw [if_neg h0] at h;exact ⟨hc,h0,h⟩
  ·rw [if_pos hc] at h;exact absurd h hc
 exact ⟨fun s hs=>⟨(FK _ _ (one s hs).1).2.1,(FK _ _ (one s hs).1).1⟩,fun s hs=>(one s hs).2.1,fun s hs=>(GV _).1 (one s hs).2.2,h2⟩
theorem Wj {b:List AJ} (h:Mj b):Rf (CJ b):=kK fun z hz=>by
 obtain ⟨s,hs,hz⟩:=zBZ.1 hz
 obtain ⟨x,hx,hz⟩:=zBZ.1 hz
 have ho:=(h.NV s hs).2 x hx
 unfold B4 at ho
 split at ho
 ·cases ho
 ·split at ho
  ·cases ho
  ·simp only [zAS,zCX,zGU] at hz
   rcases hz with rfl | rfl<;>omega
theorem tP {b:List AJ} {s:AJ} (hs:s∈b):∀x∈s.1,CV (CJ b) x:=fun x hx=>
 ⟨(LA _ _).2 (zBZ.2 ⟨s,hs,zBZ.2 ⟨x,hx,by simp⟩⟩),(LA _ _).2 (zBZ.2 ⟨s,hs,zBZ.2 ⟨x,hx,by simp⟩⟩)⟩
theorem Zn {b:List AJ} (h:Mj b):BR (CJ b)=(0,Ks (CJ b)):=by
 rw [BR,if_neg (zCI (Wj h)),if_neg (zCI (show AN CB (CJ b) from Lz _))]
theorem Zk (b:List AJ):Cl (CJ b) (Bk (b.map Prod.fst))=(0,Bt (CJ b) (Bk (b.map Prod.fst))):=by
 have e:CJ b=Bp ((b.map Prod.fst).flatMap An):=by rw [CJ,AK,zGL]
 rw [Cl,e,if_pos (Mw _)]
theorem dh {c:List Dt} (h0:c≠[]) (h1:c.length≤120):(B0 c).2=0∧2≤(B0 c).1.length:=by
 rw [B0,if_neg h0,if_neg (by omega)]
 exact ⟨rfl,by simp⟩
theorem ic {l:List Dt} (h:l≠[]):Gb l≠[]:=fun e=>h (by rw [← kW l,e];rfl)
theorem ph {l:List Dt} (Bg:∀c∈Gb l,(B0 c).1.length≤2147483647):∀n∈N0 l,DQ n:=fun n hn=>by
 obtain ⟨c,hc,rfl⟩:=zBU.1 hn
 obtain ⟨a0,a1,_⟩:=bA hc
 have h2:=(dh a0 a1).2
 have h3:=Bg c hc
 exact ⟨by omega,by omega⟩
theorem Tl {b:List AJ} (h:Mj b) (Bg:∀c:List Dt,(B0 c).1.length≤2147483647):Bu (CJ b) (b.map Cx)=0:=by
 rw [Pb]
 intro r hr
 obtain ⟨s,hs,rfl⟩:=zBU.1 hr
 refine GT.2 ⟨tP hs,?_,ph fun c _=>Bg c⟩
 show N0 s.2≠[]
 intro e
 exact ic (h.ne s hs) (List.map_eq_nil_iff.1 e)
theorem Zm {b:List AJ} (h:Mj b) (Bg:∀c:List Dt,(B0 c).1.length≤2147483647):BQ (CJ b) (b.map Cx)=(0,Gp (CJ b) (b.map Cx)):=by
 rw [BQ,if_pos (Tl h Bg)]
theorem Tu {b:List AJ} (h:Mj b) (Bg:∀c:List Dt,(B0 c).1.length≤2147483647) :
  C5 b=[Ks (CJ b),Gp (CJ b) (b.map Cx),Ap b,Bt (CJ b) (Bk (b.map Prod.fst))]:=by
 rw [C5,Zn h,Zm h Bg,Zk]
structure SzE (b:List AJ):Prop where
 AM:Mj b
 yc:(CJ b).length<18446744073709551616
 lens:XL (b.map Cx)
 ko:∀s∈b,∀x∈s.2,EK x
theorem PW (l:List Dt):∀x∈(B0 l).1,x<256:=by
 rw [B0]
 split
 ·intro x hx;cases hx
 ·split
  ·intro x hx;cases hx
  ·next h=>
   intro x hx
   rcases zAS.1 hx with e | hx
   ·rcases MQ (AQ l) with h | h | h<;>omega
   ·rcases zAS.1 hx with e | hx
    ·omega
    ·exact XF _ x hx
theorem Gn (l:List Dt):(B0 l).1.length≤100000:=by
 rw [B0]
 split
 ·simp
 ·split
  ·simp
  ·next h=>
   have h1:=LK (Bl (AQ l)) (AQ l)
   have h2:=NB (BN l)
   have e1:(BN l).length=l.length:=by simp [BN]
   have e2:(AQ l).length=l.length:=by simp [AQ]
   rw [zAH,zAH,A9,zAB]
   omega
theorem JX (l:List Dt):(B0 l).1.length≤2147483647:=by have:=Gn l;omega
theorem cT (b:List AJ):∀c∈Ap b,c<256:=fun c hc=>by
 obtain ⟨s,_,hc⟩:=zBZ.1 hc
 obtain ⟨w,_,hc⟩:=zBZ.1 hc
 exact PW w c hc
theorem nS {b:List AJ} (hn:(Bk (b.map Prod.fst)).length<18446744073709551616) (hm:∀e∈Bk (b.map Prod.fst),e.2.length<18446744073709551616):S4 (CJ b) (b.length:Int) (Bk (b.map Prod.fst)):=by
 have e:CJ b=Bp ((b.map Prod.fst).flatMap An):=by rw [CJ,AK,zGL]
 refine ee.2 ⟨?_,by rw [e];exact Mw _,hn,hm⟩
 rw [LL]
 have h:=xP (b.map Prod.fst)
 rwa [zAT] at h
theorem kr {b:List AJ} (h:SzE b) (hb:b.length<9223372036854775808) (hn:(Bk (b.map Prod.fst)).length<18446744073709551616) (hm:∀e∈Bk (b.map Prod.fst),e.2.length<18446744073709551616):∀d∈C5 b,∀c∈d,c<256:=by
 rw [Tu h.AM JX]
 intro d hd
 simp only [zAS,zCX,zGU] at hd
 rcases hd with rfl | rfl | rfl | rfl
 ·exact mG _
 ·exact mF (Lz _) h.yc (Tl h.AM JX) h.lens
 ·exact cT b
 ·exact mD (Lz _) h.yc (by omega) (nS hn hm)
section
def VY (v:Value):List Value:=[.slice none 0 0,.slice none 0 0,v,.slice none 0 0]
structure fU (w:World) (Z q:Nat) (w1 W:World) (hs:List Hd) (acc:List DT) (lv sv:Value) (out:List Nat):Prop where
 md:Ac (fun k=>k=q) w1 W
 qb:Ao W q (VY sv)
 own:W.ownsRow Z 5 1 sv out.length (B9 out)
 nr:mb 61 w W hs acc lv
 lz:∀k,lv.ownBlock=some k→Z≤k∧sv.ownBlock≠some k
 off:∀(i:Nat) (h:Hd) (s:DT),hs[i]? = some h→acc[i]? = some s→KV (fun k=>sv.ownBlock=some k∨k=q) h s
 qz:q<Z
 zs:Z=w1.heap.size
structure Ym (wi:World) (Z q g:Nat) (labv sv0:Value) (W:World) (cv sv:Value) (lens:List Int) (out:List Nat):Prop where
 md:Ac (fun k=>k=q∨k=g∨sv0.ownBlock=some k) wi W
 xb:Ao W g [labv,cv]
 Rs:W.ownsRow wi.heap.size 3 1 cv lens.length (A1 lens)
 qb:Ao W q (VY sv)
 own:W.ownsRow Z 5 1 sv out.length (B9 out)
 fr:AG wi.heap.size sv0 sv
 fZ:∀k,cv.ownBlock=some k→sv.ownBlock≠some k
 gw:g<wi.heap.size
 qz:q<Z
 zg:Z≤g
 sg:sv.ownBlock≠some g
variable {w wi w1 W W':World} {Z q g:Nat} {hs:List Hd} {acc:List DT} {lv sv sv0 labv cv:Value} {out:List Nat} {lens:List Int}
theorem Ym.below (h:Ym wi Z q g labv sv0 W cv sv lens out) (hb:Below W.heap.size W W'):Ym wi Z q g labv sv0 W' cv sv lens out:=by
 have hm:=Ac.Ah hb (fun _=>False)
 exact ⟨h.md.trans hm (fun _ _ e=>e.elim),hm.AM h.xb (fun e=>e),hm.owns h.Rs (fun _ _ e=>e),hm.AM h.qb (fun e=>e),hm.owns h.own (fun _ _ e=>e),h.fr,h.fZ,h.gw,h.qz,h.zg,h.sg⟩
theorem Ym.push (h:Ym wi Z q g labv sv0 W cv sv lens out) {cv':Value} {x:Int} {W1:World} (k1:W1.ownsRow 0 3 1 cv' (lens.length+1) (A1 lens++[.int .i64 x])) (k2:Ac (fun k=>cv.ownBlock=some k) W W1) (k3:AG W.heap.size cv cv') :
  Ym wi Z q g labv sv0 (W1.setCell ⟨g,1,none⟩ cv') cv' sv (lens++[x]) out∧Ac (fun k=>k=g∨cv.ownBlock=some k) W (W1.setCell ⟨g,1,none⟩ cv'):=by
 have hs:Ac (fun k=>k=g) W1 (W1.setCell ⟨g,1,none⟩ cv'):=Ac.set _ _ _ _ (fun _=>rfl)
 have hM:Ac (fun k=>k=g∨cv.ownBlock=some k) W (W1.setCell ⟨g,1,none⟩ cv'):=(k2.mono (fun _ _ e=>Or.inr e)).trans hs (fun _ _ e=>Or.inl e)
 have FH:∀k,cv.ownBlock=some k→wi.heap.size≤k∧k<W.heap.size:=fun k hk=>h.Rs.lt k hk
 have hcl':∀k,cv'.ownBlock=some k→wi.heap.size≤k:=fun k hk=>by
  rcases k3 k hk with e | e
  ·exact (FH k e).1
  ·have:=h.md.size;omega
 have hgq:q≠g:=by have:=h.qz;have:=h.zg;omega
 have hgl:=h.gw
 refine ⟨⟨h.md.trans hM (fun j hj e=>?_),?_,?_,?_,?_,h.fr,fun k hk e=>?_,h.gw,h.qz,h.zg,h.sg⟩,hM⟩
 ·rcases e with e | e
  ·exact Or.inr (Or.inl e)
  ·have:=(FH j e).1;omega
 ·have b1:=k2.AM h.xb (fun e=>by have:=(FH g e).1;omega)
  simpa using b1.set 1 cv'
 ·rw [zAB,Lh]
  exact Af (hs.owns k1 (fun k hk e=>by have:=hcl' k hk;omega)) hcl'
 ·exact hM.AM h.qb (fun e=>by
   rcases e with e | e
   ·exact hgq e
   ·have h1:=(FH q e).1;have:=h.qz;have:=h.zg;omega)
 ·exact hM.owns h.own (fun k hk e=>by
   rcases e with e | e
   ·rw [e] at hk;exact h.sg hk
   ·exact h.fZ k e hk)
 ·rcases k3 k hk with f | f
  ·exact h.fZ k f e
  ·have:=(h.own.lt k e).2;omega
theorem Ym.extend (h:Ym wi Z q g labv sv0 W cv sv lens out) {sv':Value} {l:List Nat} {W1:World} (k1:W1.ownsRow 0 5 1 sv' (out.length+l.length) (B9 out++B9 l)) (k2:Ac (fun k=>sv.ownBlock=some k) W W1) (k3:AG W.heap.size sv sv') :
  Ym wi Z q g labv sv0 (W1.setCell ⟨q,2,none⟩ sv') cv sv' lens (out++l):=by
 have hs:Ac (fun k=>k=q) W1 (W1.setCell ⟨q,2,none⟩ sv'):=Ac.set _ _ _ _ (fun _=>rfl)
 have hM:Ac (fun k=>k=q∨sv.ownBlock=some k) W (W1.setCell ⟨q,2,none⟩ sv'):=(k2.mono (fun _ _ e=>Or.inr e)).trans hs (fun _ _ e=>Or.inl e)
 have Ed:=h.md.size
 have qY:∀k,sv.ownBlock=some k→Z≤k∧k<W.heap.size:=fun k hk=>h.own.lt k hk
 have hWZ:Z≤W.heap.size:=by have:=h.gw;have:=h.zg;omega
 have hsl':∀k,sv'.ownBlock=some k→Z≤k:=fun k hk=>by
  rcases k3 k hk with e | e
  ·exact (qY k e).1
  ·omega
 have DK:AG wi.heap.size sv0 sv':=h.fr.trans k3 Ed
 have hgq:q≠g:=by have:=h.qz;have:=h.zg;omega
 refine ⟨h.md.trans hM (fun j hj e=>?_),?_,?_,?_,?_,DK,fun k hk e=>?_,h.gw,h.qz,h.zg,fun e=>?_⟩
 ·rcases e with e | e
  ·exact Or.inl e
  ·rcases h.fr j e with f | f
   ·exact Or.inr (Or.inr f)
   ·omega
 ·exact hM.AM h.xb (fun e=>by
   rcases e with e | e
   ·exact hgq e.symm
   ·exact h.sg e)
 ·exact hM.owns h.Rs (fun k hk e=>by
   rcases e with e | e
   ·have:=(h.Rs.lt k hk).1;have:=h.qz;have:=h.zg;have:=h.gw;omega
   ·exact h.fZ k hk e)
 ·have b1:=k2.AM h.qb (fun e=>by have:=(qY q e).1;have:=h.qz;omega)
  simpa [VY] using b1.set 2 sv'
 ·rw [zAB,Cb]
  exact Af (hs.owns k1 (fun k hk e=>by have:=hsl' k hk;have:=h.qz;omega)) hsl'
 ·rcases k3 k e with f | f
  ·exact h.fZ k hk f
  ·have:=(h.Rs.lt k hk).2;omega
 ·rcases k3 g e with f | f
  ·exact h.sg f
  ·have:=h.gw;omega
theorem fU.start (h:fU w Z q w1 W hs acc lv sv out):Ym (W.alloc (.cells #[labv,.slice none 0 0] 61)) Z q W.heap.size labv sv (W.alloc (.cells #[labv,.slice none 0 0] 61)) (.slice none 0 0) sv [] out:=by
 have hW:=h.md.size
 refine ⟨Ac.refl _ _,Ao.new W _ _,zBI _ _ _ _,h.qb.alloc _,h.own.alloc _,AG.refl _ _,fun k hk=>by simp [Value.ownBlock] at hk,by simp,h.qz,by have:=h.zs;omega,fun e=>?_⟩
 have:=(h.own.lt _ e).2
 omega
theorem fU.uU (h:fU w Z q w1 W hs acc lv sv0 out) {out':List Nat} {W2:World} (k:Ym (W.alloc (.cells #[labv,.slice none 0 0] 61)) Z q W.heap.size labv sv0 W2 cv sv lens out'):Ac (fun j=>j=q∨sv0.ownBlock=some j) W W2:=by
 have ha:Ac (fun _=>False) W (W.alloc (.cells #[labv,.slice none 0 0] 61)):=Ac.alloc _ _ _
 exact (ha.mono (fun _ _ e=>e.elim)).trans k.md (fun j hj e=>by
  rcases e with e | e | e
  ·exact Or.inl e
  ·omega
  ·exact Or.inr e)
theorem fU.nr2 (h:fU w Z q w1 W hs acc lv sv0 out) {out':List Nat} {W2:World} (hw:w.heap.size≤q) (k:Ym (W.alloc (.cells #[labv,.slice none 0 0] 61)) Z q W.heap.size labv sv0 W2 cv sv lens out'):mb 61 w W2 hs acc lv:=by
 have hM:=h.uU k
 have hvs:∀j,lv.ownBlock=some j→¬(j=q∨sv0.ownBlock=some j):=fun j hj e=>by
  have h1:=h.lz j hj
  rcases e with e | e
  ·have:=h.qz;omega
  ·exact h1.2 e
 refine ⟨⟨hM.owns h.nr.row.row (fun j hj e=>hvs j hj e),h.nr.row.AA.trans (hM.below h.nr.row.AA.size (fun j hj e=>?_))⟩,h.nr.len,fun i x s hi hj=>⟨(h.nr.KO i x s hi hj).1.mods hM ?_,(h.nr.KO i x s hi hj).2⟩⟩
 ·rcases e with e | e
  ·omega
  ·have:=(h.own.lt j e).1;have:=h.qz;omega
 ·have ho:=h.off i x s hi hj
  exact ⟨fun e j hj f=>ho.1 e j hj f.symm,fun e j hj f=>ho.2 e j hj f.symm⟩
theorem fU.next (h:fU w Z q w1 W hs acc lv sv0 out) {out':List Nat} {l:List AC} {W2 W3:World} {lv':Value} (hw:w.heap.size≤q) (k:Ym (W.alloc (.cells #[labv,.slice none 0 0] 61)) Z q W.heap.size labv sv0 W2 cv sv lens out')
  (hl:Rd W 2 labv l.length (Am l)) (dC:l≠[]→∀j,labv.ownBlock=some j→j<w.heap.size)
  (k1:W3.ownsRow 0 61 2 lv' (hs.length+1) (two Prod.fst Prod.snd hs++[labv,cv])) (m:Ac (fun j=>lv.ownBlock=some j) W2 W3) (hf:AG W2.heap.size lv lv') :
  fU w Z q w1 W3 (hs++[(labv,cv)]) (acc++[(l,lens)]) lv' sv out':=by
 have hW:=h.md.size
 have hza:(W.alloc (.cells #[labv,.slice none 0 0] 61)).heap.size=W.heap.size+1:=by simp
 have hM:=h.uU k
 have KN:=hM.size
 have y4:∀j,lv.ownBlock=some j→j<W.heap.size:=fun j hj=>(h.nr.row.row.lt j hj).2
 have hnr2:=h.nr2 hw k
 have jo:l≠[]→∀j,labv.ownBlock=some j→j<w.heap.size:=dC
 have hwz:w.heap.size≤Z:=by have:=h.qz;omega
 have gn:∀j,cv.ownBlock=some j→W.heap.size+1≤j:=fun j hj=>by
  have h1:=(k.Rs.lt j hj).1
  have h2:(W.alloc (.cells #[labv,.slice none 0 0] 61)).heap.size=W.heap.size+1:=(by simp)
  omega
 have hre:FV W2 (labv,cv) (l,lens):=⟨hl.FZ hM (fun e j hj f=>by
   have h1:=jo (CO e) j hj
   rcases f with f | f
   ·omega
   ·have:=(h.own.lt j f).1;omega),Rd.Ad k.Rs⟩
 have hro:KV (fun j=>lv.ownBlock=some j) (labv,cv) (l,lens):=⟨fun e j hj f=>by have h1:=jo e j hj;have:=(h.lz j f).1;omega,fun e j hj f=>by have:=gn j hj;have:=y4 j f;omega⟩
 have hnr:=hnr2.B5 (h:=(labv,cv)) (s:=(l,lens)) hre hro k1 m hf
 have hsvl:∀j,sv.ownBlock=some j→lv.ownBlock≠some j:=fun j hj e=>by
  rcases k.fr j hj with f | f
  ·exact (h.lz j e).2 f
  ·have:=y4 j e;omega
 have Me:=h.zs
 refine ⟨(h.md.trans hM (fun j hj e=>?_)).trans m (fun j hj e=>?_),m.AM k.qb (fun e=>?_),m.owns k.own (fun j hj e=>hsvl j hj e),hnr,fun j hj=>?_,fun i x s hi hj=>?_,h.qz,h.zs⟩
 ·rcases e with e | e
  ·exact e
  ·have:=(h.own.lt j e).1;omega
 ·have:=(h.lz j e).1;omega
 ·have:=(h.lz q e).1;have:=h.qz;omega
 ·rcases hf j hj with e | e
  ·exact ⟨(h.lz j e).1,fun f=>hsvl j f e⟩
  ·exact ⟨by omega,fun f=>by have:=(k.own.lt j f).2;omega⟩
 ·have old:∀(i:Nat) (x:Hd) (s:DT),hs[i]? = some x→acc[i]? = some s→KV (fun k=>sv.ownBlock=some k∨k=q) x s:=fun i x s hi hj=>by
   have ho:=h.off i x s hi hj
   have Aq:=(h.nr.KO i x s hi hj).1.lt
   refine ⟨fun e j hj f=>?_,fun e j hj f=>?_⟩
   ·rcases f with f | f
    ·rcases k.fr j f with g | g
     ·exact ho.1 e j hj (Or.inl g)
     ·have:=Aq.1 e j hj;omega
    ·exact ho.1 e j hj (Or.inr f)
   ·rcases f with f | f
    ·rcases k.fr j f with g | g
     ·exact ho.2 e j hj (Or.inl g)
     ·have:=Aq.2 e j hj;omega
    ·exact ho.2 e j hj (Or.inr f)
  rcases Dk hi with e | ⟨e,rfl⟩
  ·rcases Dk hj with f | ⟨f,_⟩
   ·exact old i x s e f
   ·have:=(zAE.1 e).1;have:=h.nr.len;omega
  ·rcases Dk hj with f | ⟨_,rfl⟩
   ·have:=(zAE.1 f).1;have:=h.nr.len;omega
   ·refine ⟨fun e j hj f=>?_,fun e j hj f=>?_⟩
    ·have h1:=jo e j hj
     rcases f with f | f
     ·have:=(k.own.lt j f).1;omega
     ·omega
    ·rcases f with f | f
     ·exact k.fZ j hj f
     ·have:=gn j hj;have:=h.qz;omega
theorem Ym.AA (h:Ym wi Z q g labv sv0 W cv sv lens out) (hb:Below w.heap.size w wi) (hq:w.heap.size≤q) (h0:∀k,sv0.ownBlock=some k→Z≤k):Below w.heap.size w W:=
 hb.trans (h.md.below hb.size (fun k hk e=>by
  rcases e with e | e | e
  ·omega
  ·have:=h.zg;have:=h.qz;omega
  ·have:=h0 k e;have:=h.qz;omega))
end
theorem MT {α:Type} (f:α→List Nat) (g:α→Nat) (l:List α) (h:∀x∈l,(f x).length≤g x):(l.flatMap f).length≤(l.map g).sum:=by
 induction l with
 | nil=>simp
 | cons x l ih=>
  rw [zBN,zAB,zBC,zEX]
  have:=h x (by simp)
  have:=ih (fun y hy=>h y (by simp [hy]))
  omega
theorem Gg {α:Type} (f g:α→Nat) (l:List α):(l.map fun x=>f x+g x).sum=(l.map f).sum+(l.map g).sum:=by
 induction l with
 | nil=>rfl
 | cons x l ih=>rw [zBC,zBC,zBC,zEX,zEX,zEX,ih];omega
theorem LY {α:Type} (c:Nat) (f:α→Nat) (l:List α):(l.map fun x=>c*f x).sum=c*(l.map f).sum:=by
 induction l with
 | nil=>rfl
 | cons x l ih=>rw [zBC,zBC,zEX,zEX,ih,Nat.mul_add]
theorem FF {α:Type} (c:Nat) (l:List α):(l.map fun _=>c).sum=c*l.length:=by
 induction l with
 | nil=>rfl
 | cons x l ih=>rw [zBC,zEX,zAH,ih,Nat.mul_add];omega
theorem dM (b:List AJ):(b.map fun s=>s.1.length).sum=(b.map Prod.fst).flatten.length:=by
 induction b with
 | nil=>rfl
 | cons s b ih=>rw [zBC,zEX,zBC,zFZ,zAB,ih]
theorem aA (l:List (List AC)) (k:Nat) (x:AC):(BX l k x).length≤k:=by
 unfold BX
 rw [zAT]
 refine zAW (zFT _ _) ?_
 rw [zEI]
 exact zAD _
theorem d9 {α:Type} [DecidableEq α] (s:List α):∀(l:List α) (p:α→Bool),l.Nodup→(∀x,p x=true→x∈s)→(l.filter p).length≤s.length:=by
 induction s with
 | nil=>
  intro l p _ hp
  rw [List.filter_eq_nil_iff.2 (fun x _ hx=>by cases hp x hx)]
  simp
 | cons y s ih=>
  intro l p hl hp
  have h1:=ih l (fun x=>p x && !(decide (x=y))) hl (fun x hx=>by
   simp only [zBY,Bool.not_eq_true',zDF] at hx
   rcases zAS.1 (hp x hx.1) with e | e
   ·exact absurd e hx.2
   ·exact e)
  rw [zAH]
  have h2:(l.filter p).length≤(l.filter fun x=>p x && !(decide (x=y))).length+1:=by
   clear h1 ih hp
   induction l with
   | nil=>simp
   | cons x l ih=>
    obtain ⟨hx,hl'⟩:=List.nodup_cons.1 hl
    by_cases e:x=y
    ·subst e
     have hs:(l.filter p)=(l.filter fun z=>p z && !(decide (z=x))):=List.filter_congr (fun z hz=>by
      have hzx:¬z=x:=fun e=>hx (e ▸ hz)
      rw [zAV hzx];simp)
     have h3:((x::l).filter fun z=>p z && !(decide (z=x)))=(l.filter fun z=>p z && !(decide (z=x))):=by rw [zGK];simp
     rw [h3,← hs]
     rw [zGK]
     split<;>simp
    ·have:=ih hl'
     rw [zGK,zGK]
     by_cases f:p x=true
     ·rw [if_pos f,if_pos (by rw [f,zAV e];rfl),zAH,zAH];omega
     ·rw [if_neg f,if_neg (by simp [f])];omega
  omega
theorem YV {l:List AC} (h:AN FO l):l.Nodup:=zFX (fun {a b} h e=>by
 subst e
 rw [CA.SP a] at h
 cases h) h
theorem jB (m:List (List AC)) (k:Nat) (hk:k≤m.length) (T:List AC) (hT:T.Nodup):(T.map fun x=>(BX m k x).length).sum≤(A4 m k).length:=by
 induction k with
 | zero=>
  have e:(T.map fun x=>(BX m 0 x).length)=T.map fun _=>0:=zCR (fun x _=>rfl)
  rw [e,FF];simp
 | succ k ih=>
  have h1:=ih (by omega)
  have e:(T.map fun x=>(BX m (k+1) x).length)=T.map fun x=>(BX m k x).length+(if x∈m.getD k [] then 1 else 0):=zCR (fun x _=>by
   rw [M9,zAB]
   split<;>rfl)
  have e2:(T.map fun x=>if x∈m.getD k [] then 1 else 0).sum=(T.filter fun x=>decide (x∈m.getD k [])).length:=by
   clear hT ih h1 e
   induction T with
   | nil=>rfl
   | cons x T ih=>
    rw [zBC,zEX,ih,zGK]
    by_cases hx:x∈m.getD k []
    ·simp only [hx,zHC,decide_true,zAH];omega
    ·simp only [hx,zFK,decide_false,zDC];omega
  have h2:=d9 (m.getD k []) T (fun x=>decide (x∈m.getD k [])) hT (fun x hx=>by simpa using hx)
  rw [e,Gg,e2,GL (by omega),zAB]
  omega
theorem gG {b:List AJ} (h:KS b):(Bk (b.map Prod.fst)).length≤60000∧(∀e∈Bk (b.map Prod.fst),AN ET e.2∧e.2.length≤20000∧∀x∈e.2,0≤x∧x<20000)∧((Bk (b.map Prod.fst)).map fun e=>e.2.length).sum≤60000:=by
 have h1:(b.map Prod.fst).length≤20000:=by rw [zAT];exact h.len
 have h2:=h.flat
 have e2:A4 (b.map Prod.fst) (b.map Prod.fst).length=(b.map Prod.fst).flatten:=by unfold A4;rw [zCT]
 have hn:=YV (Gw CA (A4 (b.map Prod.fst) (b.map Prod.fst).length))
 have hs:=jB (b.map Prod.fst) (b.map Prod.fst).length (zAD _) _ hn
 rw [e2] at hs
 rw [LL]
 refine ⟨?_,fun e he=>?_,?_⟩
 ·have e1:(SN (b.map Prod.fst)).length=(Kh FO (A4 (b.map Prod.fst) (b.map Prod.fst).length)).length:=by unfold SN Mu;rw [zAT]
  rw [e1]
  refine zAW (TG _) ?_
  rw [e2]
  exact h2
 ·obtain ⟨_,h3⟩:=Xp he
  rw [h3]
  refine ⟨VV _ _ _,zAW (aA _ _ _) h1,fun x hx=>?_⟩
  have:=N8 _ _ _ x hx
  omega
 ·have e3:((SN (b.map Prod.fst)).map fun e=>e.2.length)=(Kh FO (b.map Prod.fst).flatten).map fun x=>(BX (b.map Prod.fst) (b.map Prod.fst).length x).length:=by
   unfold SN Mu
   rw [e2,zEK]
   rfl
  rw [e3]
  omega
theorem XV {b:List AJ} (h:KS b):(b.map Prod.fst).length≤20000∧(b.map Prod.fst).flatten.length≤60000:=⟨by rw [zAT];exact h.len,h.flat⟩
theorem MC {b:List AJ} (h:KS b):(CJ b).length≤120000:=by
 have h1:=JA h b.length
 rw [zCT] at h1
 have h3:(CJ b).length≤(AK b).length:=TG _
 omega
theorem Z1 (l:List Dt) (k:Nat):(KB l k).length=k:=by rw [KB,zAT,zEI]
theorem QU (l:List Dt):(N0 l).length=(l.length+119) / 120:=by rw [N0,zAT,Gb,zAT,zEI]
theorem dQ {l:List Dt} {n:Int} (h:n∈N0 l):0≤n∧n≤100000:=by
 obtain ⟨c,_,rfl⟩:=zBU.1 h
 have:=Gn c
 omega
theorem Vk (l:List Dt) (k:Nat):((KB l k).flatMap fun c=>(B0 c).1).length≤k*100000:=by
 have h:=NG (fun c=>(B0 c).1) 100000 (KB l k) (fun c _=>Gn c)
 rw [Z1] at h
 exact h
theorem Y4 {b:List AJ} (h:KS b) (i:Nat):(Ap (b.take i)).length≤102000000000:=by
 have h1:=MT (fun s:AJ=>MM s.2) (fun s=>100000*(1+s.2.length)) (b.take i) (fun s hs=>by
  have h3:=Vk s.2 ((s.2.length+119) / 120)
  rw [LZ] at h3
  show (MM s.2).length≤_
  unfold MM
  omega)
 have h4:((b.take i).map fun s:AJ=>100000*(1+s.2.length)).sum≤100000*(20000+1000000):=by
  rw [LY,Gg,FF]
  have h5:=CY b i
  have h6:((b.take i).map fun s:AJ=>s.2.length).sum=Aw (b.take i):=rfl
  have h7:=h.ko
  have h8:=h.len
  have h9:(b.take i).length≤b.length:=by rw [zAR];omega
  rw [h6]
  omega
 show (List.flatMap _ _).length≤_
 omega
theorem QA {b:List AJ} (h:KS b):(Ap b).length≤102000000000:=by have:=Y4 h b.length;rwa [zCT] at this
theorem Ti {b:List AJ} (h:KS b):(b.map Cx).length≤20000∧∀r∈b.map Cx,r.1.length≤60000∧r.2.length≤8335∧∀n∈r.2,0≤n∧n≤100000:=by
 refine ⟨by rw [zAT];exact h.len,fun r hr=>?_⟩
 obtain ⟨s,hs,rfl⟩:=zBU.1 hr
 refine ⟨h.NV s hs,?_,fun n hn=>dQ hn⟩
 show (N0 s.2).length≤8335
 rw [QU]
 have:=h.mem hs
 omega
theorem Xo (t:List ByteArray) (s:ByteArray):Df t s≤t.length:=mM t s
theorem WR {b:List AJ} (h:KS b):(Gp (CJ b) (b.map Cx)).length≤100000000:=by
 obtain ⟨h1,h2⟩:=Ti h
 have ht:=MC h
 have h3:((b.map Cx).flatMap (D6 (CJ b))).length≤(b.map fun s=>(20+20*s.1.length)+10*(1+s.2.length)).sum:=by
  have h4:=MT (fun s:AJ=>D6 (CJ b) (Cx s)) (fun s=>(20+20*s.1.length)+10*(1+s.2.length)) b (fun s hs=>by
   obtain ⟨a1,a2,a3⟩:=h2 (Cx s) (zBU.2 ⟨s,hs,rfl⟩)
   have b1:=AE (x:=(Cx s).1.length) (by omega)
   have b2:=AE (x:=(Cx s).2.length) (by omega)
   have c1:=NG (ED (CJ b)) 20 (Cx s).1 (fun x _=>by
    rw [ED,zAB]
    have:=AE (x:=Df (CJ b) x.1) (by have:=Xo (CJ b) x.1;omega)
    have:=AE (x:=Df (CJ b) x.2) (by have:=Xo (CJ b) x.2;omega)
    omega)
   have c2:=NG (fun n:Int=>Ab n.toNat) 10 (Cx s).2 (fun n hn=>AE (by have:=a3 n hn;omega))
   have c3:(Cx s).2.length=(s.2.length+119) / 120:=QU s.2
   have c4:(Cx s).1.length=s.1.length:=rfl
   rw [D6,P7,P8,zAB,zAB,zAB]
   omega)
  rw [zGL]
  exact h4
 rw [Gg,Gg,FF,LY,LY,Gg,FF,dM] at h3
 have h5:(b.map fun s:AJ=>s.2.length).sum=Aw b:=rfl
 rw [h5] at h3
 have h6:=h.len;have h7:=h.flat;have h8:=h.ko
 have h0:=AE (x:=(b.map Cx).length) (by omega)
 rw [Gp,zAB]
 omega
theorem dn {b:List AJ} (h:KS b):(Bt (CJ b) (Bk (b.map Prod.fst))).length≤100000000:=by
 obtain ⟨h1,h2,h4⟩:=gG h
 have ht:=MC h
 have h3:=MT (Dw (CJ b)) (fun e:zFSA=>30+10*e.2.length) (Bk (b.map Prod.fst)) (fun e he=>by
  obtain ⟨a1,a2,a3⟩:=h2 e he
  have c1:=tH e.2 (fun x hx=>by have:=a3 x hx;omega) none (by simp)
  have g1:=AE (x:=Df (CJ b) e.1.1) (by have:=Xo (CJ b) e.1.1;omega)
  have g2:=AE (x:=Df (CJ b) e.1.2) (by have:=Xo (CJ b) e.1.2;omega)
  have g3:=AE (x:=e.2.length) (by omega)
  rw [Dw,Ph,ED]
  simp only [zAB]
  omega)
 rw [Gg,FF,LY] at h3
 have h0:=AE (x:=(Bk (b.map Prod.fst)).length) (by omega)
 rw [Bt,zAB]
 omega
theorem sa {b:List AJ} (h:KS b) (hb:Mj b):(Ks (CJ b)).length≤10000000000:=by
 have ht:=MC h
 have hf:=Wj hb
 have h3:=NG (fun s=>bytesOf (A8 s)) 70000 (CJ b) (fun s hs=>by
  have h4:=hf s hs
  have h5:(A8 s).length=s.size:=Cu s
  have g:=AE (x:=(A8 s).length) (by omega)
  show (bytesOf (A8 s)).length≤_
  rw [CX]
  omega)
 have h0:=AE (x:=(CJ b).length) (by omega)
 rw [Ks,zAB]
 omega
theorem sze17 {b:List AJ} (h:KS b) (hz:Du b) (hb:Mj b):SzE b:=
 ⟨hb,by have:=MC h;omega,⟨by have:=(Ti h).1;omega,fun r hr=>by have:=(Ti h).2 r hr;omega⟩,fun s hs x hx=>(hz s hs).2 x hx⟩
theorem Dy (id:Nat) (d:List Nat):(AH id d).length=5+(Ab d.length).length+d.length:=by
 rw [AH,Cf,zAH,bytesOf,zAB];omega
theorem asm17 {S:List (List Nat)} (h4:S.length=4) (hM:∀d∈S,d.length≤10000000000000):(FJ S).length≤140737488352000:=by
 obtain ⟨a,b,c,d,rfl⟩:=Z2 h4
 have ha:=hM a (by simp);have hb:=hM b (by simp);have hc:=hM c (by simp);have hd:=hM d (by simp)
 have ga:=AE (x:=a.length) (by omega);have gb:=AE (x:=b.length) (by omega);have gc:=AE (x:=c.length) (by omega);have gd:=AE (x:=d.length) (by omega)
 have fa:=Dy 1 a;have fb:=Dy 2 b;have fc:=Dy 3 c;have fd:=Dy 4 d
 have xz:(Eu 1 [a,b,c,d]).length=(AH 1 a).length+(AH 2 b).length+(AH 3 c).length+(AH 4 d).length:=by simp [Eu];omega
 have hC:(Bf (EU 1 5 [a,b,c,d])).length=1+(Ab (5+(AH 1 a).length)).length+(Ab (5+(AH 1 a).length+(AH 2 b).length)).length+(Ab (5+(AH 1 a).length+(AH 2 b).length+(AH 3 c).length)).length:=by
  simp [Bf,EU,AZ];omega
 have g2:=AE (x:=5+(AH 1 a).length) (by omega)
 have g3:=AE (x:=5+(AH 1 a).length+(AH 2 b).length) (by omega)
 have g4:=AE (x:=5+(AH 1 a).length+(AH 2 b).length+(AH 3 c).length) (by omega)
 have ft:=Dy 5 (Bf (EU 1 5 [a,b,c,d]))
 rw [AZ (x:=(Bf (EU 1 5 [a,b,c,d])).length) (by omega)] at ft
 have hl:(FJ [a,b,c,d]).length=5+(Eu 1 [a,b,c,d]).length+(AH 5 (Bf (EU 1 5 [a,b,c,d]))).length+8:=by
  rw [FJ,zAB,Cf,Kr,zAB,zAB]
  show 5+_+_+4+4=_
  omega
 simp only [zDY] at ft
 omega
theorem fe {b:List AJ} (h:KS b) (hb:Mj b):∀d∈C5 b,d.length≤1000000000000:=by
 rw [Tu hb JX]
 intro d hd
 simp only [zAS,zCX,zGU] at hd
 rcases hd with rfl | rfl | rfl | rfl
 ·have:=sa h hb;omega
 ·have:=WR h;omega
 ·have:=QA h;omega
 ·have:=dn h;omega
theorem ok17 {b:List AJ} (h:KS b) (hz:Du b) (hb:A0 b=0):pD (C5 b)∧(FJ (C5 b)).length≤140737488352000:=by
 have hk:=KW hb
 have hl:=fe h hk
 have hi:=gG h
 refine ⟨fun d hd=>⟨kr (sze17 h hz hk) (by have:=h.len;omega) (by omega) (fun e he=>by have:=(hi.2.1 e he).2.1;omega) d hd,by have:=hl d hd;omega⟩,asm17 (Nf b) (fun d hd=>by have:=hl d hd;omega)⟩
theorem dg:Cd Tryz.prog 68 48 1 24:=Cd.mk' (z:=.slice none 0 0) Tryz.underlying68 (by kernel_rfl) rfl (by decide)
theorem eQ (bv:Value) (b:List AJ) (w:World) (hb:FU w bv b) (hn:b.length≤1000000) :
  Calls Tryz.prog 38 #[bv] w fun e w'=>∃v,e = .returned v∧∃hs,GB 48 w w' hs (b.map Prod.fst) v:=by
 have HL:=zAA hb;have HN:=zAA hn
 obtain ⟨pb,cb,hv⟩:=hb.shape
 subst hv
 have nD:(b.length:Int)≤1000000:=by omega
 clear hb hn
 go_enter Tryz.func38,Tryz.ntmps38
 go_wp2_with fail
 go_loopw [3,4] (fun vv iv wr=>∃(i:Nat) (hs:List Value),i≤b.length∧iv = .int .i64 (i:Int)∧Hid (GB 48 w wr hs ((b.take i).map Prod.fst) vv)) (fun _ iv _=>b.length-(intOf iv).toNat)
 case atStart=>exact ⟨0,[],zAJ _,rfl,GB.nil w⟩
 case round=>
  obtain ⟨i,hs,hi,rfl,HA⟩:=hrel
  have KM:(i:Int)≤1000000:=by omega
  obtain ⟨pv,cv,DB⟩:=HA.out.row.rd.shape
  subst DB
  by_cases Aq:i<b.length
  ·have AF:(i:Int)<(b.length:Int):=by omega
   obtain ⟨s,hs'⟩:∃s,b[i]? = some s:=⟨_,zAC Aq⟩
   obtain ⟨AM,off,h1,h2,rfl,⟨p1,c1,rfl⟩,⟨p2,c2,rfl⟩,Ex⟩:=HL.out.always hs'
   obtain ⟨d0,d1,Jw⟩:=Ex wr HA.out.row.AA
   have xJ:=Ex w (zAM _ _)
   have Pw:Hid ((b.take (i+1)).map Prod.fst=(b.take i).map Prod.fst++[s.1]):=by show _=_;rw [zAL,hs',zCD];rfl
   have YN:=zAA Jw.1
   have fO:Hid (PG (fun j=>(Value.slice pv hs.length cv).ownBlock=some j) (.slice p1 s.1.length c1) s.1):=fun BC j hj hv=>by
    have a:=xJ.2.2.1.lt BC j hj
    have c:=(HA.out.row.row.lt j hv).1
    omega
   have YJ:Hid (wr.ownsRow 0 48 1 (.slice pv hs.length cv) hs.length hs):=by
    show World.ownsRow _ _ _ _ _ _ _
    have h:=HA.out.row.Cz
    rwa [List.map_id'] at h
   have YG:Hid ((hs.length+1)*24≤140737488355328∧hs.length+1≤maxLen):=by
    show _∧_
    have h:=HA.out.len
    rw [zAT,zAR] at h
    have:=HN.out
    unfold maxLen
    omega
   clear hs' Ex Jw xJ d1
   go_wp2_with (at_builtin;refine AD dg wr #[.slice p1 s.1.length c1] _ _ _ YJ.out rfl (by simp [Value.oneCell']) YG.out rfl _ _ rfl rfl rfl ?_)
   intro v4 w4 k1 m1 f1
   have L5:Hid (GB 48 w w4 (hs++[.slice p1 s.1.length c1]) ((b.take (i+1)).map Prod.fst) v4):=by
    show GB _ _ _ _ _ _
    rw [Pw.out]
    exact HA.out.B5 (h:=.slice p1 s.1.length c1) (s:=s.1) YN.out fO.out k1 m1 f1
   clear k1 m1 f1 YJ YG HA YN fO d0
   obtain ⟨p4,c4,nM⟩:=L5.out.row.rd.shape
   subst nM
   go_wp2_with fail
   go_round
   case rel=>exact ⟨i+1,_,by omega,by go_num,L5.out⟩
   case measure=>simp [intOf];omega
  ·have AF:¬(i:Int)<(b.length:Int):=by omega
   have G0:Hid (GB 48 w wr hs (b.map Prod.fst) (.slice pv hs.length cv)):=by
    have h:=HA.out
    rw [zAF (by omega)] at h
    exact h
   go_wp2_with fail
   go_ret
   exact ⟨_,rfl,hs,G0.out⟩
theorem UY (l:List Dt) (k:Nat):(Al l).take (k*2)=Al (l.take k):=by
 induction l generalizing k with
 | nil=>simp [Al]
 | cons x l ih=>
  cases k with
  | zero=>simp [Al]
  | succ k=>
   rw [show (k+1)*2=k*2+2 by omega]
   have:=ih k
   simp only [Al,zBN,zDR] at this ⊢
   simpa using this
theorem UX (l:List Dt) (k:Nat):(Al l).drop (k*2)=Al (l.drop k):=by
 induction l generalizing k with
 | nil=>simp [Al]
 | cons x l ih=>
  cases k with
  | zero=>simp [Al]
  | succ k=>
   rw [show (k+1)*2=k*2+2 by omega]
   have:=ih k
   simp only [Al,zBN,List.drop_succ_cons] at this ⊢
   simpa using this
def EE (l:List Dt) (k:Nat):List Int:=(KB l k).map fun c=>((B0 c).1.length:Int)
def Ea (l:List Dt) (k:Nat):List Nat:=(KB l k).flatMap fun c=>(B0 c).1
theorem To (bv:Value) (b:List AJ) (w:World) (h:FU w bv b) (qZ:KS b) (Ed:Du b) :
  Calls Tryz.prog 17 #[bv] w fun e w'=>∃vs:List Value,e = .returned (.agg vs.toArray)∧cj w' vs (C5 b)∧Below w.heap.size w w':=by
 have H:=zAA h;have Fv:=zAA qZ;have EQ:=zAA Ed
 obtain ⟨pb,cb,hv⟩:=h.shape
 subst hv
 clear h qZ Ed
 go_enter Tryz.func17,Tryz.ntmps17
 go_wp2_with (refine BU mn rfl rfl ?_)
 intro w1 MW NK uv
 go_wp2_with (refine BU mn rfl rfl ?_)
 intro w2 uo EP hS2
 obtain ⟨g0,NN⟩:∃g0,w.heap.size=g0:=⟨_,rfl⟩
 have lI:=zAA NN
 rw [NN] at MW NK uv uo EP hS2 ⊢
 obtain ⟨q,hq⟩:∃q,g0+1=q:=⟨_,rfl⟩
 have HQ:=zAA hq
 rw [hq] at uo EP hS2 ⊢
 have KK:Hid (Ao w2 g0 (List.replicate 4 (.slice none 0 0))):=MW.of_same (EP.block g0 (by omega))
 have bX:Hid (Ao w2 q (VY (.slice none 0 0))):=uo
 have HS2:Hid (w2.heap.size=q+1):=hS2
 have AP:Hid (Below w.heap.size w w2):=by rw [NN];exact NK.trans (EP.mono (by omega))
 clear MW NK uv uo EP hS2 NN hq
 go_wp2_with fail
 refine (UV _ b w2 (H.out.below AP.out) Fv.out).mono ?_
 rintro e w3 ⟨tv,rfl,hO⟩
 obtain ⟨pt,ct,hv⟩:=hO.shape
 subst hv
 have ir:=zAA hO.rd
 have HTq:Hid (∀k,(Value.slice pt (Bp (AK b)).length ct).ownBlock=some k→k≠q):=fun k hk e=>by have:=(hO.row.lt k hk).1;have:=HS2.out;omega
 have BS:Hid (Below w.heap.size w w3):=AP.out.trans (hO.AA.mono AP.out.size)
 have Ft:=zAA ((Ac.Ah hO.AA (fun _=>False)).AM KK.out (fun e=>e))
 have Ui:=zAA ((Ac.Ah hO.AA (fun _=>False)).AM bX.out (fun e=>e))
 have HZ:Hid (q<w3.heap.size):=Ui.out.lt
 clear hO KK bX AP HS2
 have nD:(b.length:Int)≤20000:=by have:=Fv.out.len;omega
 go_wp2_with fail
 obtain ⟨Z,hZ⟩:∃Z,w3.heap.size=Z:=⟨_,rfl⟩
 have uf:=zAA hZ
 rw [hZ] at HZ
 clear hZ
 have it:Hid (w.heap.size≤q∧q<Z):=by show _∧_;have:=HQ.out;have:=lI.out;have:=HZ.out;omega
 have HSc0:Hid (fU w Z q w3 w3 [] ((b.take 0).map Cx) (.slice none 0 0) (.slice none 0 0) (Ap (b.take 0))):=
  ⟨Ac.refl _ _,Ui.out,zBI _ _ _ _,⟨⟨zBI _ _ _ _,BS.out⟩,rfl,fun i h s hi _=>by simp at hi⟩,fun k hk=>by simp [Value.ownBlock] at hk,fun i h s hi _=>by simp at hi,it.out.2,uf.out.symm⟩
 go_loopw [5,6] (fun lv iv wr=>∃(i:Nat) (hs:List Hd) (sv:Value),i≤b.length∧iv = .int .i64 (i:Int)∧Hid (fU w Z q w3 wr hs ((b.take i).map Cx) lv sv (Ap (b.take i)))) (fun _ iv _=>b.length-(intOf iv).toNat)
 case atStart=>exact ⟨0,[],_,zAJ _,rfl,HSc0.out⟩
 case round=>
  obtain ⟨i,hs,sv,hi,rfl,HO⟩:=hrel
  have KM:(i:Int)≤20000:=by omega
  obtain ⟨pv,cv,DB⟩:=HO.out.nr.row.rd.shape
  subst DB
  obtain ⟨ps,cs,hvs⟩:=(Rd.Ad HO.out.own).shape
  subst hvs
  by_cases Aq:i<b.length
  ·have AF:(i:Int)<(b.length:Int):=by omega
   obtain ⟨s,hs'⟩:∃s,b[i]? = some s:=⟨_,zAC Aq⟩
   obtain ⟨AM,off,h1,h2,rfl,⟨p1,c1,rfl⟩,⟨p2,c2,rfl⟩,Ex⟩:=H.out.always hs'
   have Fi:=zAA Ex
   have Vf:Hid (s.1≠[]→∀j,(Value.slice p1 s.1.length c1).ownBlock=some j→j<w.heap.size):=fun BC j hj=>(Ex w (zAM _ _)).2.2.1.lt (F9 BC) j hj
   have C0:Hid (Rd wr 2 (.slice p1 s.1.length c1) s.1.length (Am s.1)):=(Ex wr HO.out.nr.row.AA).2.2.1
   have Pw:Hid ((b.take (i+1)).map Cx=(b.take i).map Cx++[Cx s]):=by show _=_;rw [zAL,hs',zCD];rfl
   have Rh:=zAA (Nw hs')
   have bN:Hid (s.2.length≤1000000∧∀x∈s.2,EK x):=⟨Fv.out.mem (zAG hs'),(EQ.out s (zAG hs')).2⟩
   obtain ⟨d0,_,_⟩:=Ex wr HO.out.nr.row.AA
   have Vd:=zAA (HO.out.start (labv:=.slice p1 s.1.length c1))
   have ly:Hid (Below w.heap.size w (wr.alloc (.cells #[.slice p1 s.1.length c1,.slice none 0 0] 61))):=HO.out.nr.row.AA.alloc HO.out.nr.row.AA.size _
   clear hs' Ex
   go_wp2_with fail
   clear d0
   generalize hwi:wr.alloc (.cells #[.slice p1 s.1.length c1,.slice none 0 0] 61)=wi at *
   have wh:=zAA hwi
   clear hwi
   obtain ⟨g,hg⟩:∃g,wr.heap.size=g:=⟨_,rfl⟩
   have HGe:=zAA hg
   rw [hg] at Vd ⊢
   clear hg
   have lN:Hid (∀j,EE s.2 (j+1)=EE s.2 j++[((B0 ((s.2.drop (120*j)).take 120)).1.length:Int)]∧Ea s.2 (j+1)=Ea s.2 j++(B0 ((s.2.drop (120*j)).take 120)).1):=fun j=>by
    unfold EE Ea
    rw [TN]
    simp
   obtain ⟨n,hn⟩:∃n,s.2.length=n:=⟨_,rfl⟩
   have HN:=zAA hn
   rw [hn] at Fi bN
   clear hn
   have hnm:(n:Int)≤1000000:=by have:=bN.out.1;omega
   have R9:Hid (∀k,(Value.slice ps (Ap (b.take i)).length cs).ownBlock=some k→Z≤k):=fun k hk=>(HO.out.own.lt k hk).1
   have HI1:Hid (Ym wi Z q g (.slice p1 s.1.length c1) (.slice ps (Ap (b.take i)).length cs) wi (.slice none 0 0) (.slice ps (Ap (b.take i)).length cs) (EE s.2 0) (Ap (b.take i)++Ea s.2 0)):=by
    have h:=Vd.out
    rw [show EE s.2 0=[] from rfl,show Ea s.2 0=[] from rfl,zBR]
    exact h
   obtain ⟨wq,dG⟩:∃wq,wq=wr:=⟨_,rfl⟩
   subst dG
   clear Vd
   go_loopw [8] (fun fv wr=>∃(F j:Nat) (cv' sv':Value),fv = .int .i64 (F:Int)∧Hid (F=120*j∧F≤n+119)∧Hid (Ym wi Z q g (.slice p1 s.1.length c1) (.slice ps (Ap (b.take i)).length cs) wr cv' sv' (EE s.2 j) (Ap (b.take i)++Ea s.2 j))) (fun fv _=>n+120-(intOf fv).toNat)
   case atStart=>exact ⟨0,0,_,_,rfl,⟨rfl,by omega⟩,HI1.out⟩
   case round=>
    obtain ⟨F,j,xv,sv,rfl,HF,HI⟩:=hrel
    have Dq:=zAA (HI.out.AA ly.out it.out.1 R9.out)
    have hFm:(F:Int)≤1000119:=by have:=HF.out.2;omega
    obtain ⟨_,e1,_⟩:=Fi.out wr Dq.out
    by_cases hc:F<n
    ·have hc':(F:Int)<(n:Int):=by omega
     have FH:((s.2.drop (120*j)).take 120).length=min 120 (n-F):=by rw [zAR,zCN,HN.out,HF.out.1]
     obtain ⟨E,hE⟩:∃E,F+((s.2.drop (120*j)).take 120).length=E:=⟨_,rfl⟩
     have i9:E=F+min 120 (n-F):=by rw [← hE,FH]
     have t6:Hid ((if (n:Int)<(F:Int)+120 then (n:Int) else (F:Int)+120)=(E:Int)):=by
      show _=_
      split<;>omega
     have HFE:Hid (F≤E∧E≤n):=by show _∧_;omega
     have hRs:=(Fi.out wr Dq.out).2.2.2
     have hFj:F=120*j:=HF.out.1
     have hRw:∃p3 c3,sliced p2 F E c2 2 = .slice p3 ((s.2.drop (120*j)).take 120).length c3∧Rd wr 2 (.slice p3 ((s.2.drop (120*j)).take 120).length c3) ((s.2.drop (120*j)).take 120).length (Al ((s.2.drop (120*j)).take 120)):=by
      have h:=(HN.out ▸ hRs:Rd wr 2 (.slice p2 n c2) n (Al s.2)).mW F E HFE.out.1 HFE.out.2
      have e:((Al s.2).take (E*2)).drop (F*2)=Al ((s.2.drop (120*j)).take 120):=by
       rw [UY,UX,← hFj,List.drop_take]
       congr 1
       rw [List.take_eq_take_iff,zCN,HN.out]
       omega
      rw [e] at h
      obtain ⟨p3,c3,h2⟩:=h.shape
      rw [h2] at h
      have hl:E-F=((s.2.drop (120*j)).take 120).length:=by omega
      rw [hl] at h h2
      exact ⟨p3,c3,h2,h⟩
     obtain ⟨p3,c3,qY,hrw⟩:=hRw
     have ua:=zAA qY
     have HNc:Hid (n≤c2):=by
      obtain ⟨_,_,e,_,h2,_⟩:=(HN.out ▸ hRs:Rd wr 2 (.slice p2 n c2) n (Al s.2))
      cases e
      exact h2
     have HWs:Hid (∀x∈(s.2.drop (120*j)).take 120,EK x):=fun x hx=>bN.out.2 x (zFB (zEE hx))
     have HWl:Hid (((s.2.drop (120*j)).take 120).length≤120):=by show _≤_;rw [zAR];omega
     have HLj:=zAA (lN.out j)
     generalize (s.2.drop (120*j)).take 120=win at *
     have Ua:Hid (Below wr.heap.size wr wr.drew):=⟨rfl,rfl,rfl,zAD _,fun _ _=>rfl⟩
     have Gi:=zAA (US _ win wr.drew (hrw.below Ua.out) HWs.out (by have:=HWl.out;omega))
     have Yl:Hid ((∀k,xv.ownBlock=some k→k<wr.heap.size)∧g<wr.heap.size):=⟨fun k hk=>(HI.out.Rs.lt k hk).2,zAO HI.out.gw HI.out.md.size⟩
     have zS:Hid ((EE s.2 j).length≤10000∧(Ap (b.take i)++Ea s.2 j).length≤140000000000):=by
      have hj:j≤8335:=by have:=HF.out;have:=bN.out.1;omega
      refine ⟨by unfold EE;rw [zAT,Z1];omega,?_⟩
      rw [zAB]
      have h1:=Y4 Fv.out i
      have h2:=Vk s.2 j
      unfold Ea
      omega
     obtain ⟨m,hm⟩:∃m,win.length=m:=⟨_,rfl⟩
     rw [hm] at ua Gi HWl
     have Ue:=zAA (HI.out.below Ua.out)
     have vV:Hid ((B0 win).1.length≤100000∧∀x∈(B0 win).1,x<256):=⟨Gn win,PW win⟩
     generalize (B0 win).1=cw at *
     generalize (B0 win).2=ce at *
     clear qY hrw hE i9 hRs FH hm hFj
     have HSx:Hid (∀w':World,(w'.cell? ⟨AM,off+i*2+1,none⟩=some (.slice p2 n c2))→(w'.cell? ⟨AM,off+i*2+1,none⟩=some (.slice p2 n c2))∧True∧True):=fun _ h=>⟨h,trivial,trivial⟩
     have hwF:IntKind.i64.wrap ((F:Int)+120)=(F:Int)+120:=zEZ _ (by omega)
     go_wp2_with fail
     refine AI (fun w':World=>w'.cell? ⟨AM,off+i*2+1,none⟩=some (.slice p2 n c2)) [16] [0,1,2,3,4,5,6,7,8,9,10,11,12,13,14,15,16,17,18,19,20,21] (by kernel_rfl) (by kernel_rfl) (by kernel_rfl) ?_ ?_ ?_
     ·intro c a a' w' hd h;exact ⟨hd ▸ h.1,h.2⟩
     ·exact e1
     clear e1
     simp only [Cj,zBC,zCP,zBE,zAY,zBM]
     repeat (first
        | (refine takeH_skip rfl ?_; simp only [Act.put, List.setIfInBounds_toArray, List.set_cons_succ, List.set_cons_zero])
        | (refine takeH_blind rfl rfl ?_; apply Exists.intro; refine ⟨fun w => ?_, ?_⟩; (go_simp; try with_reducible rfl); simp only [Act.put, List.setIfInBounds_toArray, List.set_cons_succ, List.set_cons_zero])
        | (refine takeH_reads rfl rfl ?_; apply Exists.intro; refine ⟨fun w' hS => ?_, ?_⟩; (obtain ⟨d0, d1, d2⟩ := HSx.out w' hS; go_simp; try with_reducible rfl); simp only [Act.put, List.setIfInBounds_toArray, List.set_cons_succ, List.set_cons_zero]))
     rw [t6.out]
     refine Gx rfl rfl (.slice p3 m c3) (fun w' _=>(QF RU w' p2 n c2 F E HFE.out.1 (zAW HFE.out.2 HNc.out) (.tmp 40) (.tmp 41) (.tmp 50) rfl rfl rfl rfl).trans (by rw [ua.out])) ?_
     simp only [Act.put,zAZ,zBT,zBL]
     refine AY rfl rfl (fun K' hK'=>?_)
     go_wp2_with fail
     refine Gi.out.mono ?_
     rintro e w4 ⟨r,rfl,hR,DK,hB⟩
     obtain ⟨pr,cr,xD⟩:=hR.shape
     subst xD
     have bH:=zAA (Ue.out.below hB)
     have R8:=zAA hR
     have Yd:Hid (∀k,(Value.slice pr cw.length cr).ownBlock=some k→wr.heap.size≤k):=DK
     have e1:=(Fi.out w4 (bH.out.AA ly.out it.out.1 R9.out)).2.1
     clear hR DK hB Gi Ue HI
     refine hK' _ _ e1 ?_
     clear hK' K' e1
     repeat (first
        | (refine takeH_skip rfl ?_; simp only [Act.put, List.setIfInBounds_toArray, List.set_cons_succ, List.set_cons_zero])
        | (refine takeH_blind rfl rfl ?_; apply Exists.intro; refine ⟨fun w => ?_, ?_⟩; (go_simp; try with_reducible rfl); simp only [Act.put, List.setIfInBounds_toArray, List.set_cons_succ, List.set_cons_zero])
        | (refine takeH_reads rfl rfl ?_; apply Exists.intro; refine ⟨fun w' hS => ?_, ?_⟩; (obtain ⟨d0, d1, d2⟩ := HSx.out w' hS; go_simp; try with_reducible rfl); simp only [Act.put, List.setIfInBounds_toArray, List.set_cons_succ, List.set_cons_zero]))
     refine Bv ?_
     obtain ⟨px,cx,za⟩:=(Rd.Ad bH.out.Rs).shape
     subst za
     obtain ⟨py,cy,hyv⟩:=(Rd.Ad bH.out.own).shape
     subst hyv
     generalize hL0:EE s.2 j=L0 at *
     generalize hO0:Ap (b.take i)++Ea s.2 j=O0 at *
     have HL0:=zAA hL0;have Wu:=zAA hO0
     clear hL0 hO0
     have x1:w4.cell? ⟨g,1,none⟩=some (.slice px L0.length cx):=by rw [bH.out.xb.cell];rfl
     have Yi:Hid (w4.ownsRow 0 3 1 (.slice px L0.length cx) L0.length (A1 L0)):=Af bH.out.Rs (fun _ _=>zAJ _)
     have Nn:Hid ((L0.length+1)*8≤140737488355328∧L0.length+1≤maxLen):=by show _∧_;have:=zS.out.1;unfold maxLen;omega
     go_wp2_with (at_builtin;refine AD Jr w4 #[.int .i64 (cw.length:Int)] _ _ _ Yi.out rfl (CC _ rfl) Nn.out rfl _ _ rfl rfl rfl ?_)
     intro v5 w5 k1 k2 k3
     have hgx:(Value.slice px L0.length cx).ownBlock≠some g:=fun e=>by have:=(bH.out.Rs.lt g e).1;have:=bH.out.gw;omega
     have b5:=k2.AM bH.out.xb hgx
     have x1:w5.cell? ⟨g,1,none⟩=some (.slice px L0.length cx):=by rw [b5.cell];rfl
     have x2:=b5.free 1
     obtain ⟨h6,m6⟩:=bH.out.push k1 k2 k3
     obtain ⟨p5,c5,sJ⟩:=(Rd.Ad k1).shape
     subst sJ
     have MG:=zAA h6
     have rD:=zAA (R8.out.Ai m6 (fun k hk e=>by
      have:=Yd.out k hk
      rcases e with e | e
      ·have:=Yl.out.2;omega
      ·have:=Yl.out.1 k e;omega))
     have y1:(w5.setCell ⟨g,1,none⟩ (.slice p5 (L0.length+1) c5)).cell? ⟨q,2,none⟩=some (.slice py O0.length cy):=by rw [MG.out.qb.cell];rfl
     have HOy:Hid ((w5.setCell ⟨g,1,none⟩ (.slice p5 (L0.length+1) c5)).ownsRow 0 5 1 (.slice py O0.length cy) O0.length (B9 O0)):=Af MG.out.own (fun _ _=>zAJ _)
     have k7:Hid ((O0.length+cw.length)*1≤140737488355328∧O0.length+cw.length≤maxLen):=by show _∧_;have:=zS.out.2;have:=vV.out.1;unfold maxLen;omega
     clear k1 k2 k3 b5 h6 m6 hgx Yi Nn bH R8
     go_wp2_with (at_builtin;refine At Tryz.CG _ _ _ _ _ _ _ HOy.out rD.out (A3 _) k7.out rfl _ _ rfl rfl rfl ?_)
     intro v7 w7 k1 k2 k3
     have hqy:(Value.slice py O0.length cy).ownBlock≠some q:=fun e=>by have:=(MG.out.own.lt q e).1;have:=MG.out.qz;omega
     have b7:=k2.AM MG.out.qb hqy
     have z1:w7.cell? ⟨q,2,none⟩=some (.slice py O0.length cy):=by rw [b7.cell];rfl
     have z2:=b7.free 2
     have h8:=MG.out.extend k1 k2 (by simpa using k3)
     obtain ⟨p7,c7,UB⟩:=(Rd.Ad k1).shape
     subst UB
     have bI:=zAA h8
     clear k1 k2 k3 b7 h8 hqy HOy k7 MG rD y1 x1 x2
     have Gy:Hid (EE s.2 (j+1)=L0++[(cw.length:Int)]∧Ap (b.take i)++Ea s.2 (j+1)=O0++cw):=by
      obtain ⟨a1,a2⟩:=HLj.out
      exact ⟨a1,by rw [a2,← zAK,Wu.out]⟩
     go_wp2_with fail
     go_round
     case rel=>exact ⟨F+120,j+1,_,_,by go_num,⟨by have:=HF.out.1;omega,by omega⟩,by rw [Gy.out.1,Gy.out.2];exact bI.out⟩
     case measure=>simp [intOf];omega
    ·have hc':¬(F:Int)<(n:Int):=by omega
     have jm:j=(s.2.length+119) / 120:=by have:=HF.out;rw [HN.out];omega
     have HLf:Hid (EE s.2 j=N0 s.2∧Ea s.2 j=MM s.2):=by rw [jm];exact ⟨by unfold EE;rw [LZ];rfl,by unfold Ea;rw [LZ];rfl⟩
     have HIw:Hid (Ym (wq.alloc (.cells #[.slice p1 s.1.length c1,.slice none 0 0] 61)) Z q wq.heap.size (.slice p1 s.1.length c1) (.slice ps (Ap (b.take i)).length cs) wr xv sv (N0 s.2) (Ap (b.take i)++MM s.2)):=by
      have h:=HI.out
      rw [HLf.out.1,HLf.out.2] at h
      rw [wh.out,HGe.out]
      exact h
     have x0:wr.cell? ⟨g,0,none⟩=some (.slice p1 s.1.length c1):=by rw [HI.out.xb.cell];rfl
     obtain ⟨px,cx,za⟩:=(Rd.Ad HI.out.Rs).shape
     subst za
     have x1:wr.cell? ⟨g,1,none⟩=some (.slice px (EE s.2 j).length cx):=by rw [HI.out.xb.cell];rfl
     have YJ:=zAA (HO.out.nr2 it.out.1 HIw.out).row.Cz
     have YG:Hid ((hs.length+1)*48≤140737488355328∧hs.length+1≤maxLen):=by show _∧_;have h1:=HO.out.nr.len;rw [zAT,zAR] at h1;unfold maxLen;omega
     clear jm
     generalize EE s.2 j=L0 at *
     go_wp2_with (at_builtin;refine AD iR _ #[.slice p1 s.1.length c1,.slice px L0.length cx] _ _ _ YJ.out rfl (by simp [Value.oneCell']) YG.out rfl _ _ rfl rfl rfl ?_)
     intro v8 w8 k1 m1 f1
     have bM:Hid (fU w Z q w3 w8 (hs++[(.slice p1 s.1.length c1,.slice px L0.length cx)]) ((b.take (i+1)).map Cx) v8 sv (Ap (b.take (i+1)))):=by
      have h:=HO.out.next it.out.1 HIw.out C0.out Vf.out k1 m1 f1
      show fU _ _ _ _ _ _ _ _ _ _
      rw [Pw.out,Rh.out]
      exact h
     obtain ⟨p8,c8,MY⟩:=bM.out.nr.row.rd.shape
     subst MY
     clear k1 m1 f1 x0 x1 e1 YJ YG HI HIw HO
     go_wp2_with fail
     go_round
     case rel=>exact ⟨i+1,_,_,by omega,by go_num,bM.out⟩
     case measure=>simp [intOf];omega
  ·have AF:¬(i:Int)<(b.length:Int):=by omega
   have HT:Hid (b.take i=b):=zAF (by omega)
   have BG:Hid (fU w Z q w3 wr hs (b.map Cx) (.slice pv hs.length cv) (.slice ps (Ap (b.take i)).length cs) (Ap b)):=by
    have h:=HO.out
    rw [HT.out] at h ⊢
    exact h
   have HTb:Hid ((Ap (b.take i)).length=(Ap b).length):=by show _=_;rw [HT.out]
   rw [HTb.out] at BG
   have HK:Hid (∀W',Ac (fun k=>k=q) wr W'→Rd W' 1 (.slice pt (Bp (AK b)).length ct) (Bp (AK b)).length (BM (Bp (AK b)))∧bO W' (.slice pv hs.length cv) (b.map Cx)∧FU W' (.slice pb b.length cb) b∧Rd W' 1 (.slice ps (Ap b).length cs) (Ap b).length (B9 (Ap b))∧Ao W' g0 (List.replicate 4 (.slice none 0 0))∧Below w.heap.size w W'):=fun W' hm=>by
    have hq:=it.out
    have h3:=BG.out.md.trans hm (fun _ _ e=>e)
    refine ⟨ir.out.Ai h3 (fun k hk e=>HTq.out k hk e),⟨⟨hs,Rd.Ad (hm.owns BG.out.nr.row.row (fun k hk e=>by have:=(BG.out.lz k hk).1;omega)),BG.out.nr.len,fun i h s hi hj=>(BG.out.nr.KO i h s hi hj).1.mods hm ?_⟩⟩,?_,Rd.Ad (hm.owns BG.out.own (fun k hk e=>by have:=(BG.out.own.lt k hk).1;omega)),h3.AM Ft.out (fun e=>by have:=HQ.out;omega),?_⟩
    ·have ho:=BG.out.off i h s hi hj
     exact ⟨fun e j hj f=>ho.1 e j hj (Or.inr f),fun e j hj f=>ho.2 e j hj (Or.inr f)⟩
    ·exact H.out.below (BS.out.trans (h3.below BS.out.size (fun k hk e=>by omega)))
    ·exact BS.out.trans (h3.below BS.out.size (fun k hk e=>by omega))
   have HKs:Hid (∀W',Ac (fun k=>k=q∨k=g0) wr W'→Rd W' 1 (.slice ps (Ap b).length cs) (Ap b).length (B9 (Ap b))∧Below w.heap.size w W'):=fun W' hm=>by
    have hq:=it.out
    have hg:=HQ.out
    have NN:=lI.out
    refine ⟨Rd.Ad (hm.owns BG.out.own (fun k hk e=>by have:=(BG.out.own.lt k hk).1;omega)),BG.out.nr.row.AA.trans (hm.below BG.out.nr.row.AA.size (fun k hk e=>by omega))⟩
   have HQw:=zAA BG.out.qb
   have HZw:Hid (q<wr.heap.size):=HQw.out.lt
   clear HO HT HTb BG ir HTq BS Ft Ui HSc0 HZ uf
   have ja:=HK.out wr (Ac.refl _ _)
   have qJ:=zAA ja.1
   clear ja
   go_wp2_with fail
   refine (XN _ (Bp (AK b)) wr qJ.out (by have:=MC Fv.out;exact zAW this (by decide))).mono ?_
   rintro e u1 ⟨⟨r0,rfl,qP,nH⟩,hB⟩
   obtain ⟨p0,c0,Yy⟩:=qP.shape
   subst Yy
   have G6:Ac (fun k=>k=q) wr u1:=Ac.Ah hB _
   have rC:Hid (∀W',Ac (fun k=>k=q∨k=g0) u1 W'→Rd W' 1 (.slice p0 (BR (Bp (AK b))).2.length c0) (BR (Bp (AK b))).2.length (B9 (BR (Bp (AK b))).2)):=fun W' hm=>qP.Ai hm (fun k hk e=>by have:=nH k hk;have:=HZw.out;have:=HQ.out;omega)
   have rA:Hid (Ao u1 q (VY (.slice ps (Ap b).length cs))):=HQw.out.of_same (hB.block q HZw.out)
   have a0:u1.cell? ⟨q,0,none⟩=some (.slice none 0 0):=by rw [rA.out.cell];rfl
   have a1:=rA.out.free 0
   have lO:=zAA G6
   have HS1:Hid (wr.heap.size≤u1.heap.size):=hB.size
   generalize hD0:(BR (Bp (AK b))).2=D0 at *
   generalize (BR (Bp (AK b))).1=E0 at *
   have vo:=zAA hD0
   have KN:Ac (fun k=>k=q) u1 (u1.setCell ⟨q,0,none⟩ (.slice p0 D0.length c0)):=Ac.set _ _ _ _ (fun _=>rfl)
   have bX:Hid (Ao (u1.setCell ⟨q,0,none⟩ (.slice p0 D0.length c0)) q [.slice p0 D0.length c0,.slice none 0 0,.slice ps (Ap b).length cs,.slice none 0 0]):=by
    have h:=rA.out.set 0 (.slice p0 D0.length c0)
    show Ao _ _ _
    simpa [VY] using h
   have Ni:=zAA (G6.trans KN (fun _ _ e=>e))
   have HM2':=zAA KN
   have nK:(u1.setCell ⟨q,0,none⟩ (.slice p0 D0.length c0)).heap.size=u1.heap.size:=by simp
   have HS2:Hid (wr.heap.size≤(u1.setCell ⟨q,0,none⟩ (.slice p0 D0.length c0)).heap.size):=by rw [nK];exact HS1.out
   clear qP nH hB G6 hD0 KN nK HQw qJ lO rA HS1
   go_wp2_with fail
   clear a0 a1
   generalize u1.setCell ⟨q,0,none⟩ (.slice p0 D0.length c0)=u2 at *
   obtain ⟨hT2,Fk,_,_,_,_⟩:=HK.out u2 Ni.out
   have YM:=Ti Fv.out
   have lB:=zAA (XO _ _ (Bp (AK b)) (b.map Cx) u2 hT2 (zAW (MC Fv.out) (by decide)) Fk (by have:=YM.1;omega) (fun r hr=>by have:=YM.2 r hr;omega) (fun r hr n hn=>by have:=(YM.2 r hr).2.2 n hn;omega) (zAW (WR Fv.out) (by decide)))
   clear hT2 Fk YM
   refine lB.out.mono ?_
   rintro e u3 ⟨⟨r1,rfl,qQ,yW⟩,hB⟩
   obtain ⟨p1,c1,DA⟩:=qQ.shape
   subst DA
   have TX:Hid (∀W',Ac (fun k=>k=q∨k=g0) u3 W'→Rd W' 1 (.slice p1 (BQ (Bp (AK b)) (b.map Cx)).2.length c1) (BQ (Bp (AK b)) (b.map Cx)).2.length (B9 (BQ (Bp (AK b)) (b.map Cx)).2)):=fun W' hm=>qQ.Ai hm (fun k hk e=>by have:=yW k hk;have:=HZw.out;have:=HS2.out;have:=HQ.out;omega)
   have Ui:Hid (Ao u3 q [.slice p0 D0.length c0,.slice none 0 0,.slice ps (Ap b).length cs,.slice none 0 0]):=bX.out.of_same (hB.block q bX.out.lt)
   have a0:u3.cell? ⟨q,1,none⟩=some (.slice none 0 0):=by rw [Ui.out.cell];rfl
   have a1:=Ui.out.free 1
   have lm:Ac (fun k=>k=q) u2 u3:=Ac.Ah hB _
   have Fu:Hid (wr.heap.size≤u3.heap.size):=zAW HS2.out hB.size
   generalize hD1:(BQ (Bp (AK b)) (b.map Cx)).2=D1 at *
   generalize (BQ (Bp (AK b)) (b.map Cx)).1=E1 at *
   have Ua:=zAA hD1
   have jt:Ac (fun k=>k=q) u3 (u3.setCell ⟨q,1,none⟩ (.slice p1 D1.length c1)):=Ac.set _ _ _ _ (fun _=>rfl)
   have lV:Hid (Ao (u3.setCell ⟨q,1,none⟩ (.slice p1 D1.length c1)) q [.slice p0 D0.length c0,.slice p1 D1.length c1,.slice ps (Ap b).length cs,.slice none 0 0]):=by
    have h:=Ui.out.set 1 (.slice p1 D1.length c1)
    show Ao _ _ _
    simpa using h
   have bJ:=zAA (lm.trans jt (fun _ _ e=>e))
   have HM4':=zAA jt
   have hsz4:(u3.setCell ⟨q,1,none⟩ (.slice p1 D1.length c1)).heap.size=u3.heap.size:=by simp
   have JK:Hid (wr.heap.size≤(u3.setCell ⟨q,1,none⟩ (.slice p1 D1.length c1)).heap.size):=by rw [hsz4];exact Fu.out
   clear qQ yW hB lm hD1 jt hsz4 bX Ui HS2 Fu lB
   go_wp2_with fail
   clear a0 a1
   generalize u3.setCell ⟨q,1,none⟩ (.slice p1 D1.length c1)=u4 at *
   have yu:Hid (Ac (fun k=>k=q) wr u4):=Ni.out.trans bJ.out (fun _ _ e=>e)
   obtain ⟨_,_,Yp,_,_,_⟩:=HK.out u4 yu.out
   refine (eQ _ b u4 Yp (by have:=Fv.out.len;omega)).mono ?_
   rintro e u5 ⟨sv5,rfl,yY,wH⟩
   have bE:=zAA wH
   obtain ⟨p5,n5,c5,sJ⟩:∃p n c,sv5 = .slice p n c:=by obtain ⟨p,c,e⟩:=wH.rd.shape;exact ⟨p,_,c,e⟩
   subst sJ
   clear wH Yp
   go_wp2_with fail
   refine (aJ _ (b.map Prod.fst) u5 bE.out.rd (by have:=(XV Fv.out).2;omega) (by have:=(XV Fv.out).1;omega)).mono ?_
   rintro e u6 ⟨v6,rfl,M6,hA6,yI⟩
   have ra:=zAA hA6;have zG:=zAA yI
   obtain ⟨p6,c6,jx⟩:=hA6.shape
   subst jx
   have Jl:Hid (Below u4.heap.size u4 u6):=bE.out.row.AA.trans (hA6.AA.mono bE.out.row.AA.size)
   clear hA6 yI
   have yw:Hid (Ac (fun k=>k=q) wr u6):=yu.out.trans (Ac.Ah Jl.out (fun _=>False)) (fun _ _ e=>e.elim)
   obtain ⟨hT6,_,_,_,_,_⟩:=HK.out u6 yw.out
   have R5:=gG Fv.out
   have HRE:Hid (mg u6 (.slice p6 M6.length c6) (Bk (b.map Prod.fst))):=by show mg _ _ _;rw [← zG.out];exact ra.out.rd
   have lC:=zAA (XP _ _ (Bp (AK b)) (Bk (b.map Prod.fst)) u6 hT6 (zAW (MC Fv.out) (by decide)) HRE.out (by have:=R5.1;omega) (fun e he=>⟨(R5.2.1 e he).1,by have:=(R5.2.1 e he).2.1;omega,fun x hx=>by have:=(R5.2.1 e he).2.2 x hx;omega⟩) (zAW (dn Fv.out) (by decide)))
   clear hT6 R5
   go_wp2_with fail
   refine lC.out.mono ?_
   rintro e u7 ⟨⟨r3,rfl,jb⟩,hB⟩
   have yX:∀k,r3.ownBlock=some k→u6.heap.size≤k:=fun k hk=>(jb.lt k hk).1
   have jb:=Rd.Ad jb
   obtain ⟨p3,c3,UA⟩:=jb.shape
   subst UA
   have Dc:Hid (wr.heap.size≤u6.heap.size):=zAW JK.out Jl.out.size
   have Ft:Hid (∀W',Ac (fun k=>k=q∨k=g0) u7 W'→Rd W' 1 (.slice p3 (Cl (Bp (AK b)) (Bk (b.map Prod.fst))).2.length c3) (Cl (Bp (AK b)) (Bk (b.map Prod.fst))).2.length (B9 (Cl (Bp (AK b)) (Bk (b.map Prod.fst))).2)):=fun W' hm=>jb.Ai hm (fun k hk e=>by have:=yX k hk;have:=HZw.out;have:=Dc.out;have:=HQ.out;omega)
   have Vb:Hid (Below u4.heap.size u4 u7):=Jl.out.trans (hB.mono Jl.out.size)
   have rB:Hid (Ao u7 q [.slice p0 D0.length c0,.slice p1 D1.length c1,.slice ps (Ap b).length cs,.slice none 0 0]):=lV.out.of_same (Vb.out.block q lV.out.lt)
   have a0:u7.cell? ⟨q,3,none⟩=some (.slice none 0 0):=by rw [rB.out.cell];rfl
   have a1:=rB.out.free 3
   generalize hD3:(Cl (Bp (AK b)) (Bk (b.map Prod.fst))).2=D3 at *
   generalize (Cl (Bp (AK b)) (Bk (b.map Prod.fst))).1=E3 at *
   have HD3:=zAA hD3
   have xE:Ac (fun k=>k=q) u7 (u7.setCell ⟨q,3,none⟩ (.slice p3 D3.length c3)):=Ac.set _ _ _ _ (fun _=>rfl)
   have HQ8:Hid (Ao (u7.setCell ⟨q,3,none⟩ (.slice p3 D3.length c3)) q [.slice p0 D0.length c0,.slice p1 D1.length c1,.slice ps (Ap b).length cs,.slice p3 D3.length c3]):=by
    have h:=rB.out.set 3 (.slice p3 D3.length c3)
    show Ao _ _ _
    simpa using h
   have vG:=zAA xE
   have rq:Hid (Ac (fun k=>k=q) u4 (u7.setCell ⟨q,3,none⟩ (.slice p3 D3.length c3))):=(Ac.Ah Vb.out _).trans xE (fun _ _ e=>e)
   clear jb yX hB hD3 xE rB lV lC HRE ra bE zG Jl yw Vb
   have HM9:Hid (Ac (fun k=>k=q) wr (u7.setCell ⟨q,3,none⟩ (.slice p3 D3.length c3))):=yu.out.trans rq.out (fun _ _ e=>e)
   have ym:Hid (Ao (u7.setCell ⟨q,3,none⟩ (.slice p3 D3.length c3)) g0 [.slice none 0 0,.slice none 0 0,.slice none 0 0,.slice none 0 0]):=(HK.out _ HM9.out).2.2.2.2.1
   have tR:∀(u:Value),u∈[Value.slice p0 D0.length c0,.slice p1 D1.length c1,.slice ps (Ap b).length cs,.slice p3 D3.length c3]→u.oneCell'=true:=by simp [Value.oneCell']
   have H4:=zAA tR
   clear tR
   go_wp2_with (first
    | (refine Gc mn rfl _ rfl q rfl _ HQ8.out rfl ?_)
    | (refine Cv mn rfl _ _ rfl g0 rfl [.slice p0 D0.length c0,.slice p1 D1.length c1,.slice ps (Ap b).length cs,.slice p3 D3.length c3] _ rfl ym.out rfl rfl H4.out ?_))
   intro u9 hb9 hm9 hs9
   have vj:=zAA hb9;have lP:=zAA hm9
   clear hb9 hm9 hs9 a0 a1
   go_wp2_with fail
   refine zCB (aT (p:=2) mn (by kernel_rfl) _ g0 rfl [.slice p0 D0.length c0,.slice p1 D1.length c1,.slice ps (Ap b).length cs,.slice p3 D3.length c3] vj.out rfl) rfl ?_
   have up:∀{A B:World},Ac (fun k=>k=q) A B→Ac (fun k=>k=q∨k=g0) A B:=fun h=>h.mono (fun _ _ e=>Or.inl e)
   have m10:Ac (fun k=>k=q∨k=g0) (u7.setCell ⟨q,3,none⟩ (.slice p3 D3.length c3)) u9:=lP.out.mono (fun _ _ e=>Or.inr e)
   have m7:=(up vG.out).trans m10 (fun _ _ e=>e)
   have m4:=(up rq.out).trans m10 (fun _ _ e=>e)
   have m3:=(up HM4'.out).trans m4 (fun _ _ e=>e)
   have m2:=(up bJ.out).trans m4 (fun _ _ e=>e)
   have m1:=(up HM2'.out).trans m2 (fun _ _ e=>e)
   have m0:=(up Ni.out).trans m2 (fun _ _ e=>e)
   obtain ⟨KN,jc⟩:=HKs.out u9 m0
   refine ⟨_,rfl,⟨rfl,fun i v d hv hd=>?_⟩,jc⟩
   have xF:C5 b=[D0,D1,Ap b,D3]:=by rw [← vo.out,← Ua.out,← HD3.out];rfl
   rw [xF] at hd
   match i with
   | 0=>simp at hv hd;subst hv hd;exact rC.out u9 m1
   | 1=>simp at hv hd;subst hv hd;exact TX.out u9 m3
   | 2=>simp at hv hd;subst hv hd;exact KN
   | 3=>simp at hv hd;subst hv hd;exact Ft.out u9 m7
   | i+4=>simp at hv
theorem mC {b:List AJ} (h:A0 b=0):K6 b=(0,FJ (C5 b)):=by unfold K6;rw [if_pos h]
def DF (b:List AJ):List (List Nat):=if A0 b=0 then C5 b else [[],[],[],[]]
theorem Q6 (b:List AJ):(DF b).length=4:=by unfold DF;split<;>rfl
theorem kq {b:List AJ} (hs:KS b) (hz:Du b):∀d∈DF b,∀c∈d,c<256:=by
 unfold DF
 by_cases h:A0 b=0
 ·rw [if_pos h];exact fun d hd=>((ok17 hs hz h).1 d hd).1
 ·rw [if_neg h]
  intro d hd c hc
  simp at hd
  subst hd
  cases hc
def VZ (l:List AJ):Nat × List Nat:=if (D5 l).1=0 then K6 (D5 l).2 else ((D5 l).1,[])
theorem DU:Re Tryz.prog 34 25 4 (.slice none 0 0):=Re.mk' Tryz.underlying34 (by kernel_rfl) (by kernel_rfl) Tryz.underlying25 rfl
theorem LV {w:World} {vs:List Value} {S:List (List Nat)} (h:cj w vs S):∀u∈vs,u.oneCell'=true:=fun u hu=>by
 obtain ⟨i,hi⟩:=zGF hu
 have Aq:=(zAE.1 hi).1
 obtain ⟨d,hd⟩:∃d,S[i]? = some d:=⟨_,zAC (by rw [← h.len];exact Aq)⟩
 obtain ⟨p,c,e⟩:=(h.at_ i u d hi hd).shape
 subst e
 rfl
theorem V1 (w:World):cj w [.slice none 0 0,.slice none 0 0,.slice none 0 0,.slice none 0 0] [[],[],[],[]]:=
 ⟨rfl,fun i v d hv hd=>by
  match i with
  | 0=>simp at hv hd;subst hv hd;exact Rd.nil w 1
  | 1=>simp at hv hd;subst hv hd;exact Rd.nil w 1
  | 2=>simp at hv hd;subst hv hd;exact Rd.nil w 1
  | 3=>simp at hv hd;subst hv hd;exact Rd.nil w 1
  | i+4=>simp at hv⟩
structure lr (G:Nat) (T:World→Prop):Prop where
 keeps:∀{S:Nat→Prop} {w w':World},T w→Ac S w w'→(∀k,k<G→¬S k)→T w'
 low:∀{w:World},T w→G≤w.heap.size
 sections:∀(bv:Value) (b:List AJ) (w:World),T w→FU w bv b→Du b→KS b→
  Calls Tryz.prog 14 #[bv] w fun e w'=>∃vs:List Value,e = .returned (.tuple #[.agg vs.toArray,.int .i64 (A0 b:Int)])∧cj w' vs (DF b)∧Below w.heap.size w w'
 encode:∀(bv:Value) (b:List AJ) (w:World),T w→FU w bv b→Du b→KS b→
  Calls Tryz.prog 11 #[bv] w (YB w (K6 b))
 raw:∀(bv:Value) (b:List AJ) (w:World),T w→FU w bv b→Du b→Jn b→
  Calls Tryz.prog 18 #[bv] w (YB w (VZ b))
theorem lr.below {G:Nat} {T:World→Prop} (I:lr G T) {w w':World} (h:T w) (hb:Below w.heap.size w w'):T w':=I.keeps h (Ac.Ah hb (fun _=>False)) (fun _ _ h=>h)
theorem sZ (lv:Value) (l:List ByteArray) (w:World) (hl:Rd w 1 lv l.length (BM l)) (hs:∀s∈l,s.size≤9223372036854775807) :
  Calls Tryz.prog 50 #[lv] w fun e w'=>(e = .returned (.int .i64 1)∨(e = .returned (.int .i64 0)∧l.length≤500∧∀s∈l,s.size≤200000))∧Below w.heap.size w w':=by
 have HL:=zAA hl;have HS:=zAA hs
 obtain ⟨pl,cl,hv⟩:=hl.shape
 subst hv
 have Xi:(l.length:Int)≤9223372036854775807:=by have:=hl.le;unfold maxLen at this;omega
 clear hl hs
 go_enter Tryz.func50,Tryz.ntmps50
 go_wp2_with fail
 go_loopw [3,8] (fun nv iv wr=>∃(j N:Nat),j≤l.length∧N≤200000∧nv = .int .i64 (N:Int)∧iv = .int .i64 (j:Int)∧Hid ((j=0∨l.length≤500)∧∀s∈l.take j,s.size≤200000)∧Hid (Below w.heap.size w wr)) (fun _ iv _=>l.length-(intOf iv).toNat)
 case atStart=>exact ⟨0,0,zAJ _,zAJ _,rfl,rfl,⟨Or.inl rfl,by intro s hs;simp at hs⟩,zAM _ _⟩
 case round=>
  obtain ⟨j,N,hj,hN,rfl,rfl,HF,HB⟩:=hrel
  have hNi:(N:Int)≤200000:=by omega
  by_cases Aq:j<l.length
  ·have AF:(j:Int)<(l.length:Int):=by omega
   obtain ⟨b,off,c',e,_,_,_⟩:=HL.out.at (fun e=>by have:=congrArg List.length e;rw [BE] at this;simp at this;subst this;simp at Aq)
   simp only [zAN] at e
   obtain ⟨rfl,_,rfl⟩:=e
   obtain ⟨x,hx⟩:∃x,l[j]? = some x:=⟨_,zAC Aq⟩
   have Mt:wr.cell? ⟨b,off+j,none⟩=some (.string x):=by rw [← (zAE.1 hx).2];exact Gt (HL.out.below HB.out) Aq
   have HX:=zAA hx
   have hxm:(x.size:Int)≤9223372036854775807:=by have:=HS.out x (zAG hx);omega
   clear hx
   by_cases hz:(x.size:Int)≤200000
   ·by_cases hS:N+(1+x.size)≤200000
    ·have hS':¬(200000:Int)<(N:Int)+(1+(x.size:Int)):=by omega
     have hSm:(N:Int)+(1+(x.size:Int))≤200000:=by omega
     by_cases h5:l.length≤500
     ·have h5':¬(500:Int)<(l.length:Int):=by omega
      have ii:Hid ((j+1=0∨l.length≤500)∧∀s∈l.take (j+1),s.size≤200000):=by
       refine ⟨Or.inr h5,fun s hs=>?_⟩
       rw [zAL,HX.out] at hs
       rcases zBJ.1 hs with e | e
       ·exact HF.out.2 s e
       ·simp at e;subst e;omega
      have Rw:((N+(1+x.size):Nat):Int)=(N:Int)+(1+(x.size:Int)):=by omega
      have HCs:=zAA Rw
      have HH:Hid (N+(1+x.size)≤200000):=hS
      clear h5 hS Rw
      go_wp2_with fail
      go_round
      case rel=>exact ⟨j+1,N+(1+x.size),by omega,HH.out,by rw [HCs.out],by go_num,ii.out,HB.out⟩
      case measure=>simp [intOf];omega
     ·have h5':(500:Int)<(l.length:Int):=by omega
      clear h5 hS
      go_wp2_with fail
      go_ret
      exact ⟨Or.inl rfl,HB.out⟩
    ·have hS':(200000:Int)<(N:Int)+(1+(x.size:Int)):=by omega
     clear hS
     go_wp2_with fail
     go_ret
     exact ⟨Or.inl rfl,HB.out⟩
   ·have hz':(200000:Int)≤(x.size:Int):=by omega
    have hS':(200000:Int)<(N:Int)+200001:=by omega
    go_wp2_with fail
    go_ret
    exact ⟨Or.inl rfl,HB.out⟩
  ·have AF:¬(j:Int)<(l.length:Int):=by omega
   have HD:Hid (l.length≤500∧∀s∈l,s.size≤200000):=by
    have h:=HF.out
    rw [zAF (by omega)] at h
    refine ⟨?_,h.2⟩
    rcases h.1 with e | e<;>omega
   go_wp2_with fail
   go_ret
   exact ⟨Or.inr ⟨rfl,HD.out⟩,HB.out⟩
theorem s3 (lv:Value) (l:List AC) (w:World) (hl:Rd w 2 lv l.length (Am l)) (hs:YQ l) :
  Calls Tryz.prog 24 #[lv] w fun e w'=>(e = .returned (.int .i64 1)∨(e = .returned (.int .i64 0)∧l.length≤200∧∀s∈An l,s.size≤200000))∧Below w.heap.size w w':=by
 have HL:=zAA hl;have HS:=zAA hs
 obtain ⟨pl,cl,hv⟩:=hl.shape
 subst hv
 clear hl hs
 by_cases Aq:(200:Int)<(l.length:Int)
 ·go_enter Tryz.func24,Tryz.ntmps24
  go_wp2_with fail
  go_ret
  exact ⟨Or.inl rfl,zAM _ _⟩
 ·have HN:Hid (l.length≤200):=by show _≤_;omega
  have BH:=zAA (Ja _ l w HL.out (by omega))
  have lZ:Hid (∀s∈An l,s.size≤9223372036854775807):=fun s hs=>by
   obtain ⟨x,hx,h⟩:=zBZ.1 hs
   simp only [zAS,zCX,zGU] at h
   rcases h with rfl | rfl
   ·exact (HS.out x hx).1
   ·exact (HS.out x hx).2
  generalize An l=st at *
  go_enter Tryz.func24,Tryz.ntmps24
  go_wp2_with fail
  refine BH.out.mono ?_
  rintro e w2 ⟨r,rfl,hO⟩
  have AP:=zAA hO.AA
  have lL:=zAA (sZ _ st w2 hO.rd lZ.out)
  obtain ⟨p2,c2,hv⟩:=hO.shape
  subst hv
  clear hO BH
  go_wp2_with fail
  refine lL.out.mono ?_
  rintro e w3 ⟨he,hB⟩
  have BS:=zAA (AP.out.trans (hB.mono AP.out.size))
  rcases he with rfl | ⟨rfl,_,h6⟩
  ·go_wp2_with fail
   go_ret
   exact ⟨Or.inl rfl,BS.out⟩
  ·have H6:=zAA h6
   clear h6
   go_wp2_with fail
   go_ret
   exact ⟨Or.inr ⟨rfl,HN.out,H6.out⟩,BS.out⟩
def Ek (b:List AJ):List AC:=b.flatMap fun s=>s.1
def PO (b:List AJ):Nat:=(b.map fun s=>1+min s.2.length 3000).sum
theorem Zu {b:List AJ} {i:Nat} {s:AJ} (h:b[i]? = some s):Ek (b.take (i+1))=Ek (b.take i)++s.1:=by
 rw [Ek,zAL,h,zBO];simp [Ek]
theorem iN {b:List AJ} {i:Nat} {s:AJ} (h:b[i]? = some s):PO (b.take (i+1))=PO (b.take i)+(1+min s.2.length 3000):=by
 rw [PO,zAL,h,zCD,List.sum_append];simp [PO]
theorem Tt {b:List AJ} (h:PO b≤3000):Aw b≤3000:=by
 have key:∀b:List AJ,PO b≤3000→Aw b≤PO b:=by
  intro b
  induction b with
  | nil=>intro _;simp [Aw,PO]
  | cons s b ih=>
   intro h
   have e:PO (s::b)=1+min s.2.length 3000+PO b:=by simp [PO]
   rw [e] at h ⊢
   have:=ih (by omega)
   rw [Fn]
   omega
 exact zAW (key b h) h
theorem dq {b:List AJ} {s:AJ} {x:AC} (hs:s∈b) (hx:x∈s.1):x∈Ek b:=zBZ.2 ⟨s,hs,hx⟩
theorem s4 (bv:Value) (b:List AJ) (w:World) (hb:FU w bv b) (hz:Du b) :
  Calls Tryz.prog 9 #[bv] w fun e w'=>(e = .returned (.int .i64 1)∨(e = .returned (.int .i64 0)∧Jn b∧∀s∈b,∀x∈An s.1,x.size≤200000))∧Below w.heap.size w w':=by
 have H:=zAA hb;have HZ:=zAA hz
 obtain ⟨p,c,hv⟩:=hb.shape
 subst hv
 have hmx0:=hb.le
 clear hb hz
 go_enter Tryz.func9,Tryz.ntmps9
 go_wp2_with fail
 go_loopw [3,4,9] (fun nv vv iv wr=>∃(j N:Nat),j≤b.length∧N≤3000∧nv = .int .i64 (N:Int)∧iv = .int .i64 (j:Int)∧Hid ((j=0∨b.length≤300)∧(∀s∈b.take j,s.1.length≤200)∧PO (b.take j)=N∧(Ek (b.take j)).length≤200*j)∧Hid (wo w wr (Ek (b.take j)) vv)) (fun _ _ iv _=>b.length-(intOf iv).toNat)
 case atStart=>exact ⟨0,0,zAJ _,zAJ _,rfl,rfl,⟨Or.inl rfl,(by intro s hs;simp at hs),rfl,zAJ _⟩,ER.nil w⟩
 case round=>
  obtain ⟨j,N,hj,hN,rfl,rfl,HF,HO⟩:=hrel
  have hNi:(N:Int)≤3000:=by omega
  obtain ⟨pv,cv,DB⟩:=HO.out.shape
  subst DB
  by_cases Aq:j<b.length
  ·have AF:(j:Int)<(b.length:Int):=by omega
   obtain ⟨⟨ls,ss⟩,hx⟩:∃s,b[j]? = some s:=⟨_,zAC Aq⟩
   obtain ⟨AM,off,h1,h2,e,⟨p1,k1,e1⟩,⟨p2,k2,e2⟩,Ex⟩:=H.out.always hx
   subst e
   simp only at e1 e2
   subst e1
   subst e2
   obtain ⟨cl,cs,Jw⟩:=Ex wr HO.out.AA
   have YN:Hid (Rd wr 2 (.slice p1 ls.length k1) ls.length (Am ls)):=Jw.1
   have BH:=zAA (Zu hx)
   have lD:=zAA (iN hx)
   have HX:=zAA hx
   have gB:(ls.length:Int)≤9223372036854775807:=by have:=Jw.1.le;simp only at this;unfold maxLen at this;omega
   have qZ:(ss.length:Int)≤9223372036854775807:=by have:=Jw.2.le;simp only at this;unfold maxLen at this;omega
   clear hx Ex Jw
   by_cases hz:(ss.length:Int)≤3000
   ·by_cases hS:N+(1+ss.length)≤3000
    ·have hS':¬(3000:Int)<(N:Int)+(1+(ss.length:Int)):=by omega
     by_cases h5:b.length≤300
     ·have h5':¬(300:Int)<(b.length:Int):=by omega
      by_cases h6:ls.length≤200
      ·have h6':¬(200:Int)<(ls.length:Int):=by omega
       have ii:Hid ((j+1=0∨b.length≤300)∧(∀s∈b.take (j+1),s.1.length≤200)∧PO (b.take (j+1))=N+(1+ss.length)∧(Ek (b.take (j+1))).length≤200*(j+1)):=by
        refine ⟨Or.inr h5,fun s hs=>?_,?_,?_⟩
        ·rw [zAL,HX.out] at hs
         rcases zBJ.1 hs with e | e
         ·exact HF.out.2.1 s e
         ·simp at e;subst e;exact h6
        ·rw [lD.out,HF.out.2.2.1];simp only;omega
        ·rw [BH.out,zAB];have:=HF.out.2.2.2;simp only;omega
       have Vc:Hid ((Ek (b.take j)).length≤60000):=by show _≤_;have:=HF.out.2.2.2;omega
       have H6:Hid (ls.length≤200):=h6
       have Rw:((N+(1+ss.length):Nat):Int)=(N:Int)+(1+(ss.length:Int)):=by omega
       have HCs:=zAA Rw
       have HH:Hid (N+(1+ss.length)≤3000):=hS
       have hSm:(N:Int)+(1+(ss.length:Int))≤3000:=by omega
       clear h5 hS Rw h6 lD HX HF
       generalize Ek (b.take j)=D at *
       obtain ⟨dl,dz⟩:∃dl,D.length=dl:=⟨_,rfl⟩
       have Yc:=zAA dz
       rw [dz] at HO Vc ⊢
       clear dz
       have SD:Below wr.heap.size wr (wr.alloc (.cells #[.slice p1 ls.length k1,.slice p2 ss.length k2] 51)):=(Ac.alloc (fun _=>False) wr _).below (zAD _) (fun _ _ e=>e)
       have vM:=zAA (HO.out.below SD)
       have HSa:=zAA (YN.out.below SD)
       have FT:Hid ((wr.alloc (.cells #[.slice p1 ls.length k1,.slice p2 ss.length k2] 51)).ownsRow 0 108 2 (.slice pv dl cv) dl (Am D)):=by
        have h:=vM.out.Cz
        rw [Yc.out] at h
        exact h
       have C0:Hid ((dl+ls.length)*32≤140737488355328∧dl+ls.length≤maxLen):=by show _∧_;have:=Vc.out;have:=H6.out;unfold maxLen;omega
       have EQ:Hid ((wr.alloc (.cells #[.slice p1 ls.length k1,.slice p2 ss.length k2] 51)).heap.size=wr.heap.size+1):=by show _=_;simp
       clear SD HO YN
       go_wp2_with (at_builtin;refine At gg _ _ _ _ _ _ _ FT.out HSa.out (NW ls) C0.out rfl _ _ rfl rfl rfl ?_)
       intro v3 w3 m0 m1 f1
       rw [← EQ.out] at f1
       have Ew:Hid (wo w w3 (Ek (b.take (j+1))) v3):=by
        show wo _ _ _ _
        rw [BH.out]
        exact vM.out.extended (by rw [Yc.out];exact m0) m1 f1
       obtain ⟨p3,c3,UA⟩:=(Rd.Ad m0).shape
       subst UA
       clear m0 m1 f1 vM FT HSa
       go_wp2_with fail
       go_round
       case rel=>exact ⟨j+1,N+(1+ss.length),by omega,HH.out,by rw [HCs.out],by go_num,ii.out,Ew.out⟩
       case measure=>simp [intOf];omega
      ·have h6':(200:Int)<(ls.length:Int):=by omega
       have A6:Hid (Below w.heap.size w (wr.alloc (.cells #[.slice p1 ls.length k1,.slice p2 ss.length k2] 51))):=HO.out.AA.trans (((Ac.alloc (fun _=>False) wr _).below (zAD _) (fun _ _ e=>e)).mono HO.out.AA.size)
       have hSm:(N:Int)+(1+(ss.length:Int))≤3000:=by omega
       clear h5 hS h6
       go_wp2_with fail
       go_ret
       exact ⟨Or.inl rfl,A6.out⟩
     ·have h5':(300:Int)<(b.length:Int):=by omega
      have A6:Hid (Below w.heap.size w (wr.alloc (.cells #[.slice p1 ls.length k1,.slice p2 ss.length k2] 51))):=HO.out.AA.trans (((Ac.alloc (fun _=>False) wr _).below (zAD _) (fun _ _ e=>e)).mono HO.out.AA.size)
      have hSm:(N:Int)+(1+(ss.length:Int))≤3000:=by omega
      clear h5 hS
      go_wp2_with fail
      go_ret
      exact ⟨Or.inl rfl,A6.out⟩
    ·have hS':(3000:Int)<(N:Int)+(1+(ss.length:Int)):=by omega
     have A6:Hid (Below w.heap.size w (wr.alloc (.cells #[.slice p1 ls.length k1,.slice p2 ss.length k2] 51))):=HO.out.AA.trans (((Ac.alloc (fun _=>False) wr _).below (zAD _) (fun _ _ e=>e)).mono HO.out.AA.size)
     clear hS
     go_wp2_with fail
     go_ret
     exact ⟨Or.inl rfl,A6.out⟩
   ·have hz':(3000:Int)≤(ss.length:Int):=by omega
    have hS':(3000:Int)<(N:Int)+3001:=by omega
    have A6:Hid (Below w.heap.size w (wr.alloc (.cells #[.slice p1 ls.length k1,.slice p2 ss.length k2] 51))):=HO.out.AA.trans (((Ac.alloc (fun _=>False) wr _).below (zAD _) (fun _ _ e=>e)).mono HO.out.AA.size)
    go_wp2_with fail
    go_ret
    exact ⟨Or.inl rfl,A6.out⟩
  ·have AF:¬(j:Int)<(b.length:Int):=by omega
   have HD:Hid (Jn b):=by
    obtain ⟨f1,f2,f3,_⟩:=HF.out
    rw [zAF (by omega)] at f2 f3
    exact ⟨by rcases f1 with e | e<;>omega,Tt (by omega),f2⟩
   have hE:b.take j=b:=zAF (by omega)
   rw [hE] at HO ⊢
   have YG:Hid (YQ (Ek b)):=fun x hx=>by
    obtain ⟨s,hs,y9⟩:=zBZ.1 hx
    exact (HZ.out s hs).1 x y9
   have lL:=zAA (s3 _ (Ek b) wr HO.out.rd YG.out)
   have im:Hid (∀s∈b,∀x∈An s.1,x∈An (Ek b)):=fun s hs x hx=>by
    obtain ⟨y,hy,KH⟩:=zBZ.1 hx
    exact zBZ.2 ⟨y,dq hs hy,KH⟩
   have HB:=zAA HO.out.AA
   clear HF HO hE
   generalize Ek b=D at *
   go_wp2_with fail
   refine lL.out.mono ?_
   rintro e w2 ⟨he,hB⟩
   have AP:=zAA (HB.out.trans (hB.mono HB.out.size))
   clear hB
   rcases he with rfl | ⟨rfl,_,h6⟩
   ·go_wp2_with fail
    go_ret
    exact ⟨Or.inl rfl,AP.out⟩
   ·have H6:Hid (∀s∈b,∀x∈An s.1,x.size≤200000):=fun s hs x hx=>h6 x (im.out s hs x hx)
    clear h6
    go_wp2_with fail
    go_ret
    exact ⟨Or.inr ⟨rfl,HD.out,H6.out⟩,AP.out⟩
end Go.Proofs.YtdcgbgecbeegmaaGreatDoor
end
section
namespace Go.Proofs.YtdcgbgecbeegmaaGreatDoor.encodeSections
open Go Go.RowKit
section
variable {G:Nat} {T:World→Prop}
theorem walk (I:lr G T) (Ex:∀w,T w→Calls Tryz.prog 10 #[] w fun e w'=>e = .returned (.bool true)∧Below w.heap.size w w')
  (w:World) (hT:T w) (bv:Value) (b:List AJ) (okb:Du b) (hb:FU w bv b) :
  Calls Tryz.prog 4 #[bv] w fun e w'=>e = .returned (.bool true)∧Below w.heap.size w w':=by
 have qJ:=zAA hT;have HAL:=zAA Ex
 have Hb0:=zAA hb;have Zb:=zAA okb
 obtain ⟨pb,cb,hv⟩:=hb.shape
 subst hv
 clear hT Ex hb okb
 have T8:=zAA (zAM w.heap.size w)
 go_enter Tryz.func4,Tryz.ntmps4
 go_wp2_with fail
 refine (s4 _ b _ Hb0.out Zb.out).mono ?_
 rintro e w1 ⟨he,hB⟩
 have A6:=zAA (T8.out.trans (hB.mono T8.out.size))
 have JL:=zAA (I.below qJ.out hB)
 have Hb1:=zAA (Hb0.out.below hB)
 clear hB T8 qJ Hb0
 rcases he with rfl | ⟨rfl,qZ,_⟩
 ·have:=trivial
  go_wp2_with fail
  refine (HAL.out _ JL.out).mono ?_
  rintro e w2 ⟨rfl,hB⟩
  have AP:=zAA (A6.out.trans (hB.mono A6.out.size))
  have GA:=zAA (I.below JL.out hB)
  have Hb2:=zAA (Hb1.out.below hB)
  clear hB A6 JL Hb1
  go_wp2_with fail
  go_ret
  exact ⟨rfl,AP.out⟩
 ·have Mb:=zAA qZ
  clear qZ
  have Wr:=zAA (fun w' (hT:T w') (hR:FU w' (.slice pb b.length cb) b)=>I.sections _ b w' hT hR Zb.out Mb.out.mid)
  have Rh:=zAA (fun w' (hR:FU w' (.slice pb b.length cb) b)=>aL _ b w' hR Mb.out.mid Zb.out)
  have Vf:=zAA (kq Mb.out.mid Zb.out);have H4o:=zAA (Q6 b)
  have Nr:Hid (DF b=if A0 b=0 then C5 b else [[],[],[],[]]):=rfl
  have RP:Hid (A0 b=0→∀w',FU w' (.slice pb b.length cb) b→Calls Tryz.prog 17 #[.slice pb b.length cb] w' fun e w''=>∃vs:List Value,e = .returned (.agg vs.toArray)∧cj w'' vs (DF b)∧Below w'.heap.size w' w''):=fun hc w' hR=>by
   rw [Nr.out,if_pos hc]
   exact To _ b w' hR Mb.out.mid Zb.out
  generalize DF b=O at *
  obtain ⟨ck,TZ⟩:∃ck,A0 b=ck:=⟨_,rfl⟩
  rw [TZ] at Wr Rh Nr RP
  clear TZ
  go_wp2_with fail
  refine (Wr.out _ JL.out Hb1.out).mono ?_
  rintro e w3 ⟨vs,rfl,hS,hB⟩
  have AP:=zAA (A6.out.trans (hB.mono A6.out.size))
  have GA:=zAA (I.below JL.out hB)
  have Hb2:=zAA (Hb1.out.below hB)
  clear hB A6 JL Hb1
  have HS2:=zAA hS
  have HV4:Hid (vs.length=4):=hS.len.trans H4o.out
  have KQ:Hid (∀u∈vs,u.oneCell'=true):=LV hS
  clear hS
  go_wp2_with (refine LG DU rfl rfl rfl _ _ rfl vs rfl rfl HV4.out KQ.out ?_;intro wv hk hB hs)
  have BS:=zAA (AP.out.trans (hB.mono AP.out.size))
  have ir:=zAA (I.below GA.out hB)
  have Hb3:=zAA (Hb2.out.below hB)
  have Fu:=zAA (HS2.out.below hB)
  clear hB AP GA Hb2 HS2
  have GF:=zAA hk
  obtain ⟨g,hg⟩:∃g,w3.heap.size=g:=⟨_,rfl⟩
  rw [hg] at GF ⊢
  clear hk hs hg
  try go_wp2_with fail
  refine (Rh.out _ Hb3.out).mono ?_
  rintro e w4 ⟨rfl,hB⟩
  have CF:=zAA (BS.out.trans (hB.mono BS.out.size))
  have bZ:=zAA (I.below ir.out hB)
  have Hb4:=zAA (Hb3.out.below hB)
  have JK:=zAA (Fu.out.below hB)
  have KP:=zAA (GF.out.of_same (hB.block _ GF.out.lt))
  clear hB BS ir Hb3 Fu GF
  by_cases h0:ck=0
  ·subst h0
   have rh:=zAA (RP.out rfl)
   clear RP Nr Rh Wr
   have HKs:Hid (∀w':World,Ao w' g vs→Ao w' g vs∧True∧True):=fun _ h=>⟨h,trivial,trivial⟩
   have Nn:Hid (Below w4.heap.size w4 w4.drew):=⟨rfl,rfl,rfl,zAD _,fun _ _=>rfl⟩
   go_wp2_with fail
   refine AI (fun w':World=>Ao w' g vs) [0,8,9] [0,1,2,3,4,5,6,7,8,9,10,11] (by kernel_rfl) (by kernel_rfl) (by kernel_rfl) ?_ ?_ ?_
   ·intro c a a' w' hd h;exact ⟨hd ▸ h.1,h.2⟩
   ·exact KP.out
   simp only [Cj,zBC,zCP,zBE,zAY,zBM]
   have hB:=Nn.out
   have KC:=zAA (CF.out.trans (hB.mono CF.out.size))
   have l5:=zAA (I.below bZ.out hB)
   have Hb5:=zAA (Hb4.out.below hB)
   have iq:=zAA (JK.out.below hB)
   have Ve:=zAA (KP.out.of_same (hB.block _ KP.out.lt))
   clear hB CF bZ Hb4 JK KP
   clear Nn
   refine AY rfl rfl (fun K' hK'=>?_)
   go_wp2_with fail
   refine (HAL.out _ l5.out).mono ?_
   rintro e w5 ⟨rfl,hB⟩
   have Jl:=zAA (KC.out.trans (hB.mono KC.out.size))
   have HT6:=zAA (I.below l5.out hB)
   have Hb6:=zAA (Hb5.out.below hB)
   have Dc:=zAA (iq.out.below hB)
   have Yf:=zAA (Ve.out.of_same (hB.block _ Ve.out.lt))
   clear hB KC l5 Hb5 iq Ve
   refine hK' _ _ Yf.out ?_
   clear hK' K'
   repeat (first
        | (refine takeH_skip rfl ?_; simp only [Act.put, List.setIfInBounds_toArray, List.set_cons_succ, List.set_cons_zero])
        | (refine takeH_blind rfl rfl ?_; apply Exists.intro; refine ⟨fun w => ?_, ?_⟩; (go_simp; try with_reducible rfl); simp only [Act.put, List.setIfInBounds_toArray, List.set_cons_succ, List.set_cons_zero])
        | (refine takeH_reads rfl rfl ?_; apply Exists.intro; refine ⟨fun w' hS => ?_, ?_⟩; (obtain ⟨d0, d1, d2⟩ := HKs.out w' hS; go_simp; try with_reducible rfl); simp only [Act.put, List.setIfInBounds_toArray, List.set_cons_succ, List.set_cons_zero]))
   refine Gx rfl rfl (.agg vs.toArray) (fun w' h=>Su DU _ rfl rfl h HV4.out) ?_
   simp only [Act.put,zAZ,zBT,zBL]
   repeat (first
        | (refine takeH_skip rfl ?_; simp only [Act.put, List.setIfInBounds_toArray, List.set_cons_succ, List.set_cons_zero])
        | (refine takeH_blind rfl rfl ?_; apply Exists.intro; refine ⟨fun w => ?_, ?_⟩; (go_simp; try with_reducible rfl); simp only [Act.put, List.setIfInBounds_toArray, List.set_cons_succ, List.set_cons_zero])
        | (refine takeH_reads rfl rfl ?_; apply Exists.intro; refine ⟨fun w' hS => ?_, ?_⟩; (obtain ⟨d0, d1, d2⟩ := HKs.out w' hS; go_simp; try with_reducible rfl); simp only [Act.put, List.setIfInBounds_toArray, List.set_cons_succ, List.set_cons_zero]))
   refine AY rfl rfl (fun K' hK'=>?_)
   go_wp2_with fail
   refine (rh.out _ Hb6.out).mono ?_
   rintro e w6 ⟨us,rfl,hU,hB⟩
   have Vb:=zAA (Jl.out.trans (hB.mono Jl.out.size))
   have HT7:=zAA (I.below HT6.out hB)
   have Hb7:=zAA (Hb6.out.below hB)
   have HS7:=zAA (Dc.out.below hB)
   have HK7:=zAA (Yf.out.of_same (hB.block _ Yf.out.lt))
   clear hB Jl HT6 Hb6 Dc Yf
   have HU7:=zAA hU
   clear hU
   refine hK' _ _ HK7.out ?_
   clear hK' K'
   repeat (first
        | (refine takeH_skip rfl ?_; simp only [Act.put, List.setIfInBounds_toArray, List.set_cons_succ, List.set_cons_zero])
        | (refine takeH_blind rfl rfl ?_; apply Exists.intro; refine ⟨fun w => ?_, ?_⟩; (go_simp; try with_reducible rfl); simp only [Act.put, List.setIfInBounds_toArray, List.set_cons_succ, List.set_cons_zero])
        | (refine takeH_reads rfl rfl ?_; apply Exists.intro; refine ⟨fun w' hS => ?_, ?_⟩; (obtain ⟨d0, d1, d2⟩ := HKs.out w' hS; go_simp; try with_reducible rfl); simp only [Act.put, List.setIfInBounds_toArray, List.set_cons_succ, List.set_cons_zero]))
   refine AY rfl rfl (fun K' hK'=>?_)
   go_wp2_with fail
   refine (Tn vs us O O _ HS7.out HU7.out H4o.out H4o.out Vf.out Vf.out).mono ?_
   rintro e w7 ⟨rfl,hB⟩
   have qD:=zAA (Vb.out.trans (hB.mono Vb.out.size))
   have HT8:=zAA (I.below HT7.out hB)
   have Hb8:=zAA (Hb7.out.below hB)
   have HS8:=zAA (HS7.out.below hB)
   have HU8:=zAA (HU7.out.below hB)
   have HK8:=zAA (HK7.out.of_same (hB.block _ HK7.out.lt))
   clear hB Vb HT7 Hb7 HS7 HU7 HK7
   rw [zBA (rfl:O=O)]
   refine hK' _ _ HK8.out ?_
   clear hK' K'
   repeat (first
        | (refine takeH_skip rfl ?_; simp only [Act.put, List.setIfInBounds_toArray, List.set_cons_succ, List.set_cons_zero])
        | (refine takeH_blind rfl rfl ?_; apply Exists.intro; refine ⟨fun w => ?_, ?_⟩; (go_simp; try with_reducible rfl); simp only [Act.put, List.setIfInBounds_toArray, List.set_cons_succ, List.set_cons_zero])
        | (refine takeH_reads rfl rfl ?_; apply Exists.intro; refine ⟨fun w' hS => ?_, ?_⟩; (obtain ⟨d0, d1, d2⟩ := HKs.out w' hS; go_simp; try with_reducible rfl); simp only [Act.put, List.setIfInBounds_toArray, List.set_cons_succ, List.set_cons_zero]))
   refine Bv ?_
   go_wp2_with fail
   go_ret
   exact ⟨rfl,qD.out⟩
  ·have gm:((ck:Int) != 0)=true:=by rw [bne_iff_ne];omega
   have HOe:Hid (O=[[],[],[],[]]):=by show _=_;rw [Nr.out,if_neg h0]
   clear RP Nr h0
   go_wp2_with fail
   refine (HAL.out _ bZ.out).mono ?_
   rintro e w8 ⟨rfl,hB⟩
   have KC:=zAA (CF.out.trans (hB.mono CF.out.size))
   have l5:=zAA (I.below bZ.out hB)
   have Hb5:=zAA (Hb4.out.below hB)
   have iq:=zAA (JK.out.below hB)
   have Ve:=zAA (KP.out.of_same (hB.block _ KP.out.lt))
   clear hB CF bZ Hb4 JK KP
   go_wp2_with (refine Ya DU rfl _ rfl g rfl _ Ve.out HV4.out ?_)
   refine (Tn vs [.slice none 0 0,.slice none 0 0,.slice none 0 0,.slice none 0 0] O [[],[],[],[]] _ iq.out (V1 _) H4o.out rfl Vf.out (by simp)).mono ?_
   rw [zBA HOe.out]
   rintro e w9 ⟨rfl,hB⟩
   have Jl:=zAA (KC.out.trans (hB.mono KC.out.size))
   have HT6:=zAA (I.below l5.out hB)
   have Hb6:=zAA (Hb5.out.below hB)
   have Dc:=zAA (iq.out.below hB)
   have Yf:=zAA (Ve.out.of_same (hB.block _ Ve.out.lt))
   clear hB KC l5 Hb5 iq Ve
   go_wp2_with fail
   go_ret
   exact ⟨rfl,Jl.out⟩
end
end Go.Proofs.YtdcgbgecbeegmaaGreatDoor.encodeSections
end
