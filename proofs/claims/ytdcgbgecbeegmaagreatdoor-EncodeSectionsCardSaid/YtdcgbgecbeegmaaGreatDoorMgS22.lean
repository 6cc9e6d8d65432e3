/- Texts 22. -/
import Derived.Test.YtdcgbgecbeegmaaGreatDoorMgSA
import Derived.Test.YtdcgbgecbeegmaaGreatDoorMgS21
import Derived.Shelf.SlSortCmp.QuietGrown
import Derived.RangeFuncNested
import Derived.RangeFuncBound
import Derived.RangeFuncCalls
import Derived.RangeFuncLeaves
import Derived.RangeFuncBox
import Derived.OwnWalkIn
import Derived.Shelf.Abstract
import Derived.TacticsInMore
import Derived.LoopNIn
import Derived.LoopIn
import Derived.OrdersIn
import Derived.Deep.MidRow
set_option linter.unusedVariables false
set_option linter.unusedSimpArgs false
set_option maxHeartbeats 400000000
set_option maxRecDepth 100000
section
namespace Go.Proofs.YtdcgbgecbeegmaaGreatDoor
open Go Go.RowKit
structure ci (w:World) (v:Value) (m:List (List AC)):Prop where
 ex:∃hs:List Value,Rd w 1 v hs.length hs∧hs.length=m.length∧∀(i:Nat) (h:Value) (l:List AC),hs[i]? = some h→m[i]? = some l→Rd w 2 h l.length (Am l)
theorem ci.shape {w:World} {v:Value} {m:List (List AC)} (k:ci w v m):∃p c,v = .slice p m.length c:=by
 obtain ⟨hs,h1,h2,_⟩:=k.ex
 rw [← h2]
 exact h1.shape
theorem ci.always {w:World} {p:Option Addr} {n c:Nat} {m:List (List AC)} (k:ci w (.slice p n c) m) {i:Nat} {l:List AC} (hi:m[i]? = some l) :
  ∃AM off p1 c1,p=some ⟨AM,off,none⟩∧∀w',Below w.heap.size w w'→w'.cell? ⟨AM,off+i,none⟩=some (.slice p1 l.length c1)∧Rd w' 2 (.slice p1 l.length c1) l.length (Am l):=by
 obtain ⟨hs,h1,h2,h3⟩:=k.ex
 have Aq:=(zAE.1 hi).1
 obtain ⟨h,hh⟩:∃h,hs[i]? = some h:=⟨_,zAC (by omega)⟩
 have hr:=h3 i h l hh hi
 obtain ⟨p1,c1,rfl⟩:=hr.shape
 obtain ⟨b,off,c',e,_,_,hc⟩:=h1.at (fun e=>by rw [e] at hh;simp at hh)
 simp only [zAN] at e
 have Aj:=hc i _ hh
 exact ⟨b,off,p1,c1,e.1,fun w' hb=>⟨(hb.cell (zAP w _ Aj)).trans Aj,hr.below hb⟩⟩
theorem aG {w:World} {p:Option Addr} {n c m:Nat} {l:List AC} (h:Rd w 2 (.slice p n c) m (Am l)) {k:Nat} {x:AC} (hx:l[k]? = some x) :
  ∃AM off,p=some ⟨AM,off,none⟩∧∀w',Below w.heap.size w w'→w'.cell? ⟨AM,off+k*2,none⟩=some (.string x.1)∧w'.cell? ⟨AM,off+k*2+1,none⟩=some (.string x.2):=by
 obtain ⟨g0,g1⟩:=Xt l k x.1 x.2 hx
 obtain ⟨b,off,c',e,_,_,hc⟩:=h.at (fun e=>by rw [e] at g0;cases g0)
 simp only [zAN] at e
 have c0:=hc _ _ g0
 have c1:=hc _ _ g1
 rw [← zDH] at c1
 exact ⟨b,off,e.1,fun w' hb=>⟨(hb.cell (zAP w _ c0)).trans c0,(hb.cell (zAP w _ c1)).trans c1⟩⟩
theorem Tryz.infoI64:(Tryz.prog.info? 2).map (fun i=>(i.zero,i.size,i.bytes))=some (some (.int .i64 0),1,8):=by kernel_rfl
theorem Tryz.rY:Cd Tryz.prog 112 2 1 8:=Cd.mk' Tryz.underlying112 Tryz.infoI64 rfl (by decide)
def FA (l:List Bool) (j k:Nat):Nat:=(List.range k).foldl (fun c k=>c*2+(l.getD (8*j+k) false).toNat) 0
theorem Mo (l:List Bool) (j k:Nat):FA l j (k+1)=FA l j k*2+(l.getD (8*j+k) false).toNat:=by simp [FA,zEU]
theorem Y0 (l : List Bool) (j k : Nat) (hk : k ≤ 8) : FA l j k < 256 := by
  have : FA l j k < 2 ^ k := by
    clear hk
    induction k with
    | zero => simp [FA]
    | succ k ih => rw [Mo, zDS]; have : (l.getD (8 * j + k) false).toNat ≤ 1 := by cases l.getD (8 * j + k) false <;> simp
                   omega
  have h2 : 2 ^ k ≤ 2 ^ 8 := zDV (by omega) hk
  omega
theorem Tb (l:List Bool) (j:Nat) (h:j<(l.length+7) / 8):(Bi l).take (j+1)=(Bi l).take j++[BV l j]:=by
 rw [zAL,Ta l j h];rfl
theorem pQ (v:Value) (bs:List Bool) (w:World) (h:Rd w 1 v bs.length (PM bs)) (hb:bs.length≤70368744177664) :
  Calls Tryz.prog 75 #[v] w fun e w'=>∃r,e = .returned r∧MI w w' 5 1 r (Bi bs).length (B9 (Bi bs)):=by
 obtain ⟨i0,hi,Xn,By,Co⟩:=zGX Tryz.infoU8
 have Aj:∀j (hj:j<bs.length),∃b off c,v = .slice (some ⟨b,off,none⟩) bs.length c∧w.cell? ⟨b,off+j,none⟩=some (.bool bs[j])∧b<w.heap.size:=fun j hj=>by
  obtain ⟨b,off,c,hv,_,_,hc⟩:=h.at (fun e=>by have:=congrArg List.length e;rw [Sf] at this;simp at this;subst this;simp at hj)
  have hc':=hc j _ (rT bs j hj)
  exact ⟨b,off,c,hv,hc',zAP w _ hc'⟩
 have HC:=zAA Aj
 obtain ⟨p,c,hv⟩:=h.shape
 subst hv
 clear h Aj
 go_enter Tryz.func75,Tryz.ntmps75
 go_wp2
 go_loopw [3,4] (fun out i wr=>∃j:Nat,j≤(bs.length+7) / 8∧i = .int .i64 ((8*j:Nat):Int)∧wr.ownsRow w.heap.size 5 1 out j (B9 ((Bi bs).take j))∧Below w.heap.size w wr) (fun _ i _=>bs.length+8-(intOf i).toNat)
 case atStart=>exact ⟨0,zAJ _,rfl,by simpa [B9] using zBI _ _ _ _,zAM _ _⟩
 case round=>
  obtain ⟨j,hj,rfl,Au,hB⟩:=hrel
  by_cases Aq:8*j<bs.length
  ·have AF:((8*j:Nat):Int)<(bs.length:Int):=by omega
   have HO:=zAA Au;have HB:=zAA hB;clear Au hB
   go_wp2
   go_loop [5,6] (fun c k=>∃i:Nat,i≤8∧k = .int .i64 i∧c = .int .i64 (FA bs j i)) (fun _ k=>8-(intOf k).toNat)
   case atStart=>exact ⟨0,by omega,rfl,rfl⟩
   case round=>
    obtain ⟨i,hi8,rfl,rfl⟩:=hrel
    by_cases hi8':i<8
    ·have hc:=Y0 bs j i hi8
     have HS:=zAA (Mo bs j i)
     by_cases Ct:8*j+i<bs.length
     ·have hin':((8*j:Nat):Int)+(i:Int)<(bs.length:Int):=by omega
      obtain ⟨b,off,c',hv,Aj,ZD⟩:=HC.out _ Ct
      simp only [zAN] at hv
      obtain ⟨rfl,_,rfl⟩:=hv
      have gq:wr.cell? ⟨b,off+(8*j+i),none⟩=some (.bool bs[8*j+i]):=(HB.out.cell (p:=⟨b,off+(8*j+i),none⟩) ZD).trans Aj
      have BT:bs.getD (8*j+i) false=bs[8*j+i]:=by simp [List.getD,Ct]
      rw [BT] at HS
      clear Aj BT ZD
      generalize bs[8*j+i]=x at *
      cases x with
      | true=>
       go_wp2
       go_round
       case rel=>exact ⟨i+1,by omega,by go_num,by rw [HS.out];go_num⟩
       case measure=>simp [intOf];omega
      | false=>
       go_wp2
       go_round
       case rel=>exact ⟨i+1,by omega,by go_num,by rw [HS.out];go_num⟩
       case measure=>simp [intOf];omega
     ·have hin':¬((8*j:Nat):Int)+(i:Int)<(bs.length:Int):=by omega
      have BT:bs.getD (8*j+i) false=false:=As bs _ (by omega)
      rw [BT] at HS
      clear BT
      go_wp2
      go_round
      case rel=>exact ⟨i+1,by omega,by go_num,by rw [HS.out];go_num⟩
      case measure=>simp [intOf];omega
    ·obtain rfl:i=8:=by omega
     have hc:=LM bs j
     have hb8:FA bs j 8=BV bs j:=rfl
     rw [hb8]
     clear hb8
     have HT:=zAA (Tb bs j (by omega))
     have HL:Hid (((Bi bs).take j).length=j):=by show _=_;rw [zAR,A9];omega
     have hLb:(j+1)*1≤140737488355328∧j+1≤maxLen:=by unfold maxLen;omega
     have C0:=zAA hLb;clear hLb
     go_wp2_with (at_builtin;refine AD Tryz.CG wr #[.int .u8 (BV bs j)] _ _ _ (Af HO.out (fun _ _=>zAJ _)) rfl (CC _ rfl) C0.out rfl _ _ rfl rfl rfl ?_)
     intro v' w1 ZK AU DK
     have HR:Hid (w1.ownsRow w.heap.size 5 1 v' (j+1) (B9 ((Bi bs).take (j+1)))∧Below w.heap.size w w1):=by
      refine ⟨?_,HB.out.trans (AU.below HB.out.size (fun k hk e=>by have:=(HO.out.lt k e).1;omega))⟩
      rw [HT.out,Cb]
      exact Af ZK (fun k hk=>by
       rcases DK k hk with e | e
       ·exact (HO.out.lt k e).1
       ·have:=HB.out.size;omega)
     clear ZK AU DK HO HB HT HL C0
     go_wp2
     go_roundw
     case rel=>exact ⟨j+1,by omega,by go_num,HR.out.1,HR.out.2⟩
     case measure=>simp [intOf];omega
  ·obtain rfl:j=(bs.length+7) / 8:=by omega
   go_wp2
   go_ret
   refine ⟨_,rfl,?_,hB⟩
   rw [zAF (by rw [A9];exact zAD _)] at Au
   rw [A9];exact Au
theorem ke (s:ByteArray) (hs:s.size≤140737488353000) (w:World) :
  Calls Tryz.prog 77 #[.string s] w fun e w'=>∃r,e = .returned r∧MI w w' 5 1 r (bytesOf (A8 s)).length (B9 (bytesOf (A8 s))):=by
 have jw:=AE (x:=s.size) (by omega)
 have HL:Hid (((Ab s.size).length+s.size)*1≤140737488355328∧(Ab s.size).length+s.size≤maxLen):=by show _∧_;unfold maxLen;omega
 have HW:Hid (bytesOf (A8 s)=Ab s.size++A8 s):=by show _=_;rw [bytesOf,Cu]
 have hw:IntKind.u64.wrap (s.size:Int)=(s.size:Int):=by rw [zBB];omega
 go_enter Tryz.func77,Tryz.ntmps77
 go_wp2_with fail
 refine (DE s.size (by omega) _).mono ?_
 rintro e w1 ⟨r,rfl,hM⟩
 obtain ⟨p,c,hr⟩:=(Rd.Ad hM.1).shape
 subst hr
 have HO:Hid (w1.ownsRow 0 5 1 (.slice p (Ab s.size).length c) (Ab s.size).length (B9 (Ab s.size))):=Af hM.1 (fun _ _=>zAJ _)
 have HF:Hid (∀k,(Value.slice p (Ab s.size).length c).ownBlock=some k→w.heap.size≤k):=fun k hk=>(hM.1.lt k hk).1
 have HB:=zAA hM.2
 clear hM
 go_wp2_with (at_builtin;refine Fh Tryz.CG Tryz.underlying9 _ _ _ _ HO.out s HL.out rfl _ _ rfl rfl rfl ?_)
 intro v2 w2 Au AU DK
 have Ni:Hid (MI w w2 5 1 v2 (bytesOf (A8 s)).length (B9 (bytesOf (A8 s)))):=by
  refine ⟨?_,HB.out.trans (AU.below HB.out.size (fun k hk e=>by have:=HF.out k e;omega))⟩
  have h2:=Af Au (base':=w.heap.size) (fun k hk=>by
   rcases DK k hk with e | e
   ·exact HF.out k e
   ·have:=HB.out.size;omega)
  rw [HW.out,zAB,Cu,Cb]
  exact h2
 clear Au AU DK
 go_wp2_with fail
 go_ret
 exact ⟨_,rfl,Ni.out⟩
structure EV (w:World) (o:Nat × List Nat) (e:Ending) (w':World):Prop where
 res:∃r,e = .returned (.tuple #[r,.int .i64 (o.1:Int)])∧w'.ownsRow w.heap.size 5 1 r o.2.length (B9 o.2)
 AA:Below w.heap.size w w'
theorem EV.got {w w':World} {o:Nat × List Nat} {e:Ending} (h:EV w o e w'):YB w o e w':=by
 obtain ⟨r,h1,h2⟩:=h.res
 exact ⟨⟨r,h1,Rd.Ad h2,fun k hk=>(h2.lt k hk).1⟩,h.AA⟩
theorem EV.Ep {w w':World} {o:Nat × List Nat} {en:Nat} (h:Below w.heap.size w w') (ho:o=(en,[])):EV w o (.returned (.tuple #[.slice none 0 0,.int .i64 (en:Int)])) w':=by
 subst ho
 exact ⟨⟨_,rfl,zBI _ _ _ _⟩,h⟩
def Ck (w w':World):Prop:=∃q os,w'=Go.Sort.grow (w.drewN q) os
theorem Ck.refl (w:World):Ck w w:=⟨0,#[],by rw [Go.Sort.grow_empty];rfl⟩
theorem Ck.trans {a b c:World} (h:Ck a b) (k:Ck b c):Ck a c:=by
 obtain ⟨q,os,rfl⟩:=h
 obtain ⟨r,ps,rfl⟩:=k
 exact ⟨q+r,os++ps,by show Go.Sort.grow (Go.Sort.grow ((a.drewN q).drewN r) os) ps=_;rw [Go.Sort.grow_grow,World.drewN_drewN]⟩
theorem Ck.alloc {a b:World} (h:Ck a b) (o:Obj):Ck a (b.alloc o):=h.trans ⟨0,#[o],by rw [Go.Sort.alloc_eq_grow];rfl⟩
theorem Ck.drew {a b:World} (h:Ck a b):Ck a b.drew:=h.trans ⟨1,#[],by rw [Go.Sort.grow_empty];rfl⟩
theorem Ck.drewN {a b:World} (h:Ck a b) (n:Nat):Ck a (b.drewN n):=h.trans ⟨n,#[],by rw [Go.Sort.grow_empty]⟩
theorem Ck.grow {a b:World} (h:Ck a b) (n:Nat) (os:Array Obj):Ck a (Go.Sort.grow (b.drewN n) os):=h.trans ⟨n,os,rfl⟩
theorem Ck.below {w w':World} (h:Ck w w'):Below w.heap.size w w':=by
 obtain ⟨q,os,rfl⟩:=h
 exact ⟨rfl,rfl,rfl,by rw [Go.Sort.size_grow];exact Nat.le_add_right _ _,fun k hk=>Go.Sort.heap_grow_old (w.drewN q) os hk⟩
theorem Ck.AM {w w':World} (h:Ck w w') {b:Nat} {cs:List Value} (hb:Ao w b cs):Ao w' b cs:=hb.of_same (h.below.block b hb.lt)
theorem Rd.FQ {w:World} {b n:Nat} {vs:List Value} {sz:Nat} (h:Ao w b vs) (hl:vs.length=n*sz) (hn:n≤maxLen):Rd w sz (.slice (some ⟨b,0,none⟩) n n) n vs:=by
 refine ⟨_,_,rfl,hl,zAD _,hn,(fun e=>by cases e),fun ad e j u hu=>?_⟩
 cases e
 have e:(⟨b,0,none⟩:Addr).add j=⟨b,j,none⟩:=by unfold Addr.add;split<;>simp_all
 rw [e,h.cell]
 exact hu
theorem Gh {P:Program} {c:Code} {Q:Exit→Act→World→Prop} {a:Act} {w:World} (h:c.wp P (fun e a w=>e = .normal∧Q .normal a w) a w):c.wp P Q a w:=wp_mono h (fun _ _ _ h=>h.1 ▸ h.2)
theorem Ao.three {w:World} {g:Nat} {a b c:Value} (h:Ao w g [a,b,c]):(w.cell? ⟨g,0,none⟩=some a∧w.cell? ⟨g,1,none⟩=some b∧w.cell? ⟨g,2,none⟩=some c)∧(w.frozen? ⟨g,0,none⟩=false∧w.frozen? ⟨g,1,none⟩=false∧w.frozen? ⟨g,2,none⟩=false):=
 ⟨⟨by rw [h.cell];rfl,by rw [h.cell];rfl,by rw [h.cell];rfl⟩,h.free 0,h.free 1,h.free 2⟩
theorem Ao.fi {w:World} {g:Nat} {a b c:Value} (h:Ao w g [a,b,c]) (x y z:Value):Ao (((w.setCell ⟨g,0,none⟩ x).setCell ⟨g,1,none⟩ y).setCell ⟨g,2,none⟩ z) g [x,y,z]:=by
 simpa using ((h.set 0 x).set 1 y).set 2 z
theorem Er (w:World) (g:Nat) (x y z:Value):Ac (fun k=>k=g) w (((w.setCell ⟨g,0,none⟩ x).setCell ⟨g,1,none⟩ y).setCell ⟨g,2,none⟩ z):=
 ((Ac.set (fun k=>k=g) w ⟨g,0,none⟩ x (fun _=>rfl)).trans (Ac.set (fun k=>k=g) _ ⟨g,1,none⟩ y (fun _=>rfl)) (fun _ _ e=>e)).trans (Ac.set (fun k=>k=g) _ ⟨g,2,none⟩ z (fun _=>rfl)) (fun _ _ e=>e)
end Go.Proofs.YtdcgbgecbeegmaaGreatDoor
end
section
namespace Go.Proofs.YtdcgbgecbeegmaaGreatDoor
open Go Go.RowKit Go.Shelf
theorem N6 {P:Program} {l n:Nat} {o:Oper} {a:Act} {w:World} {next next':Act→World→Prop} {Q:Exit→Act→World→Prop} (hd:∀c,o.op≠.defer c) (hn:∀a w,next a w→next' a w) (hQ:¬LetsOut Q)
  (h:o.wp P a w next Q):o.wpIn (Fence.wide.inRound l) n P a w next' Q:=by
 refine ⟨fun _ _=>trivial,?_⟩
 show o.uponIn _ n P a next' Q ((o.semAt (some l) a.eval).run P w)
 rw [Oper.semAt_some l a.eval o hd]
 unfold Oper.wp at h
 have nh:(Fence.wide.inRound l).depth.isSome=true→1≤n:=fun h=>by cases h
 revert h
 generalize (execOp a.eval o).run P w=r
 intro h
 cases r with
 | ok v w1=>
  cases v with
  | value v=>exact hn _ _ h
  | skip=>exact hn _ _ h
  | defer d=>exact hn _ _ h
  | enter f args=>
   refine ⟨nh,CallsIn.inRound l (zCQ.2 (zCU h ?_))⟩
   intro e w2 h2
   cases e with
   | returned v=>exact hn _ _ h2
   | panicked ch=>exact h2
   | outgrown=>exact absurd h2 hQ
  | row row args=>
   refine ⟨nh,fun c cs _=>?_⟩
   obtain ⟨v,w2,h2,s⟩:=h c cs
   exact ⟨v,w2,hn _ _ h2,stepsIn_wide.2 s⟩
  | _=>exact h.elim
 | halt hh w1=>
  cases hh with
  | panic v=>exact h
  | _=>exact h.elim
theorem EO {P:Program} {l n:Nat} {ops:Array Oper} {Q:Exit→Act→World→Prop} (hQ:¬LetsOut Q):∀(os:List Oper) (a:Act) (w:World),(∀o∈os,∀c,o.op≠.defer c)→
  wpList P ops Q os a w→wpListIn (Fence.wide.inRound l) n P ops Q os a w
 | [],_,_,_,h=>h
 | o::os,a,w,hd,h=>by
  unfold wpListIn
  unfold wpList at h
  split
  ·next hw=>
   rw [if_pos hw] at h
   rcases h with h | h
   ·exact N6 (hd o (by simp)) (fun a w=>EO hQ os a w (fun o h=>hd o (by simp [h]))) hQ h
   ·exact absurd h.2 hQ
  ·next hw=>
   rw [if_neg hw] at h
   exact ⟨fun _ _=>trivial,EO hQ os _ _ (fun o h=>hd o (by simp [h])) h⟩
theorem Qh {W:World} {row:Option Nat} {b:Nat} {cs:Array Value} {t:TypeId} {fz:Nat × Nat} (h:W.heap[b]? = some (.cells cs t fz)) (hr:∀r,row=some r→∃o:Obj,W.heap[r]? = some o∧o.isCells=false):some b≠row:=fun e=>by
 obtain ⟨o,ho,hc⟩:=hr b e.symm
 rw [h] at ho;cases ho;cases hc
theorem LT {β:Type} (b:Nat) (f:β→List Value):Own (fun s W=>Ao W b (f s)):=by
 rintro s W W' row ⟨t,h⟩ hg hr
 exact ⟨t,(hg.block b (zAX.1 h).1 (Qh h hr)).trans h⟩
theorem GQ {W W':World} {row:Option Nat} {base:Nat} {e:TypeId} {sz:Nat} {v:Value} {n:Nat} {xs:List Value} (h:W.ownsRow base e sz v n xs) (hg:W.grownBy W' row) (hr:∀r,row=some r→∃o:Obj,W.heap[r]? = some o∧o.isCells=false):W'.ownsRow base e sz v n xs:=by
 refine h.kept hg ?_
 rcases h.2 with ⟨rfl,_⟩ | ⟨g,cap,cur,rfl,_,MX,_⟩
 ·exact .inl rfl
 ·exact .inr (fun e=>Qh MX hr e)
theorem J8 {β:Type} {B:Nat} {S:Nat→Prop} {w:World} (hB:w.heap.size≤B):OwnFrom B (fun (_:β) W=>Ac S w W):=by
 intro s W W' row h hg hr
 refine ⟨hg.os.trans h.os,hg.tape.trans h.tape,hg.output.trans h.output,zAW h.size hg.size,fun k hk hs=>?_⟩
 refine (hg.block k (by have:=h.size;omega) (fun e=>?_)).trans (h.block k hk hs)
 have:=(hr k e.symm).1
 omega
def Holds (e:TypeId) (sz b:Nat) (v:Value) (n:Nat) (xs:List Value) (w W:World):Prop:=
 ∃v',Ao W b [v']∧W.ownsRow 0 e sz v' n xs∧AG w.heap.size v v'∧(v'.ownBlock≠some b)∧Ac (fun k=>v.ownBlock=some k) w W
theorem UL {β:Type} {B:Nat} {w:World} (hB:w.heap.size≤B) (e:TypeId) (sz b:Nat) (v:Value) (n:β→Nat) (xs:β→List Value):OwnFrom B (fun s W=>Holds e sz b v (n s) (xs s) w W):=by
 rintro s W W' row ⟨v',h1,h2,h3,h4,h5⟩ hg hr
 have hr':∀r,row=some r→∃o:Obj,W.heap[r]? = some o∧o.isCells=false:=fun r e=>(hr r e).2
 exact ⟨v',LT b (fun _:Unit=>[v']) () W W' row h1 hg hr',GQ h2 hg hr',h3,h4,J8 hB () W W' row h5 hg hr⟩
theorem KeepsOthers.J5 {S:Nat→Prop} {W W':World} (h:Ac S W W') (hS:∀k o,S k→W.heap[k]? = some o→o.isCells=true):KeepsOthers W W':=
 ⟨h.size,fun k o hk ho=>(h.block k (zAX.1 hk).1 (fun e=>by rw [hS k o e hk] at ho;cases ho)).trans hk⟩
theorem C9 {W:World} {base:Nat} {e:TypeId} {sz:Nat} {v:Value} {n:Nat} {xs:List Value} (h:W.ownsRow base e sz v n xs):∀k o,v.ownBlock=some k→W.heap[k]? = some o→o.isCells=true:=by
 intro k o hk ho
 rcases h.2 with ⟨rfl,_⟩ | ⟨g,cap,cur,rfl,_,MX,_⟩
 ·simp [Value.ownBlock] at hk
 ·obtain rfl:g=k:=by simpa [Value.ownBlock] using hk
  rw [MX] at ho;cases ho;rfl
theorem Holds.B5 {e:TypeId} {sz b:Nat} {v v1 v2:Value} {n m:Nat} {xs ys:List Value} {w W w1:World} (hb:w.heap.size≤b) (h1:Ao W b [v1]) (h2:W.ownsRow 0 e sz v1 n xs) (h3:AG w.heap.size v v1) (h4:v1.ownBlock≠some b) (h5:Ac (fun k=>v.ownBlock=some k) w W)
  (k1:w1.ownsRow 0 e sz v2 m ys) (k2:Ac (fun k=>v1.ownBlock=some k) W w1) (k3:AG W.heap.size v1 v2) :
  Holds e sz b v m ys w (w1.setCell ⟨b,0,none⟩ v2)∧KeepsOthers W (w1.setCell ⟨b,0,none⟩ v2):=by
 have BC:v2.ownBlock≠some b:=fun e=>by
  rcases k3 b e with e | e
  ·exact h4 e
  ·have:=h1.lt;omega
 refine ⟨⟨v2,?_,?_,?_,BC,?_⟩,(KeepsOthers.J5 k2 (C9 h2)).trans (KeepsOthers.setCell _ _ _)⟩
 ·simpa using (k2.AM h1 h4).set 0 v2
 ·exact (Ac.set (fun k=>k=b) w1 ⟨b,0,none⟩ v2 (fun _=>rfl)).owns k1 (fun k hk e=>BC (by rw [hk,e]))
 ·exact h3.trans k3 h5.size
 ·refine (h5.trans k2 (fun j hj e=>?_)).trans (Ac.set (fun k=>k=b) w1 ⟨b,0,none⟩ v2 (fun _=>rfl)) (fun j hj e=>by omega)
  rcases h3 j e with e | e
  ·exact e
  ·omega
theorem Fb {α:Type} {id B:Nat} {Kp:World→World→Prop} {I:List α→World→Prop} {Ix:Code→List α→World→Prop} {xs:List α} {W:World}:¬LetsOut (Exit.inBlock id (ownPostG B Kp I Ix xs W)):=by
 rintro ⟨_,_,h⟩;exact h
theorem Ac.putObj {S:Nat→Prop} {w W:World} (h:Ac S w W) {D:Nat} (hD:w.heap.size≤D) (o:Obj):Ac S w (W.putObj D o):=by
 have hg:=grownBy_putObj' W D o
 exact ⟨hg.os.trans h.os,hg.tape.trans h.tape,hg.output.trans h.output,zAW h.size hg.size,fun k hk hs=>(hg.block k (by have:=h.size;omega) (fun e=>by cases e;omega)).trans (h.block k hk hs)⟩
end Go.Proofs.YtdcgbgecbeegmaaGreatDoor
end
section
namespace Go.Proofs.YtdcgbgecbeegmaaGreatDoor
open Go Go.RowKit
section
inductive DS where
 | done
 | take (i:Nat) (p:DS)
 | one (i:Nat) (p:DS)
 | two (i j:Nat) (p q:DS)
def DD (md:Region.Mode) (ops:Array Oper):DS→Array Bool→Bool
 | .done,listed=>(Region.ready md ops listed).isEmpty
 | .take i p,listed=>Region.free md ops listed i&&(Region.ready md ops listed).contains i&&DD md ops p (listed.setIfInBounds i true)
 | .one i p,listed=>Region.ready md ops listed == [i]&&DD md ops p (listed.setIfInBounds i true)
 | .two i j p q,listed=>Region.ready md ops listed == [i,j]&&(DD md ops p (listed.setIfInBounds i true)&&DD md ops q (listed.setIfInBounds j true))
def DS.steps:DS→Nat
 | .done=>0
 | .take _ p=>p.steps+1
 | .one _ p=>p.steps+1
 | .two _ _ p q=>max p.steps q.steps+1
def LH (P:Program) (ops:Array Oper) (Q:Exit→Act→World→Prop) (i:Nat) (K:Act→World→Prop) (a:Act) (w:World):Prop:=
 match ops[i]? with
 | none=>False
 | some o=>if Region.wanted o (yielded ops a.tmps)=true then o.wp P a w K Q else K (a.put o.dst undef) w
def CK (P:Program) (ops:Array Oper) (Q:Exit→Act→World→Prop):DS→Act→World→Prop
 | .done,a,w=>Q .normal a w
 | .take i p,a,w=>match ops[i]? with
  | none=>False
  | some o=>if Region.wanted o (yielded ops a.tmps)=true then ∃v,(∀w,(execOp a.eval o).run P w = .ok (.value v) w)∧CK P ops Q p (a.put o.dst v) w else CK P ops Q p (a.put o.dst undef) w
 | .one i p,a,w=>LH P ops Q i (CK P ops Q p) a w
 | .two i j p q,a,w=>LH P ops Q i (CK P ops Q p) a w∧LH P ops Q j (CK P ops Q q) a w
section
variable {P:Program} {ops:Array Oper} {Q:Exit→Act→World→Prop} {md:Region.Mode}
theorem Et {i:Nat} {K K':Act→World→Prop} {a:Act} {w:World} (hK:∀a w,K a w→K' a w) (h:LH P ops Q i K a w):wpOp P ops Q i K' a w:=by
 unfold LH at h
 unfold wpOp
 cases ho:ops[i]? with
 | none=>rw [ho] at h;exact h.elim
 | some o=>
  rw [ho] at h
  simp only at h ⊢
  split
  ·next hw=>
   rw [if_pos hw] at h
   exact .inl (Oper.wp_mono hK h)
  ·next hw=>
   rw [if_neg hw] at h
   exact hK _ _ h
theorem Dm (hs:Region.noSelect ops=true) (hQ:∀c (a a':Act) w,a.defers=a'.defers→Q (.panic c) a w→Q (.panic c) a' w):∀(p:DS) (listed:Array Bool) (a:Act) (w:World) (fuel:Nat),p.steps≤fuel→
  DD md ops p listed=true→CK P ops Q p a w→wpAny P md ops Q fuel listed a w
 | .done,listed,a,w,fuel,_,hB,h=>wpAny_done (by simpa [DD] using hB) h fuel
 | .take i p,listed,a,w,0,hf,_,_=>by simp [DS.steps] at hf
 | .take i p,listed,a,w,fuel+1,hf,hB,h=>by
  have hf':p.steps≤fuel:=by simpa [DS.steps] using hf
  simp only [DD,zBY] at hB
  unfold CK at h
  cases ho:ops[i]? with
  | none=>rw [ho] at h;exact h.elim
  | some o=>
   rw [ho] at h
   simp only at h
   by_cases hw:Region.wanted o (yielded ops a.tmps)=true
   ·rw [if_pos hw] at h
    obtain ⟨v,hv,h⟩:=h
    exact wpAny_take ho hs hB.1.1 hB.1.2 (fun c a w h=>hQ c _ _ w (put_defers _ _ _) h) (.inl ⟨hw,hv⟩) (Dm hs hQ p _ _ w fuel hf' hB.2 h)
   ·rw [if_neg hw] at h
    exact wpAny_take ho hs hB.1.1 hB.1.2 (fun c a w h=>hQ c _ _ w (put_defers _ _ _) h) (.inr ⟨by simpa using hw,rfl⟩) (Dm hs hQ p _ _ w fuel hf' hB.2 h)
 | .one i p,listed,a,w,0,hf,_,_=>by simp [DS.steps] at hf
 | .one i p,listed,a,w,fuel+1,hf,hB,h=>by
  have hf':p.steps≤fuel:=by simpa [DS.steps] using hf
  simp only [DD,zBY,zGB] at hB
  refine wpAny_all hB.1 (by simp) (fun j hj=>?_)
  obtain rfl:j=i:=by simpa using hj
  exact Et (fun a w h=>Dm hs hQ p _ a w fuel hf' hB.2 h) h
 | .two i j p q,listed,a,w,0,hf,_,_=>by simp [DS.steps] at hf
 | .two i j p q,listed,a,w,fuel+1,hf,hB,h=>by
  have hf':max p.steps q.steps≤fuel:=by simpa [DS.steps] using hf
  simp only [DD,zBY,zGB] at hB
  refine wpAny_all hB.1 (by simp) (fun m hm=>?_)
  have hm':m=i∨m=j:=by simpa using hm
  rcases hm' with rfl | rfl
  ·exact Et (fun a w h=>Dm hs hQ p _ a w fuel (by omega) hB.2.1 h) h.1
  ·exact Et (fun a w h=>Dm hs hQ q _ a w fuel (by omega) hB.2.2 h) h.2
theorem Fq {r n:Nat} (hQ:¬LetsOut Q) (hd:∀o∈ops.toList,∀c,o.op≠.defer c):∀(fuel:Nat) (listed:Array Bool) (a:Act) (w:World),wpAny P md ops Q fuel listed a w→wpAnyIn (Fence.wide.inRound r) n P md ops Q fuel listed a w
 | 0,_,_,_,h=>h
 | fuel+1,listed,a,w,h=>⟨h.1,fun i hi=>by
  have h2:=h.2 i hi
  unfold wpOp at h2
  unfold wpOpIn
  cases ho:ops[i]? with
  | none=>
   rw [ho] at h2
   exact Fq hQ hd fuel _ _ _ h2
  | some o=>
   rw [ho] at h2
   simp only at h2 ⊢
   have Ch:o∈ops.toList:=by
    rw [← zEJ] at ho
    exact zAG ho
   split
   ·next hw=>
    rw [if_pos hw] at h2
    rcases h2 with h2 | h2
    ·exact N6 (hd o Ch) (fun a w=>Fq hQ hd fuel _ a w) hQ h2
    ·exact absurd h2.2 hQ
   ·next hw=>
    rw [if_neg hw] at h2
    exact ⟨fun _ _=>trivial,Fq hQ hd fuel _ _ _ h2⟩⟩
theorem Qq {r n id:Nat} {a:Act} {w:World} (p:DS) (hm:P.follows .mixedOrders=true) (hs:Region.noSelect ops=true) (hB:(decide (p.steps≤ops.size)&&DD .any ops p (Array.replicate ops.size false))=true)
  (hl:¬LetsOut Q) (hd:∀o∈ops.toList,∀c,o.op≠.defer c) (hQ:∀c (a a':Act) w,a.defers=a'.defers→Q (.panic c) a w→Q (.panic c) a' w) (h:CK P ops Q p a w.drew):(Code.region id ops true).wpIn (Fence.wide.inRound r) n P Q a w:=by
 rw [zBY] at hB
 exact wpIn_region_any hm (Fq hl hd _ _ _ _ (Dm hs hQ p _ _ _ _ (by simpa using hB.1) hB.2 h))
theorem Qd {a:Act} {w:World} (h:Q .normal a w):CK P ops Q .done a w:=h
theorem j0 {i:Nat} {o:Oper} {p:DS} {a:Act} {w:World} (ho:ops[i]? = some o) (hw:Region.wanted o (yielded ops a.tmps)=true) (v:Value) (hv:∀w,(execOp a.eval o).run P w = .ok (.value v) w) (h:CK P ops Q p (a.put o.dst v) w):CK P ops Q (.take i p) a w:=by
 unfold CK
 simp only [ho,hw]
 exact ⟨v,hv,h⟩
theorem Dh {i:Nat} {o:Oper} {p:DS} {a:Act} {w:World} (ho:ops[i]? = some o) (hw:Region.wanted o (yielded ops a.tmps)=true) (h:∀K:Act→World→Prop,(∀a w,CK P ops Q p a w→K a w)→o.wp P a w K Q):CK P ops Q (.one i p) a w:=by
 unfold CK LH
 simp only [ho,hw]
 exact h _ (fun _ _ h=>h)
theorem pK {i:Nat} {o:Oper} {p:DS} {a:Act} {w:World} (ho:ops[i]? = some o) (hw:Region.wanted o (yielded ops a.tmps)=true) (v:Value) (w2:World) (hr:(execOp a.eval o).run P w = .ok (.value v) w2) (h:CK P ops Q p (a.put o.dst v) w2):CK P ops Q (.one i p) a w:=by
 refine Dh ho hw (fun K hK=>?_)
 unfold Oper.wp
 rw [hr]
 exact hK _ _ h
theorem Lr {t e:TypeId} {sz bytes:Nat} (hE:Cd P t e sz bytes) {i:Nat} {o:Oper} {p:DS} {a:Act} {w:World} (ho:ops[i]? = some o) (hw:Region.wanted o (yielded ops a.tmps)=true) (s x:Operand)
  (hop:o.op = .call { callee:=.builtin .append,args:=#[s,x],argTypes:=#[t,t] }) {v v2:Value} (hs:a.eval s=v) (hx:a.eval x=v2) {n m:Nat} {xs news:List Value} (Au:w.ownsRow 0 e sz v n xs) (hr:Rd w sz v2 m news) (h1:∀u∈news,u.oneCell'=true) (hb:(n+m)*bytes≤140737488355328∧n+m≤maxLen)
  (h:∀v' w',w'.ownsRow 0 e sz v' (n+m) (xs++news)→Ac (fun k=>v.ownBlock=some k) w w'→AG w.heap.size v v'→CK P ops Q p (a.put o.dst v') w'):CK P ops Q (.one i p) a w:=by
 obtain ⟨v',w',J0,h2,h3,h4⟩:=K9 hE w v v2 n m xs news Au hr h1 hb s x hop hs hx
 exact pK ho hw v' w' J0 (h v' w' h2 h3 h4)
theorem az {i j:Nat} {p q:DS} {a:Act} {w:World} (h1:CK P ops Q (.one i p) a w) (h2:CK P ops Q (.one j q) a w):CK P ops Q (.two i j p q) a w:=⟨h1,h2⟩
end
section
variable {P:Program} {ops:Array Oper} {rest:List Oper} {o:Oper} {a:Act} {w:World} {Q:Exit→Act→World→Prop} {n:Nat}
theorem Pq (BT:Region.wanted o (yielded ops a.tmps)=true) (v:Value) (w2:World) (hr:(execOp a.eval o).run P w = .ok (.value v) w2) (h:wpListIn Fence.wide n P ops Q rest (a.put o.dst v) w2):wpListIn Fence.wide n P ops Q (o::rest) a w:=by
 unfold wpListIn
 rw [if_pos BT]
 refine ⟨fun _ _=>trivial,?_⟩
 show o.uponIn _ n P a _ Q ((o.semAt none a.eval).run P w)
 rw [Oper.semAt_none,hr]
 exact h
theorem Zp {t e:TypeId} {sz bytes:Nat} (hE:Cd P t e sz bytes) (w:World) (p:Option Addr) (m c i k:Nat) (hi:i<k) (hk:k≤c) {o:Oper} {a:Act} (s x y z:Operand) (ho:o.op = .slice t s (some x) (some y) (some z))
  (hs:a.eval s = .slice p m c) (hx:a.eval x = .int .i64 (i:Int)) (hy:a.eval y = .int .i64 (k:Int)) (hz:a.eval z = .int .i64 (k:Int)):(execOp a.eval o).run P w = .ok (.value (.slice (p.map (·.add (i*sz))) (k-i) (k-i))) w:=by
 obtain ⟨inf,z0,NP,Xn,Cn,PB,Me⟩:=hE.hi
 have EA:P.elem t=e:=by simp [Program.elem,hE.ht]
 have hu:P.underlying t=some (.slice (P.elem t)):=by rw [EA];exact hE.ht
 have hr:(Instr.sliceAt t (.slice p m c) (some (.int .i64 (i:Int))) (some (.int .i64 (k:Int))) (some (.int .i64 (k:Int)))).run P w = .ok (.slice (p.map (·.add (i*sz))) (k-i) (k-i)) w:=by
  have Ed:=run_sizeOf (w:=w) (show P.info? (P.elem t)=some inf by rw [EA];exact NP)
  rw [zGD (h:=hu),run_slice_lhm (ht:=hu) (h0:=by omega) (h1:=by omega) (h2:=by omega) (h3:=by omega),Ed]
  have Aj:P.cellsOf (P.elem t)=sz:=by rw [EA];simp [Program.cellsOf,NP,Cn]
  have BC:¬k=i:=by omega
  simp [Result.andThen,sliced,BC,Aj]
 unfold execOp
 simp only [ho,zCK,zDM,zCG,hs,hx,hy,hz,hr,zEV]
end
end
section
section
variable {P:Program}
theorem TQ {t e:TypeId} {sz bytes:Nat} (hE:Cd P t e sz bytes) (w:World) (v v2:Value) (n m:Nat) (xs news:List Value) (T4:Rd w sz v n xs) (hfull:∃p,v = .slice p n n) (hr:Rd w sz v2 m news) (hm:0<m) (KF:0<n) (h1:∀u∈news,u.oneCell'=true) (hb:(n+m)*bytes≤140737488355328∧n+m≤maxLen)
  {ops:Array Oper} {rest:List Oper} {o:Oper} {a:Act} {Q:Exit→Act→World→Prop} (BT:Region.wanted o (yielded ops a.tmps)=true) (s x:Operand) (ho:o.op = .call { callee:=.builtin .append,args:=#[s,x],argTypes:=#[t,t] })
  (hs:a.eval s=v) (hx:a.eval x=v2)
  (h:∀v' w',w'.ownsRow w.heap.size e sz v' (n+m) (xs++news)→Below w.heap.size w w'→wpList P ops Q rest (a.put o.dst v') w'):wpList P ops Q (o::rest) a w:=by
 obtain ⟨i,z,hi,hz,Cn,PB,Me⟩:=hE.hi
 obtain ⟨p,c,hv,Uy,_,_,hnil0,wY⟩:=T4
 obtain ⟨p',hv'⟩:=hfull
 subst hv
 simp only [zAN] at hv'
 obtain ⟨rfl,_,rfl⟩:=hv'
 obtain ⟨p2,c2,rfl,hl,_,_,EB,Aj⟩:=hr
 cases p with
 | none=>have:=(hnil0 rfl).1;omega
 | some ad0=>
  cases p2 with
  | none=>have:=(EB rfl).1;omega
  | some ad=>
   subst Cn
   subst PB
   have xG:c+m≤9223372036854775807:=by have:=hb.2;simp only [maxLen] at this;omega
   have J0:=run_append_grow (P:=P) w t o.type e i z hE.ht hi hz ad0 c c xs Uy (wY ad0 rfl) ad m c2 news hl (Aj ad rfl) (by omega) (by omega) (growslice_fits (by omega) hb.1)
   have T0:=grownCap_ge w (c+m) c e
   have Bg:(xs++news).length=(c+m)*i.size:=by rw [zAB,Uy,hl,zEO]
   refine zDU BT fun K hK=>?_
   unfold Oper.wp execOp
   simp only [ho,resolve,invoke,builtin,zCK,zDM,zCG,zFL,zBC,zCP,hs,hx,J0]
   refine hK _ _ (h _ _ ⟨Bg,.inr ⟨w.heap.size,_,_,rfl,zAD _,zHA w.drew _,T0,zGT w (c+m) c e hb.2,?_,?_⟩⟩ ⟨rfl,rfl,rfl,by simp,fun k hk=>zEW w.drew _ k hk⟩)
   ·simp only [zGV,zCC,size_zeroCells,Me,Uy,hl,← zEO]
    congr 1
    omega
   ·simp only [Array.toList_append,zAK]
    rw [← zAK,← Bg]
    exact List.take_left
end
structure JH (w wr:World) (L:List Nat) (v:Value):Prop where
 rd:Rd wr 1 v L.length (B9 L)
 far:∀k,v.ownBlock=some k→w.heap.size≤k∧k<wr.heap.size
 AA:Below w.heap.size w wr
 how:AR w wr L v∨(L≠[]∧∃p,v = .slice p L.length L.length)
theorem JH.of {w wr:World} {L:List Nat} {v:Value} (h:AR w wr L v):JH w wr L v:=⟨h.rd,fun k hk=>h.row.lt k hk,h.AA,Or.inl h⟩
theorem JH.shape {w wr:World} {L:List Nat} {v:Value} (h:JH w wr L v):∃p c,v = .slice p L.length c:=h.rd.shape
theorem JH.Ai {S:Nat→Prop} {w wr w':World} {L:List Nat} {v:Value} (h:JH w wr L v) (hm:Ac S wr w') (hS:∀k,v.ownBlock=some k→¬S k) (hb:∀k,k<w.heap.size→¬S k):JH w w' L v:=by
 have jc:=h.AA.trans (hm.below h.AA.size hb)
 refine ⟨h.rd.Ai hm hS,fun k hk=>⟨(h.far k hk).1,zAO (h.far k hk).2 hm.size⟩,jc,?_⟩
 rcases h.how with ho | hf
 ·exact Or.inl ⟨hm.owns ho.row hS,jc⟩
 ·exact Or.inr hf
theorem JH.below {w wr w':World} {L:List Nat} {v:Value} (h:JH w wr L v) (hb:Below wr.heap.size wr w'):JH w w' L v:=
 h.Ai (Ac.Ah hb (fun _=>False)) (fun _ _ h=>h) (fun _ _ h=>h)
theorem TP {P:Program} {t:TypeId} {bytes:Nat} (hE:Cd P t 5 1 bytes) (w wr:World) (v v2:Value) (L e:List Nat) (hA:JH w wr L v) (hr:Rd wr 1 v2 e.length (B9 e)) (BC:e≠[]) (hb:(L.length+e.length)*bytes≤140737488355328∧L.length+e.length≤maxLen)
  {ops:Array Oper} {rest:List Oper} {o:Oper} {a:Act} {Q:Exit→Act→World→Prop} (BT:Region.wanted o (yielded ops a.tmps)=true) (s x:Operand) (ho:o.op = .call { callee:=.builtin .append,args:=#[s,x],argTypes:=#[t,t] })
  (hs:a.eval s=v) (hx:a.eval x=v2)
  (h:∀v' w',AR w w' (L++e) v'→Ac (fun k=>v.ownBlock=some k) wr w'→AG wr.heap.size v v'→wpList P ops Q rest (a.put o.dst v') w'):wpList P ops Q (o::rest) a wr:=by
 rcases hA.how with hO | ⟨hL,hf⟩
 ·exact At hE wr v v2 L.length e.length (B9 L) (B9 e) hO.Cz hr (A3 _) hb BT s x ho hs hx (fun v' w' k1 m1 f1=>h v' w' (hO.extended (e:=e) k1 m1 f1) m1 f1)
 ·have Uy:0<L.length:=zFF.2 hL
  have Xc:0<e.length:=zFF.2 BC
  refine TQ hE wr v v2 L.length e.length (B9 L) (B9 e) hA.rd hf hr Xc Uy (A3 _) hb BT s x ho hs hx (fun v' w' k1 b1=>h v' w' ⟨?_,hA.AA.trans (b1.mono hA.AA.size)⟩ (Ac.Ah b1 _) (fun k hk=>Or.inr (k1.lt k hk).1))
  show w'.ownsRow w.heap.size _ 1 v' (L++e).length (B9 (L++e))
  rw [zAB,Cb]
  exact Af k1 (fun k hk=>zAW hA.AA.size (k1.lt k hk).1)
end
section
section
variable {P:Program} {t e:TypeId} {n:Nat} {z:Value}
theorem Su (hA:Re P t e n z) {o:Oper} {a:Act} {w:World} (x:Operand) (ho:o.op = .load t x) {g:Nat} (hx:a.eval x = .pointer (some ⟨g,0,none⟩)) {cs:List Value} (hb:Ao w g cs) (hl:cs.length=n):(execOp a.eval o).run P w = .ok (.value (.agg cs.toArray)) w:=by
 obtain ⟨u,hg⟩:=hb
 obtain ⟨i,hi,_,hs⟩:=hA.hi
 unfold execOp
 simp only [ho,hx,Instr.loadAt,Instr.sureAddr,zCK,zDM,zCG,run_loadVar_row w g u t cs.toArray (0,0) _ hg hA.ht rfl (by rw [hi];simp [hs,hl])]
end
end
section
section
variable {P:Program} {ops:Array Oper} {rest:List Oper} {a:Act} {w:World} {Q:Exit→Act→World→Prop} {t e:TypeId} {n:Nat} {z:Value}
theorem dV {w w1 w2:World} {k:Nat} (hb:Below w.heap.size w w1) (hm:Ac (fun j=>j=k) w1 w2) (hk:w.heap.size≤k):Below w.heap.size w w2:=
 hb.trans (hm.below hb.size (fun j hj e=>by omega))
theorem LG (hA:Re P t e n z) {o1 o2:Oper} (xg:o1.guard=none) (ho1:o1.op = .alloc t) (Yu:o2.guard=none) (x y:Operand) (dD:o2.op = .store t x y) (cs:List Value)
  (hx:(a.put o1.dst (.pointer (some ⟨w.heap.size,0,none⟩))).eval x = .pointer (some ⟨w.heap.size,0,none⟩))
  (hy:(a.put o1.dst (.pointer (some ⟨w.heap.size,0,none⟩))).eval y = .agg cs.toArray) (hl:cs.length=n) (h1:∀u∈cs,u.oneCell'=true)
  (h:∀w',Ao w' w.heap.size cs→Below w.heap.size w w'→w'.heap.size=w.heap.size+1→wpList P ops Q rest ((a.put o1.dst (.pointer (some ⟨w.heap.size,0,none⟩))).put o2.dst undef) w'):wpList P ops Q (o1::o2::rest) a w:=by
 refine BU hA xg ho1 fun w1 hk hb hs=>?_
 refine Cv hA Yu x y dD w.heap.size hx cs _ hy hk (by simp) hl h1 fun w2 ll hm KN=>?_
 exact h w2 ll (dV hb hm (zAD _)) (by omega)
theorem Ya (hA:Re P t e n z) {o:Oper} (BT:Region.wanted o (yielded ops a.tmps)=true) (x:Operand) (ho:o.op = .load t x) (g:Nat) (hx:a.eval x = .pointer (some ⟨g,0,none⟩)) (cs:List Value) (hb:Ao w g cs) (hl:cs.length=n)
  (h:wpList P ops Q rest (a.put o.dst (.agg cs.toArray)) w):wpList P ops Q (o::rest) a w:=by
 refine zDU BT fun K hK=>?_
 unfold Oper.wp
 simp only [zCK,Su hA x ho hx hb hl,zCG]
 exact hK _ _ h
end
end
theorem iW (a b:Value) (n m:Nat) (l k:List Nat) (w:World) (ha:Rd w 1 a n (B9 l)) (hb:Rd w 1 b m (B9 k)) (hl:∀x∈l,x<256) (hk:∀x∈k,x<256) :
  Calls Tryz.prog 13 #[a,b] w fun e w'=>e = .returned (.bool (decide (l=k)))∧w=w':=by
 have e1:=ha.conv (P:=Tryz.prog) 25 5 9 Tryz.underlying25 Tryz.underlying5 Tryz.underlying9
 have e2:=hb.conv (P:=Tryz.prog) 25 5 9 Tryz.underlying25 Tryz.underlying5 Tryz.underlying9
 have e3:=Wh hl hk
 have E3:=zAA e3
 clear ha hb hl hk e3
 generalize EY l=sl at *
 generalize EY k=sk at *
 go_enter Tryz.func13,Tryz.ntmps13
 go_wp2
 go_ret
 exact ⟨congrArg (fun b=>Ending.returned (.bool b)) E3.out,rfl⟩
section
variable {G:Nat} {T:World→Prop}
end
end Go.Proofs.YtdcgbgecbeegmaaGreatDoor
end
section
namespace Go.Proofs.YtdcgbgecbeegmaaGreatDoor
open Go Go.RowKit Go.Shelf
def Bs (K:Nat→Prop) (A B:World):Prop:=∀k,K k→B.heap[k]? = A.heap[k]?
theorem D2 {K:Nat→Prop} {A B C:World} (h:Bs K A B) (k:Bs K B C):Bs K A C:=fun j hj=>(k j hj).trans (h j hj)
theorem Lj {K:Nat→Prop} {w:World} (hK:∀k,K k→k<w.heap.size) (W:World) (l:Nat) (o o':Obj) (hl:w.heap.size≤l) (h:W.heap[l]? = some o) (_:o.isCells=false) (_:o.isWalk=false):Bs K W (W.putObj l o'):=fun k hk=>by
 have h1:=hK k hk
 have h2:=(zAX.1 h).1
 exact (grownBy_putObj' W l o').block k (by omega) (fun e=>by cases e;omega)
theorem Bs.cell {K:Nat→Prop} {A B:World} (h:Bs K A B) {b:Nat} (hb:K b) (i:Nat):B.cell? ⟨b,i,none⟩=A.cell? ⟨b,i,none⟩:=by
 unfold World.cell?
 rw [h b hb]
theorem Bs.rd {K:Nat→Prop} {A B:World} (h:Bs K A B) {sz:Nat} {v:Value} {n:Nat} {xs:List Value} (hr:Rd A sz v n xs) (hv:∀k,v.ownBlock=some k→K k):Rd B sz v n xs:=by
 refine hr.N5 fun a u hu ⟨p,hp,Gz⟩=>?_
 have hk:K a.block:=hv _ (by rw [hp,Gz];rfl)
 rw [← hu]
 exact World.cell?_of_block (h _ hk)
theorem Ld (w:World) (n:Nat):w.grownBy (w.drewN n) none:=⟨rfl,rfl,rfl,zAD _,fun _ _ _=>rfl⟩
theorem QI {w w':World} (h:Below w.heap.size w w'):w.grownBy w' none:=⟨h.os,h.tape,h.output,h.size,fun k hk _=>h.block k hk⟩
theorem NU {K:Nat→Prop} {w A B:World} (h:Bs K w A) (hK:∀k,K k→k<w.heap.size) (hb:Below A.heap.size A B):Bs K w B:=fun k hk=>by
 have h1:=h k hk
 obtain ⟨o,ho⟩:∃o,w.heap[k]? = some o:=⟨_,Array.getElem?_eq_getElem (hK k hk)⟩
 rw [ho] at h1
 exact (hb.block k (zAX.1 h1).1).trans (h k hk)
end Go.Proofs.YtdcgbgecbeegmaaGreatDoor
end
section
namespace Go.Proofs.YtdcgbgecbeegmaaGreatDoor
open Go Go.RowKit
section
structure Pz (P:Program) (t:TypeId) (n:Nat) (zs:List Value):Prop where
 ht:∃d,P.underlying t=some d∧DN d=true
 hi:∃i,P.info? t=some i∧i.zero=some (.agg zs.toArray)∧i.size=n
 hz:zs.length=n
theorem Pz.mk' {P:Program} {t:TypeId} {n:Nat} {zs:List Value} {d:TypeDesc} (ht:P.underlying t=some d) (hd:DN d=true) (hi:(P.info? t).map (fun i=>(i.zero,i.size))=some (some (.agg zs.toArray),n)) (hz:zs.length=n):Pz P t n zs:=by
 obtain ⟨i,h1,h2⟩:=zDN.1 hi
 simp only [zHD] at h2
 exact ⟨⟨d,ht,hd⟩,⟨i,h1,h2.1,h2.2⟩,hz⟩
theorem Ao.rangeAt {w:World} {g:Nat} {cs:List Value} (h:Ao w g cs):w.rangeAt g 0 cs:=fun j v hv=>by rw [zEF,h.cell];simpa using hv
section
variable {P:Program} {ops:Array Oper} {rest:List Oper} {o:Oper} {a:Act} {w:World} {Q:Exit→Act→World→Prop} {t:TypeId} {n:Nat} {zs:List Value}
theorem CT (hA:Pz P t n zs) (hg:o.guard=none) (ho:o.op = .alloc t)
  (h:∀w',Ao w' w.heap.size zs→Below w.heap.size w w'→w'.heap.size=w.heap.size+1→wpList P ops Q rest (a.put o.dst (.pointer (some ⟨w.heap.size,0,none⟩))) w'):wpList P ops Q (o::rest) a w:=by
 obtain ⟨i,hi,hz,hs⟩:=hA.hi
 refine zGQ hg fun K hK=>?_
 have hzv:(zeroValue t).run P w = .ok (.agg zs.toArray) w:=by simp [zeroValue,typeInfo,hi,hz]
 unfold Oper.wp execOp
 simp only [ho,zCK,Instr.alloc,hzv,newVar,newRow,run_newObj_alloc,zDM,zCG]
 exact hK _ _ (h _ (by simpa [Value.cells] using Ao.new w zs.toArray t) ((zAM _ _).alloc (zAD _) _) (by simp))
theorem Dn (hA:Pz P t n zs) (BT:o.guard=none) (x y:Operand) (ho:o.op = .store t x y) (g:Nat) (hx:a.eval x = .pointer (some ⟨g,0,none⟩)) (cs old:List Value) (hy:a.eval y = .agg cs.toArray)
  (hb:Ao w g old) (xy:old.length=n) (hl:cs.length=n) (h1:∀u∈cs,u.oneCell'=true)
  (h:∀w',Ao w' g cs→Ac (fun k=>k=g) w w'→w'.heap.size=w.heap.size→wpList P ops Q rest (a.put o.dst undef) w'):wpList P ops Q (o::rest) a w:=by
 obtain ⟨u,hg⟩:=hb
 obtain ⟨i,hi,_,hs⟩:=hA.hi
 refine wpList_store_row BT t x y ho g cs.toArray hx hy u old.toArray hg (by rw [hi];simp [hs,hl]) (by simp [xy,hl]) (by simpa using h1) ?_
 exact h _ ⟨u,setRow_heap w g _ _ u _ hg⟩ (QW w g _) (by simp)
theorem V7 (hA:Pz P t n zs) (g:Nat) (cs:List Value) (hb:Ao w g cs) (hl:cs.length=n):(loadVar t ⟨g,0,none⟩).run P w = .ok (.agg cs.toArray) w:=by
 obtain ⟨i,hi,_,hs⟩:=hA.hi
 obtain ⟨d,hu,hd⟩:=hA.ht
 exact run_loadVar_mid w g 0 t cs d hb.rangeAt hu (by cases d<;>simp_all [DN,TypeDesc.isRow]) (by rw [hi];simp [hs,hl])
theorem Di (hA:Pz P t n zs) {fn:Func} {p:Tmp} (h:fn.results = #[.cell p t]) (tmps:Array Value) (g:Nat) (hp:tmps.getD p undef = .pointer (some ⟨g,0,none⟩)) (cs:List Value) (hb:Ao w g cs) (hl:cs.length=n) :
  (results fn tmps).run P w = .ok (.agg cs.toArray) w:=by
 have hp':tmps[p]?.getD undef = .pointer (some ⟨g,0,none⟩):=by simpa using hp
 simp [results,h,hp',asAddr,V7 hA g cs hb hl]
theorem LX (hA:Pz P t n zs) {fn:Func} {p u:Tmp} (h:fn.results = #[.cell p t,.tmp u]) (tmps:Array Value) (g:Nat) (hp:tmps.getD p undef = .pointer (some ⟨g,0,none⟩)) (cs:List Value) (hb:Ao w g cs) (hl:cs.length=n) :
  (results fn tmps).run P w = .ok (.tuple #[.agg cs.toArray,tmps.getD u undef]) w:=by
 have hp':tmps[p]?.getD undef = .pointer (some ⟨g,0,none⟩):=by simpa using hp
 simp [results,h,hp',asAddr,V7 hA g cs hb hl]
end
end
end Go.Proofs.YtdcgbgecbeegmaaGreatDoor
end
