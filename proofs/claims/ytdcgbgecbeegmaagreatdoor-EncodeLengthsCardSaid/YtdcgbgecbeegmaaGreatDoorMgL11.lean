/- Texts 11. -/
import Derived.Test.YtdcgbgecbeegmaaGreatDoorMgL10
import Derived.Test.YtdcgbgecbeegmaaGreatDoorMgL5
import Derived.Test.YtdcgbgecbeegmaaGreatDoorMgL9
import Derived.Test.YtdcgbgecbeegmaaGreatDoorMgL1
import Derived.Test.YtdcgbgecbeegmaaGreatDoorMgL7
import Derived.Test.YtdcgbgecbeegmaaGreatDoorMgL4
set_option linter.unusedVariables false
set_option linter.unusedSimpArgs false
section
set_option maxRecDepth 20000
namespace Go.Proofs.YtdcgbgecbeegmaaGreatDoor
open Go Go.RowKit Go.Shelf
theorem set_sameC {α:Type} {l:List α} {i:Nat} {a:α} (h:l[i]? = some a):l.set i a=l:=by
 refine List.ext_getElem? fun k=>?_
 rw [List.getElem?_set]
 split
 ·next e=>
  subst e
  rw [if_pos (List.getElem?_eq_some_iff.1 h).1,h]
 ·rfl
def MineC (gb gL gc gl:Nat) (sv:Value) (hs:List Hd) (j:Nat):Prop:=j=gb∨j=gL∨j=gc∨j=gl∨sv.ownBlock=some j∨∃h∈hs,h.2.ownBlock=some j
structure CoAt (w:World) (gb gL gc gl:Nat) (bv:Value) (n:Nat) (rs:List Rec) (out:List Nat) (N:Nat→Prop) (W:World) (hs:List Hd) (sv:Value):Prop where
 bel:Below w.heap.size w W
 bb:Blk W gb [bv]
 bL:Blk W gL [.slice (some ⟨gl,0,none⟩) n n]
 bc:Blk W gc [sv]
 row:W.ownsRow w.heap.size 146 2 (.slice (some ⟨gl,0,none⟩) n n) n (two Prod.fst Prod.snd hs)
 len:hs.length=n
 lenr:rs.length=n
 own:W.ownsRow w.heap.size 5 1 sv out.length (u8s out)
 lab:∀(i:Nat) (h:Hd) (r:Rec),hs[i]? = some h→rs[i]? = some r→Rd W 2 h.1 r.1.length (labCells r.1)∧(r.1≠[]→∀j,h.1.ownBlock=some j→j<w.heap.size)
 lens:∀(i:Nat) (h:Hd) (r:Rec),hs[i]? = some h→rs[i]? = some r→W.ownsRow w.heap.size 3 1 h.2 r.2.length (i64s r.2)
 apart:∀(i:Nat) (h:Hd),hs[i]? = some h→∀j,h.2.ownBlock=some j→j≠gb∧j≠gL∧j≠gc∧j≠gl∧sv.ownBlock≠some j
 dis:∀(i k:Nat) (h x:Hd),i≠k→hs[i]? = some h→hs[k]? = some x→∀j,h.2.ownBlock=some j→x.2.ownBlock≠some j
 sv_:∀j,sv.ownBlock=some j→j≠gb∧j≠gL∧j≠gc∧j≠gl
 four:gl≠gb∧gl≠gL∧gl≠gc∧gc≠gb∧gc≠gL
 low:w.heap.size≤gb∧w.heap.size≤gL∧w.heap.size≤gc
 off:∀j,MineC gb gL gc gl sv hs j→¬N j
 nlt:∀j,N j→j<W.heap.size
variable {w W W':World} {gb gL gc gl n:Nat} {bv sv:Value} {rs:List Rec} {out:List Nat} {N N':Nat→Prop} {hs:List Hd}
theorem CoAt.glow (h:CoAt w gb gL gc gl bv n rs out N W hs sv):w.heap.size≤gl:=(h.row.lt gl rfl).1
theorem CoAt.rec_ (h:CoAt w gb gL gc gl bv n rs out N W hs sv) {i:Nat} {x:Hd} (hi:hs[i]? = some x):∃r,rs[i]? = some r:=⟨_,List.getElem?_eq_getElem (by have:=(List.getElem?_eq_some_iff.1 hi).1;rw [h.lenr,← h.len];exact this)⟩
theorem CoAt.mine_lt (h:CoAt w gb gL gc gl bv n rs out N W hs sv) {j:Nat} (hj:MineC gb gL gc gl sv hs j):w.heap.size≤j∧j<W.heap.size:=by
 rcases hj with rfl | rfl | rfl | rfl | e | ⟨x,hx,e⟩
 ·exact ⟨h.low.1,h.bb.lt⟩
 ·exact ⟨h.low.2.1,h.bL.lt⟩
 ·exact ⟨h.low.2.2,h.bc.lt⟩
 ·exact h.row.lt _ rfl
 ·exact h.own.lt j e
 ·obtain ⟨i,hi⟩:=List.getElem?_of_mem hx
  obtain ⟨r,hr⟩:=h.rec_ hi
  exact (h.lens i x r hi hr).lt j e
theorem CoAt.turn {S:Nat→Prop} (h:CoAt w gb gL gc gl bv n rs out N W hs sv) (hm:Mods S W W') (hw:∀j,j<w.heap.size→¬S j) (hS:∀j,MineC gb gL gc gl sv hs j→¬S j) (hN:∀j,MineC gb gL gc gl sv hs j→¬N' j) (hl:∀j,N' j→j<W'.heap.size):CoAt w gb gL gc gl bv n rs out N' W' hs sv where
 bel:=h.bel.trans (hm.below h.bel.size hw)
 bb:=hm.blk h.bb (hS _ (Or.inl rfl))
 bL:=hm.blk h.bL (hS _ (Or.inr (Or.inl rfl)))
 bc:=hm.blk h.bc (hS _ (Or.inr (Or.inr (Or.inl rfl))))
 row:=hm.owns h.row (fun j e=>hS _ (Or.inr (Or.inr (Or.inr (Or.inl (by simpa [Value.ownBlock] using e.symm))))))
 len:=h.len
 lenr:=h.lenr
 own:=hm.owns h.own (fun j e=>hS _ (Or.inr (Or.inr (Or.inr (Or.inr (Or.inl e))))))
 lab:=fun i x r hi hr=>⟨(h.lab i x r hi hr).1.mods' hm (fun ne j e=>hw j ((h.lab i x r hi hr).2 (labCells_ne ne) j e)),(h.lab i x r hi hr).2⟩
 lens:=fun i x r hi hr=>hm.owns (h.lens i x r hi hr) (fun j e=>hS _ (Or.inr (Or.inr (Or.inr (Or.inr (Or.inr ⟨x,List.mem_of_getElem? hi,e⟩))))))
 apart:=h.apart
 dis:=h.dis
 sv_:=h.sv_
 four:=h.four
 low:=h.low
 off:=hN
 nlt:=hl
theorem CoAt.below (h:CoAt w gb gL gc gl bv n rs out N W hs sv) (hb:Below W.heap.size W W'):CoAt w gb gL gc gl bv n rs out N W' hs sv:=h.turn (Mods.of_below hb (fun _=>False)) (fun _ _ e=>e) (fun _ _ e=>e) h.off (fun j e=>Nat.lt_of_lt_of_le (h.nlt j e) hb.size)
theorem CoAt.joins (h:CoAt w gb gL gc gl bv n rs out N W hs sv) (hb:Below W.heap.size W W') (hj:Joins N N' W W'):CoAt w gb gL gc gl bv n rs out N' W' hs sv:=h.turn (Mods.of_below hb (fun _=>False)) (fun _ _ e=>e) (fun _ _ e=>e) (fun j hm e=>by
 rcases hj j e with f | f
 ·exact h.off j hm f
 ·have:=(h.mine_lt hm).2;omega) (fun j e=>by
 rcases hj j e with f | f
 ·exact Nat.lt_of_lt_of_le (h.nlt j f) hb.size
 ·exact f.2)
theorem CoAt.isCells (h:CoAt w gb gL gc gl bv n rs out N W hs sv) {j:Nat} (hj:MineC gb gL gc gl sv hs j) {o:Obj} (ho:W.heap[j]? = some o):o.isCells=true:=by
 have blk:∀{k:Nat} {cs:List Value},Blk W k cs→j=k→o.isCells=true:=fun {k cs} hb e=>by
  subst e
  obtain ⟨t,ht⟩:=hb
  rw [ht] at ho;cases ho;rfl
 rcases hj with e | e | e | e | e | ⟨x,hx,e⟩
 ·exact blk h.bb e
 ·exact blk h.bL e
 ·exact blk h.bc e
 ·subst e
  exact owns_isCells h.row _ o rfl ho
 ·exact owns_isCells h.own _ o e ho
 ·obtain ⟨i,hi⟩:=List.getElem?_of_mem hx
  obtain ⟨r,hr⟩:=h.rec_ hi
  exact owns_isCells (h.lens i x r hi hr) _ o e ho
theorem CoAt.put (h:CoAt w gb gL gc gl bv n rs out N W hs sv) {l:Nat} {o:Obj} (hl:w.heap.size≤l) (ho:W.heap[l]? = some o) (hc:o.isCells=false) (o':Obj):CoAt w gb gL gc gl bv n rs out N (W.putObj l o') hs sv:=
 h.turn (S:=fun j=>j=l) (mods_put (Mods.refl (fun j=>j=l) W) (Or.inl rfl) o') (fun j hj e=>by omega) (fun j hm e=>by subst e;have:=h.isCells hm ho;rw [hc] at this;cases this) h.off (fun j e=>by simpa using h.nlt j e)
theorem CoAt.rdR (h:CoAt w gb gL gc gl bv n rs out N W hs sv):RdR W (.slice (some ⟨gl,0,none⟩) n n) rs:=
 ⟨⟨hs,by rw [h.len];exact Rd.of_owns h.row,h.len.trans h.lenr.symm,fun i x r hi hr=>⟨(h.lab i x r hi hr).1,Rd.of_owns (h.lens i x r hi hr)⟩⟩⟩
theorem CoAt.label (h:CoAt w gb gL gc gl bv n rs out N W hs sv) {i:Nat} {x:Hd} {r:Rec} {lv:Value} {l:List Lab} (hi:hs[i]? = some x) (hr:rs[i]? = some r) (hl:Rd W 2 lv l.length (labCells l)) (hlo:l≠[]→∀j,lv.ownBlock=some j→j<w.heap.size) :
  CoAt w gb gL gc gl bv n (rs.set i (l,r.2)) out N (W.setCell ⟨gl,i*2,none⟩ lv) (hs.set i (lv,x.2)) sv∧Mods (fun j=>j=gl) W (W.setCell ⟨gl,i*2,none⟩ lv):=by
 have hm:Mods (fun j=>j=gl) W (W.setCell ⟨gl,i*2,none⟩ lv):=Mods.set _ _ _ _ (fun _=>rfl)
 have hg:=h.glow
 have hlt:=(List.getElem?_eq_some_iff.1 hi).1
 have hltr:=(List.getElem?_eq_some_iff.1 hr).1
 have mem:∀y∈hs.set i (lv,x.2),∃z∈hs,z.2=y.2:=fun y hy=>by
  rcases List.mem_or_eq_of_mem_set hy with e | e
  ·exact ⟨y,e,rfl⟩
  ·subst e;exact ⟨x,List.mem_of_getElem? hi,rfl⟩
 have get:∀{k:Nat} {y:Hd},(hs.set i (lv,x.2))[k]? = some y→∃z,hs[k]? = some z∧z.2=y.2:=fun {k y} hy=>by
  rw [List.getElem?_set] at hy
  split at hy
  ·next e=>
   subst e
   try rw [if_pos hlt] at hy
   cases hy
   exact ⟨x,hi,rfl⟩
  ·exact ⟨y,hy,rfl⟩
 have hcell:(two Prod.fst Prod.snd hs).set (i*2) lv=two Prod.fst Prod.snd (hs.set i (lv,x.2)):=by
  rw [← two_set]
  have h2:=(two_get (f1:=Prod.fst) (f2:=Prod.snd) hs i x hi).2
  have h3:((two Prod.fst Prod.snd hs).set (i*2) lv)[i*2+1]? = some x.2:=by rw [List.getElem?_set,if_neg (by omega)];exact h2
  exact (set_sameC h3).symm
 refine ⟨⟨h.bel.trans (hm.below h.bel.size (fun j hj e=>by omega)),hm.blk h.bb (fun e=>h.four.1 e.symm),hm.blk h.bL (fun e=>h.four.2.1 e.symm),hm.blk h.bc (fun e=>h.four.2.2.1 e.symm),?_,by rw [List.length_set];exact h.len,by rw [List.length_set];exact h.lenr,hm.owns h.own (fun j e=>(h.sv_ j e).2.2.2),fun k y s hy hs'=>?_,fun k y s hy hs'=>?_,fun k y hy j e=>?_,fun k k' y y' hne hy hy' j e=>?_,h.sv_,h.four,h.low,fun j hj=>?_,fun j e=>by simpa using h.nlt j e⟩,hm⟩
 ·rw [← hcell]
  exact (h.row.stored (i*2) lv).1
 ·rw [List.getElem?_set] at hy hs'
  split at hy
  ·next e=>
   subst e
   try rw [if_pos hlt] at hy
   rw [if_pos rfl,if_pos hltr] at hs'
   cases hy;cases hs'
   exact ⟨hl.mods' hm (fun ne j e=>by have:=hlo (labCells_ne ne) j e;omega),hlo⟩
  ·next e=>
   rw [if_neg e] at hs'
   have h1:=h.lab k y s hy hs'
   exact ⟨h1.1.mods' hm (fun ne j e=>by have:=h1.2 (labCells_ne ne) j e;omega),h1.2⟩
 ·rw [List.getElem?_set] at hy hs'
  split at hy
  ·next e=>
   subst e
   try rw [if_pos hlt] at hy
   rw [if_pos rfl,if_pos hltr] at hs'
   cases hy;cases hs'
   exact hm.owns (h.lens i x r hi hr) (fun j e=>(h.apart i x hi j e).2.2.2.1)
  ·next e=>
   rw [if_neg e] at hs'
   exact hm.owns (h.lens k y s hy hs') (fun j e=>(h.apart k y hy j e).2.2.2.1)
 ·obtain ⟨z,hz,e2⟩:=get hy
  exact h.apart k z hz j (e2 ▸ e)
 ·obtain ⟨z,hz,e2⟩:=get hy
  obtain ⟨z',hz',e2'⟩:=get hy'
  rw [← e2']
  exact h.dis k k' z z' hne hz hz' j (e2 ▸ e)
 ·refine h.off j ?_
  rcases hj with e | e | e | e | e | ⟨y,hy,e⟩
  ·exact Or.inl e
  ·exact Or.inr (Or.inl e)
  ·exact Or.inr (Or.inr (Or.inl e))
  ·exact Or.inr (Or.inr (Or.inr (Or.inl e)))
  ·exact Or.inr (Or.inr (Or.inr (Or.inr (Or.inl e))))
  ·obtain ⟨z,hz,e2⟩:=mem y hy
   exact Or.inr (Or.inr (Or.inr (Or.inr (Or.inr ⟨z,hz,e2 ▸ e⟩))))
theorem CoAt.push (h:CoAt w gb gL gc gl bv n rs out N W hs sv) {i:Nat} {x:Hd} {r:Rec} {cv:Value} {z:Int} {W1:World} (hi:hs[i]? = some x) (hr:rs[i]? = some r)
  (k1:W1.ownsRow 0 3 1 cv (r.2.length+1) (i64s r.2++[.int .i64 z])) (k2:Mods (fun k=>x.2.ownBlock=some k) W W1) (k3:Fresh W.heap.size x.2 cv) :
  CoAt w gb gL gc gl bv n (rs.set i (r.1,r.2++[z])) out N (W1.setCell ⟨gl,i*2+1,none⟩ cv) (hs.set i (x.1,cv)) sv∧Mods (fun j=>j=gl∨x.2.ownBlock=some j) W (W1.setCell ⟨gl,i*2+1,none⟩ cv):=by
 have hs1:Mods (fun j=>j=gl) W1 (W1.setCell ⟨gl,i*2+1,none⟩ cv):=Mods.set _ _ _ _ (fun _=>rfl)
 have hm:Mods (fun j=>j=gl∨x.2.ownBlock=some j) W (W1.setCell ⟨gl,i*2+1,none⟩ cv):=(k2.mono (fun _ _ e=>Or.inr e)).trans hs1 (fun _ _ e=>Or.inl e)
 have hg:=h.glow
 have hlt:=(List.getElem?_eq_some_iff.1 hi).1
 have hltr:=(List.getElem?_eq_some_iff.1 hr).1
 have hap:=h.apart i x hi
 have hxl:=fun j e=>(h.lens i x r hi hr).lt j e
 have hbs:=h.bel.size
 have hgW:gl<W.heap.size:=(h.row.lt gl rfl).2
 have hcv:∀j,cv.ownBlock=some j→w.heap.size≤j∧j≠gb∧j≠gL∧j≠gc∧j≠gl∧sv.ownBlock≠some j:=fun j e=>by
  rcases k3 j e with f | f
  ·exact ⟨(hxl j f).1,hap j f⟩
  ·have q1:=h.bb.lt;have q2:=h.bL.lt;have q3:=h.bc.lt
   exact ⟨by omega,by omega,by omega,by omega,by omega,fun e=>by have:=(h.own.lt j e).2;omega⟩
 have hcv2:∀(k:Nat) (y:Hd),k≠i→hs[k]? = some y→∀j,cv.ownBlock=some j→y.2.ownBlock≠some j:=fun k y hne hy j e f=>by
  rcases k3 j e with g | g
  ·exact h.dis k i y x hne hy hi j f g
  ·obtain ⟨s,hs'⟩:=h.rec_ hy
   have:=((h.lens k y s hy hs').lt j f).2;omega
 have get:∀{k:Nat} {y:Hd},(hs.set i (x.1,cv))[k]? = some y→(k=i∧y=(x.1,cv))∨(k≠i∧hs[k]? = some y):=fun {k y} hy=>by
  rw [List.getElem?_set] at hy
  split at hy
  ·next e=>
   subst e
   try rw [if_pos hlt] at hy
   cases hy
   exact Or.inl ⟨rfl,rfl⟩
  ·next e=>exact Or.inr ⟨fun f=>e f.symm,hy⟩
 have hcell:(two Prod.fst Prod.snd hs).set (i*2+1) cv=two Prod.fst Prod.snd (hs.set i (x.1,cv)):=by
  rw [← two_set]
  have h2:=(two_get (f1:=Prod.fst) (f2:=Prod.snd) hs i x hi).1
  rw [set_sameC h2]
 refine ⟨⟨h.bel.trans (hm.below hbs (fun j hj e=>?_)),hm.blk h.bb (fun e=>?_),hm.blk h.bL (fun e=>?_),hm.blk h.bc (fun e=>?_),?_,by rw [List.length_set];exact h.len,by rw [List.length_set];exact h.lenr,hm.owns h.own (fun j e f=>?_),fun k y s hy hs'=>?_,fun k y s hy hs'=>?_,fun k y hy j e=>?_,fun k k' y y' hne hy hy' j e=>?_,h.sv_,h.four,h.low,fun j hj=>?_,fun j e=>Nat.lt_of_lt_of_le (h.nlt j e) hm.size⟩,hm⟩
 ·rcases e with e | e
  ·omega
  ·have:=(hxl j e).1;omega
 ·rcases e with e | e
  ·exact h.four.1 e.symm
  ·exact (hap _ e).1 rfl
 ·rcases e with e | e
  ·exact h.four.2.1 e.symm
  ·exact (hap _ e).2.1 rfl
 ·rcases e with e | e
  ·exact h.four.2.2.1 e.symm
  ·exact (hap _ e).2.2.1 rfl
 ·rw [← hcell]
  have r1:=k2.owns h.row (fun j e f=>(hap j f).2.2.2.1 (by simpa [Value.ownBlock] using e.symm))
  exact (r1.stored (i*2+1) cv).1
 ·rcases f with f | f
  ·exact (h.sv_ j e).2.2.2 f
  ·exact (hap j f).2.2.2.2 e
 ·have old:∀(s:Rec),hs[k]? = some (if k=i then x else y)→rs[k]? = some s→Rd W 2 (if k=i then x else y).1 s.1.length (labCells s.1)∧(s.1≠[]→∀j,(if k=i then x else y).1.ownBlock=some j→j<w.heap.size):=fun s a b=>h.lab k _ s a b
  have key:∀(u:Value) (l:List Lab),Rd W 2 u l.length (labCells l)→(l≠[]→∀j,u.ownBlock=some j→j<w.heap.size)→Rd (W1.setCell ⟨gl,i*2+1,none⟩ cv) 2 u l.length (labCells l):=fun u l hu ho=>hu.mods' hm (fun ne j e f=>by
   have:=ho (labCells_ne ne) j e
   rcases f with f | f
   ·omega
   ·have:=(hxl j f).1;omega)
  rw [List.getElem?_set] at hs'
  rcases get hy with ⟨rfl,rfl⟩ | ⟨e,hy'⟩
  ·rw [if_pos rfl,if_pos hltr] at hs'
   cases hs'
   obtain ⟨a,c⟩:=h.lab k x r hi hr
   exact ⟨key _ _ a c,c⟩
  ·rw [if_neg (fun f=>e f.symm)] at hs'
   obtain ⟨a,c⟩:=h.lab k y s hy' hs'
   exact ⟨key _ _ a c,c⟩
 ·rw [List.getElem?_set] at hs'
  rcases get hy with ⟨rfl,rfl⟩ | ⟨e,hy'⟩
  ·rw [if_pos rfl,if_pos hltr] at hs'
   cases hs'
   show World.ownsRow _ _ _ _ _ _ _
   rw [List.length_append,i64s_append]
   exact owns_rebase (hs1.owns k1 (fun j e f=>(hcv j e).2.2.2.2.1 f)) (fun j e=>(hcv j e).1)
  ·rw [if_neg (fun f=>e f.symm)] at hs'
   exact hm.owns (h.lens k y s hy' hs') (fun j a b=>by
    rcases b with b | b
    ·exact (h.apart k y hy' j a).2.2.2.1 b
    ·exact h.dis k i y x e hy' hi j a b)
 ·rcases get hy with ⟨rfl,rfl⟩ | ⟨_,hy'⟩
  ·exact (hcv j e).2
  ·exact h.apart k y hy' j e
 ·rcases get hy with ⟨rfl,rfl⟩ | ⟨a,hy1⟩
  ·rcases get hy' with ⟨rfl,rfl⟩ | ⟨b,hy2⟩
   ·exact absurd rfl hne
   ·exact hcv2 k' y' b hy2 j e
  ·rcases get hy' with ⟨rfl,rfl⟩ | ⟨b,hy2⟩
   ·exact fun f=>hcv2 k y a hy1 j f e
   ·exact h.dis k k' y y' hne hy1 hy2 j e
 ·have up:MineC gb gL gc gl sv hs j→¬N j:=h.off j
  rcases hj with e | e | e | e | e | ⟨y,hy,e⟩
  ·exact up (Or.inl e)
  ·exact up (Or.inr (Or.inl e))
  ·exact up (Or.inr (Or.inr (Or.inl e)))
  ·exact up (Or.inr (Or.inr (Or.inr (Or.inl e))))
  ·exact up (Or.inr (Or.inr (Or.inr (Or.inr (Or.inl e)))))
  ·rcases List.mem_or_eq_of_mem_set hy with f | f
   ·exact up (Or.inr (Or.inr (Or.inr (Or.inr (Or.inr ⟨y,f,e⟩)))))
   ·subst f
    rcases k3 j e with g | g
    ·exact up (Or.inr (Or.inr (Or.inr (Or.inr (Or.inr ⟨x,List.mem_of_getElem? hi,g⟩)))))
    ·exact fun f=>by have:=h.nlt j f;omega
theorem CoAt.extend (h:CoAt w gb gL gc gl bv n rs out N W hs sv) {l:List Nat} {sv':Value} {W1:World}
  (k1:W1.ownsRow 0 5 1 sv' (out.length+l.length) (u8s out++u8s l)) (k2:Mods (fun k=>sv.ownBlock=some k) W W1) (k3:Fresh W.heap.size sv sv') :
  CoAt w gb gL gc gl bv n rs (out++l) N (W1.setCell ⟨gc,0,none⟩ sv') hs sv'∧Mods (fun j=>j=gc∨sv.ownBlock=some j) W (W1.setCell ⟨gc,0,none⟩ sv'):=by
 have hs1:Mods (fun j=>j=gc) W1 (W1.setCell ⟨gc,0,none⟩ sv'):=Mods.set _ _ _ _ (fun _=>rfl)
 have hm:Mods (fun j=>j=gc∨sv.ownBlock=some j) W (W1.setCell ⟨gc,0,none⟩ sv'):=(k2.mono (fun _ _ e=>Or.inr e)).trans hs1 (fun _ _ e=>Or.inl e)
 have hbs:=h.bel.size
 have q1:=h.bb.lt;have q2:=h.bL.lt;have q3:=h.bc.lt
 have hgW:gl<W.heap.size:=(h.row.lt gl rfl).2
 have hl:=h.low
 have hnew:∀j,sv'.ownBlock=some j→w.heap.size≤j∧j≠gb∧j≠gL∧j≠gc∧j≠gl:=fun j e=>by
  rcases k3 j e with f | f
  ·exact ⟨(h.own.lt j f).1,h.sv_ j f⟩
  ·exact ⟨by omega,by omega,by omega,by omega,by omega⟩
 have hnx:∀(k:Nat) (y:Hd),hs[k]? = some y→∀j,y.2.ownBlock=some j→sv'.ownBlock≠some j:=fun k y hy j e f=>by
  rcases k3 j f with g | g
  ·exact (h.apart k y hy j e).2.2.2.2 g
  ·obtain ⟨s,hs'⟩:=h.rec_ hy
   have:=((h.lens k y s hy hs').lt j e).2;omega
 refine ⟨⟨h.bel.trans (hm.below hbs (fun j hj e=>?_)),hm.blk h.bb (fun e=>?_),hm.blk h.bL (fun e=>?_),?_,hm.owns h.row (fun j a b=>?_),h.len,h.lenr,?_,fun k y s hy hs'=>⟨(h.lab k y s hy hs').1.mods' hm (fun ne j a b=>?_),(h.lab k y s hy hs').2⟩,fun k y s hy hs'=>hm.owns (h.lens k y s hy hs') (fun j a b=>?_),fun k y hy j e=>?_,h.dis,fun j e=>(hnew j e).2,h.four,h.low,fun j hj=>?_,fun j e=>Nat.lt_of_lt_of_le (h.nlt j e) hm.size⟩,hm⟩
 ·rcases e with e | e
  ·omega
  ·have:=(h.own.lt j e).1;omega
 ·rcases e with e | e
  ·exact h.four.2.2.2.1 e.symm
  ·exact (h.sv_ _ e).1 rfl
 ·rcases e with e | e
  ·exact h.four.2.2.2.2 e.symm
  ·exact (h.sv_ _ e).2.1 rfl
 ·have b1:=k2.blk h.bc (fun e=>(h.sv_ _ e).2.2.1 rfl)
  simpa using b1.set 0 sv'
 ·have a':j=gl:=by simpa [Value.ownBlock] using a.symm
  rcases b with b | b
  ·exact h.four.2.2.1 (a' ▸ b)
  ·exact (h.sv_ j b).2.2.2 a'
 ·rw [List.length_append,u8s_append]
  exact owns_rebase (hs1.owns k1 (fun j e f=>(hnew j e).2.2.2.1 f)) (fun j e=>(hnew j e).1)
 ·have:=(h.lab k y s hy hs').2 (labCells_ne ne) j a
  rcases b with b | b
  ·omega
  ·have:=(h.own.lt j b).1;omega
 ·rcases b with b | b
  ·exact (h.apart k y hy j a).2.2.1 b
  ·exact (h.apart k y hy j a).2.2.2.2 b
 ·have a:=h.apart k y hy j e
  exact ⟨a.1,a.2.1,a.2.2.1,a.2.2.2.1,hnx k y hy j e⟩
 ·have up:MineC gb gL gc gl sv hs j→¬N j:=h.off j
  rcases hj with e | e | e | e | e | e
  ·exact up (Or.inl e)
  ·exact up (Or.inr (Or.inl e))
  ·exact up (Or.inr (Or.inr (Or.inl e)))
  ·exact up (Or.inr (Or.inr (Or.inr (Or.inl e))))
  ·rcases k3 j e with g | g
   ·exact up (Or.inr (Or.inr (Or.inr (Or.inr (Or.inl g)))))
   ·exact fun f=>by have:=h.nlt j f;omega
  ·exact up (Or.inr (Or.inr (Or.inr (Or.inr (Or.inr e)))))
end Go.Proofs.YtdcgbgecbeegmaaGreatDoor
end
section
set_option maxRecDepth 20000
namespace Go.Proofs.YtdcgbgecbeegmaaGreatDoor
open Go Go.RowKit
structure WriterIn (w:World) (p:Nat) (v:Value) (bits:List Bool):Prop where
 blk:Blk w p [.int .i64 bits.length,v]
 own:w.ownsRow 0 5 1 v (pack bits).length (u8s (pack bits))
 ne:v.ownBlock≠some p
structure Upd (w w':World) (p:Nat) (v v':Value):Prop where
 mods:Mods (fun k=>k=p∨v.ownBlock=some k) w w'
 fresh:Fresh w.heap.size v v'
theorem Upd.refl (w:World) (p:Nat) (v:Value):Upd w w p v v:=⟨Mods.refl _ _,Fresh.refl _ _⟩
theorem Upd.trans {a b c:World} {p:Nat} {u v x:Value} (h:Upd a b p u v) (k:Upd b c p v x):Upd a c p u x:=
 ⟨h.mods.trans k.mods (fun j hj e=>by
  rcases e with e | e
  ·exact Or.inl e
  ·rcases h.fresh j e with e | e
   ·exact Or.inr e
   ·omega),h.fresh.trans k.fresh h.mods.size⟩
theorem shift_any (n:Int) (w:World) (h0:0≤n) (h1:n≤9223372036854775807):Calls Tryz.prog 224 #[.int .i64 n] w fun e w'=>e = .returned (.int .i64 (7-n % 8))∧w'=w:=by
 go_enter Tryz.func224,Tryz.ntmps224
 go_wp2
 go_ret
 exact ⟨rfl,rfl⟩
def PushPost (p:Nat) (v:Value) (bits:List Bool) (b:Bool) (w w':World):Prop:=∃v',WriterIn w' p v' (bits++[b])∧Upd w w' p v v'
theorem pushed_old {w:World} {p g m cap:Nat} {bits:List Bool} (b:Bool) (h:WriterIn w p (.slice (some ⟨g,0,none⟩) m cap) bits) (hr:bits.length % 8≠0) (y:Int) (hy:y=((byteOf (bits++[b]) (bits.length / 8):Nat):Int)) :
  PushPost p (.slice (some ⟨g,0,none⟩) m cap) bits b w (((w.setCell ⟨g,bits.length / 8,none⟩ (.int .u8 y)).setCell ⟨p,0,none⟩ (.int .i64 (bits.length+1))).drew):=by
 subst hy
 have hgp:g≠p:=fun e=>h.ne (by simp [Value.ownBlock,e])
 have hm:m=(pack bits).length:=by
  rcases owns_cases h.own with ⟨e,_⟩ | ⟨g',c',e,_⟩
  ·simp at e
  ·simp at e;exact e.2.1
 subst hm
 have hst:=(h.own.stored (bits.length / 8) (.int .u8 ((byteOf (bits++[b]) (bits.length / 8):Nat):Int))).1
 rw [u8s_set,← pack_push_old bits b hr] at hst
 have hl:(pack (bits++[b])).length=(pack bits).length:=by simp [pack_length];omega
 refine ⟨.slice (some ⟨g,0,none⟩) (pack bits).length cap,⟨?_,?_,h.ne⟩,⟨?_,Fresh.refl _ _⟩⟩
 ·have:=(h.blk.set_other (a:=⟨g,bits.length / 8,none⟩) (Ne.symm hgp) (.int .u8 ((byteOf (bits++[b]) (bits.length / 8):Nat):Int))).set 0 (.int .i64 (bits.length+1))
  exact Blk.drew (by simpa using this)
 ·rw [hl]
  exact (Mods.set (fun k=>k=p) _ ⟨p,0,none⟩ _ (fun _=>rfl)).owns hst (fun k hk e=>h.ne (by rw [← e];exact hk))
 ·exact ((Mods.set _ _ _ _ (fun _=>Or.inr rfl)).trans (Mods.set (fun k=>k=p∨k=g) _ ⟨p,0,none⟩ _ (fun _=>Or.inl rfl)) (fun j _ e=>by
   rcases e with e | e
   ·exact Or.inl e
   ·exact Or.inr (by simp [Value.ownBlock,e]))).trans (Mods.drew (fun _=>False) _) (fun _ _ e=>e.elim)
set_option maxHeartbeats 400000 in
theorem push_old (p g m cap:Nat) (bs:List Bool) (b:Bool) (c:Int) (w:World) (h:WriterIn w p (.slice (some ⟨g,0,none⟩) m cap) bs) (hb:bs.length<1125899906842624) (hr:bs.length % 8≠0)
  (hc:c=(b.toNat:Int)):Calls Tryz.prog 181 #[.pointer (some ⟨p,0,none⟩),.int .u8 c] w fun e w'=>e = .returned (.tuple #[])∧PushPost p (.slice (some ⟨g,0,none⟩) m cap) bs b w w':=by
 have hgp:g≠p:=fun e=>h.ne (by simp [Value.ownBlock,e])
 have hm:m=(bs.length+7) / 8:=by
  rcases owns_cases h.own with ⟨e,_⟩ | ⟨g',c',e,_⟩
  ·simp at e
  ·simp at e;rw [e.2.1,pack_length]
 have h0:w.cell? ⟨p,0,none⟩=some (.int .i64 bs.length):=by rw [h.blk.cell];rfl
 have h1:w.cell? ⟨p,1,none⟩=some (.slice (some ⟨g,0,none⟩) m cap):=by rw [h.blk.cell];rfl
 have f0:w.frozen? ⟨p,0,none⟩=false:=h.blk.free 0
 have hg:w.cell? ⟨g,bs.length / 8,none⟩=some (.int .u8 ((byteOf bs (bs.length / 8):Nat):Int)):=by
  have hown:=h.own
  rw [pack_length,← hm] at hown
  rw [hown.cellAt _ (by omega),u8s,List.getElem?_map,pack_get _ _ (by omega)];rfl
 have fg:w.frozen? ⟨g,bs.length / 8,none⟩=false:=by
  have hown:=h.own
  rw [pack_length,← hm] at hown
  exact hown.frozenAt _
 have hor:=or_bit bs b ((byteOf bs (bs.length / 8):Nat):Int) (c*2 ^ (7-bs.length % 8) % 256) rfl (by
  have hb1:b.toNat≤1:=by cases b<;>simp
  have hp:2 ^ (7-bs.length % 8)≤2 ^ 7:=Nat.pow_le_pow_right (by omega) (by omega)
  have hx:b.toNat*2 ^ (7-bs.length % 8)<256:=by
   have:=Nat.mul_le_mul hb1 hp
   omega
  have e:(b.toNat:Int)*2 ^ (7-bs.length % 8)=((b.toNat*2 ^ (7-bs.length % 8):Nat):Int):=by simp
  rw [hc,e]
  omega)
 have Hor:=Lib.hid hor;clear hor
 have PP:=fun y hy=>pushed_old (w:=w) b h hr y hy
 have HP:=Lib.hid PP;clear PP
 clear h
 generalize hY:((byteOf (bs++[b]) (bs.length / 8):Nat):Int)=Y at *
 generalize hK:((byteOf bs (bs.length / 8):Nat):Int)=K at *
 clear hY hK
 generalize bs.length=n at *
 have hne:((n:Int) % 8 == 0)=false:=by rw [beq_eq_false_iff_ne];omega
 have hlt:(n:Int) / 8<(m:Int):=by omega
 have hge:0≤(n:Int) / 8:=by omega
 have hw1:IntKind.i64.wrap ((n:Int) / 8)=(n:Int) / 8:=IntWalk.i64_in _ (by omega)
 have hs0:(0:Int)≤7-(n:Int) % 8:=by omega
 have hs1:7-(n:Int) % 8<8:=by omega
 have hd:((n:Int) / 8).toNat=n / 8:=by omega
 clear hm hc
 go_enter Tryz.func181,Tryz.ntmps181
 go_wp2_with fail
 go_still_tail 22,(by kernel_rfl)
 still_call (shift_any _ _ (by omega) (by omega))
 repeat still_step
 refine wpStill_nil ?_
 change wpList _ _ _ _ _ w.drew
 go_wp2
 go_end0
 exact ⟨rfl,HP.out _ Hor.out⟩
theorem pushed_new {w w1:World} {p g m cap:Nat} {v:Value} {bits:List Bool} (b:Bool) (h:WriterIn w p v bits) (hr:bits.length % 8=0) (hb:Blk w1 p [.int .i64 bits.length,v])
  (ho:w1.ownsRow 0 5 1 (.slice (some ⟨g,0,none⟩) m cap) ((pack bits).length+1) (u8s (pack bits)++[.int .u8 0])) (hm:Mods (fun k=>v.ownBlock=some k) w w1)
  (hf:Fresh w.heap.size v (.slice (some ⟨g,0,none⟩) m cap)) (y:Int) (hy:y=((b.toNat*128:Nat):Int)) :
  PushPost p v bits b w ((((w1.setCell ⟨p,1,none⟩ (.slice (some ⟨g,0,none⟩) m cap)).setCell ⟨g,bits.length / 8,none⟩ (.int .u8 y)).setCell ⟨p,0,none⟩ (.int .i64 (bits.length+1))).drew):=by
 subst hy
 have hgp:g≠p:=fun e=>by
  rcases hf g rfl with h1 | h1
  ·exact h.ne (by rw [h1,e])
  ·have:=h.blk.lt;omega
 have hm':m=(pack bits).length+1:=by
  rcases owns_cases ho with ⟨e,_⟩ | ⟨g',c',e,_⟩
  ·simp at e
  ·simp at e;exact e.2.1
 subst hm'
 have hq:(pack bits).length=bits.length / 8:=by rw [pack_length];omega
 have e1:u8s (pack bits)++[.int .u8 0]=u8s (pack bits++[0]):=by rw [u8s_append];rfl
 have e2:(pack bits++[0]).set (bits.length / 8) (b.toNat*128)=pack (bits++[b]):=by
  rw [pack_push_new bits b hr,List.set_append_right _ _ (by omega),hq];simp
 have ho1:=(Mods.set (fun k=>k=p) w1 ⟨p,1,none⟩ (.slice (some ⟨g,0,none⟩) ((pack bits).length+1) cap) (fun _=>rfl)).owns ho (fun k hk e=>by simp [Value.ownBlock] at hk;omega)
 have hst:=(ho1.stored (bits.length / 8) (.int .u8 ((b.toNat*128:Nat):Int))).1
 rw [e1,u8s_set,e2] at hst
 have hl:(pack (bits++[b])).length=(pack bits).length+1:=by simp [pack_length];omega
 have hb1:=(((hb.set 1 (.slice (some ⟨g,0,none⟩) ((pack bits).length+1) cap)).set_other (a:=⟨g,bits.length / 8,none⟩) (Ne.symm hgp) (.int .u8 ((b.toNat*128:Nat):Int))).set 0 (.int .i64 (bits.length+1)))
 refine ⟨.slice (some ⟨g,0,none⟩) ((pack bits).length+1) cap,⟨?_,?_,?_⟩,⟨?_,hf⟩⟩
 ·exact Blk.drew (by simpa using hb1)
 ·rw [hl]
  exact (Mods.set (fun k=>k=p) _ ⟨p,0,none⟩ _ (fun _=>rfl)).owns hst (fun k hk e=>by simp [Value.ownBlock] at hk;omega)
 ·simp [Value.ownBlock];exact hgp
 ·have hgs:∀j,j<w.heap.size→j=g→(j=p∨v.ownBlock=some j):=fun j hj e=>by
   rcases hf g rfl with h1 | h1
   ·exact Or.inr (by rw [e];exact h1)
   ·omega
  exact ((((hm.mono (fun j _ e=>Or.inr e)).trans (Mods.set (fun k=>k=p) _ ⟨p,1,none⟩ _ (fun _=>rfl)) (fun j _ e=>Or.inl e)).trans (Mods.set (fun k=>k=g) _ ⟨g,_,none⟩ _ (fun _=>rfl)) (fun j hj e=>hgs j hj e)).trans
   (Mods.set (fun k=>k=p) _ ⟨p,0,none⟩ _ (fun _=>rfl)) (fun j _ e=>Or.inl e)).trans (Mods.drew (fun _=>False) _) (fun _ _ e=>e.elim)
set_option maxHeartbeats 1000000 in
theorem push_new (p:Nat) (v:Value) (bs:List Bool) (b:Bool) (c:Int) (w:World) (h:WriterIn w p v bs) (hb:bs.length<1125899906842624) (hr:bs.length % 8=0)
  (hc:c=(b.toNat:Int)):Calls Tryz.prog 181 #[.pointer (some ⟨p,0,none⟩),.int .u8 c] w fun e w'=>e = .returned (.tuple #[])∧PushPost p v bs b w w':=by
 have h0:w.cell? ⟨p,0,none⟩=some (.int .i64 bs.length):=by rw [h.blk.cell];rfl
 have h1:w.cell? ⟨p,1,none⟩=some v:=by rw [h.blk.cell];rfl
 have hpl:=h.blk.lt
 obtain ⟨i0,hi,hz0,hz1,hz2⟩:=info_parts Tryz.infoU8
 have hmL:(pack bs).length+1≤maxLen∧((pack bs).length+1)*1≤140737488355328:=by rw [pack_length];unfold maxLen;omega
 have H:=Lib.hid h;clear h
 have hne:((bs.length:Int) % 8 == 0)=true:=by rw [beq_iff_eq];omega
 have hnn:(bs.length:Int)≤1125899906842624:=by omega
 go_enter Tryz.func181,Tryz.ntmps181
 go_wp2_with (at_builtin;refine wpList_app _ rfl _ _ 25 rfl 5 i0 (.int .u8 0) 1 1 Tryz.underlying25 hi hz0 hz1 hz2 rfl (by decide) _ _ _ rfl (H.out.own.alloc _) ⟨w.heap.size,0,none⟩ 1 1 [.int .u8 0] rfl rfl ?c1 ?c2 ?c3 ?c4 ?_)
 case c1=>exact news_one _ _ _
 case c2=>intro u hu;simp at hu;subst hu;rfl
 case c3=>exact hmL.1
 case c4=>exact hmL.2
 intro v' w1 hown hmods hfresh
 have hex:∃g cap,v' = .slice (some ⟨g,0,none⟩) ((pack bs).length+1) cap:=by
  rcases owns_cases hown with ⟨_,e,_⟩ | ⟨g,cap,e,_⟩
  ·omega
  ·exact ⟨g,cap,e⟩
 obtain ⟨g,cap,hv⟩:=hex
 rw [hv]
 rw [hv] at hown hfresh
 clear hv
 have hb1:Blk w1 p [.int .i64 bs.length,v]:=hmods.blk (H.out.blk.alloc _) H.out.ne
 have hmods':Mods (fun k=>v.ownBlock=some k) w w1:=(Mods.alloc _ w _).trans hmods (fun _ _ e=>e)
 have hfr:Fresh w.heap.size v (.slice (some ⟨g,0,none⟩) ((pack bs).length+1) cap):=fun k hk=>by
  rcases hfresh k hk with e | e
  ·exact Or.inl e
  ·exact Or.inr (by omega)
 have PP:=fun y hy=>pushed_new (w:=w) b H.out hr hb1 hown hmods' hfr y hy
 have hgp:g≠p:=fun e=>by
  rcases hfr g rfl with h1 | h1
  ·exact H.out.ne (by rw [h1,e])
  ·omega
 have hq:(pack bs).length=bs.length / 8:=by rw [pack_length];omega
 have j1:w1.cell? ⟨p,1,none⟩=some v:=by rw [hb1.cell];rfl
 have jf:w1.frozen? ⟨p,1,none⟩=false:=hb1.free 1
 have hb2:=hb1.set 1 (.slice (some ⟨g,0,none⟩) ((pack bs).length+1) cap)
 have ho2:=(Mods.set (fun k=>k=p) w1 ⟨p,1,none⟩ (.slice (some ⟨g,0,none⟩) ((pack bs).length+1) cap) (fun _=>rfl)).owns hown (fun k hk e=>by simp [Value.ownBlock] at hk;omega)
 have k0:(w1.setCell ⟨p,1,none⟩ (.slice (some ⟨g,0,none⟩) ((pack bs).length+1) cap)).cell? ⟨p,0,none⟩=some (.int .i64 bs.length):=by rw [hb2.cell];rfl
 have k1:(w1.setCell ⟨p,1,none⟩ (.slice (some ⟨g,0,none⟩) ((pack bs).length+1) cap)).cell? ⟨p,1,none⟩=some (.slice (some ⟨g,0,none⟩) ((pack bs).length+1) cap):=by rw [hb2.cell];rfl
 have k2:(w1.setCell ⟨p,1,none⟩ (.slice (some ⟨g,0,none⟩) ((pack bs).length+1) cap)).cell? ⟨g,bs.length / 8,none⟩=some (.int .u8 0):=by
  rw [ho2.cellAt _ (by omega),List.getElem?_append_right (by rw [u8s_length];omega),u8s_length,hq,Nat.sub_self];rfl
 have f0:(w1.setCell ⟨p,1,none⟩ (.slice (some ⟨g,0,none⟩) ((pack bs).length+1) cap)).frozen? ⟨p,0,none⟩=false:=hb2.free 0
 have f2:(w1.setCell ⟨p,1,none⟩ (.slice (some ⟨g,0,none⟩) ((pack bs).length+1) cap)).frozen? ⟨g,bs.length / 8,none⟩=false:=ho2.frozenAt _
 have hbit:bits BinOp.or IntKind.u8 0 ((b.toNat:Int)*128 % 256)=((b.toNat*128:Nat):Int):=by cases b<;>decide +kernel
 have HB:=Lib.hid hbit;clear hbit
 have HP:=Lib.hid PP;clear PP
 have hmq:bs.length / 8<(pack bs).length+1:=by omega
 have Hq:=Lib.hid hq;clear hq
 have K0:=Lib.hid k0;have K1:=Lib.hid k1;have K2:=Lib.hid k2;have F0:=Lib.hid f0;have F2:=Lib.hid f2
 clear hown hmods hfresh hmods' hfr hb1 h0 h1 hb2 ho2 k0 k1 k2 f0 f2
 generalize bs.length=n at *
 generalize (pack bs).length+1=m at *
 have hlt:(n:Int) / 8<(m:Int):=by omega
 have hge:0≤(n:Int) / 8:=by omega
 have hw1:IntKind.i64.wrap ((n:Int) / 8)=(n:Int) / 8:=IntWalk.i64_in _ (by omega)
 have hd:((n:Int) / 8).toNat=n / 8:=by omega
 go_wp2_with fail
 generalize w1.setCell ⟨p,1,none⟩ (.slice (some ⟨g,0,none⟩) m cap)=w2 at K0 K1 K2 F0 F2 HP ⊢
 have k0:=K0.out;have k1:=K1.out;have k2:=K2.out;have f0:=F0.out;have f2:=F2.out
 clear K0 K1 K2 F0 F2
 go_still_tail 22,(by kernel_rfl)
 still_call (shift_any _ _ (by omega) (by omega))
 repeat still_step
 refine wpStill_nil ?_
 change wpList _ _ _ _ _ w2.drew
 go_wp2
 go_end0
 exact ⟨rfl,HP.out _ HB.out⟩
theorem push_any (p:Nat) (v:Value) (bs:List Bool) (b:Bool) (c:Int) (w:World) (h:WriterIn w p v bs) (hb:bs.length<1125899906842624)
  (hc:c=(b.toNat:Int)):Calls Tryz.prog 181 #[.pointer (some ⟨p,0,none⟩),.int .u8 c] w fun e w'=>e = .returned (.tuple #[])∧PushPost p v bs b w w':=by
 by_cases hr:bs.length % 8=0
 ·exact push_new p v bs b c w h hb hr hc
 ·rcases owns_cases h.own with ⟨_,e,_⟩ | ⟨g,cap,e,_⟩
  ·rw [pack_length] at e;omega
  ·subst e;exact push_old p g _ cap bs b c w h hb hr hc
def BitsPost (p:Nat) (v:Value) (out:List Bool) (w w':World):Prop:=∃v',WriterIn w' p v' out∧Upd w w' p v v'
theorem bit_val (x k:Nat):bits BinOp.and IntKind.u8 ((x:Int) / 2 ^ k % 256) 1=((x.testBit k).toNat:Int):=by
 have e:(x:Int) / 2 ^ k % 256=((x / 2 ^ k % 256:Nat):Int):=by simp
 rw [e]
 have:=bits_mask .u8 8 (by decide) wraps_u8 1 (by decide) ((x / 2 ^ k % 256:Nat):Int) (Int.natCast_nonneg _) (by have:x / 2 ^ k % 256<256:=Nat.mod_lt _ (by omega);simp;omega)
 simp only [Int.reduceSub,Int.pow_one] at this
 rw [this]
 rw [testBit_toNat]
 omega
set_option maxHeartbeats 400000 in
theorem wbits (p:Nat) (v:Value) (bs:List Bool) (x n:Nat) (w:World) (h:WriterIn w p v bs) (hn:n≤64) (hb:bs.length+64≤1125899906842624) :
  Calls Tryz.prog 137 #[.pointer (some ⟨p,0,none⟩),.int .u64 x,.int .i64 n] w fun e w'=>e = .returned (.int .i64 0)∧BitsPost p v (bs++fieldBits x n) w w':=by
 go_enter Tryz.func137,Tryz.ntmps137
 go_wp2
 go_loopw [17] (fun c wr=>∃(k:Nat) (v':Value),k≤n∧c = .int .i64 k∧WriterIn wr p v' (bs++(fieldBits x n).take k)∧Upd w wr p v v') (fun c _=>n-(intOf c).toNat)
 case atStart=>exact ⟨0,v,Nat.zero_le _,rfl,by simpa using h,Upd.refl _ _ _⟩
 case round=>
  obtain ⟨k,v',hk,rfl,hW,hU⟩:=hrel
  by_cases hlt:k<n
  ·go_wp2_with fail
   refine (push_any p v' _ (x.testBit (n-1-k)) _ _ hW (by rw [List.length_append,List.length_take,fieldBits_length];omega) (bit_val x (n-1-k))).mono ?_
   rintro e w' ⟨rfl,v2,hW2,hU2⟩
   have HR:Hid (BitsPost p v (bs++(fieldBits x n).take (k+1)) w w'):=⟨v2,by rw [fieldBits_take_succ x n k hlt,← List.append_assoc];exact hW2,hU.trans hU2⟩
   clear hW hU hW2 hU2
   go_wp2
   go_roundw
   case rel=>
    obtain ⟨v2,hW2,hU2⟩:=HR.out
    exact ⟨k+1,v2,by omega,by go_num,hW2,hU2⟩
   case measure=>simp [intOf];omega
  ·go_wp2
   go_ret
   obtain rfl:k=n:=by omega
   exact ⟨rfl,v',by rwa [List.take_of_length_le (by rw [fieldBits_length];omega)] at hW,hU⟩
theorem new_writer (w:World):Calls Tryz.prog 136 #[] w fun e w'=>e = .returned (.pointer (some ⟨w.heap.size,0,none⟩))∧WriterIn w' w.heap.size (.slice none 0 0) []∧Below w.heap.size w w':=by
 go_enter Tryz.func136,Tryz.ntmps136
 go_wp2
 go_ret
 exact ⟨rfl,⟨Blk.new _ _ _,World.ownsRow_nil _ _ _ _,by simp [Value.ownBlock]⟩,(Below.refl _ _).alloc (Nat.le_refl _) _⟩
theorem WriterIn.mods {S:Nat→Prop} {w w':World} {p:Nat} {v:Value} {bs:List Bool} (h:WriterIn w p v bs) (hm:Mods S w w') (hp:¬S p) (hv:∀k,v.ownBlock=some k→¬S k):WriterIn w' p v bs:=
 ⟨hm.blk h.blk hp,hm.owns h.own hv,h.ne⟩
theorem WriterIn.below {w w':World} {p:Nat} {v:Value} {bs:List Bool} (h:WriterIn w p v bs) (hb:Below w.heap.size w w'):WriterIn w' p v bs:=h.mods (Mods.of_below hb (fun _=>False)) (fun e=>e) (fun _ _ e=>e)
set_option maxHeartbeats 400000 in
theorem clone_any (v:Value) (n:Nat) (vs:List Value) (w:World) (h:Rd w 1 v n vs) (h1:∀u∈vs,u.oneCell'=true) (hn:n≤140737488355328) :
  Calls Tryz.prog 193 #[v] w fun e w'=>∃r,e = .returned r∧Made w w' 5 1 r n vs:=by
 obtain ⟨i0,hi,hz0,hz1,hz2⟩:=info_parts Tryz.infoU8
 obtain ⟨p,c,rfl,hl,hc1,hc2,hnil,hcell⟩:=h
 have hmax:n≤maxLen:=by unfold maxLen;omega
 cases p with
 | none=>
  obtain ⟨rfl,rfl⟩:=hnil rfl
  obtain rfl:vs=[]:=List.eq_nil_of_length_eq_zero (by simpa using hl)
  go_enter Tryz.func193,Tryz.ntmps193
  go_wp2
  go_ret
  exact ⟨_,rfl,World.ownsRow_nil _ _ _ _,Below.refl _ _⟩
 | some ad=>
  have HC:=Lib.hid hcell;clear hcell hnil
  go_enter Tryz.func193,Tryz.ntmps193
  go_wp2_with (at_builtin;refine wpList_append_own _ rfl _ _ 25 rfl w.heap.size 5 i0 (.int .u8 0) 1 1 Tryz.underlying25 hi hz0 hz1 hz2 rfl (by decide) _ _ _ rfl (World.ownsRow_nil _ _ _ _) ad n c vs rfl ?c1 ?c2 ?c3 ?c4 ?c5 ?c6 ?_)
  case c1=>exact hl
  case c2=>exact HC.out ad rfl
  case c3=>exact h1
  case c4=>omega
  case c5=>omega
  case c6=>exact Nat.le_refl _
  intro v' w1 hown hgrow hx
  clear hx
  have HO:=Lib.hid hown;have HG:=Lib.hid hgrow;clear hown hgrow
  go_wp2
  go_ret
  exact ⟨_,rfl,HO.out,(Below.refl _ _).grown HG.out (Nat.le_refl _) (fun k e=>by cases e)⟩
theorem wbytes (p:Nat) (v:Value) (bs:List Bool) (w:World) (h:WriterIn w p v bs) (hb:bs.length≤1125899906842624):Calls Tryz.prog 140 #[.pointer (some ⟨p,0,none⟩)] w
  fun e w'=>∃r,e = .returned r∧Made w w' 5 1 r (pack bs).length (u8s (pack bs)):=by
 have h1:w.cell? ⟨p,1,none⟩=some v:=by rw [h.blk.cell];rfl
 have hr:Rd w 1 v (pack bs).length (u8s (pack bs)):=Rd.of_owns h.own
 have hlen:(pack bs).length≤140737488355328:=by rw [pack_length];omega
 clear h
 go_enter Tryz.func140,Tryz.ntmps140
 go_wp2_with (go_at_call 193;refine (clone_any _ _ _ _ hr (u8s_oneCell _) hlen).mono ?_;rintro e w' ⟨r,rfl,hm⟩)
 go_ret
 exact ⟨_,rfl,hm⟩
end Go.Proofs.YtdcgbgecbeegmaaGreatDoor
end
section
namespace Go.Proofs.YtdcgbgecbeegmaaGreatDoor
open Go Go.RowKit
theorem signed_0 (u:Nat) (hu:u<18446744073709551616) (w:World) :
  Calls Tryz.prog 268 #[.int .u64 (u:Int),.int .i64 0] w fun e w'=>e = .returned (.int .i64 (signT (u % 2 ^ 0) 0))∧w=w':=by
 have HE:Hid (wrap64 (IntKind.u64.wrap ((u:Int)*18446744073709551616)) / 18446744073709551616=signT (u % 2 ^ 0) 0):=by
  show _=_
  simp only [signT,IntKind.wrap_u64,w64_eq]
  omega
 go_enter Tryz.func268,Tryz.ntmps268
 go_wp2_with fail
 go_ret
 exact ⟨by rw [← HE.out];rfl,rfl⟩
theorem signed_7 (u:Nat) (hu:u<18446744073709551616) (w:World) :
  Calls Tryz.prog 268 #[.int .u64 (u:Int),.int .i64 7] w fun e w'=>e = .returned (.int .i64 (signT (u % 2 ^ 7) 7))∧w=w':=by
 have HE:Hid (wrap64 (IntKind.u64.wrap ((u:Int)*144115188075855872)) / 144115188075855872=signT (u % 2 ^ 7) 7):=by
  show _=_
  simp only [signT,IntKind.wrap_u64,w64_eq]
  omega
 go_enter Tryz.func268,Tryz.ntmps268
 go_wp2_with fail
 go_ret
 exact ⟨by rw [← HE.out];rfl,rfl⟩
theorem signed_12 (u:Nat) (hu:u<18446744073709551616) (w:World) :
  Calls Tryz.prog 268 #[.int .u64 (u:Int),.int .i64 12] w fun e w'=>e = .returned (.int .i64 (signT (u % 2 ^ 12) 12))∧w=w':=by
 have HE:Hid (wrap64 (IntKind.u64.wrap ((u:Int)*4503599627370496)) / 4503599627370496=signT (u % 2 ^ 12) 12):=by
  show _=_
  simp only [signT,IntKind.wrap_u64,w64_eq]
  omega
 go_enter Tryz.func268,Tryz.ntmps268
 go_wp2_with fail
 go_ret
 exact ⟨by rw [← HE.out];rfl,rfl⟩
theorem signed_32 (u:Nat) (hu:u<18446744073709551616) (w:World) :
  Calls Tryz.prog 268 #[.int .u64 (u:Int),.int .i64 32] w fun e w'=>e = .returned (.int .i64 (signT (u % 2 ^ 32) 32))∧w=w':=by
 have HE:Hid (wrap64 (IntKind.u64.wrap ((u:Int)*4294967296)) / 4294967296=signT (u % 2 ^ 32) 32):=by
  show _=_
  simp only [signT,IntKind.wrap_u64,w64_eq]
  omega
 go_enter Tryz.func268,Tryz.ntmps268
 go_wp2_with fail
 go_ret
 exact ⟨by rw [← HE.out];rfl,rfl⟩
theorem signed_64 (u:Nat) (hu:u<18446744073709551616) (w:World) :
  Calls Tryz.prog 268 #[.int .u64 (u:Int),.int .i64 64] w fun e w'=>e = .returned (.int .i64 (signT (u % 2 ^ 64) 64))∧w=w':=by
 have HE:Hid (wrap64 (u:Int)=signT (u % 2 ^ 64) 64):=by
  show _=_
  simp only [signT,w64_eq]
  omega
 go_enter Tryz.func268,Tryz.ntmps268
 go_wp2_with fail
 go_ret
 exact ⟨by rw [← HE.out];rfl,rfl⟩
theorem signed_any (u k:Nat) (hk:k≤4) (hu:u<18446744073709551616) (w:World) :
  Calls Tryz.prog 268 #[.int .u64 (u:Int),.int .i64 (widthT k:Int)] w fun e w'=>e = .returned (.int .i64 (signT (u % 2 ^ widthT k) (widthT k)))∧w=w':=by
 match k,hk with
 | 0,_=>exact signed_0 u hu w
 | 1,_=>exact signed_7 u hu w
 | 2,_=>exact signed_12 u hu w
 | 3,_=>exact signed_32 u hu w
 | 4,_=>exact signed_64 u hu w
def markT:Nat→Nat
 | 0=>0
 | 1=>2
 | 2=>6
 | 3=>14
 | _=>15
def markLenT:Nat→Nat
 | 0=>1
 | 1=>2
 | 2=>3
 | _=>4
def formCells (k:Nat):List Value:=[.int .u64 (markT k:Int),.int .i64 (markLenT k:Int),.int .i64 (widthT k:Int)]
def formV (k:Nat):Value:=.agg (formCells k).toArray
theorem mark_bits {k:Nat} (hk:k≤4):fieldBits (markT k) (markLenT k)=headT k:=by
 match k,hk with
 | 0,_=>rfl
 | 1,_=>rfl
 | 2,_=>rfl
 | 3,_=>rfl
 | 4,_=>rfl
theorem markLen_le (k:Nat):markLenT k≤4:=by unfold markLenT;split<;>omega
theorem fits_iff {x:Int} {k:Nat} (hk:k≤3):(signT (ofI x % 2 ^ widthT k) (widthT k)=x)↔formT x≤k:=by
 match k,hk with
 | 0,_=>
  simp only [widthT,signT,ofI,formT]
  repeat' split
  all_goals omega
 | 1,_=>
  simp only [widthT,signT,ofI,formT]
  repeat' split
  all_goals omega
 | 2,_=>
  simp only [widthT,signT,ofI,formT]
  repeat' split
  all_goals omega
 | 3,_=>
  simp only [widthT,signT,ofI,formT]
  repeat' split
  all_goals omega
theorem possible_any (x:Int) (k:Nat) (hk:k≤3) (w:World) :
  Calls Tryz.prog 226 #[formV k,.int .i64 x] w fun e w'=>e = .returned (.bool (decide (formT x≤k)))∧Below w.heap.size w w':=by
 have HX:Hid (signT (ofI x % 2 ^ widthT k) (widthT k)=x↔formT x≤k):=fits_iff hk
 have HS:=fun w=>Lib.hid (signed_any (ofI x) k (by omega) (ofI_lt x) w)
 have hwr:=wrap_ofI x
 have HC:Hid (formV k = .agg (formCells k).toArray):=rfl
 go_enter Tryz.func226,Tryz.ntmps226
 go_wp2_with (refine wpList_boxA rfl 250 (.tmp 0) rfl (formCells k) rfl ?_)
 intro w1 hb hB hs
 have HB:=Lib.hid hB
 have c2:w1.cell? ⟨w.heap.size,2,none⟩=some (.int .i64 (widthT k:Int)):=by rw [hb.cell];rfl
 clear hb hB hs
 go_wp2_with fail
 refine (HS w1).out.mono ?_
 rintro e w2 ⟨rfl,rfl⟩
 generalize signT (ofI x % 2 ^ widthT k) (widthT k)=y at *
 go_wp2_with fail
 go_ret
 refine ⟨ret_bool ?_,HB.out⟩
 by_cases h:y=x
 ·have:=HX.out.1 h
  simp [h,this]
 ·have:¬formT x≤k:=fun e=>h (HX.out.2 e)
  simp [h,this]
def TabF (w:World):Prop:=∀k,k≤4→w.cell? ⟨1,k*3,none⟩=some (.int .u64 (markT k:Int))∧w.cell? ⟨1,k*3+1,none⟩=some (.int .i64 (markLenT k:Int))∧w.cell? ⟨1,k*3+2,none⟩=some (.int .i64 (widthT k:Int))
theorem TabF.block {w w':World} (h:TabF w) (hb:w'.heap[1]? = w.heap[1]?):TabF w':=fun k hk=>by
 have:=h k hk
 unfold World.cell? at this ⊢
 rw [hb]
 exact this
theorem TabF.lt {w:World} (h:TabF w) : 1 < w.heap.size:=World.block_lt_of_cell? w _ (h 0 (by decide)).1
theorem TabF.below {w w':World} {B:Nat} (h:TabF w) (hb:Below B w w') (hB:w.heap.size≤B):TabF w':=h.block (hb.block _ (Nat.lt_of_lt_of_le h.lt hB))
theorem strForm:Str Tryz.prog 250 3 [.int .u64 0,.int .i64 0,.int .i64 0]:=Str.mk' Tryz.underlying250 rfl (by kernel_rfl) rfl
set_option maxHeartbeats 1000000 in
theorem formOf_any (x:Int) (w:World) (hT:TabF w) :
  Calls Tryz.prog 183 #[.int .i64 x] w fun e w'=>e = .returned (formV (formT x))∧Below w.heap.size w w':=by
 have hf4:=formT_le x
 go_enter Tryz.func183,Tryz.ntmps183
 go_wp2_with fail
 obtain ⟨w1,hw1⟩:∃w1,w.alloc (.cells #[.int .u64 0,.int .i64 0,.int .i64 0] 250)=w1:=⟨_,rfl⟩
 have HK1:Hid (Blk w1 w.heap.size [.int .u64 0,.int .i64 0,.int .i64 0]):=by rw [← hw1];exact Blk.new w _ _
 have HB1:Hid (Below w.heap.size w w1):=by rw [← hw1];exact (Below.refl _ w).alloc (Nat.le_refl _) _
 have HS1:Hid (w1.heap.size=w.heap.size+1):=by rw [← hw1];show _=_;simp
 have HT1:=Lib.hid (hT.below HB1.out (Nat.le_refl _))
 rw [hw1]
 clear hw1 hT
 go_loopw [3,4] (fun i c wr=>∃k:Nat,k≤4∧k≤formT x∧c = .int .i64 (k:Int)∧Hid (Below w1.heap.size w1 wr)) (fun _ c _=>4-(intOf c).toNat)
 case atStart=>exact ⟨0,by omega,by omega,rfl,Below.refl _ _⟩
 case round=>
  obtain ⟨k,hk4,hkf,rfl,HBr⟩:=hrel
  by_cases hlt:k<4
  ·have hlt':(k:Int)<4:=by omega
   have hlt5:(k:Int)<5:=by omega
   have HTr:=Lib.hid (HT1.out.below HBr.out (Nat.le_refl _))
   obtain ⟨t0,t1,t2⟩:=HTr.out k (by omega)
   have HP:=Lib.hid (possible_any x k (by omega) wr)
   go_wp2_with fail
   refine HP.out.mono ?_
   rintro e w2 ⟨rfl,hB2⟩
   have HB2:=Lib.hid (HBr.out.trans (hB2.mono HBr.out.size))
   have HT2:=Lib.hid (HTr.out.below hB2 (Nat.le_refl _))
   clear hB2 t0 t1 t2
   by_cases hp:formT x≤k
   ·obtain ⟨t0,t1,t2⟩:=HT2.out k (by omega)
    have hd:decide (formT x≤k)=true:=by simpa using hp
    have HK2:Hid (Blk w2 w.heap.size [.int .u64 0,.int .i64 0,.int .i64 0]):=HK1.out.of_same (HB2.out.block _ (by have:=HS1.out;omega))
    obtain ⟨⟨c0,c1,c2⟩,f0,f1,f2⟩:=HK2.out.three
    rw [hd]
    go_wp2_with fail
    have he:formT x=k:=by omega
    rw [he]
    refine bodyPost_ret (resultsS (p:=2) strForm (by kernel_rfl) _ w.heap.size rfl (formCells k) (HK2.out.set3 _ _ _) rfl) rfl ⟨rfl,?_⟩
    have h1:=HB1.out;have h2:=HB2.out
    exact (h1.trans (h2.mono h1.size)).trans ((mods_set3 _ _ _ _ _).below (Nat.le_trans h1.size h2.size) (fun j hj e=>by omega))
   ·have hd:decide (formT x≤k)=false:=by simpa using hp
    rw [hd]
    go_wp2_with fail
    go_round
    case rel=>exact ⟨k+1,by omega,by omega,by go_num,HB2.out⟩
    case measure=>simp [intOf];omega
  ·have hlt':¬(k:Int)<4:=by omega
   have he:formT x=4:=by omega
   have HTr:=Lib.hid (HT1.out.below HBr.out (Nat.le_refl _))
   have t0:wr.cell? ⟨1,12,none⟩=some (.int .u64 15):=(HTr.out 4 (by omega)).1
   have t1:wr.cell? ⟨1,13,none⟩=some (.int .i64 4):=(HTr.out 4 (by omega)).2.1
   have t2:wr.cell? ⟨1,14,none⟩=some (.int .i64 64):=(HTr.out 4 (by omega)).2.2
   have HK2:Hid (Blk wr w.heap.size [.int .u64 0,.int .i64 0,.int .i64 0]):=HK1.out.of_same (HBr.out.block _ (by have:=HS1.out;omega))
   obtain ⟨⟨c0,c1,c2⟩,f0,f1,f2⟩:=HK2.out.three
   have HE:=Lib.hid he
   clear he
   go_wp2_with fail
   rw [HE.out]
   refine bodyPost_ret (resultsS (p:=2) strForm (by kernel_rfl) _ w.heap.size rfl (formCells 4) (HK2.out.set3 _ _ _) rfl) rfl ⟨rfl,?_⟩
   have h1:=HB1.out;have h2:=HBr.out
   exact (h1.trans (h2.mono h1.size)).trans ((mods_set3 _ _ _ _ _).below (Nat.le_trans h1.size h2.size) (fun j hj e=>by omega))
theorem formOf_cells (x:Int) (w:World) (hT:TabF w) :
  Calls Tryz.prog 183 #[.int .i64 x] w fun e w'=>e = .returned (.agg #[.int .u64 (markT (formT x):Int),.int .i64 (markLenT (formT x):Int),.int .i64 (widthT (formT x):Int)])∧Below w.heap.size w w':=
 formOf_any x w hT
end Go.Proofs.YtdcgbgecbeegmaaGreatDoor
end
section
namespace Go.Proofs.YtdcgbgecbeegmaaGreatDoor
open Go Go.RowKit Go.Shelf
attribute [local go_sem] Oper.semAt_some
def changesT (last d:Int):List Int→List Int
 | []=>[]
 | t::l=>wrap64 (wrap64 (t-last)-d)::changesT t (wrap64 (t-last)) l
theorem encFrom_changes (last d:Int) (l:List Int):encFrom last d l=(changesT last d l).flatMap encX:=by
 induction l generalizing last d with
 | nil=>rfl
 | cons t l ih=>rw [encFrom,changesT,List.flatMap_cons,ih]
theorem changesT_length (last d:Int) (l:List Int):(changesT last d l).length=l.length:=by
 induction l generalizing last d with
 | nil=>rfl
 | cons t l ih=>rw [changesT,List.length_cons,List.length_cons,ih]
theorem new_changes (p:Option Addr) (m c:Nat) (w:World) (n:Nat) :
  CallsIn Fence.wide n Tryz.prog 182 #[.slice p m c] w fun e w'=>e = .returned (.func (.func 225) #[] #[.pointer (some ⟨w.heap.size,0,none⟩)])∧w'=w.alloc (.cells #[.slice p m c] 112):=by
 refine callsIn_wide.2 ?_
 go_enter Tryz.func182,Tryz.ntmps182
 go_wp2_with fail
 go_ret
 exact ⟨rfl,rfl⟩
set_option maxRecDepth 100000 in
set_option maxHeartbeats 1000000 in
theorem changes_gives (n:Nat) (hn:1≤n) (b:Nat) (lv:Value) (ls:List Int) (t0:Int) (tl:List Int) (els:ls=t0::tl) (w:World) (hc:w.cell? ⟨b,0,none⟩=some lv) (hl:Rd w 1 lv ls.length (i64s ls)) :
  SeqStopsK Fence.wide n Tryz.prog 225 #[.pointer (some ⟨b,0,none⟩)] (fun x:Int=>#[.int .i64 x]) (KeepAt (fun k=>k=b∨lv.ownBlock=some k)) (fun ys=>ys=changesT t0 0 tl) (fun _=>True) (changesT t0 0 tl).length w:=by
 intro l J Jx W hW hJ hJx hY h0
 have hb:b<w.heap.size:=World.block_lt_of_cell? w _ hc
 have HK0:Hid (KeepAt (fun k=>k=b∨lv.ownBlock=some k) w W):=fun k hk=>hW.block k (by
  rcases hk with e | e
  ·omega
  ·exact hl.lt (by rw [els];simp [i64s]) k e)
 have HC:=Lib.hid hc;have HL:=Lib.hid hl
 have HJ:=Lib.hid hJ;have HEL:=Lib.hid els
 have HY:=Lib.hid hY;have HN:Hid (ls.length=tl.length+1):=by show _=_;rw [els];rfl
 have hmax:(ls.length:Int)≤9223372036854775807:=by have:=hl.le;unfold maxLen at this;omega
 clear hc hJ els hY
 obtain ⟨p,c,hv⟩:=hl.shape
 subst hv
 clear hl
 obtain ⟨K,hK⟩:∃K:Nat→Prop,(fun k=>k=b∨(Value.slice p ls.length c).ownBlock=some k)=K:=⟨_,rfl⟩
 have HKb:Hid (K b):=by rw [← hK];exact Or.inl rfl
 have HKv:Hid (∀k,(Value.slice p ls.length c).ownBlock=some k→K k):=by rw [← hK];exact fun k hk=>Or.inr hk
 rw [hK] at HK0 HY
 clear hK
 refine callsIn_of_wp Tryz.func225 rfl trivial ?_ rfl
 simp only [Tryz.ntmps225,List.size_toArray,List.length_cons,List.length_nil,Nat.reduceAdd,Nat.reduceSub,Array.replicate_succ,Array.replicate_zero,List.push_toArray,List.append_toArray,List.nil_append,List.cons_append]
 gi_wp2
 gi_loopw [3,4] (fun dv iv wr=>∃(i k:Nat) (pre:List Int) (last d:Int),i=k+1∧i≤ls.length∧iv = .int .i64 (i:Int)∧dv = .int .i64 d∧Hid (ls[k]? = some last∧changesT t0 0 tl=pre++changesT last d (ls.drop i))∧Hid (J pre wr∧KeepAt K w wr)) (fun _ iv _=>ls.length-(intOf iv).toNat)
 case atStart=>exact ⟨1,0,[],t0,0,rfl,by rw [HN.out];omega,rfl,rfl,by rw [HEL.out];exact ⟨rfl,rfl⟩,h0,HK0.out⟩
 case round=>
  obtain ⟨i,k,pre,last,d,hik,h2,rfl,rfl,HP,HI⟩:=hrel
  have cb:=(HI.out.2.cell HKb.out 0).trans HC.out
  by_cases h:i<ls.length
  ·have hlt:(i:Int)<(ls.length:Int):=by omega
   have hi1:(i:Int)-1=(k:Int):=by omega
   have hkl:(k:Int)<(ls.length:Int):=by omega
   have HR:=Lib.hid (HI.out.2.rd HL.out HKv.out)
   obtain ⟨b0,off,c',e,_,_,hcl⟩:=HR.out.at (fun e=>by have:=congrArg List.length e;rw [i64s_length] at this;simp at this;subst this;simp at h)
   simp only [Value.slice.injEq] at e
   obtain ⟨rfl,_,rfl⟩:=e
   have c1:=hcl i (.int .i64 ls[i]) (by simp [i64s,h])
   have c2:=hcl k (.int .i64 last) (by rw [i64s,List.getElem?_map,HP.out.1];rfl)
   have HD:Hid (ls.drop i=ls[i]::ls.drop (i+1)):=List.drop_eq_getElem_cons h
   have HLi:Hid (ls[i]? = some ls[i]):=List.getElem?_eq_getElem h
   generalize ls[i]=t at *
   clear hcl HR hik
   gi_wp2
   refine wpIn_wide.2 ?_
   go_quiet (fail)
   have HI2:Hid (J pre (wr.drewN nq)∧KeepAt K w (wr.drewN nq)):=⟨HJ.out pre wr _ none HI.out.1 (grown_drewN wr nq) (fun r e=>by cases e),HI.out.2⟩
   clear HI cb c1 c2 hi1 hkl
   have hex:Hid (changesT t0 0 tl=pre++wrap64 (wrap64 (t-last)-d)::changesT t (wrap64 (t-last)) (ls.drop (i+1))):=by
    have:=HP.out.2
    rw [HD.out,changesT] at this
    exact this
   obtain ⟨fn,tmps,assign,body,hyl,hR⟩:=HY.out pre (wrap64 (wrap64 (t-last)-d)) (wr.drewN nq) HI2.out.1 (by rw [hex.out,List.length_append,List.length_cons];omega)
   have hex2:Hid (changesT t0 0 tl=(pre++[wrap64 (wrap64 (t-last)-d)])++changesT t (wrap64 (t-last)) (ls.drop (i+1))):=by show _=_;rw [hex.out,List.append_assoc];rfl
   have hRH:=Lib.hid hR
   clear HP HD hR hex
   generalize wr.drewN nq=wy at *
   gi_wp2
   refine hRH.out.mono ?_
   rintro e W3 (⟨rfl,hJ3,hk3⟩ | ⟨rfl,hJx3⟩)
   ·have HI3:=Lib.hid (And.intro hJ3 (keepAt_t HI2.out.2 hk3))
    clear hJ3 hk3
    gi_wp2
    go_roundw
    case rel=>exact ⟨i+1,i,_,t,wrap64 (t-last),rfl,by omega,by go_num,rfl,⟨HLi.out,hex2.out⟩,HI3.out⟩
    case measure=>simp [intOf];omega
   ·gi_wp2
    refine bodyPost_ret (results_none rfl _ _ _) rfl ?_
    exact ⟨⟨_,rfl⟩,.inr ⟨_,trivial,hJx3⟩⟩
  ·have hlt:¬(i:Int)<(ls.length:Int):=by omega
   have HE:Hid (changesT t0 0 tl=pre):=by
    show _=_
    rw [HP.out.2,List.drop_of_length_le (by omega),changesT,List.append_nil]
   clear HP hik
   gi_wp2
   go_end0
   refine ⟨⟨_,rfl⟩,.inl ?_⟩
   have:=HI.out.1
   rw [← HE.out] at this
   exact this
end Go.Proofs.YtdcgbgecbeegmaaGreatDoor
end
section
namespace Go.Proofs.YtdcgbgecbeegmaaGreatDoor
open Go Go.RowKit
theorem encT_changes (t0:Int) (tl:List Int):encT (t0::tl)=fieldBits (ofI t0) 64++(changesT t0 0 tl).flatMap encX:=by rw [encT,encFrom_changes]
theorem encX_all (ys:List Int):(ys.flatMap encX).length≤68*ys.length:=by
 induction ys with
 | nil=>exact Nat.le_refl _
 | cons y ys ih=>rw [List.flatMap_cons,List.length_append,List.length_cons];have:=encX_len y;omega
theorem i64s_lt {w:World} {lv:Value} {l:List Int} (hl:Rd w 1 lv l.length (i64s l)):l≠[]→∀k,lv.ownBlock=some k→k<w.heap.size:=fun hne=>hl.lt (fun e=>hne (by simpa [i64s] using e))
end Go.Proofs.YtdcgbgecbeegmaaGreatDoor
end
section
namespace Go.Proofs.YtdcgbgecbeegmaaGreatDoor
open Go Go.RowKit Go.Shelf
def PutIn (p:Nat) (v:Value) (W0:World) (out:List Bool) (W:World):Prop:=∃v',WriterIn W p v' out∧Upd W0 W p v v'
theorem putIn_own {β:Type} {B:Nat} {W0:World} (hB:W0.heap.size≤B) (p:Nat) (v:Value) (f:β→List Bool):OwnFrom B (fun s W=>PutIn p v W0 (f s) W):=by
 rintro s W W' row ⟨v',h1,h2⟩ hg hr
 have hr':∀r,row=some r→∃o:Obj,W.heap[r]? = some o∧o.isCells=false:=fun r e=>(hr r e).2
 exact ⟨v',⟨own_blk p (fun _:Unit=>[.int .i64 (f s).length,v']) () W W' row h1.blk hg hr',owns_abides h1.own hg hr',h1.ne⟩,⟨ownFrom_mods hB () W W' row h2.mods hg hr,h2.fresh⟩⟩
theorem putIn_keeps {p:Nat} {v':Value} {W W':World} {out:List Bool} (h:WriterIn W p v' out) (hm:Mods (fun k=>k=p∨v'.ownBlock=some k) W W'):KeepsOthers W W':=by
 refine KeepsOthers.of_mods hm (fun k o hk ho=>?_)
 rcases hk with rfl | hk
 ·obtain ⟨t,ht⟩:=h.blk
  rw [ht] at ho
  cases ho;rfl
 ·exact owns_isCells h.own k o hk ho
end Go.Proofs.YtdcgbgecbeegmaaGreatDoor
end
