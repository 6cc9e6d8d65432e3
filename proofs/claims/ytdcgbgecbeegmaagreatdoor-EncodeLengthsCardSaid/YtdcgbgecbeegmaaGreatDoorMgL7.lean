/- Texts 7. -/
import Derived.Test.YtdcgbgecbeegmaaGreatDoorMgL5
import Derived.Test.YtdcgbgecbeegmaaGreatDoorMgL4
import Derived.Test.YtdcgbgecbeegmaaGreatDoorMgL3
import Derived.Test.YtdcgbgecbeegmaaGreatDoorMgL1
import Derived.Test.YtdcgbgecbeegmaaGreatDoorMgL2
import Derived.Shelf.SlSortCmp.QuietGrown
import Derived.RangeFuncNested
import Derived.RangeFuncBound
import Derived.RangeFuncCalls
import Derived.RangeFuncLeaves
import Derived.RangeFuncBox
import Derived.OwnWalkIn
import Derived.Shelf.Abstract
import Derived.TacticsInMore
import Derived.LoopNIn
import Derived.LoopIn
import Derived.OrdersIn
import Derived.Test.YtdcgbgecbeegmaaGreatDoorMgL6
set_option linter.unusedVariables false
set_option linter.unusedSimpArgs false
section
set_option maxRecDepth 20000
namespace Go.Proofs.YtdcgbgecbeegmaaGreatDoor
open Go Go.RowKit
theorem flat_sum17 {α:Type} (f:α→List Nat) (g:α→Nat) (l:List α) (h:∀x∈l,(f x).length≤g x):(l.flatMap f).length≤(l.map g).sum:=by
 induction l with
 | nil=>simp
 | cons x l ih=>
  rw [List.flatMap_cons,List.length_append,List.map_cons,List.sum_cons]
  have:=h x (by simp)
  have:=ih (fun y hy=>h y (by simp [hy]))
  omega
theorem sum_add17 {α:Type} (f g:α→Nat) (l:List α):(l.map fun x=>f x+g x).sum=(l.map f).sum+(l.map g).sum:=by
 induction l with
 | nil=>rfl
 | cons x l ih=>rw [List.map_cons,List.map_cons,List.map_cons,List.sum_cons,List.sum_cons,List.sum_cons,ih];omega
theorem sum_mul17 {α:Type} (c:Nat) (f:α→Nat) (l:List α):(l.map fun x=>c*f x).sum=c*(l.map f).sum:=by
 induction l with
 | nil=>rfl
 | cons x l ih=>rw [List.map_cons,List.map_cons,List.sum_cons,List.sum_cons,ih,Nat.mul_add]
theorem sum_const17 {α:Type} (c:Nat) (l:List α):(l.map fun _=>c).sum=c*l.length:=by
 induction l with
 | nil=>rfl
 | cons x l ih=>rw [List.map_cons,List.sum_cons,List.length_cons,ih,Nat.mul_add];omega
theorem labs_sum17 (b:List Ser):(b.map fun s=>s.1.length).sum=(b.map Prod.fst).flatten.length:=by
 induction b with
 | nil=>rfl
 | cons s b ih=>rw [List.map_cons,List.sum_cons,List.map_cons,List.flatten_cons,List.length_append,ih]
theorem posTo_len17 (l:List (List Lab)) (k:Nat) (x:Lab):(posTo l k x).length≤k:=by
 unfold posTo
 rw [List.length_map]
 refine Nat.le_trans (List.length_filter_le _ _) ?_
 rw [List.length_range]
 exact Nat.le_refl _
theorem nodup_in17 {α:Type} [DecidableEq α] (s:List α):∀(l:List α) (p:α→Bool),l.Nodup→(∀x,p x=true→x∈s)→(l.filter p).length≤s.length:=by
 induction s with
 | nil=>
  intro l p _ hp
  rw [List.filter_eq_nil_iff.2 (fun x _ hx=>by cases hp x hx)]
  simp
 | cons y s ih=>
  intro l p hl hp
  have h1:=ih l (fun x=>p x && !(decide (x=y))) hl (fun x hx=>by
   simp only [Bool.and_eq_true,Bool.not_eq_true',decide_eq_false_iff_not] at hx
   rcases List.mem_cons.1 (hp x hx.1) with e | e
   ·exact absurd e hx.2
   ·exact e)
  rw [List.length_cons]
  have h2:(l.filter p).length≤(l.filter fun x=>p x && !(decide (x=y))).length+1:=by
   clear h1 ih hp
   induction l with
   | nil=>simp
   | cons x l ih=>
    obtain ⟨hx,hl'⟩:=List.nodup_cons.1 hl
    by_cases e:x=y
    ·subst e
     have hs:(l.filter p)=(l.filter fun z=>p z && !(decide (z=x))):=List.filter_congr (fun z hz=>by
      have hzx:¬z=x:=fun e=>hx (e ▸ hz)
      rw [decide_eq_false hzx];simp)
     have h3:((x::l).filter fun z=>p z && !(decide (z=x)))=(l.filter fun z=>p z && !(decide (z=x))):=by rw [List.filter_cons];simp
     rw [h3,← hs]
     rw [List.filter_cons]
     split<;>simp
    ·have:=ih hl'
     rw [List.filter_cons,List.filter_cons]
     by_cases f:p x=true
     ·rw [if_pos f,if_pos (by rw [f,decide_eq_false e];rfl),List.length_cons,List.length_cons];omega
     ·rw [if_neg f,if_neg (by simp [f])];omega
  omega
theorem asc_nodup17 {l:List Lab} (h:AscB ltE l):l.Nodup:=List.Pairwise.imp (fun {a b} h e=>by
 subst e
 rw [ltE_ok.irr a] at h
 cases h) h
theorem idx_sum17 (m:List (List Lab)) (k:Nat) (hk:k≤m.length) (T:List Lab) (hT:T.Nodup):(T.map fun x=>(posTo m k x).length).sum≤(flatTo m k).length:=by
 induction k with
 | zero=>
  have e:(T.map fun x=>(posTo m 0 x).length)=T.map fun _=>0:=List.map_congr_left (fun x _=>rfl)
  rw [e,sum_const17];simp
 | succ k ih=>
  have h1:=ih (by omega)
  have e:(T.map fun x=>(posTo m (k+1) x).length)=T.map fun x=>(posTo m k x).length+(if x∈m.getD k [] then 1 else 0):=List.map_congr_left (fun x _=>by
   rw [posTo_succ,List.length_append]
   split<;>rfl)
  have e2:(T.map fun x=>if x∈m.getD k [] then 1 else 0).sum=(T.filter fun x=>decide (x∈m.getD k [])).length:=by
   clear hT ih h1 e
   induction T with
   | nil=>rfl
   | cons x T ih=>
    rw [List.map_cons,List.sum_cons,ih,List.filter_cons]
    by_cases hx:x∈m.getD k []
    ·simp only [hx,if_true,decide_true,List.length_cons];omega
    ·simp only [hx,if_false,decide_false,Bool.false_eq_true];omega
  have h2:=nodup_in17 (m.getD k []) T (fun x=>decide (x∈m.getD k [])) hT (fun x hx=>by simpa using hx)
  rw [e,sum_add17,e2,flatTo_succ (by omega),List.length_append]
  omega
theorem idx17 {b:List Ser} (h:Mid b):(buildP (b.map Prod.fst)).length≤60000∧(∀e∈buildP (b.map Prod.fst),AscB ltI e.2∧e.2.length≤20000∧∀x∈e.2,0≤x∧x<20000)∧((buildP (b.map Prod.fst)).map fun e=>e.2.length).sum≤60000:=by
 have h1:(b.map Prod.fst).length≤20000:=by rw [List.length_map];exact h.len
 have h2:=h.flat
 have e2:flatTo (b.map Prod.fst) (b.map Prod.fst).length=(b.map Prod.fst).flatten:=by unfold flatTo;rw [List.take_length]
 have hn:=asc_nodup17 (tabB_asc ltE_ok (flatTo (b.map Prod.fst) (b.map Prod.fst).length))
 have hs:=idx_sum17 (b.map Prod.fst) (b.map Prod.fst).length (Nat.le_refl _) _ hn
 rw [e2] at hs
 rw [build_idx]
 refine ⟨?_,fun e he=>?_,?_⟩
 ·have e1:(idxP (b.map Prod.fst)).length=(tabB ltE (flatTo (b.map Prod.fst) (b.map Prod.fst).length)).length:=by unfold idxP idxTo;rw [List.length_map]
  rw [e1]
  refine Nat.le_trans (tabB_len _) ?_
  rw [e2]
  exact h2
 ·obtain ⟨_,h3⟩:=idx_mem he
  rw [h3]
  refine ⟨posTo_asc _ _ _,Nat.le_trans (posTo_len17 _ _ _) h1,fun x hx=>?_⟩
  have:=posTo_lt _ _ _ x hx
  omega
 ·have e3:((idxP (b.map Prod.fst)).map fun e=>e.2.length)=(tabB ltE (b.map Prod.fst).flatten).map fun x=>(posTo (b.map Prod.fst) (b.map Prod.fst).length x).length:=by
   unfold idxP idxTo
   rw [e2,List.map_map]
   rfl
  rw [e3]
  omega
theorem sets17 {b:List Ser} (h:Mid b):(b.map Prod.fst).length≤20000∧(b.map Prod.fst).flatten.length≤60000:=⟨by rw [List.length_map];exact h.len,h.flat⟩
theorem tab17 {b:List Ser} (h:Mid b):(tabE b).length≤120000:=by
 have h1:=symsB_mid h b.length
 rw [List.take_length] at h1
 have h3:(tabE b).length≤(symsB b).length:=tabB_len _
 omega
theorem lensTo17 (l:List Sam) (k:Nat):(winTo l k).length=k:=by rw [winTo,List.length_map,List.length_range]
theorem lensE_len17 (l:List Sam):(lensE l).length=(l.length+119) / 120:=by rw [lensE,List.length_map,winE,List.length_map,List.length_range]
theorem lensE_in17 {l:List Sam} {n:Int} (h:n∈lensE l):0≤n∧n≤100000:=by
 obtain ⟨c,_,rfl⟩:=List.mem_map.1 h
 have:=encC_len17 c
 omega
theorem bytesTo17 (l:List Sam) (k:Nat):((winTo l k).flatMap fun c=>(encC c).1).length≤k*100000:=by
 have h:=flat_len (fun c=>(encC c).1) 100000 (winTo l k) (fun c _=>encC_len17 c)
 rw [lensTo17] at h
 exact h
theorem chunks17 {b:List Ser} (h:Mid b) (i:Nat):(chunksB (b.take i)).length≤102000000000:=by
 have h1:=flat_sum17 (fun s:Ser=>bytesE s.2) (fun s=>100000*(1+s.2.length)) (b.take i) (fun s hs=>by
  have h3:=bytesTo17 s.2 ((s.2.length+119) / 120)
  rw [winTo_all] at h3
  show (bytesE s.2).length≤_
  unfold bytesE
  omega)
 have h4:((b.take i).map fun s:Ser=>100000*(1+s.2.length)).sum≤100000*(20000+1000000):=by
  rw [sum_mul17,sum_add17,sum_const17]
  have h5:=samplesB_take_le b i
  have h6:((b.take i).map fun s:Ser=>s.2.length).sum=samplesB (b.take i):=rfl
  have h7:=h.sam
  have h8:=h.len
  have h9:(b.take i).length≤b.length:=by rw [List.length_take];omega
  rw [h6]
  omega
 show (List.flatMap _ _).length≤_
 omega
theorem chunksAll17 {b:List Ser} (h:Mid b):(chunksB b).length≤102000000000:=by have:=chunks17 h b.length;rwa [List.take_length] at this
theorem recs17 {b:List Ser} (h:Mid b):(b.map recE).length≤20000∧∀r∈b.map recE,r.1.length≤60000∧r.2.length≤8335∧∀n∈r.2,0≤n∧n≤100000:=by
 refine ⟨by rw [List.length_map];exact h.len,fun r hr=>?_⟩
 obtain ⟨s,hs,rfl⟩:=List.mem_map.1 hr
 refine ⟨h.lab s hs,?_,fun n hn=>lensE_in17 hn⟩
 show (lensE s.2).length≤8335
 rw [lensE_len17]
 have:=h.mem hs
 omega
theorem idxT17 (t:List ByteArray) (s:ByteArray):idxT t s≤t.length:=findS_le t s
theorem encRc17 {b:List Ser} (h:Mid b):(encRc (tabE b) (b.map recE)).length≤100000000:=by
 obtain ⟨h1,h2⟩:=recs17 h
 have ht:=tab17 h
 have h3:((b.map recE).flatMap (recBytes (tabE b))).length≤(b.map fun s=>(20+20*s.1.length)+10*(1+s.2.length)).sum:=by
  have h4:=flat_sum17 (fun s:Ser=>recBytes (tabE b) (recE s)) (fun s=>(20+20*s.1.length)+10*(1+s.2.length)) b (fun s hs=>by
   obtain ⟨a1,a2,a3⟩:=h2 (recE s) (List.mem_map.2 ⟨s,hs,rfl⟩)
   have b1:=groups_ten (x:=(recE s).1.length) (by omega)
   have b2:=groups_ten (x:=(recE s).2.length) (by omega)
   have c1:=flat_len (labBytes (tabE b)) 20 (recE s).1 (fun x _=>by
    rw [labBytes,List.length_append]
    have:=groups_ten (x:=idxT (tabE b) x.1) (by have:=idxT17 (tabE b) x.1;omega)
    have:=groups_ten (x:=idxT (tabE b) x.2) (by have:=idxT17 (tabE b) x.2;omega)
    omega)
   have c2:=flat_len (fun n:Int=>groups n.toNat) 10 (recE s).2 (fun n hn=>groups_ten (by have:=a3 n hn;omega))
   have c3:(recE s).2.length=(s.2.length+119) / 120:=lensE_len17 s.2
   have c4:(recE s).1.length=s.1.length:=rfl
   rw [recBytes,labsBytes,lensBytes,List.length_append,List.length_append,List.length_append]
   omega)
  rw [List.flatMap_map]
  exact h4
 rw [sum_add17,sum_add17,sum_const17,sum_mul17,sum_mul17,sum_add17,sum_const17,labs_sum17] at h3
 have h5:(b.map fun s:Ser=>s.2.length).sum=samplesB b:=rfl
 rw [h5] at h3
 have h6:=h.len;have h7:=h.flat;have h8:=h.sam
 have h0:=groups_ten (x:=(b.map recE).length) (by omega)
 rw [encRc,List.length_append]
 omega
theorem ents17 {b:List Ser} (h:Mid b):(entsBytes (tabE b) (buildP (b.map Prod.fst))).length≤100000000:=by
 obtain ⟨h1,h2,h4⟩:=idx17 h
 have ht:=tab17 h
 have h3:=flat_sum17 (entBytes (tabE b)) (fun e:Ent=>30+10*e.2.length) (buildP (b.map Prod.fst)) (fun e he=>by
  obtain ⟨a1,a2,a3⟩:=h2 e he
  have c1:=ser_len e.2 (fun x hx=>by have:=a3 x hx;omega) none (by simp)
  have g1:=groups_ten (x:=idxT (tabE b) e.1.1) (by have:=idxT17 (tabE b) e.1.1;omega)
  have g2:=groups_ten (x:=idxT (tabE b) e.1.2) (by have:=idxT17 (tabE b) e.1.2;omega)
  have g3:=groups_ten (x:=e.2.length) (by omega)
  rw [entBytes,serBytes,labBytes]
  simp only [List.length_append]
  omega)
 rw [sum_add17,sum_const17,sum_mul17] at h3
 have h0:=groups_ten (x:=(buildP (b.map Prod.fst)).length) (by omega)
 rw [entsBytes,List.length_append]
 omega
theorem encSy17 {b:List Ser} (h:Mid b) (hb:Block b):(encSy (tabE b)).length≤10000000000:=by
 have ht:=tab17 h
 have hf:=tabE_fits hb
 have h3:=flat_len (fun s=>bytesOf (numsOf s)) 70000 (tabE b) (fun s hs=>by
  have h4:=hf s hs
  have h5:(numsOf s).length=s.size:=numsOf_length s
  have g:=groups_ten (x:=(numsOf s).length) (by omega)
  show (bytesOf (numsOf s)).length≤_
  rw [bytesOf_length]
  omega)
 have h0:=groups_ten (x:=(tabE b).length) (by omega)
 rw [encSy,List.length_append]
 omega
theorem sze17 {b:List Ser} (h:Mid b) (hz:Sized b) (hb:Block b):SzE b:=
 ⟨hb,by have:=tab17 h;omega,⟨by have:=(recs17 h).1;omega,fun r hr=>by have:=(recs17 h).2 r hr;omega⟩,fun s hs x hx=>(hz s hs).2 x hx⟩
theorem frame_len17 (id:Nat) (d:List Nat):(frameOf id d).length=5+(groups d.length).length+d.length:=by
 rw [frameOf,withCrc_length,List.length_cons,bytesOf,List.length_append];omega
theorem asm17 {S:List (List Nat)} (h4:S.length=4) (hM:∀d∈S,d.length≤10000000000000):(asmL S).length≤140737488352000:=by
 obtain ⟨a,b,c,d,rfl⟩:=list4_of h4
 have ha:=hM a (by simp);have hb:=hM b (by simp);have hc:=hM c (by simp);have hd:=hM d (by simp)
 have ga:=groups_ten (x:=a.length) (by omega);have gb:=groups_ten (x:=b.length) (by omega);have gc:=groups_ten (x:=c.length) (by omega);have gd:=groups_ten (x:=d.length) (by omega)
 have fa:=frame_len17 1 a;have fb:=frame_len17 2 b;have fc:=frame_len17 3 c;have fd:=frame_len17 4 d
 have hput:(putS 1 [a,b,c,d]).length=(frameOf 1 a).length+(frameOf 2 b).length+(frameOf 3 c).length+(frameOf 4 d).length:=by simp [putS];omega
 have hC:(contents (offs 1 5 [a,b,c,d])).length=1+(groups (5+(frameOf 1 a).length)).length+(groups (5+(frameOf 1 a).length+(frameOf 2 b).length)).length+(groups (5+(frameOf 1 a).length+(frameOf 2 b).length+(frameOf 3 c).length)).length:=by
  simp [contents,offs,groups_small];omega
 have g2:=groups_ten (x:=5+(frameOf 1 a).length) (by omega)
 have g3:=groups_ten (x:=5+(frameOf 1 a).length+(frameOf 2 b).length) (by omega)
 have g4:=groups_ten (x:=5+(frameOf 1 a).length+(frameOf 2 b).length+(frameOf 3 c).length) (by omega)
 have ft:=frame_len17 5 (contents (offs 1 5 [a,b,c,d]))
 rw [groups_small (x:=(contents (offs 1 5 [a,b,c,d])).length) (by omega)] at ft
 have hl:(asmL [a,b,c,d]).length=5+(putS 1 [a,b,c,d]).length+(frameOf 5 (contents (offs 1 5 [a,b,c,d]))).length+8:=by
  rw [asmL,List.length_append,withCrc_length,bodyL,List.length_append,List.length_append]
  show 5+_+_+4+4=_
  omega
 simp only [List.length_singleton] at ft
 omega
theorem secs_len17 {b:List Ser} (h:Mid b) (hb:Block b):∀d∈secsE b,d.length≤1000000000000:=by
 rw [secs_block hb encC_small17]
 intro d hd
 simp only [List.mem_cons,List.not_mem_nil,or_false] at hd
 rcases hd with rfl | rfl | rfl | rfl
 ·have:=encSy17 h hb;omega
 ·have:=encRc17 h;omega
 ·have:=chunksAll17 h;omega
 ·have:=ents17 h;omega
theorem ok17 {b:List Ser} (h:Mid b) (hz:Sized b) (hb:checkB b=0):okS4 (secsE b)∧(asmL (secsE b)).length≤140737488352000:=by
 have hk:=block_of_check hb
 have hl:=secs_len17 h hk
 have hi:=idx17 h
 refine ⟨fun d hd=>⟨secs_lt17 (sze17 h hz hk) (by have:=h.len;omega) (by omega) (fun e he=>by have:=(hi.2.1 e he).2.1;omega) d hd,by have:=hl d hd;omega⟩,asm17 (secsE_four b) (fun d hd=>by have:=hl d hd;omega)⟩
end Go.Proofs.YtdcgbgecbeegmaaGreatDoor
end
section
namespace Go.Proofs.YtdcgbgecbeegmaaGreatDoor
open Go Go.RowKit
structure RdBL (w:World) (v:Value) (m:List (List Lab)):Prop where
 ex:∃hs:List Value,Rd w 1 v hs.length hs∧hs.length=m.length∧∀(i:Nat) (h:Value) (l:List Lab),hs[i]? = some h→m[i]? = some l→Rd w 2 h l.length (labCells l)
theorem RdBL.shape {w:World} {v:Value} {m:List (List Lab)} (k:RdBL w v m):∃p c,v = .slice p m.length c:=by
 obtain ⟨hs,h1,h2,_⟩:=k.ex
 rw [← h2]
 exact h1.shape
theorem RdBL.always {w:World} {p:Option Addr} {n c:Nat} {m:List (List Lab)} (k:RdBL w (.slice p n c) m) {i:Nat} {l:List Lab} (hi:m[i]? = some l) :
  ∃blk off p1 c1,p=some ⟨blk,off,none⟩∧∀w',Below w.heap.size w w'→w'.cell? ⟨blk,off+i,none⟩=some (.slice p1 l.length c1)∧Rd w' 2 (.slice p1 l.length c1) l.length (labCells l):=by
 obtain ⟨hs,h1,h2,h3⟩:=k.ex
 have hlt:=(List.getElem?_eq_some_iff.1 hi).1
 obtain ⟨h,hh⟩:∃h,hs[i]? = some h:=⟨_,List.getElem?_eq_getElem (by omega)⟩
 have hr:=h3 i h l hh hi
 obtain ⟨p1,c1,rfl⟩:=hr.shape
 obtain ⟨b,off,c',e,_,_,hc⟩:=h1.at (fun e=>by rw [e] at hh;simp at hh)
 simp only [Value.slice.injEq] at e
 have hcell:=hc i _ hh
 exact ⟨b,off,p1,c1,e.1,fun w' hb=>⟨(hb.cell (World.block_lt_of_cell? w _ hcell)).trans hcell,hr.below hb⟩⟩
theorem rdLab_at {w:World} {p:Option Addr} {n c m:Nat} {l:List Lab} (h:Rd w 2 (.slice p n c) m (labCells l)) {k:Nat} {x:Lab} (hx:l[k]? = some x) :
  ∃blk off,p=some ⟨blk,off,none⟩∧∀w',Below w.heap.size w w'→w'.cell? ⟨blk,off+k*2,none⟩=some (.string x.1)∧w'.cell? ⟨blk,off+k*2+1,none⟩=some (.string x.2):=by
 obtain ⟨g0,g1⟩:=labCells_get l k x.1 x.2 hx
 obtain ⟨b,off,c',e,_,_,hc⟩:=h.at (fun e=>by rw [e] at g0;cases g0)
 simp only [Value.slice.injEq] at e
 have c0:=hc _ _ g0
 have c1:=hc _ _ g1
 rw [← Nat.add_assoc] at c1
 exact ⟨b,off,e.1,fun w' hb=>⟨(hb.cell (World.block_lt_of_cell? w _ c0)).trans c0,(hb.cell (World.block_lt_of_cell? w _ c1)).trans c1⟩⟩
end Go.Proofs.YtdcgbgecbeegmaaGreatDoor
end
section
set_option maxRecDepth 20000
namespace Go.Proofs.YtdcgbgecbeegmaaGreatDoor
open Go Go.RowKit
theorem getElem?_snoc15 {α:Type} {l:List α} {x y:α} {i:Nat} (h:(l++[x])[i]? = some y):l[i]? = some y∨(i=l.length∧y=x):=by
 by_cases hi:i<l.length
 ·rw [List.getElem?_append_left hi] at h;exact Or.inl h
 ·rw [List.getElem?_append_right (by omega)] at h
  have:i-l.length=0:=by
   rcases Nat.eq_zero_or_pos (i-l.length) with e | e
   ·exact e
   ·rw [List.getElem?_eq_none (by simp;omega)] at h;cases h
  rw [this] at h
  simp at h
  exact Or.inr ⟨by omega,h.symm⟩
def LabOff (S:Nat→Prop) (h:Value) (s:List Lab):Prop:=labCells s≠[]→∀k,h.ownBlock=some k→¬S k
structure LbAt (t:TypeId) (w wr:World) (hs:List Value) (m:List (List Lab)) (v:Value):Prop where
 row:Own1 t (fun h:Value=>h) w wr hs v
 len:hs.length=m.length
 ser:∀(i:Nat) (h:Value) (s:List Lab),hs[i]? = some h→m[i]? = some s→Rd wr 2 h s.length (labCells s)∧LabOff (fun k=>v.ownBlock=some k) h s
theorem LbAt.nil {t:TypeId} (w:World):LbAt t w w [] [] (.slice none 0 0):=⟨Own1.nil w,rfl,fun i h s hi _=>by simp at hi⟩
theorem LbAt.below {t:TypeId} {w wr w1:World} {hs:List Value} {m:List (List Lab)} {v:Value} (k:LbAt t w wr hs m v) (hb:Below wr.heap.size wr w1):LbAt t w w1 hs m v:=
 ⟨k.row.below hb,k.len,fun i h s hi hj=>⟨(k.ser i h s hi hj).1.below hb,(k.ser i h s hi hj).2⟩⟩
theorem LbAt.rd {t:TypeId} {w wr:World} {hs:List Value} {m:List (List Lab)} {v:Value} (k:LbAt t w wr hs m v):RdBL wr v m:=
 ⟨⟨hs,by have h:=k.row.rd;rwa [List.map_id'] at h,k.len,fun i h s hi hj=>(k.ser i h s hi hj).1⟩⟩
theorem LbAt.pushed {t:TypeId} {w wr w1:World} {hs:List Value} {m:List (List Lab)} {v v1:Value} {h:Value} {s:List Lab} (k:LbAt t w wr hs m v) (hsr:Rd wr 2 h s.length (labCells s)) (ho:LabOff (fun j=>v.ownBlock=some j) h s)
  (k1:w1.ownsRow 0 t 1 v1 (hs.length+1) (hs++[h])) (hm:Mods (fun j=>v.ownBlock=some j) wr w1) (hf:Fresh wr.heap.size v v1):LbAt t w w1 (hs++[h]) (m++[s]) v1:=by
 have hoff:∀(h:Value) (s:List Lab),Rd wr 2 h s.length (labCells s)→LabOff (fun j=>v.ownBlock=some j) h s→Rd w1 2 h s.length (labCells s)∧LabOff (fun j=>v1.ownBlock=some j) h s:=fun h s a b=>by
  refine ⟨a.mods' hm b,fun e j hj hv=>?_⟩
  rcases hf j hv with f | f
  ·exact b e j hj f
  ·have:=a.lt e j hj;omega
 refine ⟨k.row.pushed (by rw [List.map_id'];exact k1) hm hf,by simp [k.len],fun i h' s' hi hj=>?_⟩
 rcases getElem?_snoc15 hi with e | ⟨e,rfl⟩
 ·rcases getElem?_snoc15 hj with f | ⟨f,_⟩
  ·exact hoff _ _ (k.ser i h' s' e f).1 (k.ser i h' s' e f).2
  ·have:=(List.getElem?_eq_some_iff.1 e).1;have:=k.len;omega
 ·rcases getElem?_snoc15 hj with f | ⟨_,rfl⟩
  ·have:=(List.getElem?_eq_some_iff.1 f).1;have:=k.len;omega
  ·exact hoff _ _ hsr ho
end Go.Proofs.YtdcgbgecbeegmaaGreatDoor
end
section
namespace Go.Proofs.YtdcgbgecbeegmaaGreatDoor
open Go Go.RowKit
theorem Tryz.infoI64:(Tryz.prog.info? 2).map (fun i=>(i.zero,i.size,i.bytes))=some (some (.int .i64 0),1,8):=by kernel_rfl
def encPre (t:List ByteArray) (i:Nat):List Nat:=groups t.length++(t.take i).flatMap fun s=>bytesOf (numsOf s)
theorem encPre_step {t:List ByteArray} {i:Nat} {x:ByteArray} (h:t[i]? = some x):encPre t (i+1)=encPre t i++bytesOf (numsOf x):=by
 rw [encPre,List.take_add_one,h];simp [encPre]
theorem bytesOf_le (s:List Nat) (h:s.length≤65535):(bytesOf s).length≤65600:=by
 rw [bytesOf_length]
 have:=groups_ten (x:=s.length) (by omega)
 omega
theorem encPre_len {t:List ByteArray} (hf:Fits t) (hn:t.length≤1000000) (i:Nat):(encPre t i).length≤10+65600*i:=by
 rw [encPre,List.length_append]
 have h1:=groups_ten (x:=t.length) (by omega)
 have h2:∀(l:List ByteArray) (i:Nat),(∀s∈l,s.size≤65535)→((l.take i).flatMap fun s=>bytesOf (numsOf s)).length≤65600*i:=by
  intro l
  induction l with
  | nil=>intro i _;simp
  | cons s l ih=>
   intro i h
   cases i with
   | zero=>simp
   | succ i=>
    rw [List.take_succ_cons,List.flatMap_cons,List.length_append]
    have:=ih i (fun s hs=>h s (by simp [hs]))
    have:=bytesOf_le (numsOf s) (by rw [numsOf_length];exact h s (by simp))
    omega
 have:=h2 t i hf
 omega
end Go.Proofs.YtdcgbgecbeegmaaGreatDoor
end
section
set_option maxRecDepth 20000
namespace Go.Proofs.YtdcgbgecbeegmaaGreatDoor
open Go Go.RowKit
structure Beside (wr:World) (sz:Nat) (sv:Value) (n:Nat) (vs:List Value) (vv:Value):Prop where
 rd:Rd wr sz sv n vs
 off:vs≠[]→∀k,sv.ownBlock=some k→vv.ownBlock≠some k
theorem Beside.step {wr w':World} {sz:Nat} {sv:Value} {n:Nat} {vs:List Value} {vv v':Value} (h:Beside wr sz sv n vs vv) (hm:Mods (fun k=>vv.ownBlock=some k) wr w') (hf:Fresh wr.heap.size vv v'):Beside w' sz sv n vs v':=
 ⟨h.rd.mods' hm (fun e k hk he=>h.off e k hk he),fun e k hk he=>by
  rcases hf k he with f | f
  ·exact h.off e k hk f
  ·have:=h.rd.lt e k hk;omega⟩
def encTo (t:List ByteArray) (l:List Rec) (i:Nat):List Nat:=groups l.length++(l.take i).flatMap (recBytes t)
def symsBytes (t:List ByteArray) (S:List ByteArray):List Nat:=S.flatMap fun s=>groups (idxT t s)
def numsBytes (l:List Int):List Nat:=l.flatMap fun n=>groups n.toNat
theorem symsBytes_labs (t:List ByteArray) (l:List Lab):symsBytes t (stringsL l)=l.flatMap (labBytes t):=by
 induction l with
 | nil=>rfl
 | cons x l ih=>
  rw [symsBytes,stringsL,List.flatMap_cons,List.flatMap_append,← stringsL,← symsBytes,← symsBytes,ih]
  simp [symsBytes,labBytes]
theorem recBytes_eq (t:List ByteArray) (r:Rec):recBytes t r=groups r.1.length++symsBytes t (stringsL r.1)++(groups r.2.length++numsBytes r.2):=by rw [symsBytes_labs];rfl
theorem encTo_step {t:List ByteArray} {l:List Rec} {i:Nat} {r:Rec} (h:l[i]? = some r):encTo t l (i+1)=encTo t l i++groups r.1.length++symsBytes t (stringsL r.1)++groups r.2.length++numsBytes r.2:=by
 rw [encTo,List.take_add_one,h,List.flatMap_append,encTo]
 simp [recBytes_eq]
theorem encTo_all (t:List ByteArray) (l:List Rec) (i:Nat) (h:l.length≤i):encTo t l i=encRc t l:=by rw [encTo,List.take_of_length_le h];rfl
theorem encTo_le (t:List ByteArray) (l:List Rec) (i:Nat):(encTo t l i).length≤(encRc t l).length:=by
 have:encRc t l=encTo t l i++(l.drop i).flatMap (recBytes t):=by
  rw [encTo,List.append_assoc,← List.flatMap_append,List.take_append_drop];rfl
 rw [this,List.length_append];omega
theorem symsBytes_take_le (t:List ByteArray) (S:List ByteArray) (k:Nat):(symsBytes t (S.take k)).length≤(symsBytes t S).length:=by
 have:symsBytes t S=symsBytes t (S.take k)++symsBytes t (S.drop k):=by rw [symsBytes,symsBytes,symsBytes,← List.flatMap_append,List.take_append_drop]
 rw [this,List.length_append];omega
theorem numsBytes_take_le (l:List Int) (k:Nat):(numsBytes (l.take k)).length≤(numsBytes l).length:=by
 have:numsBytes l=numsBytes (l.take k)++numsBytes (l.drop k):=by rw [numsBytes,numsBytes,numsBytes,← List.flatMap_append,List.take_append_drop]
 rw [this,List.length_append];omega
theorem symsBytes_step {t:List ByteArray} {S:List ByteArray} {k:Nat} {s:ByteArray} (h:S[k]? = some s):symsBytes t (S.take (k+1))=symsBytes t (S.take k)++groups (idxT t s):=by rw [List.take_add_one,h];simp [symsBytes]
theorem numsBytes_step {l:List Int} {k:Nat} {n:Int} (h:l[k]? = some n):numsBytes (l.take (k+1))=numsBytes (l.take k)++groups n.toNat:=by rw [List.take_add_one,h];simp [numsBytes]
theorem encTo_room {t:List ByteArray} {l:List Rec} {i:Nat} {r:Rec} (h:l[i]? = some r):(encTo t l i).length+(groups r.1.length).length+(symsBytes t (stringsL r.1)).length+(groups r.2.length).length+(numsBytes r.2).length≤(encRc t l).length:=by
 have h1:=encTo_le t l (i+1)
 rw [encTo_step h] at h1
 simp only [List.length_append] at h1
 omega
theorem recsErr_step {t:List ByteArray} {l:List Rec} {i:Nat} {r:Rec} (h:l[i]? = some r) (hd:recsErr t l=recsErr t (l.drop i)):recsErr t l=if recErr t r=0 then recsErr t (l.drop (i+1)) else recErr t r:=by
 have h1:l.drop i=r::l.drop (i+1):=by rw [List.drop_eq_getElem_cons (List.getElem?_eq_some_iff.1 h).1,(List.getElem?_eq_some_iff.1 h).2]
 rw [hd,h1];rfl
theorem stringsL_labIn {l:List Lab} {t:List ByteArray}:(∀s∈stringsL l,s∈t)↔∀x∈l,labIn t x:=by
 simp only [stringsL,List.mem_flatMap,List.mem_cons,List.not_mem_nil,or_false,labIn]
 constructor
 ·intro h x hx;exact ⟨h x.1 ⟨x,hx,Or.inl rfl⟩,h x.2 ⟨x,hx,Or.inr rfl⟩⟩
 ·rintro h s ⟨x,hx,rfl | rfl⟩
  ·exact (h x hx).1
  ·exact (h x hx).2
structure GotBo (w:World) (o:Nat × List Nat) (e:Ending) (w':World):Prop where
 res:∃r,e = .returned (.tuple #[r,.int .i64 (o.1:Int)])∧w'.ownsRow w.heap.size 5 1 r o.2.length (u8s o.2)
 bel:Below w.heap.size w w'
theorem GotBo.fails {w w':World} {o:Nat × List Nat} {en:Nat} (h:Below w.heap.size w w') (ho:o=(en,[])):GotBo w o (.returned (.tuple #[.slice none 0 0,.int .i64 (en:Int)])) w':=by
 subst ho
 exact ⟨⟨_,rfl,World.ownsRow_nil _ _ _ _⟩,h⟩
theorem encRcR_bad {t:List ByteArray} {l:List Rec} {k:Nat} (hk:k≠0) (h:recsErr t l=k):encRcR t l=(k,[]):=by rw [encRcR,h,if_neg hk]
def Grw (w w':World):Prop:=∃q os,w'=Go.Sort.grow (w.drewN q) os
theorem Grw.refl (w:World):Grw w w:=⟨0,#[],by rw [Go.Sort.grow_empty];rfl⟩
theorem Grw.trans {a b c:World} (h:Grw a b) (k:Grw b c):Grw a c:=by
 obtain ⟨q,os,rfl⟩:=h
 obtain ⟨r,ps,rfl⟩:=k
 exact ⟨q+r,os++ps,by show Go.Sort.grow (Go.Sort.grow ((a.drewN q).drewN r) os) ps=_;rw [Go.Sort.grow_grow,World.drewN_drewN]⟩
theorem Grw.alloc {a b:World} (h:Grw a b) (o:Obj):Grw a (b.alloc o):=h.trans ⟨0,#[o],by rw [Go.Sort.alloc_eq_grow];rfl⟩
theorem Grw.drew {a b:World} (h:Grw a b):Grw a b.drew:=h.trans ⟨1,#[],by rw [Go.Sort.grow_empty];rfl⟩
theorem Grw.grow {a b:World} (h:Grw a b) (n:Nat) (os:Array Obj):Grw a (Go.Sort.grow (b.drewN n) os):=h.trans ⟨n,os,rfl⟩
theorem Grw.below {w w':World} (h:Grw w w'):Below w.heap.size w w':=by
 obtain ⟨q,os,rfl⟩:=h
 exact ⟨rfl,rfl,rfl,by rw [Go.Sort.size_grow];exact Nat.le_add_right _ _,fun k hk=>Go.Sort.heap_grow_old (w.drewN q) os hk⟩
theorem Grw.blk {w w':World} (h:Grw w w') {b:Nat} {cs:List Value} (hb:Blk w b cs):Blk w' b cs:=hb.of_same (h.below.block b hb.lt)
end Go.Proofs.YtdcgbgecbeegmaaGreatDoor
end
section
namespace Go.Proofs.YtdcgbgecbeegmaaGreatDoor
open Go Go.RowKit
theorem cmp_step {a b:List Lab} {i:Nat} {x y:Lab} (ha:a[i]? = some x) (hb:b[i]? = some y) (h:cmpLabs a b=cmpLabs (a.drop i) (b.drop i)) :
  cmpLabs a b=if cmpLab x y=0 then cmpLabs (a.drop (i+1)) (b.drop (i+1)) else cmpLab x y:=by
 have h1:a.drop i=x::a.drop (i+1):=by rw [List.drop_eq_getElem_cons (List.getElem?_eq_some_iff.1 ha).1,(List.getElem?_eq_some_iff.1 ha).2]
 have h2:b.drop i=y::b.drop (i+1):=by rw [List.drop_eq_getElem_cons (List.getElem?_eq_some_iff.1 hb).1,(List.getElem?_eq_some_iff.1 hb).2]
 rw [h,h1,h2];rfl
theorem cmp_end {a b:List Lab} {i:Nat} (hi:i≤a.length∧i≤b.length) (he:¬(i<a.length∧i<b.length)) (h:cmpLabs a b=cmpLabs (a.drop i) (b.drop i)) :
  cmpLabs a b=if a.length<b.length then -1 else if b.length<a.length then 1 else 0:=by
 rw [h]
 by_cases h1:i<a.length
 ·have h2:¬i<b.length:=fun e=>he ⟨h1,e⟩
  rw [if_neg (by omega),if_pos (by omega),List.drop_of_length_le (l:=b) (by omega),List.drop_eq_getElem_cons h1];rfl
 ·rw [List.drop_of_length_le (l:=a) (by omega)]
  by_cases h2:i<b.length
  ·rw [if_pos (by omega),List.drop_eq_getElem_cons h2];rfl
  ·rw [if_neg (by omega),if_neg (by omega),List.drop_of_length_le (by omega)];rfl
end Go.Proofs.YtdcgbgecbeegmaaGreatDoor
end
section
set_option maxRecDepth 20000
namespace Go.Proofs.YtdcgbgecbeegmaaGreatDoor
open Go Go.RowKit
theorem ref_order11 (a b:ByteArray) (w:World) :
  Calls Tryz.prog 70 #[.string a,.string b] w fun e w'=>e = .returned (.int .i64 (ordS a b))∧w'=w:=by
 by_cases h1:ltS a b=true
 ·have hcmp:Op.bytesLess a.toList b.toList=true:=h1
  have HO:Hid (ordS a b = -1):=if_pos h1
  rw [HO.out]
  clear h1
  go_enter Tryz.func70,Tryz.ntmps70
  go_wp2_with fail
  go_ret
  exact ⟨rfl,rfl⟩
 ·have h1f:ltS a b=false:=by simpa using h1
  have hcmp:Op.bytesLess a.toList b.toList=false:=h1f
  by_cases h2:ltS b a=true
  ·have hne:a≠b:=fun e=>by subst e;rw [ltS_ok.irr] at h2;cases h2
   have hgt:binOp .gtr 9 (.string a) (.string b)=pure (.bool true):=by simp [binOp,Op.stringOp,hcmp,eqS,hne]
   have HO:Hid (ordS a b=1):=by show _=_;rw [ordS,ordB,if_neg h1,if_pos h2]
   rw [HO.out]
   clear h1 h1f h2 hne
   go_enter Tryz.func70,Tryz.ntmps70
   go_wp2_with fail
   go_ret
   exact ⟨rfl,rfl⟩
  ·have he:a=b:=ltS_ok.tot a b h1f (by simpa using h2)
   have hgt:binOp .gtr 9 (.string a) (.string b)=pure (.bool false):=by simp [binOp,Op.stringOp,he]
   have HO:Hid (ordS a b=0):=by show _=_;rw [ordS,ordB,if_neg h1,if_neg h2]
   rw [HO.out]
   clear h1 h1f h2 he
   go_enter Tryz.func70,Tryz.ntmps70
   go_wp2_with fail
   go_ret
   exact ⟨rfl,rfl⟩
theorem ordS_dom (a b:ByteArray):ordS a b = -1∨ordS a b=0∨ordS a b=1:=ordS_ok.dom a b
def Drw (w w':World):Prop:=∃q,w'=w.drewN q
theorem Drw.below {w w':World} (h:Drw w w'):Below w.heap.size w w':=by
 obtain ⟨q,rfl⟩:=h
 exact ⟨rfl,rfl,rfl,Nat.le_refl _,fun _ _=>rfl⟩
theorem Drw.step {w w':World} (h:Drw w w') (n:Nat):Drw w (w'.drewN n):=by
 obtain ⟨q,rfl⟩:=h
 exact ⟨q+n,World.drewN_drewN ..⟩
set_option maxHeartbeats 4000000 in
theorem ref_compareD (av bv:Value) (a b:List Lab) (w:World) (ha:Rd w 2 av a.length (labCells a)) (hb:Rd w 2 bv b.length (labCells b)) (hna:a.length≤1000000) (hnb:b.length≤1000000) :
  Calls Tryz.prog 32 #[av,bv] w fun e w'=>e = .returned (.int .i64 (cmpLabs a b))∧Drw w w':=by
 have HLa:=Lib.hid ha;have HLb:=Lib.hid hb
 obtain ⟨pa,ca,hv⟩:=ha.shape
 subst hv
 obtain ⟨pb,cb,hv⟩:=hb.shape
 subst hv
 have hma:(a.length:Int)≤1000000:=by omega
 have hmb:(b.length:Int)≤1000000:=by omega
 clear ha hb hna hnb
 go_enter Tryz.func32,Tryz.ntmps32
 go_wp2_with fail
 go_loopw [5] (fun iv wr=>∃(i:Nat),i≤a.length∧i≤b.length∧iv = .int .i64 (i:Int)∧Hid (cmpLabs a b=cmpLabs (a.drop i) (b.drop i))∧Hid (Drw w wr)) (fun iv _=>a.length-(intOf iv).toNat)
 case atStart=>exact ⟨0,Nat.zero_le _,Nat.zero_le _,rfl,rfl,⟨0,rfl⟩⟩
 case round=>
  obtain ⟨i,hia,hib,rfl,HC,HB⟩:=hrel
  have him:(i:Int)≤1000000:=by omega
  by_cases h1:i<a.length
  ·have h1':(i:Int)<(a.length:Int):=by omega
   by_cases h2:i<b.length
   ·have h2':(i:Int)<(b.length:Int):=by omega
    obtain ⟨⟨xn,xv⟩,hx⟩:∃x,a[i]? = some x:=⟨_,List.getElem?_eq_getElem h1⟩
    obtain ⟨⟨yn,yv⟩,hy⟩:∃y,b[i]? = some y:=⟨_,List.getElem?_eq_getElem h2⟩
    obtain ⟨ba,oa,e⟩:=rd2_at HLa.out hx
    subst e
    obtain ⟨bb,ob,e⟩:=rd2_at HLb.out hy
    subst e
    obtain ⟨c0,c1⟩:=rd2_cell (HLa.out.below HB.out.below) hx
    obtain ⟨d0,d1⟩:=rd2_cell (HLb.out.below HB.out.below) hy
    have HSt:=Lib.hid (cmp_step hx hy HC.out)
    clear hx hy HC
    have HO1:=Lib.hid (fun w'=>ref_order11 xn yn w')
    have HO2:=Lib.hid (fun w'=>ref_order11 xv yv w')
    go_wp2_with fail
    go_quiet ((go_at_call 70;exact Calls.quiet_of_same (HO1.out _)))
    have HB1:Hid (Drw w (wr.drewN nq)):=HB.out.step nq
    have c1':(wr.drewN nq).cell? ⟨ba,oa+i*2+1,none⟩=some (.string xv):=c1
    have d1':(wr.drewN nq).cell? ⟨bb,ob+i*2+1,none⟩=some (.string yv):=d1
    clear c0 c1 d0 d1
    generalize wr.drewN nq=w1 at *
    have HD1:=ordS_dom xn yn
    have HD2:=ordS_dom xv yv
    by_cases e1:ordS xn yn=0
    ·have HSc:Hid (cmpLabs a b=if ordS xv yv=0 then cmpLabs (a.drop (i+1)) (b.drop (i+1)) else ordS xv yv):=by
      show _=_
      have hc:cmpLab (xn,xv) (yn,yv)=ordS xv yv:=if_pos e1
      rw [HSt.out,hc]
     rw [e1]
     clear e1 HD1
     go_wp2_with fail
     go_quiet ((go_at_call 70;exact Calls.quiet_of_same (HO2.out _)))
     have HB2:Hid (Drw w (w1.drewN nq)):=HB1.out.step nq
     clear c1' d1'
     generalize w1.drewN nq=w2 at *
     by_cases e2:ordS xv yv=0
     ·rw [if_pos e2] at HSc
      rw [e2]
      clear e2 HD2
      go_wp2_with fail
      go_round
      case rel=>exact ⟨i+1,by omega,by omega,by go_num,HSc.out,HB2.out⟩
      case measure=>simp [intOf];omega
     ·rw [if_neg e2] at HSc
      have heb:((ordS xv yv) == 0)=false:=by rw [beq_eq_false_iff_ne];exact e2
      have HE2:=Lib.hid e2
      clear HD2
      generalize ordS xv yv=o2 at *
      go_wp2_with fail
      go_ret
      exact ⟨by rw [HSc.out];rfl,HB2.out⟩
    ·have HSc:Hid (cmpLabs a b=ordS xn yn):=by
      show _=_
      have hc:cmpLab (xn,xv) (yn,yv)=ordS xn yn:=if_neg e1
      rw [HSt.out,hc,if_neg e1]
     have heb:((ordS xn yn) == 0)=false:=by rw [beq_eq_false_iff_ne];exact e1
     clear HD1 HD2
     generalize ordS xn yn=o1 at *
     go_wp2_with fail
     go_ret
     exact ⟨by rw [HSc.out];rfl,HB1.out⟩
   ·have h2':¬(i:Int)<(b.length:Int):=by omega
    have HE:=Lib.hid (cmp_end ⟨hia,hib⟩ (fun e=>h2 e.2) HC.out)
    have hlt:¬(a.length:Int)<(b.length:Int):=by omega
    have hgt:(b.length:Int)<(a.length:Int):=by omega
    rw [if_neg (by omega),if_pos (by omega)] at HE
    clear h2
    go_wp2_with fail
    go_ret
    exact ⟨by rw [HE.out];rfl,HB.out⟩
  ·have h1':¬(i:Int)<(a.length:Int):=by omega
   have HE:=Lib.hid (cmp_end ⟨hia,hib⟩ (fun e=>h1 e.1) HC.out)
   by_cases hl1:a.length<b.length
   ·have hlt:(a.length:Int)<(b.length:Int):=by omega
    rw [if_pos hl1] at HE
    clear hl1 h1
    go_wp2_with fail
    go_ret
    exact ⟨by rw [HE.out];rfl,HB.out⟩
   ·have hlt:¬(a.length:Int)<(b.length:Int):=by omega
    rw [if_neg hl1] at HE
    by_cases hl2:b.length<a.length
    ·have hgt:(b.length:Int)<(a.length:Int):=by omega
     rw [if_pos hl2] at HE
     clear hl1 hl2 h1
     go_wp2_with fail
     go_ret
     exact ⟨by rw [HE.out];rfl,HB.out⟩
    ·have hgt:¬(b.length:Int)<(a.length:Int):=by omega
     rw [if_neg hl2] at HE
     clear hl1 hl2 h1
     go_wp2_with fail
     go_ret
     exact ⟨by rw [HE.out];rfl,HB.out⟩
theorem ref_compare11 (av bv:Value) (a b:List Lab) (w:World) (ha:Rd w 2 av a.length (labCells a)) (hb:Rd w 2 bv b.length (labCells b)) (hna:a.length≤1000000) (hnb:b.length≤1000000) :
  Calls Tryz.prog 32 #[av,bv] w fun e w'=>e = .returned (.int .i64 (cmpLabs a b))∧Below w.heap.size w w':=
 (ref_compareD av bv a b w ha hb hna hnb).mono fun e w' h=>⟨h.1,h.2.below⟩
end Go.Proofs.YtdcgbgecbeegmaaGreatDoor
end
section
set_option maxRecDepth 100000
namespace Go.Proofs.YtdcgbgecbeegmaaGreatDoor
open Go Go.RowKit
theorem Rd.of_blk {w:World} {b n:Nat} {vs:List Value} {sz:Nat} (h:Blk w b vs) (hl:vs.length=n*sz) (hn:n≤maxLen):Rd w sz (.slice (some ⟨b,0,none⟩) n n) n vs:=by
 refine ⟨_,_,rfl,hl,Nat.le_refl _,hn,(fun e=>by cases e),fun ad e j u hu=>?_⟩
 cases e
 have e:(⟨b,0,none⟩:Addr).add j=⟨b,j,none⟩:=by unfold Addr.add;split<;>simp_all
 rw [e,h.cell]
 exact hu
end Go.Proofs.YtdcgbgecbeegmaaGreatDoor
end
section
set_option maxRecDepth 20000
namespace Go.Proofs.YtdcgbgecbeegmaaGreatDoor
open Go Go.RowKit
abbrev EntV:=(Lab × List Int) × Value
def entC (p:EntV):List Value:=[.string p.1.1.1,.string p.1.1.2,p.2]
def entCells (M:List EntV):List Value:=M.flatMap entC
theorem entCells_append (a b:List EntV):entCells (a++b)=entCells a++entCells b:=by simp [entCells,List.flatMap_append]
theorem entCells_get (M:List EntV) (j:Nat) (p:EntV) (h:M[j]? = some p):(entCells M)[j*3]? = some (.string p.1.1.1)∧(entCells M)[j*3+1]? = some (.string p.1.1.2)∧(entCells M)[j*3+2]? = some p.2:=by
 induction M generalizing j with
 | nil=>simp at h
 | cons r M ih=>
  have e:entCells (r::M) = .string r.1.1.1 :: .string r.1.1.2::r.2::entCells M:=rfl
  cases j with
  | zero=>
   simp at h
   subst h
   rw [e]
   exact ⟨rfl,rfl,rfl⟩
  | succ j=>
   obtain ⟨h1,h2,h3⟩:=ih j (by simpa using h)
   rw [e,show (j+1)*3=j*3+3 by omega]
   exact ⟨by simpa using h1,by simpa using h2,by simpa using h3⟩
structure RdE (w:World) (v:Value) (l:List (Lab × List Int)):Prop where
 ex:∃M:List EntV,M.map Prod.fst=l∧Rd w 3 v M.length (entCells M)∧∀p∈M,Rd w 1 p.2 p.1.2.length (i64s p.1.2)
theorem RdE.shape {w:World} {v:Value} {l:List (Lab × List Int)} (k:RdE w v l):∃p c,v = .slice p l.length c:=by
 obtain ⟨M,h1,h2,_⟩:=k.ex
 have:l.length=M.length:=by rw [← h1,List.length_map]
 rw [this]
 exact h2.shape
theorem RdE.always {w:World} {p:Option Addr} {n c:Nat} {l:List (Lab × List Int)} (k:RdE w (.slice p n c) l) {i:Nat} {e:Lab × List Int} (hi:l[i]? = some e) :
  ∃b off q d,p=some ⟨b,off,none⟩∧∀w',Below w.heap.size w w'→(w'.cell? ⟨b,off+i*3,none⟩=some (.string e.1.1)∧w'.cell? ⟨b,off+i*3+1,none⟩=some (.string e.1.2)∧w'.cell? ⟨b,off+i*3+2,none⟩=some (.slice q e.2.length d))∧Rd w' 1 (.slice q e.2.length d) e.2.length (i64s e.2):=by
 obtain ⟨M,h1,h2,h3⟩:=k.ex
 subst h1
 rw [List.getElem?_map] at hi
 obtain ⟨x,hx,rfl⟩:=Option.map_eq_some_iff.1 hi
 obtain ⟨g1,g2,g3⟩:=entCells_get M i x hx
 have hr:=h3 x (List.mem_of_getElem? hx)
 obtain ⟨q,d,hq⟩:=hr.shape
 obtain ⟨b,off,c',e,_,_,hc⟩:=h2.at (fun e=>by rw [e] at g1;cases g1)
 simp only [Value.slice.injEq] at e
 have c1:=hc _ _ g1
 have c2:=hc _ _ g2
 have c3:=hc _ _ g3
 rw [← Nat.add_assoc] at c2 c3
 rw [hq] at hr c3
 exact ⟨b,off,q,d,e.1,fun w' hb=>⟨⟨(hb.cell (World.block_lt_of_cell? w _ c1)).trans c1,(hb.cell (World.block_lt_of_cell? w _ c2)).trans c2,(hb.cell (World.block_lt_of_cell? w _ c3)).trans c3⟩,hr.below hb⟩⟩
def SerOff1 (S:Nat→Prop) (h:Value) (s:List Int):Prop:=s≠[]→∀k,h.ownBlock=some k→¬S k
theorem i64s_ne15 {l:List Int} (h:i64s l≠[]):l≠[]:=fun e=>h (by subst e;rfl)
theorem i64s_ne15' {l:List Int} (h:l≠[]):i64s l≠[]:=fun e=>h (List.eq_nil_of_length_eq_zero (by have:=congrArg List.length e;simpa [i64s] using this))
structure EnAt (t:TypeId) (w wr:World) (M:List EntV) (v:Value):Prop where
 row:wr.ownsRow w.heap.size t 3 v M.length (entCells M)
 bel:Below w.heap.size w wr
 ser:∀p∈M,Rd wr 1 p.2 p.1.2.length (i64s p.1.2)∧SerOff1 (fun k=>v.ownBlock=some k) p.2 p.1.2
theorem EnAt.below {t:TypeId} {w wr w1:World} {M:List EntV} {v:Value} (k:EnAt t w wr M v) (hb:Below wr.heap.size wr w1):EnAt t w w1 M v:=
 ⟨(Mods.of_below hb (fun _=>False)).owns k.row (fun _ _ e=>e),k.bel.trans (hb.mono k.bel.size),fun p hp=>⟨(k.ser p hp).1.below hb,(k.ser p hp).2⟩⟩
theorem EnAt.rd {t:TypeId} {w wr:World} {M:List EntV} {v:Value} (k:EnAt t w wr M v):RdE wr v (M.map Prod.fst):=⟨M,rfl,Rd.of_owns k.row,fun p hp=>(k.ser p hp).1⟩
theorem EnAt.shape {t:TypeId} {w wr:World} {M:List EntV} {v:Value} (k:EnAt t w wr M v):∃p c,v = .slice p M.length c:=(Rd.of_owns k.row).shape
theorem EnAt.base0 {t:TypeId} {w wr:World} {M:List EntV} {v:Value} (k:EnAt t w wr M v):wr.ownsRow 0 t 3 v M.length (entCells M):=owns_rebase k.row (fun _ _=>Nat.zero_le _)
theorem EnAt.pushed {t:TypeId} {w wr w1:World} {M:List EntV} {v v1:Value} {p:EntV} (k:EnAt t w wr M v) (hsr:Rd wr 1 p.2 p.1.2.length (i64s p.1.2)) (ho:SerOff1 (fun j=>v.ownBlock=some j) p.2 p.1.2)
  (k1:w1.ownsRow 0 t 3 v1 (M.length+1) (entCells M++entC p)) (m:Mods (fun j=>v.ownBlock=some j) wr w1) (hf:Fresh wr.heap.size v v1):EnAt t w w1 (M++[p]) v1:=by
 have hoff:∀(h:Value) (s:List Int),Rd wr 1 h s.length (i64s s)→SerOff1 (fun j=>v.ownBlock=some j) h s→Rd w1 1 h s.length (i64s s)∧SerOff1 (fun j=>v1.ownBlock=some j) h s:=fun h s a b=>by
  refine ⟨a.mods' m (fun e=>b (i64s_ne15 e)),fun e j hj hv=>?_⟩
  rcases hf j hv with f | f
  ·exact b e j hj f
  ·have:=a.lt (i64s_ne15' e) j hj;omega
 refine ⟨?_,k.bel.trans (m.below k.bel.size (fun j hj e=>by have:=(k.row.lt j e).1;omega)),fun q hq=>?_⟩
 ·rw [List.length_append,entCells_append]
  refine owns_rebase (by simpa [entCells] using k1) (fun j hj=>?_)
  rcases hf j hj with e | e
  ·exact (k.row.lt j e).1
  ·have:=k.bel.size;omega
 ·rcases List.mem_append.1 hq with f | f
  ·exact hoff _ _ (k.ser q f).1 (k.ser q f).2
  ·rw [List.mem_singleton.1 f]
   exact hoff _ _ hsr ho
theorem rdI_at {w:World} {p:Option Addr} {n c:Nat} {l:List Int} (h:Rd w 1 (.slice p n c) l.length (i64s l)) {i:Nat} {x:Int} (hx:l[i]? = some x):∃b off,p=some ⟨b,off,none⟩∧∀w',Below w.heap.size w w'→w'.cell? ⟨b,off+i,none⟩=some (.int .i64 x):=by
 have hlt:=(List.getElem?_eq_some_iff.1 hx).1
 obtain ⟨b,off,c',e,_,_,hc⟩:=h.at (fun e=>by have:=congrArg List.length e;rw [i64s_length] at this;rw [this] at hlt;simp at hlt)
 simp only [Value.slice.injEq] at e
 have hcell:=hc i _ (by rw [i64s,List.getElem?_map,hx];rfl)
 exact ⟨b,off,e.1,fun w' hb=>(hb.cell (World.block_lt_of_cell? w _ hcell)).trans hcell⟩
end Go.Proofs.YtdcgbgecbeegmaaGreatDoor
end
section
namespace Go.Proofs.YtdcgbgecbeegmaaGreatDoor
open Go Go.RowKit
theorem wp_normal {P:Program} {c:Code} {Q:Exit→Act→World→Prop} {a:Act} {w:World} (h:c.wp P (fun e a w=>e = .normal∧Q .normal a w) a w):c.wp P Q a w:=wp_mono h (fun _ _ _ h=>h.1 ▸ h.2)
theorem Blk.three {w:World} {g:Nat} {a b c:Value} (h:Blk w g [a,b,c]):(w.cell? ⟨g,0,none⟩=some a∧w.cell? ⟨g,1,none⟩=some b∧w.cell? ⟨g,2,none⟩=some c)∧(w.frozen? ⟨g,0,none⟩=false∧w.frozen? ⟨g,1,none⟩=false∧w.frozen? ⟨g,2,none⟩=false):=
 ⟨⟨by rw [h.cell];rfl,by rw [h.cell];rfl,by rw [h.cell];rfl⟩,h.free 0,h.free 1,h.free 2⟩
theorem Blk.set3 {w:World} {g:Nat} {a b c:Value} (h:Blk w g [a,b,c]) (x y z:Value):Blk (((w.setCell ⟨g,0,none⟩ x).setCell ⟨g,1,none⟩ y).setCell ⟨g,2,none⟩ z) g [x,y,z]:=by
 simpa using ((h.set 0 x).set 1 y).set 2 z
theorem mods_set3 (w:World) (g:Nat) (x y z:Value):Mods (fun k=>k=g) w (((w.setCell ⟨g,0,none⟩ x).setCell ⟨g,1,none⟩ y).setCell ⟨g,2,none⟩ z):=
 ((Mods.set (fun k=>k=g) w ⟨g,0,none⟩ x (fun _=>rfl)).trans (Mods.set (fun k=>k=g) _ ⟨g,1,none⟩ y (fun _=>rfl)) (fun _ _ e=>e)).trans (Mods.set (fun k=>k=g) _ ⟨g,2,none⟩ z (fun _=>rfl)) (fun _ _ e=>e)
end Go.Proofs.YtdcgbgecbeegmaaGreatDoor
end
section
namespace Go.Proofs.YtdcgbgecbeegmaaGreatDoor
open Go Go.RowKit Go.Shelf
theorem operIn_round {P:Program} {l n:Nat} {o:Oper} {a:Act} {w:World} {next next':Act→World→Prop} {Q:Exit→Act→World→Prop} (hd:∀c,o.op≠.defer c) (hn:∀a w,next a w→next' a w) (hQ:¬LetsOut Q)
  (h:o.wp P a w next Q):o.wpIn (Fence.wide.inRound l) n P a w next' Q:=by
 refine ⟨fun _ _=>trivial,?_⟩
 show o.uponIn _ n P a next' Q ((o.semAt (some l) a.eval).run P w)
 rw [Oper.semAt_some l a.eval o hd]
 unfold Oper.wp at h
 have hdep:(Fence.wide.inRound l).depth.isSome=true→1≤n:=fun h=>by cases h
 revert h
 generalize (execOp a.eval o).run P w=r
 intro h
 cases r with
 | ok v w1=>
  cases v with
  | value v=>exact hn _ _ h
  | skip=>exact hn _ _ h
  | defer d=>exact hn _ _ h
  | enter f args=>
   refine ⟨hdep,CallsIn.inRound l (callsIn_wide.2 (Calls.mono h ?_))⟩
   intro e w2 h2
   cases e with
   | returned v=>exact hn _ _ h2
   | panicked ch=>exact h2
   | outgrown=>exact absurd h2 hQ
  | row row args=>
   refine ⟨hdep,fun c cs _=>?_⟩
   obtain ⟨v,w2,h2,s⟩:=h c cs
   exact ⟨v,w2,hn _ _ h2,stepsIn_wide.2 s⟩
  | _=>exact h.elim
 | halt hh w1=>
  cases hh with
  | panic v=>exact h
  | _=>exact h.elim
theorem wpListIn_round {P:Program} {l n:Nat} {ops:Array Oper} {Q:Exit→Act→World→Prop} (hQ:¬LetsOut Q):∀(os:List Oper) (a:Act) (w:World),(∀o∈os,∀c,o.op≠.defer c)→
  wpList P ops Q os a w→wpListIn (Fence.wide.inRound l) n P ops Q os a w
 | [],_,_,_,h=>h
 | o::os,a,w,hd,h=>by
  unfold wpListIn
  unfold wpList at h
  split
  ·next hw=>
   rw [if_pos hw] at h
   rcases h with h | h
   ·exact operIn_round (hd o (by simp)) (fun a w=>wpListIn_round hQ os a w (fun o h=>hd o (by simp [h]))) hQ h
   ·exact absurd h.2 hQ
  ·next hw=>
   rw [if_neg hw] at h
   exact ⟨fun _ _=>trivial,wpListIn_round hQ os _ _ (fun o h=>hd o (by simp [h])) h⟩
theorem row_other {W:World} {row:Option Nat} {b:Nat} {cs:Array Value} {t:TypeId} {fz:Nat × Nat} (h:W.heap[b]? = some (.cells cs t fz)) (hr:∀r,row=some r→∃o:Obj,W.heap[r]? = some o∧o.isCells=false):some b≠row:=fun e=>by
 obtain ⟨o,ho,hc⟩:=hr b e.symm
 rw [h] at ho;cases ho;cases hc
theorem own_blk {β:Type} (b:Nat) (f:β→List Value):Own (fun s W=>Blk W b (f s)):=by
 rintro s W W' row ⟨t,h⟩ hg hr
 exact ⟨t,(hg.block b (Array.getElem?_eq_some_iff.1 h).1 (row_other h hr)).trans h⟩
theorem owns_abides {W W':World} {row:Option Nat} {base:Nat} {e:TypeId} {sz:Nat} {v:Value} {n:Nat} {xs:List Value} (h:W.ownsRow base e sz v n xs) (hg:W.grownBy W' row) (hr:∀r,row=some r→∃o:Obj,W.heap[r]? = some o∧o.isCells=false):W'.ownsRow base e sz v n xs:=by
 refine h.kept hg ?_
 rcases h.2 with ⟨rfl,_⟩ | ⟨g,cap,cur,rfl,_,hgb,_⟩
 ·exact .inl rfl
 ·exact .inr (fun e=>row_other hgb hr e)
theorem ownFrom_mods {β:Type} {B:Nat} {S:Nat→Prop} {w:World} (hB:w.heap.size≤B):OwnFrom B (fun (_:β) W=>Mods S w W):=by
 intro s W W' row h hg hr
 refine ⟨hg.os.trans h.os,hg.tape.trans h.tape,hg.output.trans h.output,Nat.le_trans h.size hg.size,fun k hk hs=>?_⟩
 refine (hg.block k (by have:=h.size;omega) (fun e=>?_)).trans (h.block k hk hs)
 have:=(hr k e.symm).1
 omega
def Holds (e:TypeId) (sz b:Nat) (v:Value) (n:Nat) (xs:List Value) (w W:World):Prop:=
 ∃v',Blk W b [v']∧W.ownsRow 0 e sz v' n xs∧Fresh w.heap.size v v'∧(v'.ownBlock≠some b)∧Mods (fun k=>v.ownBlock=some k) w W
theorem ownFrom_holds {β:Type} {B:Nat} {w:World} (hB:w.heap.size≤B) (e:TypeId) (sz b:Nat) (v:Value) (n:β→Nat) (xs:β→List Value):OwnFrom B (fun s W=>Holds e sz b v (n s) (xs s) w W):=by
 rintro s W W' row ⟨v',h1,h2,h3,h4,h5⟩ hg hr
 have hr':∀r,row=some r→∃o:Obj,W.heap[r]? = some o∧o.isCells=false:=fun r e=>(hr r e).2
 exact ⟨v',own_blk b (fun _:Unit=>[v']) () W W' row h1 hg hr',owns_abides h2 hg hr',h3,h4,ownFrom_mods hB () W W' row h5 hg hr⟩
theorem KeepsOthers.of_mods {S:Nat→Prop} {W W':World} (h:Mods S W W') (hS:∀k o,S k→W.heap[k]? = some o→o.isCells=true):KeepsOthers W W':=
 ⟨h.size,fun k o hk ho=>(h.block k (Array.getElem?_eq_some_iff.1 hk).1 (fun e=>by rw [hS k o e hk] at ho;cases ho)).trans hk⟩
theorem owns_isCells {W:World} {base:Nat} {e:TypeId} {sz:Nat} {v:Value} {n:Nat} {xs:List Value} (h:W.ownsRow base e sz v n xs):∀k o,v.ownBlock=some k→W.heap[k]? = some o→o.isCells=true:=by
 intro k o hk ho
 rcases h.2 with ⟨rfl,_⟩ | ⟨g,cap,cur,rfl,_,hgb,_⟩
 ·simp [Value.ownBlock] at hk
 ·obtain rfl:g=k:=by simpa [Value.ownBlock] using hk
  rw [hgb] at ho;cases ho;rfl
theorem Holds.pushed {e:TypeId} {sz b:Nat} {v v1 v2:Value} {n m:Nat} {xs ys:List Value} {w W w1:World} (hb:w.heap.size≤b) (h1:Blk W b [v1]) (h2:W.ownsRow 0 e sz v1 n xs) (h3:Fresh w.heap.size v v1) (h4:v1.ownBlock≠some b) (h5:Mods (fun k=>v.ownBlock=some k) w W)
  (k1:w1.ownsRow 0 e sz v2 m ys) (k2:Mods (fun k=>v1.ownBlock=some k) W w1) (k3:Fresh W.heap.size v1 v2) :
  Holds e sz b v m ys w (w1.setCell ⟨b,0,none⟩ v2)∧KeepsOthers W (w1.setCell ⟨b,0,none⟩ v2):=by
 have hne:v2.ownBlock≠some b:=fun e=>by
  rcases k3 b e with e | e
  ·exact h4 e
  ·have:=h1.lt;omega
 refine ⟨⟨v2,?_,?_,?_,hne,?_⟩,(KeepsOthers.of_mods k2 (owns_isCells h2)).trans (KeepsOthers.setCell _ _ _)⟩
 ·simpa using (k2.blk h1 h4).set 0 v2
 ·exact (Mods.set (fun k=>k=b) w1 ⟨b,0,none⟩ v2 (fun _=>rfl)).owns k1 (fun k hk e=>hne (by rw [hk,e]))
 ·exact h3.trans k3 h5.size
 ·refine (h5.trans k2 (fun j hj e=>?_)).trans (Mods.set (fun k=>k=b) w1 ⟨b,0,none⟩ v2 (fun _=>rfl)) (fun j hj e=>by omega)
  rcases h3 j e with e | e
  ·exact e
  ·omega
theorem not_letsOut_body {α:Type} {id B:Nat} {Kp:World→World→Prop} {I:List α→World→Prop} {Ix:Code→List α→World→Prop} {xs:List α} {W:World}:¬LetsOut (Exit.inBlock id (ownPostG B Kp I Ix xs W)):=by
 rintro ⟨_,_,h⟩;exact h
theorem Mods.putObj {S:Nat→Prop} {w W:World} (h:Mods S w W) {D:Nat} (hD:w.heap.size≤D) (o:Obj):Mods S w (W.putObj D o):=by
 have hg:=grownBy_putObj' W D o
 exact ⟨hg.os.trans h.os,hg.tape.trans h.tape,hg.output.trans h.output,Nat.le_trans h.size hg.size,fun k hk hs=>(hg.block k (by have:=h.size;omega) (fun e=>by cases e;omega)).trans (h.block k hk hs)⟩
end Go.Proofs.YtdcgbgecbeegmaaGreatDoor
end
section
namespace Go.Proofs.YtdcgbgecbeegmaaGreatDoor
open Go Go.RowKit
inductive Plan where
 | done
 | take (i:Nat) (p:Plan)
 | one (i:Nat) (p:Plan)
 | two (i j:Nat) (p q:Plan)
def planOk (md:Region.Mode) (ops:Array Oper):Plan→Array Bool→Bool
 | .done,listed=>(Region.ready md ops listed).isEmpty
 | .take i p,listed=>Region.free md ops listed i&&(Region.ready md ops listed).contains i&&planOk md ops p (listed.setIfInBounds i true)
 | .one i p,listed=>Region.ready md ops listed == [i]&&planOk md ops p (listed.setIfInBounds i true)
 | .two i j p q,listed=>Region.ready md ops listed == [i,j]&&(planOk md ops p (listed.setIfInBounds i true)&&planOk md ops q (listed.setIfInBounds j true))
def Plan.steps:Plan→Nat
 | .done=>0
 | .take _ p=>p.steps+1
 | .one _ p=>p.steps+1
 | .two _ _ p q=>max p.steps q.steps+1
def wpNum (P:Program) (ops:Array Oper) (Q:Exit→Act→World→Prop) (i:Nat) (K:Act→World→Prop) (a:Act) (w:World):Prop:=
 match ops[i]? with
 | none=>False
 | some o=>if Region.wanted o (yielded ops a.tmps)=true then o.wp P a w K Q else K (a.put o.dst undef) w
def wpPlan (P:Program) (ops:Array Oper) (Q:Exit→Act→World→Prop):Plan→Act→World→Prop
 | .done,a,w=>Q .normal a w
 | .take i p,a,w=>match ops[i]? with
  | none=>False
  | some o=>if Region.wanted o (yielded ops a.tmps)=true then ∃v,(∀w,(execOp a.eval o).run P w = .ok (.value v) w)∧wpPlan P ops Q p (a.put o.dst v) w else wpPlan P ops Q p (a.put o.dst undef) w
 | .one i p,a,w=>wpNum P ops Q i (wpPlan P ops Q p) a w
 | .two i j p q,a,w=>wpNum P ops Q i (wpPlan P ops Q p) a w∧wpNum P ops Q j (wpPlan P ops Q q) a w
section
variable {P:Program} {ops:Array Oper} {Q:Exit→Act→World→Prop} {md:Region.Mode}
theorem wpOp_of_num {i:Nat} {K K':Act→World→Prop} {a:Act} {w:World} (hK:∀a w,K a w→K' a w) (h:wpNum P ops Q i K a w):wpOp P ops Q i K' a w:=by
 unfold wpNum at h
 unfold wpOp
 cases ho:ops[i]? with
 | none=>rw [ho] at h;exact h.elim
 | some o=>
  rw [ho] at h
  simp only at h ⊢
  split
  ·next hw=>
   rw [if_pos hw] at h
   exact .inl (Oper.wp_mono hK h)
  ·next hw=>
   rw [if_neg hw] at h
   exact hK _ _ h
theorem wpAny_of_plan (hs:Region.noSelect ops=true) (hQ:∀c (a a':Act) w,a.defers=a'.defers→Q (.panic c) a w→Q (.panic c) a' w):∀(p:Plan) (listed:Array Bool) (a:Act) (w:World) (fuel:Nat),p.steps≤fuel→
  planOk md ops p listed=true→wpPlan P ops Q p a w→wpAny P md ops Q fuel listed a w
 | .done,listed,a,w,fuel,_,hB,h=>wpAny_done (by simpa [planOk] using hB) h fuel
 | .take i p,listed,a,w,0,hf,_,_=>by simp [Plan.steps] at hf
 | .take i p,listed,a,w,fuel+1,hf,hB,h=>by
  have hf':p.steps≤fuel:=by simpa [Plan.steps] using hf
  simp only [planOk,Bool.and_eq_true] at hB
  unfold wpPlan at h
  cases ho:ops[i]? with
  | none=>rw [ho] at h;exact h.elim
  | some o=>
   rw [ho] at h
   simp only at h
   by_cases hw:Region.wanted o (yielded ops a.tmps)=true
   ·rw [if_pos hw] at h
    obtain ⟨v,hv,h⟩:=h
    exact wpAny_take ho hs hB.1.1 hB.1.2 (fun c a w h=>hQ c _ _ w (put_defers _ _ _) h) (.inl ⟨hw,hv⟩) (wpAny_of_plan hs hQ p _ _ w fuel hf' hB.2 h)
   ·rw [if_neg hw] at h
    exact wpAny_take ho hs hB.1.1 hB.1.2 (fun c a w h=>hQ c _ _ w (put_defers _ _ _) h) (.inr ⟨by simpa using hw,rfl⟩) (wpAny_of_plan hs hQ p _ _ w fuel hf' hB.2 h)
 | .one i p,listed,a,w,0,hf,_,_=>by simp [Plan.steps] at hf
 | .one i p,listed,a,w,fuel+1,hf,hB,h=>by
  have hf':p.steps≤fuel:=by simpa [Plan.steps] using hf
  simp only [planOk,Bool.and_eq_true,beq_iff_eq] at hB
  refine wpAny_all hB.1 (by simp) (fun j hj=>?_)
  obtain rfl:j=i:=by simpa using hj
  exact wpOp_of_num (fun a w h=>wpAny_of_plan hs hQ p _ a w fuel hf' hB.2 h) h
 | .two i j p q,listed,a,w,0,hf,_,_=>by simp [Plan.steps] at hf
 | .two i j p q,listed,a,w,fuel+1,hf,hB,h=>by
  have hf':max p.steps q.steps≤fuel:=by simpa [Plan.steps] using hf
  simp only [planOk,Bool.and_eq_true,beq_iff_eq] at hB
  refine wpAny_all hB.1 (by simp) (fun m hm=>?_)
  have hm':m=i∨m=j:=by simpa using hm
  rcases hm' with rfl | rfl
  ·exact wpOp_of_num (fun a w h=>wpAny_of_plan hs hQ p _ a w fuel (by omega) hB.2.1 h) h.1
  ·exact wpOp_of_num (fun a w h=>wpAny_of_plan hs hQ q _ a w fuel (by omega) hB.2.2 h) h.2
theorem wpAnyIn_round {r n:Nat} (hQ:¬LetsOut Q) (hd:∀o∈ops.toList,∀c,o.op≠.defer c):∀(fuel:Nat) (listed:Array Bool) (a:Act) (w:World),wpAny P md ops Q fuel listed a w→wpAnyIn (Fence.wide.inRound r) n P md ops Q fuel listed a w
 | 0,_,_,_,h=>h
 | fuel+1,listed,a,w,h=>⟨h.1,fun i hi=>by
  have h2:=h.2 i hi
  unfold wpOp at h2
  unfold wpOpIn
  cases ho:ops[i]? with
  | none=>
   rw [ho] at h2
   exact wpAnyIn_round hQ hd fuel _ _ _ h2
  | some o=>
   rw [ho] at h2
   simp only at h2 ⊢
   have hmem:o∈ops.toList:=by
    rw [← Array.getElem?_toList] at ho
    exact List.mem_of_getElem? ho
   split
   ·next hw=>
    rw [if_pos hw] at h2
    rcases h2 with h2 | h2
    ·exact operIn_round (hd o hmem) (fun a w=>wpAnyIn_round hQ hd fuel _ a w) hQ h2
    ·exact absurd h2.2 hQ
   ·next hw=>
    rw [if_neg hw] at h2
    exact ⟨fun _ _=>trivial,wpAnyIn_round hQ hd fuel _ _ _ h2⟩⟩
theorem wpIn_region_plan {r n id:Nat} {a:Act} {w:World} (p:Plan) (hm:P.follows .mixedOrders=true) (hs:Region.noSelect ops=true) (hB:(decide (p.steps≤ops.size)&&planOk .any ops p (Array.replicate ops.size false))=true)
  (hl:¬LetsOut Q) (hd:∀o∈ops.toList,∀c,o.op≠.defer c) (hQ:∀c (a a':Act) w,a.defers=a'.defers→Q (.panic c) a w→Q (.panic c) a' w) (h:wpPlan P ops Q p a w.drew):(Code.region id ops true).wpIn (Fence.wide.inRound r) n P Q a w:=by
 rw [Bool.and_eq_true] at hB
 exact wpIn_region_any hm (wpAnyIn_round hl hd _ _ _ _ (wpAny_of_plan hs hQ p _ _ _ _ (by simpa using hB.1) hB.2 h))
theorem plan_done {a:Act} {w:World} (h:Q .normal a w):wpPlan P ops Q .done a w:=h
theorem plan_take {i:Nat} {o:Oper} {p:Plan} {a:Act} {w:World} (ho:ops[i]? = some o) (hw:Region.wanted o (yielded ops a.tmps)=true) (v:Value) (hv:∀w,(execOp a.eval o).run P w = .ok (.value v) w) (h:wpPlan P ops Q p (a.put o.dst v) w):wpPlan P ops Q (.take i p) a w:=by
 unfold wpPlan
 simp only [ho,hw]
 exact ⟨v,hv,h⟩
theorem plan_one {i:Nat} {o:Oper} {p:Plan} {a:Act} {w:World} (ho:ops[i]? = some o) (hw:Region.wanted o (yielded ops a.tmps)=true) (h:∀K:Act→World→Prop,(∀a w,wpPlan P ops Q p a w→K a w)→o.wp P a w K Q):wpPlan P ops Q (.one i p) a w:=by
 unfold wpPlan wpNum
 simp only [ho,hw]
 exact h _ (fun _ _ h=>h)
theorem plan_run {i:Nat} {o:Oper} {p:Plan} {a:Act} {w:World} (ho:ops[i]? = some o) (hw:Region.wanted o (yielded ops a.tmps)=true) (v:Value) (w2:World) (hr:(execOp a.eval o).run P w = .ok (.value v) w2) (h:wpPlan P ops Q p (a.put o.dst v) w2):wpPlan P ops Q (.one i p) a w:=by
 refine plan_one ho hw (fun K hK=>?_)
 unfold Oper.wp
 rw [hr]
 exact hK _ _ h
theorem plan_extend {t e:TypeId} {sz bytes:Nat} (hE:Elem P t e sz bytes) {i:Nat} {o:Oper} {p:Plan} {a:Act} {w:World} (ho:ops[i]? = some o) (hw:Region.wanted o (yielded ops a.tmps)=true) (s x:Operand)
  (hop:o.op = .call { callee:=.builtin .append,args:=#[s,x],argTypes:=#[t,t] }) {v v2:Value} (hs:a.eval s=v) (hx:a.eval x=v2) {n m:Nat} {xs news:List Value} (hown:w.ownsRow 0 e sz v n xs) (hr:Rd w sz v2 m news) (h1:∀u∈news,u.oneCell'=true) (hb:(n+m)*bytes≤140737488355328∧n+m≤maxLen)
  (h:∀v' w',w'.ownsRow 0 e sz v' (n+m) (xs++news)→Mods (fun k=>v.ownBlock=some k) w w'→Fresh w.heap.size v v'→wpPlan P ops Q p (a.put o.dst v') w'):wpPlan P ops Q (.one i p) a w:=by
 obtain ⟨v',w',hrun,h2,h3,h4⟩:=exec_extend hE w v v2 n m xs news hown hr h1 hb s x hop hs hx
 exact plan_run ho hw v' w' hrun (h v' w' h2 h3 h4)
theorem plan_two {i j:Nat} {p q:Plan} {a:Act} {w:World} (h1:wpPlan P ops Q (.one i p) a w) (h2:wpPlan P ops Q (.one j q) a w):wpPlan P ops Q (.two i j p q) a w:=⟨h1,h2⟩
end
section
variable {P:Program} {ops:Array Oper} {rest:List Oper} {o:Oper} {a:Act} {w:World} {Q:Exit→Act→World→Prop} {n:Nat}
theorem wpListIn_run (hgd:Region.wanted o (yielded ops a.tmps)=true) (v:Value) (w2:World) (hr:(execOp a.eval o).run P w = .ok (.value v) w2) (h:wpListIn Fence.wide n P ops Q rest (a.put o.dst v) w2):wpListIn Fence.wide n P ops Q (o::rest) a w:=by
 unfold wpListIn
 rw [if_pos hgd]
 refine ⟨fun _ _=>trivial,?_⟩
 show o.uponIn _ n P a _ Q ((o.semAt none a.eval).run P w)
 rw [Oper.semAt_none,hr]
 exact h
theorem exec_slice3 {t e:TypeId} {sz bytes:Nat} (hE:Elem P t e sz bytes) (w:World) (p:Option Addr) (m c i k:Nat) (hi:i<k) (hk:k≤c) {o:Oper} {a:Act} (s x y z:Operand) (ho:o.op = .slice t s (some x) (some y) (some z))
  (hs:a.eval s = .slice p m c) (hx:a.eval x = .int .i64 (i:Int)) (hy:a.eval y = .int .i64 (k:Int)) (hz:a.eval z = .int .i64 (k:Int)):(execOp a.eval o).run P w = .ok (.value (.slice (p.map (·.add (i*sz))) (k-i) (k-i))) w:=by
 obtain ⟨inf,z0,hinf,hz0,hsize,hby,hzs⟩:=hE.hi
 have helem:P.elem t=e:=by simp [Program.elem,hE.ht]
 have hu:P.underlying t=some (.slice (P.elem t)):=by rw [helem];exact hE.ht
 have hr:(Instr.sliceAt t (.slice p m c) (some (.int .i64 (i:Int))) (some (.int .i64 (k:Int))) (some (.int .i64 (k:Int)))).run P w = .ok (.slice (p.map (·.add (i*sz))) (k-i) (k-i)) w:=by
  have hsz:=run_sizeOf (w:=w) (show P.info? (P.elem t)=some inf by rw [helem];exact hinf)
  rw [run_sliceAt_slice (h:=hu),run_slice_lhm (ht:=hu) (h0:=by omega) (h1:=by omega) (h2:=by omega) (h3:=by omega),hsz]
  have hcell:P.cellsOf (P.elem t)=sz:=by rw [helem];simp [Program.cellsOf,hinf,hsize]
  have hne:¬k=i:=by omega
  simp [Result.andThen,sliced,hne,hcell]
 unfold execOp
 simp only [ho,Sem.run_bind,Sem.run_pure,Result.andThen_ok,hs,hx,hy,hz,hr,Option.map_some]
end
end Go.Proofs.YtdcgbgecbeegmaaGreatDoor
end
section
namespace Go.Proofs.YtdcgbgecbeegmaaGreatDoor
open Go Go.RowKit
def checkNext (p:Option ByteArray) (x:Lab) (rest:Nat):Nat:=match p with
 | none=>rest
 | some n=>if x.1=n then 18 else if ltS x.1 n then 16 else rest
theorem checkFrom_cons (p:Option ByteArray) (x:Lab) (l:List Lab):checkFrom p (x::l)=if oneL x≠0 then oneL x else checkNext p x (checkFrom (some x.1) l):=by cases p<;>rfl
def prevN (l:List Lab) (i:Nat):Option ByteArray:=if i=0 then none else (l[i-1]?).map Prod.fst
theorem check_step {l:List Lab} {i:Nat} {x:Lab} (hx:l[i]? = some x) (h:checkL l=checkFrom (prevN l i) (l.drop i)) :
  checkL l=if oneL x≠0 then oneL x else checkNext (prevN l i) x (checkFrom (prevN l (i+1)) (l.drop (i+1))):=by
 have hlt:=(List.getElem?_eq_some_iff.1 hx).1
 have hd:l.drop i=x::l.drop (i+1):=by rw [List.drop_eq_getElem_cons hlt,(List.getElem?_eq_some_iff.1 hx).2]
 have hp:prevN l (i+1)=some x.1:=by rw [prevN,if_neg (by omega),Nat.add_sub_cancel,hx];rfl
 rw [h,hd,checkFrom_cons,hp]
end Go.Proofs.YtdcgbgecbeegmaaGreatDoor
end
section
set_option maxRecDepth 20000
namespace Go.Proofs.YtdcgbgecbeegmaaGreatDoor
open Go Go.RowKit
set_option maxHeartbeats 1000000 in
theorem ref_one11 (n v:ByteArray) (w:World) (hn:n.size≤9223372036854775807) (hv:v.size≤9223372036854775807) :
  Calls Tryz.prog 69 #[.agg #[.string n,.string v]] w fun e w'=>e = .returned (.int .i64 (oneL (n,v):Int))∧Below w.heap.size w w':=by
 have hB:Below w.heap.size w (w.alloc (.cells #[.string n,.string v] 108)):=(Below.refl _ w).alloc (Nat.le_refl _) _
 have HEm:=Lib.hid (empty_size n)
 by_cases h0:n.size=0
 ·have hE:n.toList.isEmpty=true:=by rw [HEm.out];simpa using h0
  have HO:Hid (oneL (n,v)=17):=if_pos h0
  rw [HO.out]
  go_enter Tryz.func69,Tryz.ntmps69
  go_wp2_with fail
  go_ret
  exact ⟨rfl,hB⟩
 ·have hE:n.toList.isEmpty=false:=by rw [HEm.out];simpa using h0
  by_cases h1:(65535:Int)<(n.size:Int)
  ·have HO:Hid (oneL (n,v)=7):=by show _=_;rw [oneL,if_neg h0,if_pos (Or.inl (by show 65535<n.size;omega))]
   rw [HO.out]
   clear h0
   go_enter Tryz.func69,Tryz.ntmps69
   go_wp2_with fail
   go_ret
   exact ⟨rfl,hB⟩
  ·have hd1:decide ((65535:Int)<(n.size:Int))=false:=by simpa using h1
   by_cases h2:(65535:Int)<(v.size:Int)
   ·have hd2:decide ((65535:Int)<(v.size:Int))=true:=by simpa using h2
    have HO:Hid (oneL (n,v)=7):=by show _=_;rw [oneL,if_neg h0,if_pos (Or.inr (by show 65535<v.size;omega))]
    rw [HO.out]
    clear h0
    go_enter Tryz.func69,Tryz.ntmps69
    go_wp2_with fail
    go_ret
    exact ⟨rfl,hB⟩
   ·have hd2:decide ((65535:Int)<(v.size:Int))=false:=by simpa using h2
    have HO:Hid (oneL (n,v)=0):=by
     show _=_
     rw [oneL,if_neg h0,if_neg]
     rintro (e | e)
     ·exact h1 (by have:65535<n.size:=e;omega)
     ·exact h2 (by have:65535<v.size:=e;omega)
    rw [HO.out]
    clear h0
    go_enter Tryz.func69,Tryz.ntmps69
    go_wp2_with fail
    go_ret
    exact ⟨rfl,hB⟩
end Go.Proofs.YtdcgbgecbeegmaaGreatDoor
end
