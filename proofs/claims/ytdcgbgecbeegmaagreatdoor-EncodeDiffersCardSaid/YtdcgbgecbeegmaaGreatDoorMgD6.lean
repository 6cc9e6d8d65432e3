/- Texts 6. -/
import Derived.Test.YtdcgbgecbeegmaaGreatDoorMgD4
import Derived.Test.YtdcgbgecbeegmaaGreatDoorMgD1
import Derived.Test.YtdcgbgecbeegmaaGreatDoorMgD2
import Derived.Test.YtdcgbgecbeegmaaGreatDoorMgD5
import Derived.Test.YtdcgbgecbeegmaaGreatDoorMgD3
import Derived.Shelf.SlSortCmp.QuietGrown
import Derived.RangeFuncNested
import Derived.RangeFuncBound
import Derived.RangeFuncCalls
import Derived.RangeFuncLeaves
import Derived.RangeFuncBox
import Derived.OwnWalkIn
import Derived.Shelf.Abstract
import Derived.TacticsInMore
import Derived.LoopNIn
import Derived.LoopIn
import Derived.OrdersIn
set_option linter.unusedVariables false
set_option linter.unusedSimpArgs false
section
namespace Go.Proofs.YtdcgbgecbeegmaaGreatDoor
open Go Go.RowKit
structure RdBL (w:World) (v:Value) (m:List (List Lab)):Prop where
 ex:∃hs:List Value,Rd w 1 v hs.length hs∧hs.length=m.length∧∀(i:Nat) (h:Value) (l:List Lab),hs[i]? = some h→m[i]? = some l→Rd w 2 h l.length (labCells l)
theorem RdBL.shape {w:World} {v:Value} {m:List (List Lab)} (k:RdBL w v m):∃p c,v = .slice p m.length c:=by
 obtain ⟨hs,h1,h2,_⟩:=k.ex
 rw [← h2]
 exact h1.shape
theorem RdBL.always {w:World} {p:Option Addr} {n c:Nat} {m:List (List Lab)} (k:RdBL w (.slice p n c) m) {i:Nat} {l:List Lab} (hi:m[i]? = some l) :
  ∃blk off p1 c1,p=some ⟨blk,off,none⟩∧∀w',Below w.heap.size w w'→w'.cell? ⟨blk,off+i,none⟩=some (.slice p1 l.length c1)∧Rd w' 2 (.slice p1 l.length c1) l.length (labCells l):=by
 obtain ⟨hs,h1,h2,h3⟩:=k.ex
 have hlt:=(List.getElem?_eq_some_iff.1 hi).1
 obtain ⟨h,hh⟩:∃h,hs[i]? = some h:=⟨_,List.getElem?_eq_getElem (by omega)⟩
 have hr:=h3 i h l hh hi
 obtain ⟨p1,c1,rfl⟩:=hr.shape
 obtain ⟨b,off,c',e,_,_,hc⟩:=h1.at (fun e=>by rw [e] at hh;simp at hh)
 simp only [Value.slice.injEq] at e
 have hcell:=hc i _ hh
 exact ⟨b,off,p1,c1,e.1,fun w' hb=>⟨(hb.cell (World.block_lt_of_cell? w _ hcell)).trans hcell,hr.below hb⟩⟩
theorem rdLab_at {w:World} {p:Option Addr} {n c m:Nat} {l:List Lab} (h:Rd w 2 (.slice p n c) m (labCells l)) {k:Nat} {x:Lab} (hx:l[k]? = some x) :
  ∃blk off,p=some ⟨blk,off,none⟩∧∀w',Below w.heap.size w w'→w'.cell? ⟨blk,off+k*2,none⟩=some (.string x.1)∧w'.cell? ⟨blk,off+k*2+1,none⟩=some (.string x.2):=by
 obtain ⟨g0,g1⟩:=labCells_get l k x.1 x.2 hx
 obtain ⟨b,off,c',e,_,_,hc⟩:=h.at (fun e=>by rw [e] at g0;cases g0)
 simp only [Value.slice.injEq] at e
 have c0:=hc _ _ g0
 have c1:=hc _ _ g1
 rw [← Nat.add_assoc] at c1
 exact ⟨b,off,e.1,fun w' hb=>⟨(hb.cell (World.block_lt_of_cell? w _ c0)).trans c0,(hb.cell (World.block_lt_of_cell? w _ c1)).trans c1⟩⟩
end Go.Proofs.YtdcgbgecbeegmaaGreatDoor
end
section
set_option maxRecDepth 20000
namespace Go.Proofs.YtdcgbgecbeegmaaGreatDoor
open Go Go.RowKit
theorem getElem?_snoc15 {α:Type} {l:List α} {x y:α} {i:Nat} (h:(l++[x])[i]? = some y):l[i]? = some y∨(i=l.length∧y=x):=by
 by_cases hi:i<l.length
 ·rw [List.getElem?_append_left hi] at h;exact Or.inl h
 ·rw [List.getElem?_append_right (by omega)] at h
  have:i-l.length=0:=by
   rcases Nat.eq_zero_or_pos (i-l.length) with e | e
   ·exact e
   ·rw [List.getElem?_eq_none (by simp;omega)] at h;cases h
  rw [this] at h
  simp at h
  exact Or.inr ⟨by omega,h.symm⟩
def LabOff (S:Nat→Prop) (h:Value) (s:List Lab):Prop:=labCells s≠[]→∀k,h.ownBlock=some k→¬S k
structure LbAt (t:TypeId) (w wr:World) (hs:List Value) (m:List (List Lab)) (v:Value):Prop where
 row:Own1 t (fun h:Value=>h) w wr hs v
 len:hs.length=m.length
 ser:∀(i:Nat) (h:Value) (s:List Lab),hs[i]? = some h→m[i]? = some s→Rd wr 2 h s.length (labCells s)∧LabOff (fun k=>v.ownBlock=some k) h s
theorem LbAt.nil {t:TypeId} (w:World):LbAt t w w [] [] (.slice none 0 0):=⟨Own1.nil w,rfl,fun i h s hi _=>by simp at hi⟩
theorem LbAt.below {t:TypeId} {w wr w1:World} {hs:List Value} {m:List (List Lab)} {v:Value} (k:LbAt t w wr hs m v) (hb:Below wr.heap.size wr w1):LbAt t w w1 hs m v:=
 ⟨k.row.below hb,k.len,fun i h s hi hj=>⟨(k.ser i h s hi hj).1.below hb,(k.ser i h s hi hj).2⟩⟩
theorem LbAt.rd {t:TypeId} {w wr:World} {hs:List Value} {m:List (List Lab)} {v:Value} (k:LbAt t w wr hs m v):RdBL wr v m:=
 ⟨⟨hs,by have h:=k.row.rd;rwa [List.map_id'] at h,k.len,fun i h s hi hj=>(k.ser i h s hi hj).1⟩⟩
theorem LbAt.pushed {t:TypeId} {w wr w1:World} {hs:List Value} {m:List (List Lab)} {v v1:Value} {h:Value} {s:List Lab} (k:LbAt t w wr hs m v) (hsr:Rd wr 2 h s.length (labCells s)) (ho:LabOff (fun j=>v.ownBlock=some j) h s)
  (k1:w1.ownsRow 0 t 1 v1 (hs.length+1) (hs++[h])) (hm:Mods (fun j=>v.ownBlock=some j) wr w1) (hf:Fresh wr.heap.size v v1):LbAt t w w1 (hs++[h]) (m++[s]) v1:=by
 have hoff:∀(h:Value) (s:List Lab),Rd wr 2 h s.length (labCells s)→LabOff (fun j=>v.ownBlock=some j) h s→Rd w1 2 h s.length (labCells s)∧LabOff (fun j=>v1.ownBlock=some j) h s:=fun h s a b=>by
  refine ⟨a.mods' hm b,fun e j hj hv=>?_⟩
  rcases hf j hv with f | f
  ·exact b e j hj f
  ·have:=a.lt e j hj;omega
 refine ⟨k.row.pushed (by rw [List.map_id'];exact k1) hm hf,by simp [k.len],fun i h' s' hi hj=>?_⟩
 rcases getElem?_snoc15 hi with e | ⟨e,rfl⟩
 ·rcases getElem?_snoc15 hj with f | ⟨f,_⟩
  ·exact hoff _ _ (k.ser i h' s' e f).1 (k.ser i h' s' e f).2
  ·have:=(List.getElem?_eq_some_iff.1 e).1;have:=k.len;omega
 ·rcases getElem?_snoc15 hj with f | ⟨_,rfl⟩
  ·have:=(List.getElem?_eq_some_iff.1 f).1;have:=k.len;omega
  ·exact hoff _ _ hsr ho
end Go.Proofs.YtdcgbgecbeegmaaGreatDoor
end
section
namespace Go.Proofs.YtdcgbgecbeegmaaGreatDoor
open Go Go.RowKit
theorem Tryz.infoI64:(Tryz.prog.info? 2).map (fun i=>(i.zero,i.size,i.bytes))=some (some (.int .i64 0),1,8):=by kernel_rfl
def encPre (t:List ByteArray) (i:Nat):List Nat:=groups t.length++(t.take i).flatMap fun s=>bytesOf (numsOf s)
theorem encPre_step {t:List ByteArray} {i:Nat} {x:ByteArray} (h:t[i]? = some x):encPre t (i+1)=encPre t i++bytesOf (numsOf x):=by
 rw [encPre,List.take_add_one,h];simp [encPre]
theorem bytesOf_le (s:List Nat) (h:s.length≤65535):(bytesOf s).length≤65600:=by
 rw [bytesOf_length]
 have:=groups_ten (x:=s.length) (by omega)
 omega
theorem encPre_len {t:List ByteArray} (hf:Fits t) (hn:t.length≤1000000) (i:Nat):(encPre t i).length≤10+65600*i:=by
 rw [encPre,List.length_append]
 have h1:=groups_ten (x:=t.length) (by omega)
 have h2:∀(l:List ByteArray) (i:Nat),(∀s∈l,s.size≤65535)→((l.take i).flatMap fun s=>bytesOf (numsOf s)).length≤65600*i:=by
  intro l
  induction l with
  | nil=>intro i _;simp
  | cons s l ih=>
   intro i h
   cases i with
   | zero=>simp
   | succ i=>
    rw [List.take_succ_cons,List.flatMap_cons,List.length_append]
    have:=ih i (fun s hs=>h s (by simp [hs]))
    have:=bytesOf_le (numsOf s) (by rw [numsOf_length];exact h s (by simp))
    omega
 have:=h2 t i hf
 omega
end Go.Proofs.YtdcgbgecbeegmaaGreatDoor
end
section
set_option maxRecDepth 20000
namespace Go.Proofs.YtdcgbgecbeegmaaGreatDoor
open Go Go.RowKit
structure Beside (wr:World) (sz:Nat) (sv:Value) (n:Nat) (vs:List Value) (vv:Value):Prop where
 rd:Rd wr sz sv n vs
 off:vs≠[]→∀k,sv.ownBlock=some k→vv.ownBlock≠some k
theorem Beside.step {wr w':World} {sz:Nat} {sv:Value} {n:Nat} {vs:List Value} {vv v':Value} (h:Beside wr sz sv n vs vv) (hm:Mods (fun k=>vv.ownBlock=some k) wr w') (hf:Fresh wr.heap.size vv v'):Beside w' sz sv n vs v':=
 ⟨h.rd.mods' hm (fun e k hk he=>h.off e k hk he),fun e k hk he=>by
  rcases hf k he with f | f
  ·exact h.off e k hk f
  ·have:=h.rd.lt e k hk;omega⟩
def encTo (t:List ByteArray) (l:List Rec) (i:Nat):List Nat:=groups l.length++(l.take i).flatMap (recBytes t)
def symsBytes (t:List ByteArray) (S:List ByteArray):List Nat:=S.flatMap fun s=>groups (idxT t s)
def numsBytes (l:List Int):List Nat:=l.flatMap fun n=>groups n.toNat
theorem symsBytes_labs (t:List ByteArray) (l:List Lab):symsBytes t (stringsL l)=l.flatMap (labBytes t):=by
 induction l with
 | nil=>rfl
 | cons x l ih=>
  rw [symsBytes,stringsL,List.flatMap_cons,List.flatMap_append,← stringsL,← symsBytes,← symsBytes,ih]
  simp [symsBytes,labBytes]
theorem recBytes_eq (t:List ByteArray) (r:Rec):recBytes t r=groups r.1.length++symsBytes t (stringsL r.1)++(groups r.2.length++numsBytes r.2):=by rw [symsBytes_labs];rfl
theorem encTo_step {t:List ByteArray} {l:List Rec} {i:Nat} {r:Rec} (h:l[i]? = some r):encTo t l (i+1)=encTo t l i++groups r.1.length++symsBytes t (stringsL r.1)++groups r.2.length++numsBytes r.2:=by
 rw [encTo,List.take_add_one,h,List.flatMap_append,encTo]
 simp [recBytes_eq]
theorem encTo_all (t:List ByteArray) (l:List Rec) (i:Nat) (h:l.length≤i):encTo t l i=encRc t l:=by rw [encTo,List.take_of_length_le h];rfl
theorem encTo_le (t:List ByteArray) (l:List Rec) (i:Nat):(encTo t l i).length≤(encRc t l).length:=by
 have:encRc t l=encTo t l i++(l.drop i).flatMap (recBytes t):=by
  rw [encTo,List.append_assoc,← List.flatMap_append,List.take_append_drop];rfl
 rw [this,List.length_append];omega
theorem symsBytes_take_le (t:List ByteArray) (S:List ByteArray) (k:Nat):(symsBytes t (S.take k)).length≤(symsBytes t S).length:=by
 have:symsBytes t S=symsBytes t (S.take k)++symsBytes t (S.drop k):=by rw [symsBytes,symsBytes,symsBytes,← List.flatMap_append,List.take_append_drop]
 rw [this,List.length_append];omega
theorem numsBytes_take_le (l:List Int) (k:Nat):(numsBytes (l.take k)).length≤(numsBytes l).length:=by
 have:numsBytes l=numsBytes (l.take k)++numsBytes (l.drop k):=by rw [numsBytes,numsBytes,numsBytes,← List.flatMap_append,List.take_append_drop]
 rw [this,List.length_append];omega
theorem symsBytes_step {t:List ByteArray} {S:List ByteArray} {k:Nat} {s:ByteArray} (h:S[k]? = some s):symsBytes t (S.take (k+1))=symsBytes t (S.take k)++groups (idxT t s):=by rw [List.take_add_one,h];simp [symsBytes]
theorem numsBytes_step {l:List Int} {k:Nat} {n:Int} (h:l[k]? = some n):numsBytes (l.take (k+1))=numsBytes (l.take k)++groups n.toNat:=by rw [List.take_add_one,h];simp [numsBytes]
theorem encTo_room {t:List ByteArray} {l:List Rec} {i:Nat} {r:Rec} (h:l[i]? = some r):(encTo t l i).length+(groups r.1.length).length+(symsBytes t (stringsL r.1)).length+(groups r.2.length).length+(numsBytes r.2).length≤(encRc t l).length:=by
 have h1:=encTo_le t l (i+1)
 rw [encTo_step h] at h1
 simp only [List.length_append] at h1
 omega
theorem recsErr_step {t:List ByteArray} {l:List Rec} {i:Nat} {r:Rec} (h:l[i]? = some r) (hd:recsErr t l=recsErr t (l.drop i)):recsErr t l=if recErr t r=0 then recsErr t (l.drop (i+1)) else recErr t r:=by
 have h1:l.drop i=r::l.drop (i+1):=by rw [List.drop_eq_getElem_cons (List.getElem?_eq_some_iff.1 h).1,(List.getElem?_eq_some_iff.1 h).2]
 rw [hd,h1];rfl
theorem stringsL_labIn {l:List Lab} {t:List ByteArray}:(∀s∈stringsL l,s∈t)↔∀x∈l,labIn t x:=by
 simp only [stringsL,List.mem_flatMap,List.mem_cons,List.not_mem_nil,or_false,labIn]
 constructor
 ·intro h x hx;exact ⟨h x.1 ⟨x,hx,Or.inl rfl⟩,h x.2 ⟨x,hx,Or.inr rfl⟩⟩
 ·rintro h s ⟨x,hx,rfl | rfl⟩
  ·exact (h x hx).1
  ·exact (h x hx).2
structure GotBo (w:World) (o:Nat × List Nat) (e:Ending) (w':World):Prop where
 res:∃r,e = .returned (.tuple #[r,.int .i64 (o.1:Int)])∧w'.ownsRow w.heap.size 5 1 r o.2.length (u8s o.2)
 bel:Below w.heap.size w w'
theorem GotBo.fails {w w':World} {o:Nat × List Nat} {en:Nat} (h:Below w.heap.size w w') (ho:o=(en,[])):GotBo w o (.returned (.tuple #[.slice none 0 0,.int .i64 (en:Int)])) w':=by
 subst ho
 exact ⟨⟨_,rfl,World.ownsRow_nil _ _ _ _⟩,h⟩
theorem encRcR_bad {t:List ByteArray} {l:List Rec} {k:Nat} (hk:k≠0) (h:recsErr t l=k):encRcR t l=(k,[]):=by rw [encRcR,h,if_neg hk]
def Grw (w w':World):Prop:=∃q os,w'=Go.Sort.grow (w.drewN q) os
theorem Grw.refl (w:World):Grw w w:=⟨0,#[],by rw [Go.Sort.grow_empty];rfl⟩
theorem Grw.trans {a b c:World} (h:Grw a b) (k:Grw b c):Grw a c:=by
 obtain ⟨q,os,rfl⟩:=h
 obtain ⟨r,ps,rfl⟩:=k
 exact ⟨q+r,os++ps,by show Go.Sort.grow (Go.Sort.grow ((a.drewN q).drewN r) os) ps=_;rw [Go.Sort.grow_grow,World.drewN_drewN]⟩
theorem Grw.alloc {a b:World} (h:Grw a b) (o:Obj):Grw a (b.alloc o):=h.trans ⟨0,#[o],by rw [Go.Sort.alloc_eq_grow];rfl⟩
theorem Grw.drew {a b:World} (h:Grw a b):Grw a b.drew:=h.trans ⟨1,#[],by rw [Go.Sort.grow_empty];rfl⟩
theorem Grw.grow {a b:World} (h:Grw a b) (n:Nat) (os:Array Obj):Grw a (Go.Sort.grow (b.drewN n) os):=h.trans ⟨n,os,rfl⟩
theorem Grw.below {w w':World} (h:Grw w w'):Below w.heap.size w w':=by
 obtain ⟨q,os,rfl⟩:=h
 exact ⟨rfl,rfl,rfl,by rw [Go.Sort.size_grow];exact Nat.le_add_right _ _,fun k hk=>Go.Sort.heap_grow_old (w.drewN q) os hk⟩
theorem Grw.blk {w w':World} (h:Grw w w') {b:Nat} {cs:List Value} (hb:Blk w b cs):Blk w' b cs:=hb.of_same (h.below.block b hb.lt)
end Go.Proofs.YtdcgbgecbeegmaaGreatDoor
end
section
namespace Go.Proofs.YtdcgbgecbeegmaaGreatDoor
open Go Go.RowKit
theorem cmp_step {a b:List Lab} {i:Nat} {x y:Lab} (ha:a[i]? = some x) (hb:b[i]? = some y) (h:cmpLabs a b=cmpLabs (a.drop i) (b.drop i)) :
  cmpLabs a b=if cmpLab x y=0 then cmpLabs (a.drop (i+1)) (b.drop (i+1)) else cmpLab x y:=by
 have h1:a.drop i=x::a.drop (i+1):=by rw [List.drop_eq_getElem_cons (List.getElem?_eq_some_iff.1 ha).1,(List.getElem?_eq_some_iff.1 ha).2]
 have h2:b.drop i=y::b.drop (i+1):=by rw [List.drop_eq_getElem_cons (List.getElem?_eq_some_iff.1 hb).1,(List.getElem?_eq_some_iff.1 hb).2]
 rw [h,h1,h2];rfl
theorem cmp_end {a b:List Lab} {i:Nat} (hi:i≤a.length∧i≤b.length) (he:¬(i<a.length∧i<b.length)) (h:cmpLabs a b=cmpLabs (a.drop i) (b.drop i)) :
  cmpLabs a b=if a.length<b.length then -1 else if b.length<a.length then 1 else 0:=by
 rw [h]
 by_cases h1:i<a.length
 ·have h2:¬i<b.length:=fun e=>he ⟨h1,e⟩
  rw [if_neg (by omega),if_pos (by omega),List.drop_of_length_le (l:=b) (by omega),List.drop_eq_getElem_cons h1];rfl
 ·rw [List.drop_of_length_le (l:=a) (by omega)]
  by_cases h2:i<b.length
  ·rw [if_pos (by omega),List.drop_eq_getElem_cons h2];rfl
  ·rw [if_neg (by omega),if_neg (by omega),List.drop_of_length_le (by omega)];rfl
end Go.Proofs.YtdcgbgecbeegmaaGreatDoor
end
section
set_option maxRecDepth 20000
namespace Go.Proofs.YtdcgbgecbeegmaaGreatDoor
open Go Go.RowKit
theorem ref_order11 (a b:ByteArray) (w:World) :
  Calls Tryz.prog 70 #[.string a,.string b] w fun e w'=>e = .returned (.int .i64 (ordS a b))∧w'=w:=by
 by_cases h1:ltS a b=true
 ·have hcmp:Op.bytesLess a.toList b.toList=true:=h1
  have HO:Hid (ordS a b = -1):=if_pos h1
  rw [HO.out]
  clear h1
  go_enter Tryz.func70,Tryz.ntmps70
  go_wp2_with fail
  go_ret
  exact ⟨rfl,rfl⟩
 ·have h1f:ltS a b=false:=by simpa using h1
  have hcmp:Op.bytesLess a.toList b.toList=false:=h1f
  by_cases h2:ltS b a=true
  ·have hne:a≠b:=fun e=>by subst e;rw [ltS_ok.irr] at h2;cases h2
   have hgt:binOp .gtr 9 (.string a) (.string b)=pure (.bool true):=by simp [binOp,Op.stringOp,hcmp,eqS,hne]
   have HO:Hid (ordS a b=1):=by show _=_;rw [ordS,ordB,if_neg h1,if_pos h2]
   rw [HO.out]
   clear h1 h1f h2 hne
   go_enter Tryz.func70,Tryz.ntmps70
   go_wp2_with fail
   go_ret
   exact ⟨rfl,rfl⟩
  ·have he:a=b:=ltS_ok.tot a b h1f (by simpa using h2)
   have hgt:binOp .gtr 9 (.string a) (.string b)=pure (.bool false):=by simp [binOp,Op.stringOp,he]
   have HO:Hid (ordS a b=0):=by show _=_;rw [ordS,ordB,if_neg h1,if_neg h2]
   rw [HO.out]
   clear h1 h1f h2 he
   go_enter Tryz.func70,Tryz.ntmps70
   go_wp2_with fail
   go_ret
   exact ⟨rfl,rfl⟩
theorem ordS_dom (a b:ByteArray):ordS a b = -1∨ordS a b=0∨ordS a b=1:=ordS_ok.dom a b
def Drw (w w':World):Prop:=∃q,w'=w.drewN q
theorem Drw.below {w w':World} (h:Drw w w'):Below w.heap.size w w':=by
 obtain ⟨q,rfl⟩:=h
 exact ⟨rfl,rfl,rfl,Nat.le_refl _,fun _ _=>rfl⟩
theorem Drw.step {w w':World} (h:Drw w w') (n:Nat):Drw w (w'.drewN n):=by
 obtain ⟨q,rfl⟩:=h
 exact ⟨q+n,World.drewN_drewN ..⟩
set_option maxHeartbeats 4000000 in
theorem ref_compareD (av bv:Value) (a b:List Lab) (w:World) (ha:Rd w 2 av a.length (labCells a)) (hb:Rd w 2 bv b.length (labCells b)) (hna:a.length≤1000000) (hnb:b.length≤1000000) :
  Calls Tryz.prog 32 #[av,bv] w fun e w'=>e = .returned (.int .i64 (cmpLabs a b))∧Drw w w':=by
 have HLa:=Lib.hid ha;have HLb:=Lib.hid hb
 obtain ⟨pa,ca,hv⟩:=ha.shape
 subst hv
 obtain ⟨pb,cb,hv⟩:=hb.shape
 subst hv
 have hma:(a.length:Int)≤1000000:=by omega
 have hmb:(b.length:Int)≤1000000:=by omega
 clear ha hb hna hnb
 go_enter Tryz.func32,Tryz.ntmps32
 go_wp2_with fail
 go_loopw [5] (fun iv wr=>∃(i:Nat),i≤a.length∧i≤b.length∧iv = .int .i64 (i:Int)∧Hid (cmpLabs a b=cmpLabs (a.drop i) (b.drop i))∧Hid (Drw w wr)) (fun iv _=>a.length-(intOf iv).toNat)
 case atStart=>exact ⟨0,Nat.zero_le _,Nat.zero_le _,rfl,rfl,⟨0,rfl⟩⟩
 case round=>
  obtain ⟨i,hia,hib,rfl,HC,HB⟩:=hrel
  have him:(i:Int)≤1000000:=by omega
  by_cases h1:i<a.length
  ·have h1':(i:Int)<(a.length:Int):=by omega
   by_cases h2:i<b.length
   ·have h2':(i:Int)<(b.length:Int):=by omega
    obtain ⟨⟨xn,xv⟩,hx⟩:∃x,a[i]? = some x:=⟨_,List.getElem?_eq_getElem h1⟩
    obtain ⟨⟨yn,yv⟩,hy⟩:∃y,b[i]? = some y:=⟨_,List.getElem?_eq_getElem h2⟩
    obtain ⟨ba,oa,e⟩:=rd2_at HLa.out hx
    subst e
    obtain ⟨bb,ob,e⟩:=rd2_at HLb.out hy
    subst e
    obtain ⟨c0,c1⟩:=rd2_cell (HLa.out.below HB.out.below) hx
    obtain ⟨d0,d1⟩:=rd2_cell (HLb.out.below HB.out.below) hy
    have HSt:=Lib.hid (cmp_step hx hy HC.out)
    clear hx hy HC
    have HO1:=Lib.hid (fun w'=>ref_order11 xn yn w')
    have HO2:=Lib.hid (fun w'=>ref_order11 xv yv w')
    go_wp2_with fail
    go_quiet ((go_at_call 70;exact Calls.quiet_of_same (HO1.out _)))
    have HB1:Hid (Drw w (wr.drewN nq)):=HB.out.step nq
    have c1':(wr.drewN nq).cell? ⟨ba,oa+i*2+1,none⟩=some (.string xv):=c1
    have d1':(wr.drewN nq).cell? ⟨bb,ob+i*2+1,none⟩=some (.string yv):=d1
    clear c0 c1 d0 d1
    generalize wr.drewN nq=w1 at *
    have HD1:=ordS_dom xn yn
    have HD2:=ordS_dom xv yv
    by_cases e1:ordS xn yn=0
    ·have HSc:Hid (cmpLabs a b=if ordS xv yv=0 then cmpLabs (a.drop (i+1)) (b.drop (i+1)) else ordS xv yv):=by
      show _=_
      have hc:cmpLab (xn,xv) (yn,yv)=ordS xv yv:=if_pos e1
      rw [HSt.out,hc]
     rw [e1]
     clear e1 HD1
     go_wp2_with fail
     go_quiet ((go_at_call 70;exact Calls.quiet_of_same (HO2.out _)))
     have HB2:Hid (Drw w (w1.drewN nq)):=HB1.out.step nq
     clear c1' d1'
     generalize w1.drewN nq=w2 at *
     by_cases e2:ordS xv yv=0
     ·rw [if_pos e2] at HSc
      rw [e2]
      clear e2 HD2
      go_wp2_with fail
      go_round
      case rel=>exact ⟨i+1,by omega,by omega,by go_num,HSc.out,HB2.out⟩
      case measure=>simp [intOf];omega
     ·rw [if_neg e2] at HSc
      have heb:((ordS xv yv) == 0)=false:=by rw [beq_eq_false_iff_ne];exact e2
      have HE2:=Lib.hid e2
      clear HD2
      generalize ordS xv yv=o2 at *
      go_wp2_with fail
      go_ret
      exact ⟨by rw [HSc.out];rfl,HB2.out⟩
    ·have HSc:Hid (cmpLabs a b=ordS xn yn):=by
      show _=_
      have hc:cmpLab (xn,xv) (yn,yv)=ordS xn yn:=if_neg e1
      rw [HSt.out,hc,if_neg e1]
     have heb:((ordS xn yn) == 0)=false:=by rw [beq_eq_false_iff_ne];exact e1
     clear HD1 HD2
     generalize ordS xn yn=o1 at *
     go_wp2_with fail
     go_ret
     exact ⟨by rw [HSc.out];rfl,HB1.out⟩
   ·have h2':¬(i:Int)<(b.length:Int):=by omega
    have HE:=Lib.hid (cmp_end ⟨hia,hib⟩ (fun e=>h2 e.2) HC.out)
    have hlt:¬(a.length:Int)<(b.length:Int):=by omega
    have hgt:(b.length:Int)<(a.length:Int):=by omega
    rw [if_neg (by omega),if_pos (by omega)] at HE
    clear h2
    go_wp2_with fail
    go_ret
    exact ⟨by rw [HE.out];rfl,HB.out⟩
  ·have h1':¬(i:Int)<(a.length:Int):=by omega
   have HE:=Lib.hid (cmp_end ⟨hia,hib⟩ (fun e=>h1 e.1) HC.out)
   by_cases hl1:a.length<b.length
   ·have hlt:(a.length:Int)<(b.length:Int):=by omega
    rw [if_pos hl1] at HE
    clear hl1 h1
    go_wp2_with fail
    go_ret
    exact ⟨by rw [HE.out];rfl,HB.out⟩
   ·have hlt:¬(a.length:Int)<(b.length:Int):=by omega
    rw [if_neg hl1] at HE
    by_cases hl2:b.length<a.length
    ·have hgt:(b.length:Int)<(a.length:Int):=by omega
     rw [if_pos hl2] at HE
     clear hl1 hl2 h1
     go_wp2_with fail
     go_ret
     exact ⟨by rw [HE.out];rfl,HB.out⟩
    ·have hgt:¬(b.length:Int)<(a.length:Int):=by omega
     rw [if_neg hl2] at HE
     clear hl1 hl2 h1
     go_wp2_with fail
     go_ret
     exact ⟨by rw [HE.out];rfl,HB.out⟩
theorem ref_compare11 (av bv:Value) (a b:List Lab) (w:World) (ha:Rd w 2 av a.length (labCells a)) (hb:Rd w 2 bv b.length (labCells b)) (hna:a.length≤1000000) (hnb:b.length≤1000000) :
  Calls Tryz.prog 32 #[av,bv] w fun e w'=>e = .returned (.int .i64 (cmpLabs a b))∧Below w.heap.size w w':=
 (ref_compareD av bv a b w ha hb hna hnb).mono fun e w' h=>⟨h.1,h.2.below⟩
end Go.Proofs.YtdcgbgecbeegmaaGreatDoor
end
section
set_option maxRecDepth 100000
namespace Go.Proofs.YtdcgbgecbeegmaaGreatDoor
open Go Go.RowKit
theorem Rd.of_blk {w:World} {b n:Nat} {vs:List Value} {sz:Nat} (h:Blk w b vs) (hl:vs.length=n*sz) (hn:n≤maxLen):Rd w sz (.slice (some ⟨b,0,none⟩) n n) n vs:=by
 refine ⟨_,_,rfl,hl,Nat.le_refl _,hn,(fun e=>by cases e),fun ad e j u hu=>?_⟩
 cases e
 have e:(⟨b,0,none⟩:Addr).add j=⟨b,j,none⟩:=by unfold Addr.add;split<;>simp_all
 rw [e,h.cell]
 exact hu
end Go.Proofs.YtdcgbgecbeegmaaGreatDoor
end
section
set_option maxRecDepth 20000
namespace Go.Proofs.YtdcgbgecbeegmaaGreatDoor
open Go Go.RowKit
abbrev EntV:=(Lab × List Int) × Value
def entC (p:EntV):List Value:=[.string p.1.1.1,.string p.1.1.2,p.2]
def entCells (M:List EntV):List Value:=M.flatMap entC
theorem entCells_append (a b:List EntV):entCells (a++b)=entCells a++entCells b:=by simp [entCells,List.flatMap_append]
theorem entCells_get (M:List EntV) (j:Nat) (p:EntV) (h:M[j]? = some p):(entCells M)[j*3]? = some (.string p.1.1.1)∧(entCells M)[j*3+1]? = some (.string p.1.1.2)∧(entCells M)[j*3+2]? = some p.2:=by
 induction M generalizing j with
 | nil=>simp at h
 | cons r M ih=>
  have e:entCells (r::M) = .string r.1.1.1 :: .string r.1.1.2::r.2::entCells M:=rfl
  cases j with
  | zero=>
   simp at h
   subst h
   rw [e]
   exact ⟨rfl,rfl,rfl⟩
  | succ j=>
   obtain ⟨h1,h2,h3⟩:=ih j (by simpa using h)
   rw [e,show (j+1)*3=j*3+3 by omega]
   exact ⟨by simpa using h1,by simpa using h2,by simpa using h3⟩
structure RdE (w:World) (v:Value) (l:List (Lab × List Int)):Prop where
 ex:∃M:List EntV,M.map Prod.fst=l∧Rd w 3 v M.length (entCells M)∧∀p∈M,Rd w 1 p.2 p.1.2.length (i64s p.1.2)
theorem RdE.shape {w:World} {v:Value} {l:List (Lab × List Int)} (k:RdE w v l):∃p c,v = .slice p l.length c:=by
 obtain ⟨M,h1,h2,_⟩:=k.ex
 have:l.length=M.length:=by rw [← h1,List.length_map]
 rw [this]
 exact h2.shape
theorem RdE.always {w:World} {p:Option Addr} {n c:Nat} {l:List (Lab × List Int)} (k:RdE w (.slice p n c) l) {i:Nat} {e:Lab × List Int} (hi:l[i]? = some e) :
  ∃b off q d,p=some ⟨b,off,none⟩∧∀w',Below w.heap.size w w'→(w'.cell? ⟨b,off+i*3,none⟩=some (.string e.1.1)∧w'.cell? ⟨b,off+i*3+1,none⟩=some (.string e.1.2)∧w'.cell? ⟨b,off+i*3+2,none⟩=some (.slice q e.2.length d))∧Rd w' 1 (.slice q e.2.length d) e.2.length (i64s e.2):=by
 obtain ⟨M,h1,h2,h3⟩:=k.ex
 subst h1
 rw [List.getElem?_map] at hi
 obtain ⟨x,hx,rfl⟩:=Option.map_eq_some_iff.1 hi
 obtain ⟨g1,g2,g3⟩:=entCells_get M i x hx
 have hr:=h3 x (List.mem_of_getElem? hx)
 obtain ⟨q,d,hq⟩:=hr.shape
 obtain ⟨b,off,c',e,_,_,hc⟩:=h2.at (fun e=>by rw [e] at g1;cases g1)
 simp only [Value.slice.injEq] at e
 have c1:=hc _ _ g1
 have c2:=hc _ _ g2
 have c3:=hc _ _ g3
 rw [← Nat.add_assoc] at c2 c3
 rw [hq] at hr c3
 exact ⟨b,off,q,d,e.1,fun w' hb=>⟨⟨(hb.cell (World.block_lt_of_cell? w _ c1)).trans c1,(hb.cell (World.block_lt_of_cell? w _ c2)).trans c2,(hb.cell (World.block_lt_of_cell? w _ c3)).trans c3⟩,hr.below hb⟩⟩
def SerOff1 (S:Nat→Prop) (h:Value) (s:List Int):Prop:=s≠[]→∀k,h.ownBlock=some k→¬S k
theorem i64s_ne15 {l:List Int} (h:i64s l≠[]):l≠[]:=fun e=>h (by subst e;rfl)
theorem i64s_ne15' {l:List Int} (h:l≠[]):i64s l≠[]:=fun e=>h (List.eq_nil_of_length_eq_zero (by have:=congrArg List.length e;simpa [i64s] using this))
structure EnAt (t:TypeId) (w wr:World) (M:List EntV) (v:Value):Prop where
 row:wr.ownsRow w.heap.size t 3 v M.length (entCells M)
 bel:Below w.heap.size w wr
 ser:∀p∈M,Rd wr 1 p.2 p.1.2.length (i64s p.1.2)∧SerOff1 (fun k=>v.ownBlock=some k) p.2 p.1.2
theorem EnAt.below {t:TypeId} {w wr w1:World} {M:List EntV} {v:Value} (k:EnAt t w wr M v) (hb:Below wr.heap.size wr w1):EnAt t w w1 M v:=
 ⟨(Mods.of_below hb (fun _=>False)).owns k.row (fun _ _ e=>e),k.bel.trans (hb.mono k.bel.size),fun p hp=>⟨(k.ser p hp).1.below hb,(k.ser p hp).2⟩⟩
theorem EnAt.rd {t:TypeId} {w wr:World} {M:List EntV} {v:Value} (k:EnAt t w wr M v):RdE wr v (M.map Prod.fst):=⟨M,rfl,Rd.of_owns k.row,fun p hp=>(k.ser p hp).1⟩
theorem EnAt.shape {t:TypeId} {w wr:World} {M:List EntV} {v:Value} (k:EnAt t w wr M v):∃p c,v = .slice p M.length c:=(Rd.of_owns k.row).shape
theorem EnAt.base0 {t:TypeId} {w wr:World} {M:List EntV} {v:Value} (k:EnAt t w wr M v):wr.ownsRow 0 t 3 v M.length (entCells M):=owns_rebase k.row (fun _ _=>Nat.zero_le _)
theorem EnAt.pushed {t:TypeId} {w wr w1:World} {M:List EntV} {v v1:Value} {p:EntV} (k:EnAt t w wr M v) (hsr:Rd wr 1 p.2 p.1.2.length (i64s p.1.2)) (ho:SerOff1 (fun j=>v.ownBlock=some j) p.2 p.1.2)
  (k1:w1.ownsRow 0 t 3 v1 (M.length+1) (entCells M++entC p)) (m:Mods (fun j=>v.ownBlock=some j) wr w1) (hf:Fresh wr.heap.size v v1):EnAt t w w1 (M++[p]) v1:=by
 have hoff:∀(h:Value) (s:List Int),Rd wr 1 h s.length (i64s s)→SerOff1 (fun j=>v.ownBlock=some j) h s→Rd w1 1 h s.length (i64s s)∧SerOff1 (fun j=>v1.ownBlock=some j) h s:=fun h s a b=>by
  refine ⟨a.mods' m (fun e=>b (i64s_ne15 e)),fun e j hj hv=>?_⟩
  rcases hf j hv with f | f
  ·exact b e j hj f
  ·have:=a.lt (i64s_ne15' e) j hj;omega
 refine ⟨?_,k.bel.trans (m.below k.bel.size (fun j hj e=>by have:=(k.row.lt j e).1;omega)),fun q hq=>?_⟩
 ·rw [List.length_append,entCells_append]
  refine owns_rebase (by simpa [entCells] using k1) (fun j hj=>?_)
  rcases hf j hj with e | e
  ·exact (k.row.lt j e).1
  ·have:=k.bel.size;omega
 ·rcases List.mem_append.1 hq with f | f
  ·exact hoff _ _ (k.ser q f).1 (k.ser q f).2
  ·rw [List.mem_singleton.1 f]
   exact hoff _ _ hsr ho
end Go.Proofs.YtdcgbgecbeegmaaGreatDoor
end
section
namespace Go.Proofs.YtdcgbgecbeegmaaGreatDoor
open Go Go.RowKit
theorem wp_normal {P:Program} {c:Code} {Q:Exit→Act→World→Prop} {a:Act} {w:World} (h:c.wp P (fun e a w=>e = .normal∧Q .normal a w) a w):c.wp P Q a w:=wp_mono h (fun _ _ _ h=>h.1 ▸ h.2)
theorem Blk.three {w:World} {g:Nat} {a b c:Value} (h:Blk w g [a,b,c]):(w.cell? ⟨g,0,none⟩=some a∧w.cell? ⟨g,1,none⟩=some b∧w.cell? ⟨g,2,none⟩=some c)∧(w.frozen? ⟨g,0,none⟩=false∧w.frozen? ⟨g,1,none⟩=false∧w.frozen? ⟨g,2,none⟩=false):=
 ⟨⟨by rw [h.cell];rfl,by rw [h.cell];rfl,by rw [h.cell];rfl⟩,h.free 0,h.free 1,h.free 2⟩
theorem Blk.set3 {w:World} {g:Nat} {a b c:Value} (h:Blk w g [a,b,c]) (x y z:Value):Blk (((w.setCell ⟨g,0,none⟩ x).setCell ⟨g,1,none⟩ y).setCell ⟨g,2,none⟩ z) g [x,y,z]:=by
 simpa using ((h.set 0 x).set 1 y).set 2 z
theorem mods_set3 (w:World) (g:Nat) (x y z:Value):Mods (fun k=>k=g) w (((w.setCell ⟨g,0,none⟩ x).setCell ⟨g,1,none⟩ y).setCell ⟨g,2,none⟩ z):=
 ((Mods.set (fun k=>k=g) w ⟨g,0,none⟩ x (fun _=>rfl)).trans (Mods.set (fun k=>k=g) _ ⟨g,1,none⟩ y (fun _=>rfl)) (fun _ _ e=>e)).trans (Mods.set (fun k=>k=g) _ ⟨g,2,none⟩ z (fun _=>rfl)) (fun _ _ e=>e)
end Go.Proofs.YtdcgbgecbeegmaaGreatDoor
end
section
namespace Go.Proofs.YtdcgbgecbeegmaaGreatDoor
open Go Go.RowKit Go.Shelf
theorem operIn_round {P:Program} {l n:Nat} {o:Oper} {a:Act} {w:World} {next next':Act→World→Prop} {Q:Exit→Act→World→Prop} (hd:∀c,o.op≠.defer c) (hn:∀a w,next a w→next' a w) (hQ:¬LetsOut Q)
  (h:o.wp P a w next Q):o.wpIn (Fence.wide.inRound l) n P a w next' Q:=by
 refine ⟨fun _ _=>trivial,?_⟩
 show o.uponIn _ n P a next' Q ((o.semAt (some l) a.eval).run P w)
 rw [Oper.semAt_some l a.eval o hd]
 unfold Oper.wp at h
 have hdep:(Fence.wide.inRound l).depth.isSome=true→1≤n:=fun h=>by cases h
 revert h
 generalize (execOp a.eval o).run P w=r
 intro h
 cases r with
 | ok v w1=>
  cases v with
  | value v=>exact hn _ _ h
  | skip=>exact hn _ _ h
  | defer d=>exact hn _ _ h
  | enter f args=>
   refine ⟨hdep,CallsIn.inRound l (callsIn_wide.2 (Calls.mono h ?_))⟩
   intro e w2 h2
   cases e with
   | returned v=>exact hn _ _ h2
   | panicked ch=>exact h2
   | outgrown=>exact absurd h2 hQ
  | row row args=>
   refine ⟨hdep,fun c cs _=>?_⟩
   obtain ⟨v,w2,h2,s⟩:=h c cs
   exact ⟨v,w2,hn _ _ h2,stepsIn_wide.2 s⟩
  | _=>exact h.elim
 | halt hh w1=>
  cases hh with
  | panic v=>exact h
  | _=>exact h.elim
theorem wpListIn_round {P:Program} {l n:Nat} {ops:Array Oper} {Q:Exit→Act→World→Prop} (hQ:¬LetsOut Q):∀(os:List Oper) (a:Act) (w:World),(∀o∈os,∀c,o.op≠.defer c)→
  wpList P ops Q os a w→wpListIn (Fence.wide.inRound l) n P ops Q os a w
 | [],_,_,_,h=>h
 | o::os,a,w,hd,h=>by
  unfold wpListIn
  unfold wpList at h
  split
  ·next hw=>
   rw [if_pos hw] at h
   rcases h with h | h
   ·exact operIn_round (hd o (by simp)) (fun a w=>wpListIn_round hQ os a w (fun o h=>hd o (by simp [h]))) hQ h
   ·exact absurd h.2 hQ
  ·next hw=>
   rw [if_neg hw] at h
   exact ⟨fun _ _=>trivial,wpListIn_round hQ os _ _ (fun o h=>hd o (by simp [h])) h⟩
theorem row_other {W:World} {row:Option Nat} {b:Nat} {cs:Array Value} {t:TypeId} {fz:Nat × Nat} (h:W.heap[b]? = some (.cells cs t fz)) (hr:∀r,row=some r→∃o:Obj,W.heap[r]? = some o∧o.isCells=false):some b≠row:=fun e=>by
 obtain ⟨o,ho,hc⟩:=hr b e.symm
 rw [h] at ho;cases ho;cases hc
theorem own_blk {β:Type} (b:Nat) (f:β→List Value):Own (fun s W=>Blk W b (f s)):=by
 rintro s W W' row ⟨t,h⟩ hg hr
 exact ⟨t,(hg.block b (Array.getElem?_eq_some_iff.1 h).1 (row_other h hr)).trans h⟩
theorem owns_abides {W W':World} {row:Option Nat} {base:Nat} {e:TypeId} {sz:Nat} {v:Value} {n:Nat} {xs:List Value} (h:W.ownsRow base e sz v n xs) (hg:W.grownBy W' row) (hr:∀r,row=some r→∃o:Obj,W.heap[r]? = some o∧o.isCells=false):W'.ownsRow base e sz v n xs:=by
 refine h.kept hg ?_
 rcases h.2 with ⟨rfl,_⟩ | ⟨g,cap,cur,rfl,_,hgb,_⟩
 ·exact .inl rfl
 ·exact .inr (fun e=>row_other hgb hr e)
theorem ownFrom_mods {β:Type} {B:Nat} {S:Nat→Prop} {w:World} (hB:w.heap.size≤B):OwnFrom B (fun (_:β) W=>Mods S w W):=by
 intro s W W' row h hg hr
 refine ⟨hg.os.trans h.os,hg.tape.trans h.tape,hg.output.trans h.output,Nat.le_trans h.size hg.size,fun k hk hs=>?_⟩
 refine (hg.block k (by have:=h.size;omega) (fun e=>?_)).trans (h.block k hk hs)
 have:=(hr k e.symm).1
 omega
def Holds (e:TypeId) (sz b:Nat) (v:Value) (n:Nat) (xs:List Value) (w W:World):Prop:=
 ∃v',Blk W b [v']∧W.ownsRow 0 e sz v' n xs∧Fresh w.heap.size v v'∧(v'.ownBlock≠some b)∧Mods (fun k=>v.ownBlock=some k) w W
theorem ownFrom_holds {β:Type} {B:Nat} {w:World} (hB:w.heap.size≤B) (e:TypeId) (sz b:Nat) (v:Value) (n:β→Nat) (xs:β→List Value):OwnFrom B (fun s W=>Holds e sz b v (n s) (xs s) w W):=by
 rintro s W W' row ⟨v',h1,h2,h3,h4,h5⟩ hg hr
 have hr':∀r,row=some r→∃o:Obj,W.heap[r]? = some o∧o.isCells=false:=fun r e=>(hr r e).2
 exact ⟨v',own_blk b (fun _:Unit=>[v']) () W W' row h1 hg hr',owns_abides h2 hg hr',h3,h4,ownFrom_mods hB () W W' row h5 hg hr⟩
theorem KeepsOthers.of_mods {S:Nat→Prop} {W W':World} (h:Mods S W W') (hS:∀k o,S k→W.heap[k]? = some o→o.isCells=true):KeepsOthers W W':=
 ⟨h.size,fun k o hk ho=>(h.block k (Array.getElem?_eq_some_iff.1 hk).1 (fun e=>by rw [hS k o e hk] at ho;cases ho)).trans hk⟩
theorem owns_isCells {W:World} {base:Nat} {e:TypeId} {sz:Nat} {v:Value} {n:Nat} {xs:List Value} (h:W.ownsRow base e sz v n xs):∀k o,v.ownBlock=some k→W.heap[k]? = some o→o.isCells=true:=by
 intro k o hk ho
 rcases h.2 with ⟨rfl,_⟩ | ⟨g,cap,cur,rfl,_,hgb,_⟩
 ·simp [Value.ownBlock] at hk
 ·obtain rfl:g=k:=by simpa [Value.ownBlock] using hk
  rw [hgb] at ho;cases ho;rfl
theorem Holds.pushed {e:TypeId} {sz b:Nat} {v v1 v2:Value} {n m:Nat} {xs ys:List Value} {w W w1:World} (hb:w.heap.size≤b) (h1:Blk W b [v1]) (h2:W.ownsRow 0 e sz v1 n xs) (h3:Fresh w.heap.size v v1) (h4:v1.ownBlock≠some b) (h5:Mods (fun k=>v.ownBlock=some k) w W)
  (k1:w1.ownsRow 0 e sz v2 m ys) (k2:Mods (fun k=>v1.ownBlock=some k) W w1) (k3:Fresh W.heap.size v1 v2) :
  Holds e sz b v m ys w (w1.setCell ⟨b,0,none⟩ v2)∧KeepsOthers W (w1.setCell ⟨b,0,none⟩ v2):=by
 have hne:v2.ownBlock≠some b:=fun e=>by
  rcases k3 b e with e | e
  ·exact h4 e
  ·have:=h1.lt;omega
 refine ⟨⟨v2,?_,?_,?_,hne,?_⟩,(KeepsOthers.of_mods k2 (owns_isCells h2)).trans (KeepsOthers.setCell _ _ _)⟩
 ·simpa using (k2.blk h1 h4).set 0 v2
 ·exact (Mods.set (fun k=>k=b) w1 ⟨b,0,none⟩ v2 (fun _=>rfl)).owns k1 (fun k hk e=>hne (by rw [hk,e]))
 ·exact h3.trans k3 h5.size
 ·refine (h5.trans k2 (fun j hj e=>?_)).trans (Mods.set (fun k=>k=b) w1 ⟨b,0,none⟩ v2 (fun _=>rfl)) (fun j hj e=>by omega)
  rcases h3 j e with e | e
  ·exact e
  ·omega
theorem not_letsOut_body {α:Type} {id B:Nat} {Kp:World→World→Prop} {I:List α→World→Prop} {Ix:Code→List α→World→Prop} {xs:List α} {W:World}:¬LetsOut (Exit.inBlock id (ownPostG B Kp I Ix xs W)):=by
 rintro ⟨_,_,h⟩;exact h
theorem Mods.putObj {S:Nat→Prop} {w W:World} (h:Mods S w W) {D:Nat} (hD:w.heap.size≤D) (o:Obj):Mods S w (W.putObj D o):=by
 have hg:=grownBy_putObj' W D o
 exact ⟨hg.os.trans h.os,hg.tape.trans h.tape,hg.output.trans h.output,Nat.le_trans h.size hg.size,fun k hk hs=>(hg.block k (by have:=h.size;omega) (fun e=>by cases e;omega)).trans (h.block k hk hs)⟩
end Go.Proofs.YtdcgbgecbeegmaaGreatDoor
end
section
namespace Go.Proofs.YtdcgbgecbeegmaaGreatDoor
open Go Go.RowKit
inductive Plan where
 | done
 | take (i:Nat) (p:Plan)
 | one (i:Nat) (p:Plan)
 | two (i j:Nat) (p q:Plan)
def planOk (md:Region.Mode) (ops:Array Oper):Plan→Array Bool→Bool
 | .done,listed=>(Region.ready md ops listed).isEmpty
 | .take i p,listed=>Region.free md ops listed i&&(Region.ready md ops listed).contains i&&planOk md ops p (listed.setIfInBounds i true)
 | .one i p,listed=>Region.ready md ops listed == [i]&&planOk md ops p (listed.setIfInBounds i true)
 | .two i j p q,listed=>Region.ready md ops listed == [i,j]&&(planOk md ops p (listed.setIfInBounds i true)&&planOk md ops q (listed.setIfInBounds j true))
def Plan.steps:Plan→Nat
 | .done=>0
 | .take _ p=>p.steps+1
 | .one _ p=>p.steps+1
 | .two _ _ p q=>max p.steps q.steps+1
def wpNum (P:Program) (ops:Array Oper) (Q:Exit→Act→World→Prop) (i:Nat) (K:Act→World→Prop) (a:Act) (w:World):Prop:=
 match ops[i]? with
 | none=>False
 | some o=>if Region.wanted o (yielded ops a.tmps)=true then o.wp P a w K Q else K (a.put o.dst undef) w
def wpPlan (P:Program) (ops:Array Oper) (Q:Exit→Act→World→Prop):Plan→Act→World→Prop
 | .done,a,w=>Q .normal a w
 | .take i p,a,w=>match ops[i]? with
  | none=>False
  | some o=>if Region.wanted o (yielded ops a.tmps)=true then ∃v,(∀w,(execOp a.eval o).run P w = .ok (.value v) w)∧wpPlan P ops Q p (a.put o.dst v) w else wpPlan P ops Q p (a.put o.dst undef) w
 | .one i p,a,w=>wpNum P ops Q i (wpPlan P ops Q p) a w
 | .two i j p q,a,w=>wpNum P ops Q i (wpPlan P ops Q p) a w∧wpNum P ops Q j (wpPlan P ops Q q) a w
section
variable {P:Program} {ops:Array Oper} {Q:Exit→Act→World→Prop} {md:Region.Mode}
theorem wpOp_of_num {i:Nat} {K K':Act→World→Prop} {a:Act} {w:World} (hK:∀a w,K a w→K' a w) (h:wpNum P ops Q i K a w):wpOp P ops Q i K' a w:=by
 unfold wpNum at h
 unfold wpOp
 cases ho:ops[i]? with
 | none=>rw [ho] at h;exact h.elim
 | some o=>
  rw [ho] at h
  simp only at h ⊢
  split
  ·next hw=>
   rw [if_pos hw] at h
   exact .inl (Oper.wp_mono hK h)
  ·next hw=>
   rw [if_neg hw] at h
   exact hK _ _ h
theorem wpAny_of_plan (hs:Region.noSelect ops=true) (hQ:∀c (a a':Act) w,a.defers=a'.defers→Q (.panic c) a w→Q (.panic c) a' w):∀(p:Plan) (listed:Array Bool) (a:Act) (w:World) (fuel:Nat),p.steps≤fuel→
  planOk md ops p listed=true→wpPlan P ops Q p a w→wpAny P md ops Q fuel listed a w
 | .done,listed,a,w,fuel,_,hB,h=>wpAny_done (by simpa [planOk] using hB) h fuel
 | .take i p,listed,a,w,0,hf,_,_=>by simp [Plan.steps] at hf
 | .take i p,listed,a,w,fuel+1,hf,hB,h=>by
  have hf':p.steps≤fuel:=by simpa [Plan.steps] using hf
  simp only [planOk,Bool.and_eq_true] at hB
  unfold wpPlan at h
  cases ho:ops[i]? with
  | none=>rw [ho] at h;exact h.elim
  | some o=>
   rw [ho] at h
   simp only at h
   by_cases hw:Region.wanted o (yielded ops a.tmps)=true
   ·rw [if_pos hw] at h
    obtain ⟨v,hv,h⟩:=h
    exact wpAny_take ho hs hB.1.1 hB.1.2 (fun c a w h=>hQ c _ _ w (put_defers _ _ _) h) (.inl ⟨hw,hv⟩) (wpAny_of_plan hs hQ p _ _ w fuel hf' hB.2 h)
   ·rw [if_neg hw] at h
    exact wpAny_take ho hs hB.1.1 hB.1.2 (fun c a w h=>hQ c _ _ w (put_defers _ _ _) h) (.inr ⟨by simpa using hw,rfl⟩) (wpAny_of_plan hs hQ p _ _ w fuel hf' hB.2 h)
 | .one i p,listed,a,w,0,hf,_,_=>by simp [Plan.steps] at hf
 | .one i p,listed,a,w,fuel+1,hf,hB,h=>by
  have hf':p.steps≤fuel:=by simpa [Plan.steps] using hf
  simp only [planOk,Bool.and_eq_true,beq_iff_eq] at hB
  refine wpAny_all hB.1 (by simp) (fun j hj=>?_)
  obtain rfl:j=i:=by simpa using hj
  exact wpOp_of_num (fun a w h=>wpAny_of_plan hs hQ p _ a w fuel hf' hB.2 h) h
 | .two i j p q,listed,a,w,0,hf,_,_=>by simp [Plan.steps] at hf
 | .two i j p q,listed,a,w,fuel+1,hf,hB,h=>by
  have hf':max p.steps q.steps≤fuel:=by simpa [Plan.steps] using hf
  simp only [planOk,Bool.and_eq_true,beq_iff_eq] at hB
  refine wpAny_all hB.1 (by simp) (fun m hm=>?_)
  have hm':m=i∨m=j:=by simpa using hm
  rcases hm' with rfl | rfl
  ·exact wpOp_of_num (fun a w h=>wpAny_of_plan hs hQ p _ a w fuel (by omega) hB.2.1 h) h.1
  ·exact wpOp_of_num (fun a w h=>wpAny_of_plan hs hQ q _ a w fuel (by omega) hB.2.2 h) h.2
theorem wpAnyIn_round {r n:Nat} (hQ:¬LetsOut Q) (hd:∀o∈ops.toList,∀c,o.op≠.defer c):∀(fuel:Nat) (listed:Array Bool) (a:Act) (w:World),wpAny P md ops Q fuel listed a w→wpAnyIn (Fence.wide.inRound r) n P md ops Q fuel listed a w
 | 0,_,_,_,h=>h
 | fuel+1,listed,a,w,h=>⟨h.1,fun i hi=>by
  have h2:=h.2 i hi
  unfold wpOp at h2
  unfold wpOpIn
  cases ho:ops[i]? with
  | none=>
   rw [ho] at h2
   exact wpAnyIn_round hQ hd fuel _ _ _ h2
  | some o=>
   rw [ho] at h2
   simp only at h2 ⊢
   have hmem:o∈ops.toList:=by
    rw [← Array.getElem?_toList] at ho
    exact List.mem_of_getElem? ho
   split
   ·next hw=>
    rw [if_pos hw] at h2
    rcases h2 with h2 | h2
    ·exact operIn_round (hd o hmem) (fun a w=>wpAnyIn_round hQ hd fuel _ a w) hQ h2
    ·exact absurd h2.2 hQ
   ·next hw=>
    rw [if_neg hw] at h2
    exact ⟨fun _ _=>trivial,wpAnyIn_round hQ hd fuel _ _ _ h2⟩⟩
theorem wpIn_region_plan {r n id:Nat} {a:Act} {w:World} (p:Plan) (hm:P.follows .mixedOrders=true) (hs:Region.noSelect ops=true) (hB:(decide (p.steps≤ops.size)&&planOk .any ops p (Array.replicate ops.size false))=true)
  (hl:¬LetsOut Q) (hd:∀o∈ops.toList,∀c,o.op≠.defer c) (hQ:∀c (a a':Act) w,a.defers=a'.defers→Q (.panic c) a w→Q (.panic c) a' w) (h:wpPlan P ops Q p a w.drew):(Code.region id ops true).wpIn (Fence.wide.inRound r) n P Q a w:=by
 rw [Bool.and_eq_true] at hB
 exact wpIn_region_any hm (wpAnyIn_round hl hd _ _ _ _ (wpAny_of_plan hs hQ p _ _ _ _ (by simpa using hB.1) hB.2 h))
theorem plan_done {a:Act} {w:World} (h:Q .normal a w):wpPlan P ops Q .done a w:=h
theorem plan_take {i:Nat} {o:Oper} {p:Plan} {a:Act} {w:World} (ho:ops[i]? = some o) (hw:Region.wanted o (yielded ops a.tmps)=true) (v:Value) (hv:∀w,(execOp a.eval o).run P w = .ok (.value v) w) (h:wpPlan P ops Q p (a.put o.dst v) w):wpPlan P ops Q (.take i p) a w:=by
 unfold wpPlan
 simp only [ho,hw]
 exact ⟨v,hv,h⟩
theorem plan_one {i:Nat} {o:Oper} {p:Plan} {a:Act} {w:World} (ho:ops[i]? = some o) (hw:Region.wanted o (yielded ops a.tmps)=true) (h:∀K:Act→World→Prop,(∀a w,wpPlan P ops Q p a w→K a w)→o.wp P a w K Q):wpPlan P ops Q (.one i p) a w:=by
 unfold wpPlan wpNum
 simp only [ho,hw]
 exact h _ (fun _ _ h=>h)
theorem plan_run {i:Nat} {o:Oper} {p:Plan} {a:Act} {w:World} (ho:ops[i]? = some o) (hw:Region.wanted o (yielded ops a.tmps)=true) (v:Value) (w2:World) (hr:(execOp a.eval o).run P w = .ok (.value v) w2) (h:wpPlan P ops Q p (a.put o.dst v) w2):wpPlan P ops Q (.one i p) a w:=by
 refine plan_one ho hw (fun K hK=>?_)
 unfold Oper.wp
 rw [hr]
 exact hK _ _ h
theorem plan_extend {t e:TypeId} {sz bytes:Nat} (hE:Elem P t e sz bytes) {i:Nat} {o:Oper} {p:Plan} {a:Act} {w:World} (ho:ops[i]? = some o) (hw:Region.wanted o (yielded ops a.tmps)=true) (s x:Operand)
  (hop:o.op = .call { callee:=.builtin .append,args:=#[s,x],argTypes:=#[t,t] }) {v v2:Value} (hs:a.eval s=v) (hx:a.eval x=v2) {n m:Nat} {xs news:List Value} (hown:w.ownsRow 0 e sz v n xs) (hr:Rd w sz v2 m news) (h1:∀u∈news,u.oneCell'=true) (hb:(n+m)*bytes≤140737488355328∧n+m≤maxLen)
  (h:∀v' w',w'.ownsRow 0 e sz v' (n+m) (xs++news)→Mods (fun k=>v.ownBlock=some k) w w'→Fresh w.heap.size v v'→wpPlan P ops Q p (a.put o.dst v') w'):wpPlan P ops Q (.one i p) a w:=by
 obtain ⟨v',w',hrun,h2,h3,h4⟩:=exec_extend hE w v v2 n m xs news hown hr h1 hb s x hop hs hx
 exact plan_run ho hw v' w' hrun (h v' w' h2 h3 h4)
theorem plan_two {i j:Nat} {p q:Plan} {a:Act} {w:World} (h1:wpPlan P ops Q (.one i p) a w) (h2:wpPlan P ops Q (.one j q) a w):wpPlan P ops Q (.two i j p q) a w:=⟨h1,h2⟩
end
section
variable {P:Program} {ops:Array Oper} {rest:List Oper} {o:Oper} {a:Act} {w:World} {Q:Exit→Act→World→Prop} {n:Nat}
theorem wpListIn_run (hgd:Region.wanted o (yielded ops a.tmps)=true) (v:Value) (w2:World) (hr:(execOp a.eval o).run P w = .ok (.value v) w2) (h:wpListIn Fence.wide n P ops Q rest (a.put o.dst v) w2):wpListIn Fence.wide n P ops Q (o::rest) a w:=by
 unfold wpListIn
 rw [if_pos hgd]
 refine ⟨fun _ _=>trivial,?_⟩
 show o.uponIn _ n P a _ Q ((o.semAt none a.eval).run P w)
 rw [Oper.semAt_none,hr]
 exact h
theorem exec_slice3 {t e:TypeId} {sz bytes:Nat} (hE:Elem P t e sz bytes) (w:World) (p:Option Addr) (m c i k:Nat) (hi:i<k) (hk:k≤c) {o:Oper} {a:Act} (s x y z:Operand) (ho:o.op = .slice t s (some x) (some y) (some z))
  (hs:a.eval s = .slice p m c) (hx:a.eval x = .int .i64 (i:Int)) (hy:a.eval y = .int .i64 (k:Int)) (hz:a.eval z = .int .i64 (k:Int)):(execOp a.eval o).run P w = .ok (.value (.slice (p.map (·.add (i*sz))) (k-i) (k-i))) w:=by
 obtain ⟨inf,z0,hinf,hz0,hsize,hby,hzs⟩:=hE.hi
 have helem:P.elem t=e:=by simp [Program.elem,hE.ht]
 have hu:P.underlying t=some (.slice (P.elem t)):=by rw [helem];exact hE.ht
 have hr:(Instr.sliceAt t (.slice p m c) (some (.int .i64 (i:Int))) (some (.int .i64 (k:Int))) (some (.int .i64 (k:Int)))).run P w = .ok (.slice (p.map (·.add (i*sz))) (k-i) (k-i)) w:=by
  have hsz:=run_sizeOf (w:=w) (show P.info? (P.elem t)=some inf by rw [helem];exact hinf)
  rw [run_sliceAt_slice (h:=hu),run_slice_lhm (ht:=hu) (h0:=by omega) (h1:=by omega) (h2:=by omega) (h3:=by omega),hsz]
  have hcell:P.cellsOf (P.elem t)=sz:=by rw [helem];simp [Program.cellsOf,hinf,hsize]
  have hne:¬k=i:=by omega
  simp [Result.andThen,sliced,hne,hcell]
 unfold execOp
 simp only [ho,Sem.run_bind,Sem.run_pure,Result.andThen_ok,hs,hx,hy,hz,hr,Option.map_some]
end
end Go.Proofs.YtdcgbgecbeegmaaGreatDoor
end
section
namespace Go.Proofs.YtdcgbgecbeegmaaGreatDoor
open Go Go.RowKit
def checkNext (p:Option ByteArray) (x:Lab) (rest:Nat):Nat:=match p with
 | none=>rest
 | some n=>if x.1=n then 18 else if ltS x.1 n then 16 else rest
theorem checkFrom_cons (p:Option ByteArray) (x:Lab) (l:List Lab):checkFrom p (x::l)=if oneL x≠0 then oneL x else checkNext p x (checkFrom (some x.1) l):=by cases p<;>rfl
def prevN (l:List Lab) (i:Nat):Option ByteArray:=if i=0 then none else (l[i-1]?).map Prod.fst
theorem check_step {l:List Lab} {i:Nat} {x:Lab} (hx:l[i]? = some x) (h:checkL l=checkFrom (prevN l i) (l.drop i)) :
  checkL l=if oneL x≠0 then oneL x else checkNext (prevN l i) x (checkFrom (prevN l (i+1)) (l.drop (i+1))):=by
 have hlt:=(List.getElem?_eq_some_iff.1 hx).1
 have hd:l.drop i=x::l.drop (i+1):=by rw [List.drop_eq_getElem_cons hlt,(List.getElem?_eq_some_iff.1 hx).2]
 have hp:prevN l (i+1)=some x.1:=by rw [prevN,if_neg (by omega),Nat.add_sub_cancel,hx];rfl
 rw [h,hd,checkFrom_cons,hp]
end Go.Proofs.YtdcgbgecbeegmaaGreatDoor
end
section
set_option maxRecDepth 20000
namespace Go.Proofs.YtdcgbgecbeegmaaGreatDoor
open Go Go.RowKit
set_option maxHeartbeats 1000000 in
theorem ref_one11 (n v:ByteArray) (w:World) (hn:n.size≤9223372036854775807) (hv:v.size≤9223372036854775807) :
  Calls Tryz.prog 69 #[.agg #[.string n,.string v]] w fun e w'=>e = .returned (.int .i64 (oneL (n,v):Int))∧Below w.heap.size w w':=by
 have hB:Below w.heap.size w (w.alloc (.cells #[.string n,.string v] 108)):=(Below.refl _ w).alloc (Nat.le_refl _) _
 have HEm:=Lib.hid (empty_size n)
 by_cases h0:n.size=0
 ·have hE:n.toList.isEmpty=true:=by rw [HEm.out];simpa using h0
  have HO:Hid (oneL (n,v)=17):=if_pos h0
  rw [HO.out]
  go_enter Tryz.func69,Tryz.ntmps69
  go_wp2_with fail
  go_ret
  exact ⟨rfl,hB⟩
 ·have hE:n.toList.isEmpty=false:=by rw [HEm.out];simpa using h0
  by_cases h1:(65535:Int)<(n.size:Int)
  ·have HO:Hid (oneL (n,v)=7):=by show _=_;rw [oneL,if_neg h0,if_pos (Or.inl (by show 65535<n.size;omega))]
   rw [HO.out]
   clear h0
   go_enter Tryz.func69,Tryz.ntmps69
   go_wp2_with fail
   go_ret
   exact ⟨rfl,hB⟩
  ·have hd1:decide ((65535:Int)<(n.size:Int))=false:=by simpa using h1
   by_cases h2:(65535:Int)<(v.size:Int)
   ·have hd2:decide ((65535:Int)<(v.size:Int))=true:=by simpa using h2
    have HO:Hid (oneL (n,v)=7):=by show _=_;rw [oneL,if_neg h0,if_pos (Or.inr (by show 65535<v.size;omega))]
    rw [HO.out]
    clear h0
    go_enter Tryz.func69,Tryz.ntmps69
    go_wp2_with fail
    go_ret
    exact ⟨rfl,hB⟩
   ·have hd2:decide ((65535:Int)<(v.size:Int))=false:=by simpa using h2
    have HO:Hid (oneL (n,v)=0):=by
     show _=_
     rw [oneL,if_neg h0,if_neg]
     rintro (e | e)
     ·exact h1 (by have:65535<n.size:=e;omega)
     ·exact h2 (by have:65535<v.size:=e;omega)
    rw [HO.out]
    clear h0
    go_enter Tryz.func69,Tryz.ntmps69
    go_wp2_with fail
    go_ret
    exact ⟨rfl,hB⟩
set_option maxHeartbeats 4000000 in
theorem ref_check11 (lv:Value) (l:List Lab) (w:World) (hl:Rd w 2 lv l.length (labCells l)) (hs:∀x∈l,x.1.size≤9223372036854775807∧x.2.size≤9223372036854775807) (hn:l.length≤1000000) :
  Calls Tryz.prog 30 #[lv] w fun e w'=>e = .returned (.int .i64 (checkL l:Int))∧Below w.heap.size w w':=by
 have HL:=Lib.hid hl;have HS:=Lib.hid hs
 obtain ⟨pl,cl,hv⟩:=hl.shape
 subst hv
 have hmx:(l.length:Int)≤1000000:=by omega
 clear hl hs hn
 go_enter Tryz.func30,Tryz.ntmps30
 go_wp2_with fail
 go_loopw [3] (fun iv wr=>∃(i:Nat),i≤l.length∧iv = .int .i64 (i:Int)∧Hid (checkL l=checkFrom (prevN l i) (l.drop i))∧Hid (Below w.heap.size w wr)) (fun iv _=>l.length-(intOf iv).toNat)
 case atStart=>exact ⟨0,Nat.zero_le _,rfl,rfl,Below.refl _ _⟩
 case round=>
  obtain ⟨i,hi,rfl,HC,HB⟩:=hrel
  by_cases hlt:i<l.length
  ·have hlt':(i:Int)<(l.length:Int):=by omega
   have him:(i:Int)≤1000000:=by omega
   obtain ⟨⟨n,v⟩,hx⟩:∃x,l[i]? = some x:=⟨_,List.getElem?_eq_getElem hlt⟩
   obtain ⟨b,off,e⟩:=rd2_at HL.out hx
   subst e
   have HCt:Hid (∀w',Below w.heap.size w w'→w'.cell? ⟨b,off+i*2,none⟩=some (.string n)∧w'.cell? ⟨b,off+i*2+1,none⟩=some (.string v)):=fun w' hb=>rd2_cell (HL.out.below hb) hx
   obtain ⟨c0,c1⟩:=HCt.out wr HB.out
   have HOn:=Lib.hid (fun w'=>ref_one11 n v w' (HS.out _ (List.mem_of_getElem? hx)).1 (HS.out _ (List.mem_of_getElem? hx)).2)
   have HSt:=Lib.hid (check_step hx HC.out)
   clear hx HC
   go_wp2_with fail
   refine (HOn.out _).mono ?_
   rintro e w2 ⟨rfl,hB⟩
   have HBw:=Lib.hid (HB.out.trans (hB.mono HB.out.size))
   clear c0 c1 hB HOn
   obtain ⟨c0,c1⟩:=HCt.out w2 HBw.out
   by_cases he:oneL (n,v)=0
   ·rw [if_neg (not_not_intro he)] at HSt
    rw [he]
    clear he
    by_cases h0:i=0
    ·subst h0
     have HNx:Hid (checkL l=checkFrom (prevN l (0+1)) (l.drop (0+1))):=HSt.out
     have hcx:w2.cell? ⟨b,off,none⟩=some (.string n):=by simpa using c0
     go_wp2_with fail
     go_quiet (fail)
     have HBy:Hid (Below w.heap.size w (w2.drewN nq)):=HBw.out.trans ⟨rfl,rfl,rfl,Nat.le_refl _,fun _ _=>rfl⟩
     have hcx3:(w2.drewN nq).cell? ⟨b,off,none⟩=some (.string n):=hcx
     clear hcx c0 c1
     generalize w2.drewN nq=w3 at *
     go_wp2_with fail
     go_quiet (fail)
     have HBz:Hid (Below w.heap.size w (w3.drewN nq)):=HBy.out.trans ⟨rfl,rfl,rfl,Nat.le_refl _,fun _ _=>rfl⟩
     clear hcx3
     generalize w3.drewN nq=w4 at *
     go_wp2_with fail
     go_round
     case rel=>exact ⟨1,by omega,by go_num,HNx.out,HBz.out⟩
     case measure=>simp [intOf];omega
    ·obtain ⟨q,hq⟩:∃q,i=q+1:=⟨i-1,by omega⟩
     have h0':(0:Int)<(i:Int):=by omega
     have hd0:decide (0<i)=true:=by simp;omega
     have hqi:(i:Int)-1=(q:Int):=by omega
     have hq0:(0:Int)≤(q:Int):=by omega
     have hql:(q:Int)<(l.length:Int):=by omega
     obtain ⟨⟨y,u⟩,hy⟩:∃x,l[q]? = some x:=⟨_,List.getElem?_eq_getElem (by omega)⟩
     obtain ⟨d0,_⟩:=rd2_cell (HL.out.below HBw.out) hy
     have hpv:prevN l i=some y:=by rw [prevN,if_neg h0,hq,Nat.add_sub_cancel,hy];rfl
     rw [hpv] at HSt
     clear hpv hy hq h0 c1
     by_cases hny:n=y
     ·subst hny
      have hse:(n.toList == n.toList)=true:=by simp
      have HR:Hid (checkL l=18):=by show _=_;rw [HSt.out,checkNext,if_pos rfl]
      go_wp2_with fail
      go_quiet (fail)
      have HBy:Hid (Below w.heap.size w (w2.drewN nq)):=HBw.out.trans ⟨rfl,rfl,rfl,Nat.le_refl _,fun _ _=>rfl⟩
      generalize w2.drewN nq=w3 at *
      go_wp2_with fail
      go_ret
      exact ⟨by rw [HR.out];rfl,HBy.out⟩
     ·have hse:(n.toList == y.toList)=false:=by rw [eqS];simpa using hny
      by_cases hlt2:ltS n y=true
      ·have hcmp:Op.bytesLess n.toList y.toList=true:=hlt2
       have HR:Hid (checkL l=16):=by show _=_;rw [HSt.out,checkNext,if_neg hny,if_pos hlt2]
       clear hny hlt2
       go_wp2_with fail
       go_quiet (fail)
       have HBy:Hid (Below w.heap.size w (w2.drewN nq)):=HBw.out.trans ⟨rfl,rfl,rfl,Nat.le_refl _,fun _ _=>rfl⟩
       have c03:(w2.drewN nq).cell? ⟨b,off+i*2,none⟩=some (.string n):=c0
       have d03:(w2.drewN nq).cell? ⟨b,off+q*2,none⟩=some (.string y):=d0
       clear c0 d0
       generalize w2.drewN nq=w3 at *
       go_wp2_with fail
       go_quiet (fail)
       have HBz:Hid (Below w.heap.size w (w3.drewN nq)):=HBy.out.trans ⟨rfl,rfl,rfl,Nat.le_refl _,fun _ _=>rfl⟩
       generalize w3.drewN nq=w4 at *
       go_wp2_with fail
       go_ret
       exact ⟨by rw [HR.out];rfl,HBz.out⟩
      ·have hcmp0:ltS n y=false:=by simpa using hlt2
       have hcmp:Op.bytesLess n.toList y.toList=false:=hcmp0
       have HNx:Hid (checkL l=checkFrom (prevN l (i+1)) (l.drop (i+1))):=by show _=_;rw [HSt.out,checkNext,if_neg hny,if_neg hlt2]
       clear hny hlt2 hcmp0
       go_wp2_with fail
       go_quiet (fail)
       have HBy:Hid (Below w.heap.size w (w2.drewN nq)):=HBw.out.trans ⟨rfl,rfl,rfl,Nat.le_refl _,fun _ _=>rfl⟩
       have c03:(w2.drewN nq).cell? ⟨b,off+i*2,none⟩=some (.string n):=c0
       have d03:(w2.drewN nq).cell? ⟨b,off+q*2,none⟩=some (.string y):=d0
       clear c0 d0
       generalize w2.drewN nq=w3 at *
       go_wp2_with fail
       go_quiet (fail)
       have HBz:Hid (Below w.heap.size w (w3.drewN nq)):=HBy.out.trans ⟨rfl,rfl,rfl,Nat.le_refl _,fun _ _=>rfl⟩
       clear c03 d03
       generalize w3.drewN nq=w4 at *
       go_wp2_with fail
       go_round
       case rel=>exact ⟨i+1,by omega,by go_num,HNx.out,HBz.out⟩
       case measure=>simp [intOf];omega
   ·have he1:¬(oneL (n,v):Int)=0:=by omega
    have heb:((oneL (n,v):Int) == 0)=false:=by rw [beq_eq_false_iff_ne];exact he1
    rw [if_pos he] at HSt
    clear he
    generalize oneL (n,v)=e at *
    go_wp2_with fail
    go_ret
    exact ⟨by rw [HSt.out];rfl,HBw.out⟩
  ·have hlt':¬(i:Int)<(l.length:Int):=by omega
   have HE:Hid (checkL l=0):=by
    show _=_
    rw [HC.out,List.drop_of_length_le (by omega)]
    cases prevN l i<;>rfl
   go_wp2_with fail
   go_ret
   exact ⟨by rw [HE.out];rfl,HB.out⟩
end Go.Proofs.YtdcgbgecbeegmaaGreatDoor
end
