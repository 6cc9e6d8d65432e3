/- Texts 9. -/
import Derived.Test.YtdcgbgecbeegmaaGreatDoorMgD5
import Derived.Test.YtdcgbgecbeegmaaGreatDoorMgD8
import Derived.Test.YtdcgbgecbeegmaaGreatDoorMgD4
import Derived.Test.YtdcgbgecbeegmaaGreatDoorMgD7
import Derived.Test.YtdcgbgecbeegmaaGreatDoorMgD1
set_option linter.unusedVariables false
set_option linter.unusedSimpArgs false
section
namespace Go.Proofs.YtdcgbgecbeegmaaGreatDoor
open Go Go.RowKit
abbrev Pic:=Nat × List Sam
theorem partsE_win (l:List Sam):(List.range (cntC l.length)).map (partL l)=winE l:=by
 unfold cntC winE
 refine List.map_congr_left fun k _=>?_
 rw [partL,Nat.mul_comm]
def picTo (b:List Ser) (m:Nat):List Pic:=(List.range m).flatMap fun i=>match b[i]? with | some s=>(winE s.2).map fun p=>(i,p) | none=>[]
def picB (b:List Ser):List Pic:=picTo b b.length
theorem picTo_step {b:List Ser} {i:Nat} {s:Ser} (h:b[i]? = some s):picTo b (i+1)=picTo b i++(winE s.2).map fun p=>(i,p):=by
 rw [picTo,List.range_succ,List.flatMap_append]
 simp [picTo,h]
theorem picTo_pre (b:List Ser) (i:Nat):∀m,∃t,picTo b (i+m)=picTo b i++t:=by
 intro m
 induction m with
 | zero=>exact ⟨[],by simp⟩
 | succ m ih=>
  obtain ⟨t,ht⟩:=ih
  refine ⟨t++[i+m].flatMap (fun i=>match b[i]? with | some s=>(winE s.2).map fun p=>(i,p) | none=>[]),?_⟩
  rw [← List.append_assoc,← ht,← Nat.add_assoc]
  unfold picTo
  rw [List.range_succ,List.flatMap_append]
theorem picB_at {b:List Ser} {i j:Nat} {s:Ser} {p:List Sam} (h:b[i]? = some s) (hp:(winE s.2)[j]? = some p):(picB b)[(picTo b i).length+j]? = some (i,p):=by
 have hi:=(List.getElem?_eq_some_iff.1 h).1
 obtain ⟨t,ht⟩:=picTo_pre b (i+1) (b.length-(i+1))
 rw [show i+1+(b.length-(i+1))=b.length by omega] at ht
 have hj:=(List.getElem?_eq_some_iff.1 hp).1
 rw [picB,ht,picTo_step h,List.append_assoc,List.getElem?_append_right (by omega),Nat.add_sub_cancel_left,List.getElem?_append_left (by simpa using hj),List.getElem?_map,hp]
 rfl
theorem picTo_len {b:List Ser} {i:Nat} {s:Ser} (h:b[i]? = some s):(picTo b (i+1)).length=(picTo b i).length+(winE s.2).length:=by
 rw [picTo_step h,List.length_append,List.length_map]
theorem picB_mem {b:List Ser} {x:Pic} (h:x∈picB b):∃s,b[x.1]? = some s∧x.2∈winE s.2:=by
 obtain ⟨i,_,hx⟩:=List.mem_flatMap.1 h
 split at hx
 ·next s hs=>
  obtain ⟨p,hp,rfl⟩:=List.mem_map.1 hx
  exact ⟨s,hs,hp⟩
 ·cases hx
def recAdd (b:List Ser) (l:List Rec) (x:Pic):List Rec:=l.set x.1 (((b[x.1]?).getD ([],[])).1,((l[x.1]?).getD ([],[])).2++[((encC x.2).1.length:Int)])
def recsK (b:List Ser) (k:Nat):List Rec:=((picB b).take k).foldl (recAdd b) (List.replicate b.length ([],[]))
def chunksK (b:List Ser) (k:Nat):List Nat:=((picB b).take k).flatMap fun x=>(encC x.2).1
theorem recsK_zero (b:List Ser):recsK b 0=List.replicate b.length ([],[]):=by simp [recsK]
theorem chunksK_zero (b:List Ser):chunksK b 0=[]:=by simp [chunksK]
theorem recsK_step {b:List Ser} {k:Nat} {x:Pic} (h:(picB b)[k]? = some x):recsK b (k+1)=recAdd b (recsK b k) x:=by
 rw [recsK,List.take_add_one,h,List.foldl_append];rfl
theorem chunksK_step {b:List Ser} {k:Nat} {x:Pic} (h:(picB b)[k]? = some x):chunksK b (k+1)=chunksK b k++(encC x.2).1:=by
 rw [chunksK,List.take_add_one,h,List.flatMap_append];simp [chunksK]
theorem foldl_recAdd_len (b:List Ser):∀(xs:List Pic) (l:List Rec),(xs.foldl (recAdd b) l).length=l.length:=by
 intro xs
 induction xs with
 | nil=>intro l;rfl
 | cons x xs ih=>intro l;rw [List.foldl_cons,ih];simp [recAdd]
theorem recsK_len (b:List Ser) (k:Nat):(recsK b k).length=b.length:=by rw [recsK,foldl_recAdd_len];simp
theorem recAdd_all {b:List Ser} {i:Nat} {s:Ser} (h:b[i]? = some s):∀(ws:List (List Sam)) (l:List Rec) (l0:List Lab) (c0:List Int),l[i]? = some (l0,c0)→ws≠[]→
  (ws.map fun p=>(i,p)).foldl (recAdd b) l=l.set i (s.1,c0++ws.map fun p=>((encC p).1.length:Int)):=by
 intro ws
 induction ws with
 | nil=>intro _ _ _ _ h;exact absurd rfl h
 | cons p ws ih=>
  intro l l0 c0 hl _
  have e:recAdd b l (i,p)=l.set i (s.1,c0++[((encC p).1.length:Int)]):=by simp [recAdd,h,hl]
  rw [List.map_cons,List.foldl_cons,e]
  have hi:=(List.getElem?_eq_some_iff.1 hl).1
  by_cases hw:ws=[]
  ·subst hw;rfl
  ·rw [ih _ s.1 (c0++[((encC p).1.length:Int)]) (by rw [List.getElem?_set,if_pos rfl,if_pos hi]) hw,List.set_set]
   simp
theorem picTo_recs {b:List Ser} (hb:∀s∈b,s.2≠[]):∀i,i≤b.length→(picTo b i).foldl (recAdd b) (List.replicate b.length ([],[]))=(b.take i).map recE++List.replicate (b.length-i) ([],[]):=by
 intro i
 induction i with
 | zero=>intro _;simp [picTo]
 | succ i ih=>
  intro hi
  obtain ⟨s,hs⟩:∃s,b[i]? = some s:=⟨_,List.getElem?_eq_getElem (by omega)⟩
  have hl:((b.take i).map recE).length=i:=by rw [List.length_map,List.length_take];omega
  have hx:((b.take i).map recE++List.replicate (b.length-i) ([],[]))[i]? = some (([],[]):Rec):=by
   rw [List.getElem?_append_right (by omega),hl,Nat.sub_self,List.getElem?_replicate,if_pos (by omega)]
  rw [picTo_step hs,List.foldl_append,ih (by omega),recAdd_all hs _ _ _ _ hx (winE_ne (hb s (List.mem_of_getElem? hs))),List.nil_append,List.set_append_right _ _ (by omega),hl,Nat.sub_self]
  obtain ⟨m,hm⟩:∃m,b.length-i=m+1:=⟨b.length-i-1,by omega⟩
  rw [hm,List.replicate_succ,List.set_cons_zero,List.take_add_one,hs,List.map_append,List.append_assoc,show b.length-(i+1)=m by omega]
  rfl
theorem recsK_all {b:List Ser} (hb:∀s∈b,s.2≠[]):recsK b (picB b).length=b.map recE:=by
 rw [recsK,List.take_length,picB,picTo_recs hb _ (Nat.le_refl _)]
 simp
theorem picTo_chunks (b:List Ser):∀i,i≤b.length→((picTo b i).flatMap fun x=>(encC x.2).1)=chunksB (b.take i):=by
 intro i
 induction i with
 | zero=>intro _;simp [picTo,chunksB]
 | succ i ih=>
  intro hi
  obtain ⟨s,hs⟩:∃s,b[i]? = some s:=⟨_,List.getElem?_eq_getElem (by omega)⟩
  rw [picTo_step hs,List.flatMap_append,ih (by omega),chunksB_step hs,List.flatMap_map]
  rfl
theorem chunksK_all (b:List Ser):chunksK b (picB b).length=chunksB b:=by
 rw [chunksK,List.take_length,picB,picTo_chunks b _ (Nat.le_refl _),List.take_length]
theorem recsK_lens (b:List Ser):∀k,∀r∈recsK b k,r.2.length≤k:=by
 intro k
 induction k with
 | zero=>
  intro r hr
  rw [recsK_zero] at hr
  rw [(List.mem_replicate.1 hr).2]
  simp
 | succ k ih=>
  intro r hr
  by_cases hk:k<(picB b).length
  ·obtain ⟨x,hx⟩:∃x,(picB b)[k]? = some x:=⟨_,List.getElem?_eq_getElem hk⟩
   rw [recsK_step hx] at hr
   rcases List.mem_or_eq_of_mem_set hr with h | h
   ·have:=ih r h;omega
   ·subst h
    rw [List.length_append,List.length_singleton]
    cases hg:(recsK b k)[x.1]? with
    | none=>simp
    | some y=>
     have:=ih y (List.mem_of_getElem? hg)
     simp;omega
  ·have e:recsK b (k+1)=recsK b k:=by rw [recsK,recsK,List.take_of_length_le (by omega),List.take_of_length_le (by omega)]
   rw [e] at hr
   have:=ih r hr;omega
theorem winE_len (l:List Sam):(winE l).length≤l.length:=by rw [winE,List.length_map,List.length_range];omega
theorem picTo_len17 (b:List Ser):∀i,i≤b.length→(picTo b i).length≤samplesB (b.take i):=by
 intro i
 induction i with
 | zero=>intro _;simp [picTo]
 | succ i ih=>
  intro hi
  obtain ⟨s,hs⟩:∃s,b[i]? = some s:=⟨_,List.getElem?_eq_getElem (by omega)⟩
  have h1:=ih (by omega)
  have h2:=winE_len s.2
  rw [picTo_len hs,List.take_add_one,hs,samplesB_append]
  have e:samplesB (some s).toList=s.2.length:=by simp [samplesB]
  rw [e]
  omega
theorem picB_len17 {b:List Ser} (h:Mid b):(picB b).length≤1000000:=by
 have h1:=picTo_len17 b b.length (Nat.le_refl _)
 rw [List.take_length] at h1
 have:=h.sam
 unfold picB
 omega
theorem flatMap_take_le {α:Type} (f:α→List Nat) (l:List α) (k:Nat):((l.take k).flatMap f).length≤(l.flatMap f).length:=by
 have e:(l.flatMap f).length=((l.take k).flatMap f).length+((l.drop k).flatMap f).length:=by rw [← List.length_append,← List.flatMap_append,List.take_append_drop]
 omega
theorem chunksK_len17 {b:List Ser} (h:Mid b) (k:Nat):(chunksK b k).length≤102000000000:=by
 have h1:=flatMap_take_le (fun x:Pic=>(encC x.2).1) (picB b) k
 have h2:=chunksK_all b
 rw [chunksK,List.take_length] at h2
 rw [h2] at h1
 exact Nat.le_trans h1 (chunksAll17 h)
end Go.Proofs.YtdcgbgecbeegmaaGreatDoor
end
section
namespace Go.Proofs.YtdcgbgecbeegmaaGreatDoor
open Go Go.RowKit Go.Shelf
def Joins (N N':Nat→Prop) (W W':World):Prop:=∀j,N' j→N j∨(W.heap.size≤j∧j<W'.heap.size)
def SeqMade {β:Type} (F:Fence) (n:Nat) (P:Program) (g:Nat) (lb:Array Value) (full:List β) (encs:β→Value→Array Value) (Rx:β→Value→World→Prop) (K:Nat→Prop) (w:World):Prop:=
 ∀(l:Nat) (J:Nat→(Nat→Prop)→World→Prop) (W:World),Below w.heap.size w W→
  (∀k N N' W W',J k N W→Below W.heap.size W W'→Joins N N' W W'→J k N' W')→
  (∀k x v N W1,J k N W1→full[k]? = some x→Rx x v W1→YieldAt F (n-1) P l (encs x v) W1 fun e W'=>e = .returned (.bool true)∧J (k+1) N W'∧Mods (fun j=>¬N j) W1 W')→
  J 0 K W→
  CallsIn F n P g (#[.func (.yield l) #[] #[]]++lb) W fun e W'=>(∃v,e = .returned v)∧∃N,J full.length N W'
def madePost (B:Nat) (I:Nat→(Nat→Prop)→World→Prop) (k:Nat) (N:Nat→Prop) (W:World):Exit→Act→World→Prop
 | .normal,_,W'=>KeepsFrom B W W'∧Mods (fun j=>¬N j) W W'∧I (k+1) N W'
 | _,_,_=>False
theorem mods_put {S:Nat→Prop} {w W:World} (h:Mods S w W) {l:Nat} (hl:S l∨w.heap.size≤l) (o:Obj):Mods S w (W.putObj l o):=by
 have hg:=grownBy_putObj' W l o
 exact ⟨hg.os.trans h.os,hg.tape.trans h.tape,hg.output.trans h.output,Nat.le_trans h.size hg.size,fun k hk hs=>(hg.block k (by have:=h.size;omega) (fun e=>by
  cases e
  rcases hl with e | e
  ·exact hs e
  ·omega)).trans (h.block k hk hs)⟩
variable {F:Fence} {n:Nat} {P:Program}
theorem wpIn_rangeFunc_made {β:Type} {g:Operand} {ps:Array Tmp} {assign body:Code} {Q:Exit→Act→World→Prop} {a:Act} {w:World}
  (hro:F.round=none) (h1:1≤n) {gf:Nat} {lb:Array Value} (hg:a.eval g = .func (.func gf) #[] lb) (hFg:F.fn gf) (eg:∀args w,(callFunc gf args).run P w = .ok (.enter gf args) w)
  {full:List β} {encs:β→Value→Array Value} {Rx:β→Value→World→Prop} {K:Nat→Prop} {w0:World} (hseq:SeqMade F (n-1) P gf lb full encs Rx K w0) (hb0:Below w0.heap.size w0 w) (hps:∀x v,(encs x v).size=ps.size)
  (hRx:∀x v W l o o',Rx x v W→W.heap[l]? = some o→o.isCells=false→Rx x v (W.putObj l o'))
  (I:Nat→(Nat→Prop)→World→Prop)
  (hIb:∀k N N' W W',I k N W→Below W.heap.size W W'→Joins N N' W W'→I k N' W')
  (hIp:∀k N W l o o',I k N W→w.heap.size≤l→¬N l→W.heap[l]? = some o→o.isCells=false→I k N (W.putObj l o'))
  (hK:∀k,K k→k<w.heap.size) (h0:I 0 K w) (a₁:β→Value→Act)
  (hassign:∀(l:Nat) (x:β) (v:Value) (W:World) (G:Act→World→Prop),G (a₁ x v) W→
   assign.wpIn (F.inRound l) (n-1-1) P (Exit.then G (fun _ _ _=>False)) { tmps:=(ps.zip (encs x v)).foldl (fun t (p,v)=>t.setIfInBounds p v) a.tmps,defers:=[] } W)
  (hbody:∀(l k:Nat) (x:β) (v:Value) (N:Nat→Prop) (W:World),I k N W→full[k]? = some x→Rx x v W→body.wpIn (F.inRound l) (n-1-1) P (madePost w.heap.size I k N W) (a₁ x v) W)
  (hdone:∀(D:Nat) (N:Nat→Prop) (W:World),w.heap.size≤D→I full.length N W→W.heap[D]? = some (.deferred (some []))→Q .normal { a with defers:={ target:=.collected D,args:=#[] }::a.defers } W) :
  (Code.rangeFunc g ps assign body).wpIn F n P Q a w:=by
 refine wpIn_rangeFunc fun fn hfn=>?_
 rw [hro]
 let rec_:LoopState→Loop:=fun st=>{ state:=st,pending:=none,fn,tmps:=a.tmps,params:=ps,assign,body,defers:=w.heap.size }
 let L:=w.heap.size+1
 let W1:=(w.alloc (.deferred (some []))).alloc (.loop (rec_ .ready))
 have sz:W1.heap.size=w.heap.size+2:=by simp [W1]
 have bw:Below w.heap.size w W1:=((Below.refl _ w).alloc (Nat.le_refl _) _).alloc (by simp) _
 have hL:W1.heap[L]? = some (.loop (rec_ .ready)):=by
  have:=World.alloc_heap_new (w.alloc (.deferred (some []))) (.loop (rec_ .ready))
  rwa [World.size_alloc] at this
 have hD:W1.heap[w.heap.size]? = some (.deferred (some [])):=(Below.heap_alloc _ _ _ (by simp)).trans (World.alloc_heap_new w _)
 refine ⟨L,[{ target:=.collected w.heap.size,args:=#[] }],W1,{ target:=.fn (.func gf) lb,args:=#[.func (.yield L) #[] #[]] },W1,gf,#[.func (.yield L) #[] #[]]++lb,W1,run_enterLoop_outer _ _ _ _ _,?_,?_,?_,fun _=>h1,?_⟩
 ·simp only [resolve,hg];simp [go_sem,L]
 ·intro f' hf';simp [Target.leads] at hf';subst hf';exact hFg
 ·simp [invoke,go_sem,eg]
 let J:Nat→(Nat→Prop)→World→Prop:=fun k N W=>I k N W∧W.heap[L]? = some (.loop (rec_ .ready))∧W.heap[w.heap.size]? = some (.deferred (some []))∧¬N L
 have hJb:∀k N N' W W',J k N W→Below W.heap.size W W'→Joins N N' W W'→J k N' W':=by
  rintro k N N' W W' ⟨i1,i2,i3,i4⟩ hb hj
  have l1:=(Array.getElem?_eq_some_iff.1 i2).1
  have l2:=(Array.getElem?_eq_some_iff.1 i3).1
  refine ⟨hIb _ _ _ _ _ i1 hb hj,(hb.block _ l1).trans i2,(hb.block _ l2).trans i3,fun e=>?_⟩
  rcases hj _ e with f | f
  ·exact i4 f
  ·omega
 have hJ0:J 0 K W1:=⟨hIb _ _ _ _ _ h0 bw (fun j hj=>Or.inl hj),hL,hD,fun e=>by have:=hK _ e;omega⟩
 refine (hseq L J W1 (hb0.trans (bw.mono hb0.size)) hJb ?_ hJ0).mono ?_
 ·rintro k x v N W ⟨i1,i2,i3,i4⟩ hx hr
  have hy:=run_yield (P:=P) (args:=encs x v) i2 (hps x v)
  refine ⟨fn,_,assign,body,hy,roundIn_of_wpIn hfn (hassign _ x v W _ ⟨_,run_beginRound i2 rfl,?_⟩)⟩
  let W2:=W.putObj L (.loop { rec_ .ready with state:=.busy })
  have l1:=(Array.getElem?_eq_some_iff.1 i2).1
  have j2:W2.heap[L]? = some (.loop { rec_ .ready with state:=.busy }):=World.putObj_heap_same l1
  have j3:W2.heap[w.heap.size]? = some (.deferred (some [])):=(World.putObj_heap_other (by simp [L])).trans i3
  refine wpIn_mono (hbody _ k x v N W2 (hIp _ _ _ _ _ _ i1 (by simp [L]) i4 i2 rfl) hx (hRx _ _ _ _ _ _ hr i2 rfl)) ?_
  rintro e a3 W3 hp
  cases e with
  | normal=>
   obtain ⟨p1,p2,p3⟩:=hp
   have e2:=p1.same _ _ (by simp [L]) j2 rfl
   have e3:=p1.same _ _ (Nat.le_refl _) j3 rfl
   have l3:=(Array.getElem?_eq_some_iff.1 e2).1
   have hb:Mods (fun j=>¬N j) W W2:=mods_put (Mods.refl _ W) (Or.inl i4) _
   refine ⟨_,_,run_endRound (P:=P) none e2,rfl,⟨hIp _ _ _ _ _ _ p3 (by simp [L]) i4 e2 rfl,World.putObj_heap_same l3,(World.putObj_heap_other (by simp [L])).trans e3,i4⟩,mods_put (hb.trans p2 (fun _ _ e=>e)) (Or.inl i4) _⟩
  | _=>exact hp.elim
 ·rintro e W2 ⟨⟨v,rfl⟩,N,i1,i2,i3,i4⟩
  exact ⟨none,_,run_endLoop (P:=P) i2 (by simp [rec_]),hdone _ N _ (Nat.le_refl _) (hIp _ _ _ _ _ _ i1 (by simp [L]) i4 i2 rfl) ((World.putObj_heap_other (by simp [L])).trans i3)⟩
end Go.Proofs.YtdcgbgecbeegmaaGreatDoor
end
section
set_option maxRecDepth 100000
namespace Go.Proofs.YtdcgbgecbeegmaaGreatDoor
open Go Go.RowKit Go.Shelf
attribute [local go_sem] Oper.semAt_some
theorem new_parts (p:Option Addr) (m c:Nat) (w:World) (n:Nat) :
  CallsIn Fence.wide n Tryz.prog 98 #[.slice p m c] w fun e w'=>e = .returned (.func (.func 141) #[] #[.pointer (some ⟨w.heap.size,0,none⟩)])∧w'=w.alloc (.cells #[.slice p m c] 22):=by
 refine callsIn_wide.2 ?_
 go_enter Tryz.func98,Tryz.ntmps98
 go_wp2_with fail
 go_ret
 exact ⟨rfl,rfl⟩
structure PaIn (K:Nat→Prop) (J:Nat→(Nat→Prop)→World→Prop) (w0:World) (g:Nat) (bv:Value) (k:Nat) (N:Nat→Prop) (W:World):Prop where
 inv:J k N W
 sub:∀j,K j→N j
 bel:Below w0.heap.size w0 W
 box:W.cell? ⟨g,0,none⟩=some bv
structure PaAt (K:Nat→Prop) (J:Nat→(Nat→Prop)→World→Prop) (w0:World) (g:Nat) (bv:Value) (k:Nat) (N:Nat→Prop) (r:Value) (vs:List Value) (ps:List (List Sam)) (W:World):Prop extends PaIn K J w0 g bv k N W where
 row:Rd W 1 r vs.length vs
 at_:PartsAt W vs ps
 rown:∀j,r.ownBlock=some j→N j
 vown:∀u∈vs,∀j,u.ownBlock=some j→N j
variable {K:Nat→Prop} {J:Nat→(Nat→Prop)→World→Prop} {w0 W W':World} {g k:Nat} {bv r:Value} {N N':Nat→Prop} {vs:List Value} {ps:List (List Sam)}
theorem PaIn.lays (h:PaIn K J w0 g bv k N W) (hJ:∀k N N' W W',J k N W→Below W.heap.size W W'→Joins N N' W W'→J k N' W') (hb:Below W.heap.size W W'):PaIn K J w0 g bv k (fun j=>N j∨(W.heap.size≤j∧j<W'.heap.size)) W':=
 ⟨hJ _ _ _ _ _ h.inv hb (fun _ e=>e),fun j e=>Or.inl (h.sub j e),h.bel.trans (hb.mono h.bel.size),(hb.cell (World.block_lt_of_cell? W _ h.box)).trans h.box⟩
theorem PaAt.went (h:PaAt K J w0 g bv k N r vs ps W) (hK:∀j,j<w0.heap.size∨j=g→K j) (hj:J (k+1) N W') (hm:Mods (fun j=>¬N j) W W'):PaAt K J w0 g bv (k+1) N r vs ps W':=
 ⟨⟨hj,h.sub,h.bel.trans (hm.below h.bel.size (fun j hlt e=>e (h.sub j (hK j (Or.inl hlt))))),hm.cell h.box (fun e=>e (h.sub _ (hK _ (Or.inr rfl))))⟩,
  h.row.mods hm (fun j e f=>f (h.rown j e)),⟨h.at_.1,fun i v p hv hp=>(h.at_.2 i v p hv hp).mods hm (fun j e f=>f (h.vown v (List.mem_of_getElem? hv) j e))⟩,h.rown,h.vown⟩
set_option maxHeartbeats 4000000 in
theorem parts_gives (n:Nat) (hn:1≤n) (g:Nat) (bv:Value) (b:List Ser) (w0 w:World) (hR:RdB w0 bv b) (hs:Mid b) (hb:Below w0.heap.size w0 w) (hg:w.cell? ⟨g,0,none⟩=some bv) :
  SeqMade Fence.wide n Tryz.prog 141 #[.pointer (some ⟨g,0,none⟩)] (picB b) (fun (x:Pic) v=>#[.int .i64 (x.1:Int),v]) (fun x v W=>Rd W 2 v x.2.length (samCells x.2)) (fun j=>j<w0.heap.size∨j=g) w:=by
 intro l J W hW hJ hY h0
 obtain ⟨K,hK⟩:∃K:Nat→Prop,(fun j=>j<w0.heap.size∨j=g)=K:=⟨_,rfl⟩
 rw [hK] at h0
 have HKd:Hid (∀j,j<w0.heap.size∨j=g→K j):=by rw [← hK];exact fun _ e=>e
 clear hK
 have HI0:Hid (PaIn K J w0 g bv 0 K W):=⟨h0,fun _ e=>e,hb.trans (hW.mono hb.size),(hW.cell (World.block_lt_of_cell? w _ hg)).trans hg⟩
 have HR:=Lib.hid hR;have HM:=Lib.hid hs
 have HJ:=Lib.hid hJ;have HY:=Lib.hid hY
 obtain ⟨pb,cb,hv⟩:=hR.shape
 subst hv
 have hni:(b.length:Int)≤20000:=by have:=hs.len;omega
 clear hR hs hb hg hJ hY h0 hW
 have c0:=HI0.out.box
 refine callsIn_of_wp Tryz.func141 rfl trivial ?_ rfl
 simp only [Tryz.ntmps141,List.size_toArray,List.length_cons,List.length_nil,Nat.reduceAdd,Nat.reduceSub,Array.replicate_succ,Array.replicate_zero,List.push_toArray,List.append_toArray,List.nil_append,List.cons_append]
 gi_wp2
 clear c0
 gi_loopw [9] (fun iv wr=>∃(i:Nat) (N:Nat→Prop),i≤b.length∧iv = .int .i64 (i:Int)∧Hid (PaIn K J w0 g (.slice pb b.length cb) (picTo b i).length N wr)) (fun iv _=>b.length-(intOf iv).toNat)
 case atStart=>exact ⟨0,K,Nat.zero_le _,rfl,HI0.out⟩
 case round=>
  obtain ⟨i,N,hi,rfl,HI⟩:=hrel
  clear HI0
  have him:(i:Int)≤20000:=by omega
  by_cases hlt:i<b.length
  ·have hlt':(i:Int)<(b.length:Int):=by omega
   obtain ⟨s,hx⟩:∃s,b[i]? = some s:=⟨_,List.getElem?_eq_getElem hlt⟩
   obtain ⟨blk,off,h1,h2,e,⟨p1,k1,e1⟩,⟨p2,k2,e2⟩,hal⟩:=HR.out.always hx
   subst e
   subst e1
   subst e2
   have HX:=Lib.hid hx
   have HAl:=Lib.hid hal
   obtain ⟨c1,c2,_⟩:=hal wr HI.out.bel
   obtain ⟨w2,hw2⟩:∃w2,w2=wr.alloc (.cells #[.slice p1 s.1.length k1,.slice p2 s.2.length k2] 51):=⟨_,rfl⟩
   have HW:Hid (wr.alloc (.cells #[.slice p1 s.1.length k1,.slice p2 s.2.length k2] 51)=w2):=hw2.symm
   have hB2:Below wr.heap.size wr w2:=by rw [hw2];exact (Below.refl _ wr).alloc (Nat.le_refl _) _
   have HK2:Hid (Blk w2 wr.heap.size [.slice p1 s.1.length k1,.slice p2 s.2.length k2]):=by show Blk _ _ _;rw [hw2];exact Blk.new wr _ _
   have HI2:=Lib.hid (HI.out.lays HJ.out hB2)
   have HSp:=Lib.hid (chunk_splitF (.slice p2 s.2.length k2) s.2 w2 ((hal w2 HI2.out.bel).2.2.2) (HM.out.mem (List.mem_of_getElem? hx)))
   clear hx hal hw2 hB2
   gi_wp2
   rw [HW.out]
   have q1:w2.cell? ⟨wr.heap.size,0,none⟩=some (.slice p1 s.1.length k1):=by rw [HK2.out.cell];rfl
   have q2:w2.cell? ⟨wr.heap.size,1,none⟩=some (.slice p2 s.2.length k2):=by rw [HK2.out.cell];rfl
   clear c1 c2
   gi_wp2_with (refine ⟨trivial,?_⟩;gi_at_call 142;refine (callsIn_wide.2 HSp.out).mono ?_;rintro e w3 ⟨r,vs,rfl,hr,hat,hrf,hvf,hB3⟩;obtain ⟨pr,cr,hrv⟩:=hr.shape;subst hrv)
   have HI3:=Lib.hid (HI2.out.lays HJ.out hB3)
   obtain ⟨N3,hN3⟩:∃N3:Nat→Prop,(fun j=>(N j∨(wr.heap.size≤j∧j<w2.heap.size))∨(w2.heap.size≤j∧j<w3.heap.size))=N3:=⟨_,rfl⟩
   rw [hN3] at HI3
   have hnw:∀j,w2.heap.size≤j∧j<w3.heap.size→N3 j:=fun j hj=>by rw [← hN3];exact Or.inr hj
   rw [partsE_win] at hat
   have HA3:Hid (PaAt K J w0 g (.slice (some ⟨blk,off,none⟩) b.length cb) ((picTo b i).length+0) N3 (.slice pr vs.length cr) vs (winE s.2) w3):=
    ⟨HI3.out,hr,hat,fun j e=>hnw j (hrf j e),fun u hu j e=>hnw j (hvf u hu j e)⟩
   have hvl:vs.length=(s.2.length+119) / 120:=by rw [hat.1,winE,List.length_map,List.length_range]
   have hvm:(vs.length:Int)≤1000000:=by have:=HM.out.mem (List.mem_of_getElem? HX.out);omega
   have HVl:Hid (vs.length=(winE s.2).length):=hat.1
   clear hN3 hnw hr hat hrf hvf hB3 HI3 HI2 HSp hvl HK2 HW q1 q2 HI
   gi_loopw [18] (fun jv wr=>∃(j:Nat),j≤vs.length∧jv = .int .i64 (j:Int)∧Hid (PaAt K J w0 g (.slice (some ⟨blk,off,none⟩) b.length cb) ((picTo b i).length+j) N3 (.slice pr vs.length cr) vs (winE s.2) wr)) (fun jv _=>vs.length-(intOf jv).toNat)
   case atStart=>exact ⟨0,Nat.zero_le _,rfl,HA3.out⟩
   case round=>
    obtain ⟨j,hj,rfl,HA⟩:=hrel
    clear HA3
    have hjm:(j:Int)≤1000000:=by omega
    by_cases hlt2:j<vs.length
    ·have hlt2':(j:Int)<(vs.length:Int):=by omega
     obtain ⟨v,hvj⟩:∃v,vs[j]? = some v:=⟨_,List.getElem?_eq_getElem hlt2⟩
     obtain ⟨p,hpj⟩:∃p,(winE s.2)[j]? = some p:=⟨_,List.getElem?_eq_getElem (by have:=HVl.out;omega)⟩
     obtain ⟨bk,of,c',e,_,_,hc⟩:=HA.out.row.at (fun e=>by rw [e] at hlt2;simp at hlt2)
     simp only [Value.slice.injEq,true_and] at e
     obtain ⟨rfl,rfl⟩:=e
     have hrd:=HA.out.at_.2 j v p hvj hpj
     obtain ⟨pv,cv,hvv⟩:=hrd.shape
     subst hvv
     have c1:=hc j _ hvj
     obtain ⟨fn,tmps,assign,body,hyl,hR⟩:=HY.out _ (i,p) (.slice pv p.length cv) N3 wr HA.out.inv (picB_at HX.out hpj) hrd
     simp only at hyl
     have hRH:=Lib.hid hR
     clear hR hvj hpj hrd hc
     gi_wp2
     refine hRH.out.mono ?_
     rintro e W3 ⟨rfl,hJ3,hm3⟩
     have HA4:Hid (PaAt K J w0 g (.slice (some ⟨blk,off,none⟩) b.length cb) ((picTo b i).length+(j+1)) N3 (.slice (some ⟨bk,of,none⟩) vs.length cr) vs (winE s.2) W3):=HA.out.went HKd.out hJ3 hm3
     clear hJ3 hm3 hRH HA c1
     gi_wp2
     go_roundw
     case rel=>exact ⟨j+1,by omega,by go_num,HA4.out⟩
     case measure=>simp [intOf];omega
    ·have hlt2':¬(j:Int)<(vs.length:Int):=by omega
     have HE:Hid (PaIn K J w0 g (.slice (some ⟨blk,off,none⟩) b.length cb) (picTo b (i+1)).length N3 wr):=by
      show PaIn _ _ _ _ _ _ _ _
      rw [picTo_len HX.out,← HVl.out,show vs.length=j by omega]
      exact HA.out.toPaIn
     clear HA
     gi_wp2
     go_roundw
     case rel=>exact ⟨i+1,N3,by omega,by go_num,HE.out⟩
     case measure=>simp [intOf];omega
  ·have hlt:¬(i:Int)<(b.length:Int):=by omega
   have HE:Hid (PaIn K J w0 g (.slice pb b.length cb) (picB b).length N wr):=by
    have h:=HI.out
    rw [show i=b.length by omega] at h
    exact h
   gi_wp2
   go_end0
   exact ⟨⟨_,rfl⟩,N,HE.out.inv⟩
end Go.Proofs.YtdcgbgecbeegmaaGreatDoor
end
section
set_option maxRecDepth 20000
namespace Go.Proofs.YtdcgbgecbeegmaaGreatDoor
open Go Go.RowKit Go.Shelf
theorem set_sameC {α:Type} {l:List α} {i:Nat} {a:α} (h:l[i]? = some a):l.set i a=l:=by
 refine List.ext_getElem? fun k=>?_
 rw [List.getElem?_set]
 split
 ·next e=>
  subst e
  rw [if_pos (List.getElem?_eq_some_iff.1 h).1,h]
 ·rfl
def MineC (gb gL gc gl:Nat) (sv:Value) (hs:List Hd) (j:Nat):Prop:=j=gb∨j=gL∨j=gc∨j=gl∨sv.ownBlock=some j∨∃h∈hs,h.2.ownBlock=some j
structure CoAt (w:World) (gb gL gc gl:Nat) (bv:Value) (n:Nat) (rs:List Rec) (out:List Nat) (N:Nat→Prop) (W:World) (hs:List Hd) (sv:Value):Prop where
 bel:Below w.heap.size w W
 bb:Blk W gb [bv]
 bL:Blk W gL [.slice (some ⟨gl,0,none⟩) n n]
 bc:Blk W gc [sv]
 row:W.ownsRow w.heap.size 146 2 (.slice (some ⟨gl,0,none⟩) n n) n (two Prod.fst Prod.snd hs)
 len:hs.length=n
 lenr:rs.length=n
 own:W.ownsRow w.heap.size 5 1 sv out.length (u8s out)
 lab:∀(i:Nat) (h:Hd) (r:Rec),hs[i]? = some h→rs[i]? = some r→Rd W 2 h.1 r.1.length (labCells r.1)∧(r.1≠[]→∀j,h.1.ownBlock=some j→j<w.heap.size)
 lens:∀(i:Nat) (h:Hd) (r:Rec),hs[i]? = some h→rs[i]? = some r→W.ownsRow w.heap.size 3 1 h.2 r.2.length (i64s r.2)
 apart:∀(i:Nat) (h:Hd),hs[i]? = some h→∀j,h.2.ownBlock=some j→j≠gb∧j≠gL∧j≠gc∧j≠gl∧sv.ownBlock≠some j
 dis:∀(i k:Nat) (h x:Hd),i≠k→hs[i]? = some h→hs[k]? = some x→∀j,h.2.ownBlock=some j→x.2.ownBlock≠some j
 sv_:∀j,sv.ownBlock=some j→j≠gb∧j≠gL∧j≠gc∧j≠gl
 four:gl≠gb∧gl≠gL∧gl≠gc∧gc≠gb∧gc≠gL
 low:w.heap.size≤gb∧w.heap.size≤gL∧w.heap.size≤gc
 off:∀j,MineC gb gL gc gl sv hs j→¬N j
 nlt:∀j,N j→j<W.heap.size
variable {w W W':World} {gb gL gc gl n:Nat} {bv sv:Value} {rs:List Rec} {out:List Nat} {N N':Nat→Prop} {hs:List Hd}
theorem CoAt.glow (h:CoAt w gb gL gc gl bv n rs out N W hs sv):w.heap.size≤gl:=(h.row.lt gl rfl).1
theorem CoAt.rec_ (h:CoAt w gb gL gc gl bv n rs out N W hs sv) {i:Nat} {x:Hd} (hi:hs[i]? = some x):∃r,rs[i]? = some r:=⟨_,List.getElem?_eq_getElem (by have:=(List.getElem?_eq_some_iff.1 hi).1;rw [h.lenr,← h.len];exact this)⟩
theorem CoAt.mine_lt (h:CoAt w gb gL gc gl bv n rs out N W hs sv) {j:Nat} (hj:MineC gb gL gc gl sv hs j):w.heap.size≤j∧j<W.heap.size:=by
 rcases hj with rfl | rfl | rfl | rfl | e | ⟨x,hx,e⟩
 ·exact ⟨h.low.1,h.bb.lt⟩
 ·exact ⟨h.low.2.1,h.bL.lt⟩
 ·exact ⟨h.low.2.2,h.bc.lt⟩
 ·exact h.row.lt _ rfl
 ·exact h.own.lt j e
 ·obtain ⟨i,hi⟩:=List.getElem?_of_mem hx
  obtain ⟨r,hr⟩:=h.rec_ hi
  exact (h.lens i x r hi hr).lt j e
theorem CoAt.turn {S:Nat→Prop} (h:CoAt w gb gL gc gl bv n rs out N W hs sv) (hm:Mods S W W') (hw:∀j,j<w.heap.size→¬S j) (hS:∀j,MineC gb gL gc gl sv hs j→¬S j) (hN:∀j,MineC gb gL gc gl sv hs j→¬N' j) (hl:∀j,N' j→j<W'.heap.size):CoAt w gb gL gc gl bv n rs out N' W' hs sv where
 bel:=h.bel.trans (hm.below h.bel.size hw)
 bb:=hm.blk h.bb (hS _ (Or.inl rfl))
 bL:=hm.blk h.bL (hS _ (Or.inr (Or.inl rfl)))
 bc:=hm.blk h.bc (hS _ (Or.inr (Or.inr (Or.inl rfl))))
 row:=hm.owns h.row (fun j e=>hS _ (Or.inr (Or.inr (Or.inr (Or.inl (by simpa [Value.ownBlock] using e.symm))))))
 len:=h.len
 lenr:=h.lenr
 own:=hm.owns h.own (fun j e=>hS _ (Or.inr (Or.inr (Or.inr (Or.inr (Or.inl e))))))
 lab:=fun i x r hi hr=>⟨(h.lab i x r hi hr).1.mods' hm (fun ne j e=>hw j ((h.lab i x r hi hr).2 (labCells_ne ne) j e)),(h.lab i x r hi hr).2⟩
 lens:=fun i x r hi hr=>hm.owns (h.lens i x r hi hr) (fun j e=>hS _ (Or.inr (Or.inr (Or.inr (Or.inr (Or.inr ⟨x,List.mem_of_getElem? hi,e⟩))))))
 apart:=h.apart
 dis:=h.dis
 sv_:=h.sv_
 four:=h.four
 low:=h.low
 off:=hN
 nlt:=hl
theorem CoAt.below (h:CoAt w gb gL gc gl bv n rs out N W hs sv) (hb:Below W.heap.size W W'):CoAt w gb gL gc gl bv n rs out N W' hs sv:=h.turn (Mods.of_below hb (fun _=>False)) (fun _ _ e=>e) (fun _ _ e=>e) h.off (fun j e=>Nat.lt_of_lt_of_le (h.nlt j e) hb.size)
theorem CoAt.joins (h:CoAt w gb gL gc gl bv n rs out N W hs sv) (hb:Below W.heap.size W W') (hj:Joins N N' W W'):CoAt w gb gL gc gl bv n rs out N' W' hs sv:=h.turn (Mods.of_below hb (fun _=>False)) (fun _ _ e=>e) (fun _ _ e=>e) (fun j hm e=>by
 rcases hj j e with f | f
 ·exact h.off j hm f
 ·have:=(h.mine_lt hm).2;omega) (fun j e=>by
 rcases hj j e with f | f
 ·exact Nat.lt_of_lt_of_le (h.nlt j f) hb.size
 ·exact f.2)
theorem CoAt.isCells (h:CoAt w gb gL gc gl bv n rs out N W hs sv) {j:Nat} (hj:MineC gb gL gc gl sv hs j) {o:Obj} (ho:W.heap[j]? = some o):o.isCells=true:=by
 have blk:∀{k:Nat} {cs:List Value},Blk W k cs→j=k→o.isCells=true:=fun {k cs} hb e=>by
  subst e
  obtain ⟨t,ht⟩:=hb
  rw [ht] at ho;cases ho;rfl
 rcases hj with e | e | e | e | e | ⟨x,hx,e⟩
 ·exact blk h.bb e
 ·exact blk h.bL e
 ·exact blk h.bc e
 ·subst e
  exact owns_isCells h.row _ o rfl ho
 ·exact owns_isCells h.own _ o e ho
 ·obtain ⟨i,hi⟩:=List.getElem?_of_mem hx
  obtain ⟨r,hr⟩:=h.rec_ hi
  exact owns_isCells (h.lens i x r hi hr) _ o e ho
theorem CoAt.put (h:CoAt w gb gL gc gl bv n rs out N W hs sv) {l:Nat} {o:Obj} (hl:w.heap.size≤l) (ho:W.heap[l]? = some o) (hc:o.isCells=false) (o':Obj):CoAt w gb gL gc gl bv n rs out N (W.putObj l o') hs sv:=
 h.turn (S:=fun j=>j=l) (mods_put (Mods.refl (fun j=>j=l) W) (Or.inl rfl) o') (fun j hj e=>by omega) (fun j hm e=>by subst e;have:=h.isCells hm ho;rw [hc] at this;cases this) h.off (fun j e=>by simpa using h.nlt j e)
theorem CoAt.rdR (h:CoAt w gb gL gc gl bv n rs out N W hs sv):RdR W (.slice (some ⟨gl,0,none⟩) n n) rs:=
 ⟨⟨hs,by rw [h.len];exact Rd.of_owns h.row,h.len.trans h.lenr.symm,fun i x r hi hr=>⟨(h.lab i x r hi hr).1,Rd.of_owns (h.lens i x r hi hr)⟩⟩⟩
theorem CoAt.label (h:CoAt w gb gL gc gl bv n rs out N W hs sv) {i:Nat} {x:Hd} {r:Rec} {lv:Value} {l:List Lab} (hi:hs[i]? = some x) (hr:rs[i]? = some r) (hl:Rd W 2 lv l.length (labCells l)) (hlo:l≠[]→∀j,lv.ownBlock=some j→j<w.heap.size) :
  CoAt w gb gL gc gl bv n (rs.set i (l,r.2)) out N (W.setCell ⟨gl,i*2,none⟩ lv) (hs.set i (lv,x.2)) sv∧Mods (fun j=>j=gl) W (W.setCell ⟨gl,i*2,none⟩ lv):=by
 have hm:Mods (fun j=>j=gl) W (W.setCell ⟨gl,i*2,none⟩ lv):=Mods.set _ _ _ _ (fun _=>rfl)
 have hg:=h.glow
 have hlt:=(List.getElem?_eq_some_iff.1 hi).1
 have hltr:=(List.getElem?_eq_some_iff.1 hr).1
 have mem:∀y∈hs.set i (lv,x.2),∃z∈hs,z.2=y.2:=fun y hy=>by
  rcases List.mem_or_eq_of_mem_set hy with e | e
  ·exact ⟨y,e,rfl⟩
  ·subst e;exact ⟨x,List.mem_of_getElem? hi,rfl⟩
 have get:∀{k:Nat} {y:Hd},(hs.set i (lv,x.2))[k]? = some y→∃z,hs[k]? = some z∧z.2=y.2:=fun {k y} hy=>by
  rw [List.getElem?_set] at hy
  split at hy
  ·next e=>
   subst e
   try rw [if_pos hlt] at hy
   cases hy
   exact ⟨x,hi,rfl⟩
  ·exact ⟨y,hy,rfl⟩
 have hcell:(two Prod.fst Prod.snd hs).set (i*2) lv=two Prod.fst Prod.snd (hs.set i (lv,x.2)):=by
  rw [← two_set]
  have h2:=(two_get (f1:=Prod.fst) (f2:=Prod.snd) hs i x hi).2
  have h3:((two Prod.fst Prod.snd hs).set (i*2) lv)[i*2+1]? = some x.2:=by rw [List.getElem?_set,if_neg (by omega)];exact h2
  exact (set_sameC h3).symm
 refine ⟨⟨h.bel.trans (hm.below h.bel.size (fun j hj e=>by omega)),hm.blk h.bb (fun e=>h.four.1 e.symm),hm.blk h.bL (fun e=>h.four.2.1 e.symm),hm.blk h.bc (fun e=>h.four.2.2.1 e.symm),?_,by rw [List.length_set];exact h.len,by rw [List.length_set];exact h.lenr,hm.owns h.own (fun j e=>(h.sv_ j e).2.2.2),fun k y s hy hs'=>?_,fun k y s hy hs'=>?_,fun k y hy j e=>?_,fun k k' y y' hne hy hy' j e=>?_,h.sv_,h.four,h.low,fun j hj=>?_,fun j e=>by simpa using h.nlt j e⟩,hm⟩
 ·rw [← hcell]
  exact (h.row.stored (i*2) lv).1
 ·rw [List.getElem?_set] at hy hs'
  split at hy
  ·next e=>
   subst e
   try rw [if_pos hlt] at hy
   rw [if_pos rfl,if_pos hltr] at hs'
   cases hy;cases hs'
   exact ⟨hl.mods' hm (fun ne j e=>by have:=hlo (labCells_ne ne) j e;omega),hlo⟩
  ·next e=>
   rw [if_neg e] at hs'
   have h1:=h.lab k y s hy hs'
   exact ⟨h1.1.mods' hm (fun ne j e=>by have:=h1.2 (labCells_ne ne) j e;omega),h1.2⟩
 ·rw [List.getElem?_set] at hy hs'
  split at hy
  ·next e=>
   subst e
   try rw [if_pos hlt] at hy
   rw [if_pos rfl,if_pos hltr] at hs'
   cases hy;cases hs'
   exact hm.owns (h.lens i x r hi hr) (fun j e=>(h.apart i x hi j e).2.2.2.1)
  ·next e=>
   rw [if_neg e] at hs'
   exact hm.owns (h.lens k y s hy hs') (fun j e=>(h.apart k y hy j e).2.2.2.1)
 ·obtain ⟨z,hz,e2⟩:=get hy
  exact h.apart k z hz j (e2 ▸ e)
 ·obtain ⟨z,hz,e2⟩:=get hy
  obtain ⟨z',hz',e2'⟩:=get hy'
  rw [← e2']
  exact h.dis k k' z z' hne hz hz' j (e2 ▸ e)
 ·refine h.off j ?_
  rcases hj with e | e | e | e | e | ⟨y,hy,e⟩
  ·exact Or.inl e
  ·exact Or.inr (Or.inl e)
  ·exact Or.inr (Or.inr (Or.inl e))
  ·exact Or.inr (Or.inr (Or.inr (Or.inl e)))
  ·exact Or.inr (Or.inr (Or.inr (Or.inr (Or.inl e))))
  ·obtain ⟨z,hz,e2⟩:=mem y hy
   exact Or.inr (Or.inr (Or.inr (Or.inr (Or.inr ⟨z,hz,e2 ▸ e⟩))))
theorem CoAt.push (h:CoAt w gb gL gc gl bv n rs out N W hs sv) {i:Nat} {x:Hd} {r:Rec} {cv:Value} {z:Int} {W1:World} (hi:hs[i]? = some x) (hr:rs[i]? = some r)
  (k1:W1.ownsRow 0 3 1 cv (r.2.length+1) (i64s r.2++[.int .i64 z])) (k2:Mods (fun k=>x.2.ownBlock=some k) W W1) (k3:Fresh W.heap.size x.2 cv) :
  CoAt w gb gL gc gl bv n (rs.set i (r.1,r.2++[z])) out N (W1.setCell ⟨gl,i*2+1,none⟩ cv) (hs.set i (x.1,cv)) sv∧Mods (fun j=>j=gl∨x.2.ownBlock=some j) W (W1.setCell ⟨gl,i*2+1,none⟩ cv):=by
 have hs1:Mods (fun j=>j=gl) W1 (W1.setCell ⟨gl,i*2+1,none⟩ cv):=Mods.set _ _ _ _ (fun _=>rfl)
 have hm:Mods (fun j=>j=gl∨x.2.ownBlock=some j) W (W1.setCell ⟨gl,i*2+1,none⟩ cv):=(k2.mono (fun _ _ e=>Or.inr e)).trans hs1 (fun _ _ e=>Or.inl e)
 have hg:=h.glow
 have hlt:=(List.getElem?_eq_some_iff.1 hi).1
 have hltr:=(List.getElem?_eq_some_iff.1 hr).1
 have hap:=h.apart i x hi
 have hxl:=fun j e=>(h.lens i x r hi hr).lt j e
 have hbs:=h.bel.size
 have hgW:gl<W.heap.size:=(h.row.lt gl rfl).2
 have hcv:∀j,cv.ownBlock=some j→w.heap.size≤j∧j≠gb∧j≠gL∧j≠gc∧j≠gl∧sv.ownBlock≠some j:=fun j e=>by
  rcases k3 j e with f | f
  ·exact ⟨(hxl j f).1,hap j f⟩
  ·have q1:=h.bb.lt;have q2:=h.bL.lt;have q3:=h.bc.lt
   exact ⟨by omega,by omega,by omega,by omega,by omega,fun e=>by have:=(h.own.lt j e).2;omega⟩
 have hcv2:∀(k:Nat) (y:Hd),k≠i→hs[k]? = some y→∀j,cv.ownBlock=some j→y.2.ownBlock≠some j:=fun k y hne hy j e f=>by
  rcases k3 j e with g | g
  ·exact h.dis k i y x hne hy hi j f g
  ·obtain ⟨s,hs'⟩:=h.rec_ hy
   have:=((h.lens k y s hy hs').lt j f).2;omega
 have get:∀{k:Nat} {y:Hd},(hs.set i (x.1,cv))[k]? = some y→(k=i∧y=(x.1,cv))∨(k≠i∧hs[k]? = some y):=fun {k y} hy=>by
  rw [List.getElem?_set] at hy
  split at hy
  ·next e=>
   subst e
   try rw [if_pos hlt] at hy
   cases hy
   exact Or.inl ⟨rfl,rfl⟩
  ·next e=>exact Or.inr ⟨fun f=>e f.symm,hy⟩
 have hcell:(two Prod.fst Prod.snd hs).set (i*2+1) cv=two Prod.fst Prod.snd (hs.set i (x.1,cv)):=by
  rw [← two_set]
  have h2:=(two_get (f1:=Prod.fst) (f2:=Prod.snd) hs i x hi).1
  rw [set_sameC h2]
 refine ⟨⟨h.bel.trans (hm.below hbs (fun j hj e=>?_)),hm.blk h.bb (fun e=>?_),hm.blk h.bL (fun e=>?_),hm.blk h.bc (fun e=>?_),?_,by rw [List.length_set];exact h.len,by rw [List.length_set];exact h.lenr,hm.owns h.own (fun j e f=>?_),fun k y s hy hs'=>?_,fun k y s hy hs'=>?_,fun k y hy j e=>?_,fun k k' y y' hne hy hy' j e=>?_,h.sv_,h.four,h.low,fun j hj=>?_,fun j e=>Nat.lt_of_lt_of_le (h.nlt j e) hm.size⟩,hm⟩
 ·rcases e with e | e
  ·omega
  ·have:=(hxl j e).1;omega
 ·rcases e with e | e
  ·exact h.four.1 e.symm
  ·exact (hap _ e).1 rfl
 ·rcases e with e | e
  ·exact h.four.2.1 e.symm
  ·exact (hap _ e).2.1 rfl
 ·rcases e with e | e
  ·exact h.four.2.2.1 e.symm
  ·exact (hap _ e).2.2.1 rfl
 ·rw [← hcell]
  have r1:=k2.owns h.row (fun j e f=>(hap j f).2.2.2.1 (by simpa [Value.ownBlock] using e.symm))
  exact (r1.stored (i*2+1) cv).1
 ·rcases f with f | f
  ·exact (h.sv_ j e).2.2.2 f
  ·exact (hap j f).2.2.2.2 e
 ·have old:∀(s:Rec),hs[k]? = some (if k=i then x else y)→rs[k]? = some s→Rd W 2 (if k=i then x else y).1 s.1.length (labCells s.1)∧(s.1≠[]→∀j,(if k=i then x else y).1.ownBlock=some j→j<w.heap.size):=fun s a b=>h.lab k _ s a b
  have key:∀(u:Value) (l:List Lab),Rd W 2 u l.length (labCells l)→(l≠[]→∀j,u.ownBlock=some j→j<w.heap.size)→Rd (W1.setCell ⟨gl,i*2+1,none⟩ cv) 2 u l.length (labCells l):=fun u l hu ho=>hu.mods' hm (fun ne j e f=>by
   have:=ho (labCells_ne ne) j e
   rcases f with f | f
   ·omega
   ·have:=(hxl j f).1;omega)
  rw [List.getElem?_set] at hs'
  rcases get hy with ⟨rfl,rfl⟩ | ⟨e,hy'⟩
  ·rw [if_pos rfl,if_pos hltr] at hs'
   cases hs'
   obtain ⟨a,c⟩:=h.lab k x r hi hr
   exact ⟨key _ _ a c,c⟩
  ·rw [if_neg (fun f=>e f.symm)] at hs'
   obtain ⟨a,c⟩:=h.lab k y s hy' hs'
   exact ⟨key _ _ a c,c⟩
 ·rw [List.getElem?_set] at hs'
  rcases get hy with ⟨rfl,rfl⟩ | ⟨e,hy'⟩
  ·rw [if_pos rfl,if_pos hltr] at hs'
   cases hs'
   show World.ownsRow _ _ _ _ _ _ _
   rw [List.length_append,i64s_append]
   exact owns_rebase (hs1.owns k1 (fun j e f=>(hcv j e).2.2.2.2.1 f)) (fun j e=>(hcv j e).1)
  ·rw [if_neg (fun f=>e f.symm)] at hs'
   exact hm.owns (h.lens k y s hy' hs') (fun j a b=>by
    rcases b with b | b
    ·exact (h.apart k y hy' j a).2.2.2.1 b
    ·exact h.dis k i y x e hy' hi j a b)
 ·rcases get hy with ⟨rfl,rfl⟩ | ⟨_,hy'⟩
  ·exact (hcv j e).2
  ·exact h.apart k y hy' j e
 ·rcases get hy with ⟨rfl,rfl⟩ | ⟨a,hy1⟩
  ·rcases get hy' with ⟨rfl,rfl⟩ | ⟨b,hy2⟩
   ·exact absurd rfl hne
   ·exact hcv2 k' y' b hy2 j e
  ·rcases get hy' with ⟨rfl,rfl⟩ | ⟨b,hy2⟩
   ·exact fun f=>hcv2 k y a hy1 j f e
   ·exact h.dis k k' y y' hne hy1 hy2 j e
 ·have up:MineC gb gL gc gl sv hs j→¬N j:=h.off j
  rcases hj with e | e | e | e | e | ⟨y,hy,e⟩
  ·exact up (Or.inl e)
  ·exact up (Or.inr (Or.inl e))
  ·exact up (Or.inr (Or.inr (Or.inl e)))
  ·exact up (Or.inr (Or.inr (Or.inr (Or.inl e))))
  ·exact up (Or.inr (Or.inr (Or.inr (Or.inr (Or.inl e)))))
  ·rcases List.mem_or_eq_of_mem_set hy with f | f
   ·exact up (Or.inr (Or.inr (Or.inr (Or.inr (Or.inr ⟨y,f,e⟩)))))
   ·subst f
    rcases k3 j e with g | g
    ·exact up (Or.inr (Or.inr (Or.inr (Or.inr (Or.inr ⟨x,List.mem_of_getElem? hi,g⟩)))))
    ·exact fun f=>by have:=h.nlt j f;omega
theorem CoAt.extend (h:CoAt w gb gL gc gl bv n rs out N W hs sv) {l:List Nat} {sv':Value} {W1:World}
  (k1:W1.ownsRow 0 5 1 sv' (out.length+l.length) (u8s out++u8s l)) (k2:Mods (fun k=>sv.ownBlock=some k) W W1) (k3:Fresh W.heap.size sv sv') :
  CoAt w gb gL gc gl bv n rs (out++l) N (W1.setCell ⟨gc,0,none⟩ sv') hs sv'∧Mods (fun j=>j=gc∨sv.ownBlock=some j) W (W1.setCell ⟨gc,0,none⟩ sv'):=by
 have hs1:Mods (fun j=>j=gc) W1 (W1.setCell ⟨gc,0,none⟩ sv'):=Mods.set _ _ _ _ (fun _=>rfl)
 have hm:Mods (fun j=>j=gc∨sv.ownBlock=some j) W (W1.setCell ⟨gc,0,none⟩ sv'):=(k2.mono (fun _ _ e=>Or.inr e)).trans hs1 (fun _ _ e=>Or.inl e)
 have hbs:=h.bel.size
 have q1:=h.bb.lt;have q2:=h.bL.lt;have q3:=h.bc.lt
 have hgW:gl<W.heap.size:=(h.row.lt gl rfl).2
 have hl:=h.low
 have hnew:∀j,sv'.ownBlock=some j→w.heap.size≤j∧j≠gb∧j≠gL∧j≠gc∧j≠gl:=fun j e=>by
  rcases k3 j e with f | f
  ·exact ⟨(h.own.lt j f).1,h.sv_ j f⟩
  ·exact ⟨by omega,by omega,by omega,by omega,by omega⟩
 have hnx:∀(k:Nat) (y:Hd),hs[k]? = some y→∀j,y.2.ownBlock=some j→sv'.ownBlock≠some j:=fun k y hy j e f=>by
  rcases k3 j f with g | g
  ·exact (h.apart k y hy j e).2.2.2.2 g
  ·obtain ⟨s,hs'⟩:=h.rec_ hy
   have:=((h.lens k y s hy hs').lt j e).2;omega
 refine ⟨⟨h.bel.trans (hm.below hbs (fun j hj e=>?_)),hm.blk h.bb (fun e=>?_),hm.blk h.bL (fun e=>?_),?_,hm.owns h.row (fun j a b=>?_),h.len,h.lenr,?_,fun k y s hy hs'=>⟨(h.lab k y s hy hs').1.mods' hm (fun ne j a b=>?_),(h.lab k y s hy hs').2⟩,fun k y s hy hs'=>hm.owns (h.lens k y s hy hs') (fun j a b=>?_),fun k y hy j e=>?_,h.dis,fun j e=>(hnew j e).2,h.four,h.low,fun j hj=>?_,fun j e=>Nat.lt_of_lt_of_le (h.nlt j e) hm.size⟩,hm⟩
 ·rcases e with e | e
  ·omega
  ·have:=(h.own.lt j e).1;omega
 ·rcases e with e | e
  ·exact h.four.2.2.2.1 e.symm
  ·exact (h.sv_ _ e).1 rfl
 ·rcases e with e | e
  ·exact h.four.2.2.2.2 e.symm
  ·exact (h.sv_ _ e).2.1 rfl
 ·have b1:=k2.blk h.bc (fun e=>(h.sv_ _ e).2.2.1 rfl)
  simpa using b1.set 0 sv'
 ·have a':j=gl:=by simpa [Value.ownBlock] using a.symm
  rcases b with b | b
  ·exact h.four.2.2.1 (a' ▸ b)
  ·exact (h.sv_ j b).2.2.2 a'
 ·rw [List.length_append,u8s_append]
  exact owns_rebase (hs1.owns k1 (fun j e f=>(hnew j e).2.2.2.1 f)) (fun j e=>(hnew j e).1)
 ·have:=(h.lab k y s hy hs').2 (labCells_ne ne) j a
  rcases b with b | b
  ·omega
  ·have:=(h.own.lt j b).1;omega
 ·rcases b with b | b
  ·exact (h.apart k y hy j a).2.2.1 b
  ·exact (h.apart k y hy j a).2.2.2.2 b
 ·have a:=h.apart k y hy j e
  exact ⟨a.1,a.2.1,a.2.2.1,a.2.2.2.1,hnx k y hy j e⟩
 ·have up:MineC gb gL gc gl sv hs j→¬N j:=h.off j
  rcases hj with e | e | e | e | e | e
  ·exact up (Or.inl e)
  ·exact up (Or.inr (Or.inl e))
  ·exact up (Or.inr (Or.inr (Or.inl e)))
  ·exact up (Or.inr (Or.inr (Or.inr (Or.inl e))))
  ·rcases k3 j e with g | g
   ·exact up (Or.inr (Or.inr (Or.inr (Or.inr (Or.inl g)))))
   ·exact fun f=>by have:=h.nlt j f;omega
  ·exact up (Or.inr (Or.inr (Or.inr (Or.inr (Or.inr e)))))
end Go.Proofs.YtdcgbgecbeegmaaGreatDoor
end
section
set_option maxRecDepth 20000
namespace Go.Proofs.YtdcgbgecbeegmaaGreatDoor
open Go Go.RowKit
structure WriterIn (w:World) (p:Nat) (v:Value) (bits:List Bool):Prop where
 blk:Blk w p [.int .i64 bits.length,v]
 own:w.ownsRow 0 5 1 v (pack bits).length (u8s (pack bits))
 ne:v.ownBlock≠some p
structure Upd (w w':World) (p:Nat) (v v':Value):Prop where
 mods:Mods (fun k=>k=p∨v.ownBlock=some k) w w'
 fresh:Fresh w.heap.size v v'
theorem Upd.refl (w:World) (p:Nat) (v:Value):Upd w w p v v:=⟨Mods.refl _ _,Fresh.refl _ _⟩
theorem Upd.trans {a b c:World} {p:Nat} {u v x:Value} (h:Upd a b p u v) (k:Upd b c p v x):Upd a c p u x:=
 ⟨h.mods.trans k.mods (fun j hj e=>by
  rcases e with e | e
  ·exact Or.inl e
  ·rcases h.fresh j e with e | e
   ·exact Or.inr e
   ·omega),h.fresh.trans k.fresh h.mods.size⟩
theorem shift_any (n:Int) (w:World) (h0:0≤n) (h1:n≤9223372036854775807):Calls Tryz.prog 224 #[.int .i64 n] w fun e w'=>e = .returned (.int .i64 (7-n % 8))∧w'=w:=by
 go_enter Tryz.func224,Tryz.ntmps224
 go_wp2
 go_ret
 exact ⟨rfl,rfl⟩
def PushPost (p:Nat) (v:Value) (bits:List Bool) (b:Bool) (w w':World):Prop:=∃v',WriterIn w' p v' (bits++[b])∧Upd w w' p v v'
theorem pushed_old {w:World} {p g m cap:Nat} {bits:List Bool} (b:Bool) (h:WriterIn w p (.slice (some ⟨g,0,none⟩) m cap) bits) (hr:bits.length % 8≠0) (y:Int) (hy:y=((byteOf (bits++[b]) (bits.length / 8):Nat):Int)) :
  PushPost p (.slice (some ⟨g,0,none⟩) m cap) bits b w (((w.setCell ⟨g,bits.length / 8,none⟩ (.int .u8 y)).setCell ⟨p,0,none⟩ (.int .i64 (bits.length+1))).drew):=by
 subst hy
 have hgp:g≠p:=fun e=>h.ne (by simp [Value.ownBlock,e])
 have hm:m=(pack bits).length:=by
  rcases owns_cases h.own with ⟨e,_⟩ | ⟨g',c',e,_⟩
  ·simp at e
  ·simp at e;exact e.2.1
 subst hm
 have hst:=(h.own.stored (bits.length / 8) (.int .u8 ((byteOf (bits++[b]) (bits.length / 8):Nat):Int))).1
 rw [u8s_set,← pack_push_old bits b hr] at hst
 have hl:(pack (bits++[b])).length=(pack bits).length:=by simp [pack_length];omega
 refine ⟨.slice (some ⟨g,0,none⟩) (pack bits).length cap,⟨?_,?_,h.ne⟩,⟨?_,Fresh.refl _ _⟩⟩
 ·have:=(h.blk.set_other (a:=⟨g,bits.length / 8,none⟩) (Ne.symm hgp) (.int .u8 ((byteOf (bits++[b]) (bits.length / 8):Nat):Int))).set 0 (.int .i64 (bits.length+1))
  exact Blk.drew (by simpa using this)
 ·rw [hl]
  exact (Mods.set (fun k=>k=p) _ ⟨p,0,none⟩ _ (fun _=>rfl)).owns hst (fun k hk e=>h.ne (by rw [← e];exact hk))
 ·exact ((Mods.set _ _ _ _ (fun _=>Or.inr rfl)).trans (Mods.set (fun k=>k=p∨k=g) _ ⟨p,0,none⟩ _ (fun _=>Or.inl rfl)) (fun j _ e=>by
   rcases e with e | e
   ·exact Or.inl e
   ·exact Or.inr (by simp [Value.ownBlock,e]))).trans (Mods.drew (fun _=>False) _) (fun _ _ e=>e.elim)
set_option maxHeartbeats 400000 in
theorem push_old (p g m cap:Nat) (bs:List Bool) (b:Bool) (c:Int) (w:World) (h:WriterIn w p (.slice (some ⟨g,0,none⟩) m cap) bs) (hb:bs.length<1125899906842624) (hr:bs.length % 8≠0)
  (hc:c=(b.toNat:Int)):Calls Tryz.prog 181 #[.pointer (some ⟨p,0,none⟩),.int .u8 c] w fun e w'=>e = .returned (.tuple #[])∧PushPost p (.slice (some ⟨g,0,none⟩) m cap) bs b w w':=by
 have hgp:g≠p:=fun e=>h.ne (by simp [Value.ownBlock,e])
 have hm:m=(bs.length+7) / 8:=by
  rcases owns_cases h.own with ⟨e,_⟩ | ⟨g',c',e,_⟩
  ·simp at e
  ·simp at e;rw [e.2.1,pack_length]
 have h0:w.cell? ⟨p,0,none⟩=some (.int .i64 bs.length):=by rw [h.blk.cell];rfl
 have h1:w.cell? ⟨p,1,none⟩=some (.slice (some ⟨g,0,none⟩) m cap):=by rw [h.blk.cell];rfl
 have f0:w.frozen? ⟨p,0,none⟩=false:=h.blk.free 0
 have hg:w.cell? ⟨g,bs.length / 8,none⟩=some (.int .u8 ((byteOf bs (bs.length / 8):Nat):Int)):=by
  have hown:=h.own
  rw [pack_length,← hm] at hown
  rw [hown.cellAt _ (by omega),u8s,List.getElem?_map,pack_get _ _ (by omega)];rfl
 have fg:w.frozen? ⟨g,bs.length / 8,none⟩=false:=by
  have hown:=h.own
  rw [pack_length,← hm] at hown
  exact hown.frozenAt _
 have hor:=or_bit bs b ((byteOf bs (bs.length / 8):Nat):Int) (c*2 ^ (7-bs.length % 8) % 256) rfl (by
  have hb1:b.toNat≤1:=by cases b<;>simp
  have hp:2 ^ (7-bs.length % 8)≤2 ^ 7:=Nat.pow_le_pow_right (by omega) (by omega)
  have hx:b.toNat*2 ^ (7-bs.length % 8)<256:=by
   have:=Nat.mul_le_mul hb1 hp
   omega
  have e:(b.toNat:Int)*2 ^ (7-bs.length % 8)=((b.toNat*2 ^ (7-bs.length % 8):Nat):Int):=by simp
  rw [hc,e]
  omega)
 have Hor:=Lib.hid hor;clear hor
 have PP:=fun y hy=>pushed_old (w:=w) b h hr y hy
 have HP:=Lib.hid PP;clear PP
 clear h
 generalize hY:((byteOf (bs++[b]) (bs.length / 8):Nat):Int)=Y at *
 generalize hK:((byteOf bs (bs.length / 8):Nat):Int)=K at *
 clear hY hK
 generalize bs.length=n at *
 have hne:((n:Int) % 8 == 0)=false:=by rw [beq_eq_false_iff_ne];omega
 have hlt:(n:Int) / 8<(m:Int):=by omega
 have hge:0≤(n:Int) / 8:=by omega
 have hw1:IntKind.i64.wrap ((n:Int) / 8)=(n:Int) / 8:=IntWalk.i64_in _ (by omega)
 have hs0:(0:Int)≤7-(n:Int) % 8:=by omega
 have hs1:7-(n:Int) % 8<8:=by omega
 have hd:((n:Int) / 8).toNat=n / 8:=by omega
 clear hm hc
 go_enter Tryz.func181,Tryz.ntmps181
 go_wp2_with fail
 go_still_tail 22,(by kernel_rfl)
 still_call (shift_any _ _ (by omega) (by omega))
 repeat still_step
 refine wpStill_nil ?_
 change wpList _ _ _ _ _ w.drew
 go_wp2
 go_end0
 exact ⟨rfl,HP.out _ Hor.out⟩
theorem pushed_new {w w1:World} {p g m cap:Nat} {v:Value} {bits:List Bool} (b:Bool) (h:WriterIn w p v bits) (hr:bits.length % 8=0) (hb:Blk w1 p [.int .i64 bits.length,v])
  (ho:w1.ownsRow 0 5 1 (.slice (some ⟨g,0,none⟩) m cap) ((pack bits).length+1) (u8s (pack bits)++[.int .u8 0])) (hm:Mods (fun k=>v.ownBlock=some k) w w1)
  (hf:Fresh w.heap.size v (.slice (some ⟨g,0,none⟩) m cap)) (y:Int) (hy:y=((b.toNat*128:Nat):Int)) :
  PushPost p v bits b w ((((w1.setCell ⟨p,1,none⟩ (.slice (some ⟨g,0,none⟩) m cap)).setCell ⟨g,bits.length / 8,none⟩ (.int .u8 y)).setCell ⟨p,0,none⟩ (.int .i64 (bits.length+1))).drew):=by
 subst hy
 have hgp:g≠p:=fun e=>by
  rcases hf g rfl with h1 | h1
  ·exact h.ne (by rw [h1,e])
  ·have:=h.blk.lt;omega
 have hm':m=(pack bits).length+1:=by
  rcases owns_cases ho with ⟨e,_⟩ | ⟨g',c',e,_⟩
  ·simp at e
  ·simp at e;exact e.2.1
 subst hm'
 have hq:(pack bits).length=bits.length / 8:=by rw [pack_length];omega
 have e1:u8s (pack bits)++[.int .u8 0]=u8s (pack bits++[0]):=by rw [u8s_append];rfl
 have e2:(pack bits++[0]).set (bits.length / 8) (b.toNat*128)=pack (bits++[b]):=by
  rw [pack_push_new bits b hr,List.set_append_right _ _ (by omega),hq];simp
 have ho1:=(Mods.set (fun k=>k=p) w1 ⟨p,1,none⟩ (.slice (some ⟨g,0,none⟩) ((pack bits).length+1) cap) (fun _=>rfl)).owns ho (fun k hk e=>by simp [Value.ownBlock] at hk;omega)
 have hst:=(ho1.stored (bits.length / 8) (.int .u8 ((b.toNat*128:Nat):Int))).1
 rw [e1,u8s_set,e2] at hst
 have hl:(pack (bits++[b])).length=(pack bits).length+1:=by simp [pack_length];omega
 have hb1:=(((hb.set 1 (.slice (some ⟨g,0,none⟩) ((pack bits).length+1) cap)).set_other (a:=⟨g,bits.length / 8,none⟩) (Ne.symm hgp) (.int .u8 ((b.toNat*128:Nat):Int))).set 0 (.int .i64 (bits.length+1)))
 refine ⟨.slice (some ⟨g,0,none⟩) ((pack bits).length+1) cap,⟨?_,?_,?_⟩,⟨?_,hf⟩⟩
 ·exact Blk.drew (by simpa using hb1)
 ·rw [hl]
  exact (Mods.set (fun k=>k=p) _ ⟨p,0,none⟩ _ (fun _=>rfl)).owns hst (fun k hk e=>by simp [Value.ownBlock] at hk;omega)
 ·simp [Value.ownBlock];exact hgp
 ·have hgs:∀j,j<w.heap.size→j=g→(j=p∨v.ownBlock=some j):=fun j hj e=>by
   rcases hf g rfl with h1 | h1
   ·exact Or.inr (by rw [e];exact h1)
   ·omega
  exact ((((hm.mono (fun j _ e=>Or.inr e)).trans (Mods.set (fun k=>k=p) _ ⟨p,1,none⟩ _ (fun _=>rfl)) (fun j _ e=>Or.inl e)).trans (Mods.set (fun k=>k=g) _ ⟨g,_,none⟩ _ (fun _=>rfl)) (fun j hj e=>hgs j hj e)).trans
   (Mods.set (fun k=>k=p) _ ⟨p,0,none⟩ _ (fun _=>rfl)) (fun j _ e=>Or.inl e)).trans (Mods.drew (fun _=>False) _) (fun _ _ e=>e.elim)
set_option maxHeartbeats 1000000 in
theorem push_new (p:Nat) (v:Value) (bs:List Bool) (b:Bool) (c:Int) (w:World) (h:WriterIn w p v bs) (hb:bs.length<1125899906842624) (hr:bs.length % 8=0)
  (hc:c=(b.toNat:Int)):Calls Tryz.prog 181 #[.pointer (some ⟨p,0,none⟩),.int .u8 c] w fun e w'=>e = .returned (.tuple #[])∧PushPost p v bs b w w':=by
 have h0:w.cell? ⟨p,0,none⟩=some (.int .i64 bs.length):=by rw [h.blk.cell];rfl
 have h1:w.cell? ⟨p,1,none⟩=some v:=by rw [h.blk.cell];rfl
 have hpl:=h.blk.lt
 obtain ⟨i0,hi,hz0,hz1,hz2⟩:=info_parts Tryz.infoU8
 have hmL:(pack bs).length+1≤maxLen∧((pack bs).length+1)*1≤140737488355328:=by rw [pack_length];unfold maxLen;omega
 have H:=Lib.hid h;clear h
 have hne:((bs.length:Int) % 8 == 0)=true:=by rw [beq_iff_eq];omega
 have hnn:(bs.length:Int)≤1125899906842624:=by omega
 go_enter Tryz.func181,Tryz.ntmps181
 go_wp2_with (at_builtin;refine wpList_app _ rfl _ _ 25 rfl 5 i0 (.int .u8 0) 1 1 Tryz.underlying25 hi hz0 hz1 hz2 rfl (by decide) _ _ _ rfl (H.out.own.alloc _) ⟨w.heap.size,0,none⟩ 1 1 [.int .u8 0] rfl rfl ?c1 ?c2 ?c3 ?c4 ?_)
 case c1=>exact news_one _ _ _
 case c2=>intro u hu;simp at hu;subst hu;rfl
 case c3=>exact hmL.1
 case c4=>exact hmL.2
 intro v' w1 hown hmods hfresh
 have hex:∃g cap,v' = .slice (some ⟨g,0,none⟩) ((pack bs).length+1) cap:=by
  rcases owns_cases hown with ⟨_,e,_⟩ | ⟨g,cap,e,_⟩
  ·omega
  ·exact ⟨g,cap,e⟩
 obtain ⟨g,cap,hv⟩:=hex
 rw [hv]
 rw [hv] at hown hfresh
 clear hv
 have hb1:Blk w1 p [.int .i64 bs.length,v]:=hmods.blk (H.out.blk.alloc _) H.out.ne
 have hmods':Mods (fun k=>v.ownBlock=some k) w w1:=(Mods.alloc _ w _).trans hmods (fun _ _ e=>e)
 have hfr:Fresh w.heap.size v (.slice (some ⟨g,0,none⟩) ((pack bs).length+1) cap):=fun k hk=>by
  rcases hfresh k hk with e | e
  ·exact Or.inl e
  ·exact Or.inr (by omega)
 have PP:=fun y hy=>pushed_new (w:=w) b H.out hr hb1 hown hmods' hfr y hy
 have hgp:g≠p:=fun e=>by
  rcases hfr g rfl with h1 | h1
  ·exact H.out.ne (by rw [h1,e])
  ·omega
 have hq:(pack bs).length=bs.length / 8:=by rw [pack_length];omega
 have j1:w1.cell? ⟨p,1,none⟩=some v:=by rw [hb1.cell];rfl
 have jf:w1.frozen? ⟨p,1,none⟩=false:=hb1.free 1
 have hb2:=hb1.set 1 (.slice (some ⟨g,0,none⟩) ((pack bs).length+1) cap)
 have ho2:=(Mods.set (fun k=>k=p) w1 ⟨p,1,none⟩ (.slice (some ⟨g,0,none⟩) ((pack bs).length+1) cap) (fun _=>rfl)).owns hown (fun k hk e=>by simp [Value.ownBlock] at hk;omega)
 have k0:(w1.setCell ⟨p,1,none⟩ (.slice (some ⟨g,0,none⟩) ((pack bs).length+1) cap)).cell? ⟨p,0,none⟩=some (.int .i64 bs.length):=by rw [hb2.cell];rfl
 have k1:(w1.setCell ⟨p,1,none⟩ (.slice (some ⟨g,0,none⟩) ((pack bs).length+1) cap)).cell? ⟨p,1,none⟩=some (.slice (some ⟨g,0,none⟩) ((pack bs).length+1) cap):=by rw [hb2.cell];rfl
 have k2:(w1.setCell ⟨p,1,none⟩ (.slice (some ⟨g,0,none⟩) ((pack bs).length+1) cap)).cell? ⟨g,bs.length / 8,none⟩=some (.int .u8 0):=by
  rw [ho2.cellAt _ (by omega),List.getElem?_append_right (by rw [u8s_length];omega),u8s_length,hq,Nat.sub_self];rfl
 have f0:(w1.setCell ⟨p,1,none⟩ (.slice (some ⟨g,0,none⟩) ((pack bs).length+1) cap)).frozen? ⟨p,0,none⟩=false:=hb2.free 0
 have f2:(w1.setCell ⟨p,1,none⟩ (.slice (some ⟨g,0,none⟩) ((pack bs).length+1) cap)).frozen? ⟨g,bs.length / 8,none⟩=false:=ho2.frozenAt _
 have hbit:bits BinOp.or IntKind.u8 0 ((b.toNat:Int)*128 % 256)=((b.toNat*128:Nat):Int):=by cases b<;>decide +kernel
 have HB:=Lib.hid hbit;clear hbit
 have HP:=Lib.hid PP;clear PP
 have hmq:bs.length / 8<(pack bs).length+1:=by omega
 have Hq:=Lib.hid hq;clear hq
 have K0:=Lib.hid k0;have K1:=Lib.hid k1;have K2:=Lib.hid k2;have F0:=Lib.hid f0;have F2:=Lib.hid f2
 clear hown hmods hfresh hmods' hfr hb1 h0 h1 hb2 ho2 k0 k1 k2 f0 f2
 generalize bs.length=n at *
 generalize (pack bs).length+1=m at *
 have hlt:(n:Int) / 8<(m:Int):=by omega
 have hge:0≤(n:Int) / 8:=by omega
 have hw1:IntKind.i64.wrap ((n:Int) / 8)=(n:Int) / 8:=IntWalk.i64_in _ (by omega)
 have hd:((n:Int) / 8).toNat=n / 8:=by omega
 go_wp2_with fail
 generalize w1.setCell ⟨p,1,none⟩ (.slice (some ⟨g,0,none⟩) m cap)=w2 at K0 K1 K2 F0 F2 HP ⊢
 have k0:=K0.out;have k1:=K1.out;have k2:=K2.out;have f0:=F0.out;have f2:=F2.out
 clear K0 K1 K2 F0 F2
 go_still_tail 22,(by kernel_rfl)
 still_call (shift_any _ _ (by omega) (by omega))
 repeat still_step
 refine wpStill_nil ?_
 change wpList _ _ _ _ _ w2.drew
 go_wp2
 go_end0
 exact ⟨rfl,HP.out _ HB.out⟩
theorem push_any (p:Nat) (v:Value) (bs:List Bool) (b:Bool) (c:Int) (w:World) (h:WriterIn w p v bs) (hb:bs.length<1125899906842624)
  (hc:c=(b.toNat:Int)):Calls Tryz.prog 181 #[.pointer (some ⟨p,0,none⟩),.int .u8 c] w fun e w'=>e = .returned (.tuple #[])∧PushPost p v bs b w w':=by
 by_cases hr:bs.length % 8=0
 ·exact push_new p v bs b c w h hb hr hc
 ·rcases owns_cases h.own with ⟨_,e,_⟩ | ⟨g,cap,e,_⟩
  ·rw [pack_length] at e;omega
  ·subst e;exact push_old p g _ cap bs b c w h hb hr hc
def BitsPost (p:Nat) (v:Value) (out:List Bool) (w w':World):Prop:=∃v',WriterIn w' p v' out∧Upd w w' p v v'
theorem bit_val (x k:Nat):bits BinOp.and IntKind.u8 ((x:Int) / 2 ^ k % 256) 1=((x.testBit k).toNat:Int):=by
 have e:(x:Int) / 2 ^ k % 256=((x / 2 ^ k % 256:Nat):Int):=by simp
 rw [e]
 have:=bits_mask .u8 8 (by decide) wraps_u8 1 (by decide) ((x / 2 ^ k % 256:Nat):Int) (Int.natCast_nonneg _) (by have:x / 2 ^ k % 256<256:=Nat.mod_lt _ (by omega);simp;omega)
 simp only [Int.reduceSub,Int.pow_one] at this
 rw [this]
 rw [testBit_toNat]
 omega
set_option maxHeartbeats 400000 in
theorem wbits (p:Nat) (v:Value) (bs:List Bool) (x n:Nat) (w:World) (h:WriterIn w p v bs) (hn:n≤64) (hb:bs.length+64≤1125899906842624) :
  Calls Tryz.prog 137 #[.pointer (some ⟨p,0,none⟩),.int .u64 x,.int .i64 n] w fun e w'=>e = .returned (.int .i64 0)∧BitsPost p v (bs++fieldBits x n) w w':=by
 go_enter Tryz.func137,Tryz.ntmps137
 go_wp2
 go_loopw [17] (fun c wr=>∃(k:Nat) (v':Value),k≤n∧c = .int .i64 k∧WriterIn wr p v' (bs++(fieldBits x n).take k)∧Upd w wr p v v') (fun c _=>n-(intOf c).toNat)
 case atStart=>exact ⟨0,v,Nat.zero_le _,rfl,by simpa using h,Upd.refl _ _ _⟩
 case round=>
  obtain ⟨k,v',hk,rfl,hW,hU⟩:=hrel
  by_cases hlt:k<n
  ·go_wp2_with fail
   refine (push_any p v' _ (x.testBit (n-1-k)) _ _ hW (by rw [List.length_append,List.length_take,fieldBits_length];omega) (bit_val x (n-1-k))).mono ?_
   rintro e w' ⟨rfl,v2,hW2,hU2⟩
   have HR:Hid (BitsPost p v (bs++(fieldBits x n).take (k+1)) w w'):=⟨v2,by rw [fieldBits_take_succ x n k hlt,← List.append_assoc];exact hW2,hU.trans hU2⟩
   clear hW hU hW2 hU2
   go_wp2
   go_roundw
   case rel=>
    obtain ⟨v2,hW2,hU2⟩:=HR.out
    exact ⟨k+1,v2,by omega,by go_num,hW2,hU2⟩
   case measure=>simp [intOf];omega
  ·go_wp2
   go_ret
   obtain rfl:k=n:=by omega
   exact ⟨rfl,v',by rwa [List.take_of_length_le (by rw [fieldBits_length];omega)] at hW,hU⟩
theorem new_writer (w:World):Calls Tryz.prog 136 #[] w fun e w'=>e = .returned (.pointer (some ⟨w.heap.size,0,none⟩))∧WriterIn w' w.heap.size (.slice none 0 0) []∧Below w.heap.size w w':=by
 go_enter Tryz.func136,Tryz.ntmps136
 go_wp2
 go_ret
 exact ⟨rfl,⟨Blk.new _ _ _,World.ownsRow_nil _ _ _ _,by simp [Value.ownBlock]⟩,(Below.refl _ _).alloc (Nat.le_refl _) _⟩
theorem WriterIn.mods {S:Nat→Prop} {w w':World} {p:Nat} {v:Value} {bs:List Bool} (h:WriterIn w p v bs) (hm:Mods S w w') (hp:¬S p) (hv:∀k,v.ownBlock=some k→¬S k):WriterIn w' p v bs:=
 ⟨hm.blk h.blk hp,hm.owns h.own hv,h.ne⟩
theorem WriterIn.below {w w':World} {p:Nat} {v:Value} {bs:List Bool} (h:WriterIn w p v bs) (hb:Below w.heap.size w w'):WriterIn w' p v bs:=h.mods (Mods.of_below hb (fun _=>False)) (fun e=>e) (fun _ _ e=>e)
set_option maxHeartbeats 400000 in
theorem clone_any (v:Value) (n:Nat) (vs:List Value) (w:World) (h:Rd w 1 v n vs) (h1:∀u∈vs,u.oneCell'=true) (hn:n≤140737488355328) :
  Calls Tryz.prog 193 #[v] w fun e w'=>∃r,e = .returned r∧Made w w' 5 1 r n vs:=by
 obtain ⟨i0,hi,hz0,hz1,hz2⟩:=info_parts Tryz.infoU8
 obtain ⟨p,c,rfl,hl,hc1,hc2,hnil,hcell⟩:=h
 have hmax:n≤maxLen:=by unfold maxLen;omega
 cases p with
 | none=>
  obtain ⟨rfl,rfl⟩:=hnil rfl
  obtain rfl:vs=[]:=List.eq_nil_of_length_eq_zero (by simpa using hl)
  go_enter Tryz.func193,Tryz.ntmps193
  go_wp2
  go_ret
  exact ⟨_,rfl,World.ownsRow_nil _ _ _ _,Below.refl _ _⟩
 | some ad=>
  have HC:=Lib.hid hcell;clear hcell hnil
  go_enter Tryz.func193,Tryz.ntmps193
  go_wp2_with (at_builtin;refine wpList_append_own _ rfl _ _ 25 rfl w.heap.size 5 i0 (.int .u8 0) 1 1 Tryz.underlying25 hi hz0 hz1 hz2 rfl (by decide) _ _ _ rfl (World.ownsRow_nil _ _ _ _) ad n c vs rfl ?c1 ?c2 ?c3 ?c4 ?c5 ?c6 ?_)
  case c1=>exact hl
  case c2=>exact HC.out ad rfl
  case c3=>exact h1
  case c4=>omega
  case c5=>omega
  case c6=>exact Nat.le_refl _
  intro v' w1 hown hgrow hx
  clear hx
  have HO:=Lib.hid hown;have HG:=Lib.hid hgrow;clear hown hgrow
  go_wp2
  go_ret
  exact ⟨_,rfl,HO.out,(Below.refl _ _).grown HG.out (Nat.le_refl _) (fun k e=>by cases e)⟩
theorem wbytes (p:Nat) (v:Value) (bs:List Bool) (w:World) (h:WriterIn w p v bs) (hb:bs.length≤1125899906842624):Calls Tryz.prog 140 #[.pointer (some ⟨p,0,none⟩)] w
  fun e w'=>∃r,e = .returned r∧Made w w' 5 1 r (pack bs).length (u8s (pack bs)):=by
 have h1:w.cell? ⟨p,1,none⟩=some v:=by rw [h.blk.cell];rfl
 have hr:Rd w 1 v (pack bs).length (u8s (pack bs)):=Rd.of_owns h.own
 have hlen:(pack bs).length≤140737488355328:=by rw [pack_length];omega
 clear h
 go_enter Tryz.func140,Tryz.ntmps140
 go_wp2_with (go_at_call 193;refine (clone_any _ _ _ _ hr (u8s_oneCell _) hlen).mono ?_;rintro e w' ⟨r,rfl,hm⟩)
 go_ret
 exact ⟨_,rfl,hm⟩
end Go.Proofs.YtdcgbgecbeegmaaGreatDoor
end
