/- Texts 5. -/
import Derived.Test.YtdcgbgecbeegmaaGreatDoorMgSA
import Derived.Test.YtdcgbgecbeegmaaGreatDoorMgS2
import Derived.Test.YtdcgbgecbeegmaaGreatDoorMgS3
import Derived.Test.YtdcgbgecbeegmaaGreatDoorMgS4
import Derived.WalkKit
import Derived.BigFrame
import Derived.OneCell
import Derived.Laws.OwnMore
import Derived.Deep.Draws
import Derived.Laws.BytesArg
import Derived.Laws.Strings
import Derived.Lib.Bytes
import Derived.Deep.Quiet
import Derived.Test.YtdcgbgecbeegmaaGreatDoorProg
import Derived.WalkSpells
import Derived.WalkLawsBesides
import Derived.Outline
import Derived.Lib.Hide
import Derived.Deep.QuietTactic
import Derived.BigQuiet
import Derived.Laws.CopyRow
import Derived.StillTailTactics
import Derived.Laws.IdiomStrings
import Derived.Lib.SlBytesConst
set_option linter.unusedVariables false
set_option linter.unusedSimpArgs false
set_option maxHeartbeats 400000000
set_option maxRecDepth 100000
section
namespace Go.Proofs.YtdcgbgecbeegmaaGreatDoor
open Go
def EN (c:Int):Int:=(CD c.toNat:Int)
end Go.Proofs.YtdcgbgecbeegmaaGreatDoor
end
section
namespace Go.Proofs.YtdcgbgecbeegmaaGreatDoor
open Go Go.RowKit
section
theorem tF {k:IntKind} {a b:Int} (h:a=b):Ending.returned (.int k a) = .returned (.int k b):=by rw [h]
theorem pS {a b:Bool} (h:a=b):Ending.returned (.bool a) = .returned (.bool b):=by rw [h]
def Ao (w:World) (b:Nat) (cs:List Value):Prop:=∃t,w.heap[b]? = some (.cells cs.toArray t (0,0))
theorem Ao.lt {w:World} {b:Nat} {cs:List Value} (h:Ao w b cs):b<w.heap.size:=by obtain ⟨t,h⟩:=h;exact lt_of_block h
theorem Ao.cell {w:World} {b:Nat} {cs:List Value} (h:Ao w b cs) (i:Nat):w.cell? ⟨b,i,none⟩=cs[i]?:=by
 obtain ⟨t,h⟩:=h;rw [cell_of_row w b i _ t (0,0) h];simp
theorem Ao.free {w:World} {b:Nat} {cs:List Value} (h:Ao w b cs) (i:Nat):w.frozen? ⟨b,i,none⟩=false:=by obtain ⟨t,h⟩:=h;exact frozen_of_row w b i _ t h
theorem Ao.set {w:World} {b:Nat} {cs:List Value} (h:Ao w b cs) (i:Nat) (u:Value):Ao (w.setCell ⟨b,i,none⟩ u) b (cs.set i u):=by
 obtain ⟨t,h⟩:=h;exact ⟨t,by rw [heap_setCell_same w b i _ t u h];simp⟩
theorem Ao.of_same {w w':World} {b:Nat} {cs:List Value} (h:Ao w b cs) (e:w'.heap[b]? = w.heap[b]?):Ao w' b cs:=by obtain ⟨t,h⟩:=h;exact ⟨t,e.trans h⟩
theorem Ao.Ci {w:World} {b:Nat} {cs:List Value} (h:Ao w b cs) {a:Addr} (ha:b≠a.block) (u:Value):Ao (w.setCell a u) b cs:=h.of_same (heap_setCell_other w a b u ha)
theorem Ao.alloc {w:World} {b:Nat} {cs:List Value} (h:Ao w b cs) (o:Obj):Ao (w.alloc o) b cs:=h.of_same (zEW w o b h.lt)
theorem Ao.drew {w:World} {b:Nat} {cs:List Value} (h:Ao w b cs):Ao w.drew b cs:=h
theorem Ao.new (w:World) (cs:Array Value) (t:TypeId):Ao (w.alloc (.cells cs t)) w.heap.size cs.toList:=⟨t,by simpa using zHA w (.cells cs t)⟩
structure Ac (S:Nat→Prop) (w w':World):Prop where
 os:w'.os=w.os
 tape:w'.tape=w.tape
 output:w'.output=w.output
 size:w.heap.size≤w'.heap.size
 block:∀k,k<w.heap.size→¬S k→w'.heap[k]? = w.heap[k]?
theorem Ac.refl (S:Nat→Prop) (w:World):Ac S w w:=⟨rfl,rfl,rfl,zAD _,fun _ _ _=>rfl⟩
theorem Ac.trans {S T:Nat→Prop} {a b c:World} (h:Ac S a b) (k:Ac T b c) (ht:∀j,j<a.heap.size→T j→S j):Ac S a c:=
 ⟨k.os.trans h.os,k.tape.trans h.tape,k.output.trans h.output,zAW h.size k.size,
  fun j hj hs=>(k.block j (zAO hj h.size) (fun e=>hs (ht j hj e))).trans (h.block j hj hs)⟩
theorem Ac.mono {S T:Nat→Prop} {a b:World} (h:Ac S a b) (hs:∀j,j<a.heap.size→S j→T j):Ac T a b:=
 ⟨h.os,h.tape,h.output,h.size,fun j hj ht=>h.block j hj (fun e=>ht (hs j hj e))⟩
theorem Ac.alloc (S:Nat→Prop) (w:World) (o:Obj):Ac S w (w.alloc o):=⟨rfl,rfl,rfl,by simp,fun k hk _=>zEW w o k hk⟩
theorem Ac.drew (S:Nat→Prop) (w:World):Ac S w w.drew:=⟨rfl,rfl,rfl,zAD _,fun _ _ _=>rfl⟩
theorem Ac.drewN (S:Nat→Prop) (w:World) (n:Nat):Ac S w (w.drewN n):=⟨rfl,rfl,rfl,zAD _,fun _ _ _=>rfl⟩
theorem Ac.set (S:Nat→Prop) (w:World) (a:Addr) (u:Value) (h:a.block<w.heap.size→S a.block):Ac S w (w.setCell a u):=
 ⟨rfl,rfl,rfl,by simp,fun k hk hs=>heap_setCell_other w a k u (fun e=>hs (e ▸ h (e ▸ hk)))⟩
theorem Ac.AM {S:Nat→Prop} {w w':World} {b:Nat} {cs:List Value} (h:Ac S w w') (hb:Ao w b cs) (hs:¬S b):Ao w' b cs:=hb.of_same (h.block b hb.lt hs)
theorem Ac.below {S:Nat→Prop} {w w':World} {B:Nat} (h:Ac S w w') (hB:B≤w.heap.size) (hs:∀k,k<B→¬S k):Below B w w':=⟨h.os,h.tape,h.output,h.size,fun k hk=>h.block k (by omega) (hs k hk)⟩
theorem Ac.Ah {w w':World} (h:Below w.heap.size w w') (S:Nat→Prop):Ac S w w':=⟨h.os,h.tape,h.output,h.size,fun k hk _=>h.block k hk⟩
theorem Ac.EF {w w':World} {row:Option Nat} (h:w.grownBy w' row):Ac (fun k=>row=some k) w w':=⟨h.os,h.tape,h.output,h.size,fun k hk hs=>h.block k hk (fun e=>hs e.symm)⟩
theorem Ac.cell {S:Nat→Prop} {w w':World} (h:Ac S w w') {a:Addr} {u:Value} (hc:w.cell? a=some u) (hs:¬S a.block):w'.cell? a=some u:=
 (World.cell?_of_block (h.block a.block (zAP w a hc) hs)).trans hc
theorem Ac.owns {S:Nat→Prop} {w w':World} (h:Ac S w w') {base:Nat} {e:TypeId} {size:Nat} {v:Value} {n:Nat} {xs:List Value} (ho:w.ownsRow base e size v n xs) (hs:∀k,v.ownBlock=some k→¬S k):w'.ownsRow base e size v n xs:=by
 refine ⟨ho.1,?_⟩
 rcases ho.2 with hn | ⟨g,cap,cur,rfl,hb,hg,r⟩
 ·exact Or.inl hn
 ·exact Or.inr ⟨g,cap,cur,rfl,hb,by rw [h.block g (zAX.1 hg).1 (hs g rfl)];exact hg,r⟩
theorem BA {w:World} {base:Nat} {e:TypeId} {size:Nat} {v:Value} {n:Nat} {xs:List Value} (h:w.ownsRow base e size v n xs) :
  (v = .slice none 0 0∧n=0∧xs=[])∨∃g cap,v = .slice (some ⟨g,0,none⟩) n cap∧g<w.heap.size∧n≤cap∧cap≤maxLen:=by
 rcases h.2 with ⟨rfl,rfl⟩ | ⟨g,cap,cur,rfl,hb,hg,hn,hm,_⟩
 ·exact Or.inl ⟨rfl,rfl,zAI (by simpa using h.1)⟩
 ·exact Or.inr ⟨g,cap,rfl,lt_of_block hg,hn,hm⟩
theorem Ef {w:World} {base:Nat} {e:TypeId} {size:Nat} {v:Value} {n:Nat} {xs:List Value} (h:w.ownsRow base e size v n xs):∀k,v.ownBlock=some k→k<w.heap.size:=
 fun k hk=>(h.lt k hk).2
theorem Af {w:World} {base base':Nat} {e:TypeId} {size:Nat} {v:Value} {n:Nat} {xs:List Value} (h:w.ownsRow base e size v n xs) (hb:∀k,v.ownBlock=some k→base'≤k):w.ownsRow base' e size v n xs:=by
 refine ⟨h.1,?_⟩
 rcases h.2 with hn | ⟨g,cap,cur,rfl,_,r⟩
 ·exact Or.inl hn
 ·exact Or.inr ⟨g,cap,cur,rfl,hb g rfl,r⟩
def AG (B:Nat) (v v':Value):Prop:=∀k,v'.ownBlock=some k→v.ownBlock=some k∨B≤k
theorem AG.refl (B:Nat) (v:Value):AG B v v:=fun _ h=>Or.inl h
theorem AG.trans {B C:Nat} {u v x:Value} (h:AG B u v) (k:AG C v x) (hBC:B≤C):AG B u x:=fun j hj=>by
 rcases k j hj with h1 | h1
 ·exact h j h1
 ·exact Or.inr (by omega)
section
variable {P:Program} (w:World)
theorem gV (t ty e:TypeId) (i:TypeInfo) (z:Value) (size bytes:Nat) (ht:P.underlying t=some (.slice e)) (hi:P.info? e=some i) (hz:i.zero=some z)
  (Cn:i.size=size) (PB:i.bytes=bytes) (Me:z.cells.size=size) (Ed:0<size)
  (v:Value) (n:Nat) (xs:List Value) (Au:w.ownsRow 0 e size v n xs)
  (a:Addr) (m c:Nat) (news:List Value) (hl:news.length=m*size) (ZI:∀j u,news[j]? = some u→w.cell? (a.add j)=some u) (h1:∀u∈news,u.oneCell'=true)
  (um:n+m≤maxLen) (P2:(n+m)*bytes≤140737488355328) :
  ∃v' w',(Builtin.append_ #[t,t] ty #[v,.slice (some a) m c]).run P w = .ok v' w'∧w'.ownsRow 0 e size v' (n+m) (xs++news)∧Ac (fun k=>v.ownBlock=some k) w w'∧AG w.heap.size v v':=by
 have xG:n+m≤9223372036854775807:=by simp only [maxLen] at um;omega
 rcases BA Au with ⟨rfl,rfl,rfl⟩ | ⟨g,cap,rfl,hg,T3,ZE⟩
 ·obtain ⟨v',w',hr,h2,h3,_⟩:=run_append_own (P:=P) w w.heap.size t ty e i z size bytes ht hi hz Cn PB Me Ed _ 0 [] (zBI _ _ _ _) a m c news hl ZI h1 um P2 (zAD _)
  exact ⟨v',w',hr,Af h2 (fun _ _=>zAJ _),Ac.EF h3,fun k hk=>Or.inr (h2.lt k hk).1⟩
 ·by_cases ZN:n+m≤cap
  ·obtain ⟨w',hr,h2,h3⟩:=run_append_fits (P:=P) w 0 t ty e i size ht hi Cn g n cap xs Au a m c news hl ZI h1 ZN
   exact ⟨_,w',hr,h2,Ac.EF h3,fun k hk=>Or.inl hk⟩
  ·subst Cn
   subst PB
   have holds:∀j u,xs[j]? = some u→w.cell? ((⟨g,0,none⟩:Addr).add j)=some u:=Au.cells (g:=g) rfl
   have hr:=run_append_grow (P:=P) w t ty e i z ht hi hz ⟨g,0,none⟩ n cap xs Au.1 holds a m c news hl ZI (by omega) (by omega) (growslice_fits (by omega) P2)
   have T0:=grownCap_ge w (n+m) cap e
   have Bg:(xs++news).length=(n+m)*i.size:=by rw [zAB,Au.1,hl,zEO]
   refine ⟨_,_,hr,⟨Bg,.inr ⟨w.heap.size,_,_,rfl,zAJ _,zHA w.drew _,T0,zGT w (n+m) cap e um,?_,?_⟩⟩,⟨rfl,rfl,rfl,by simp,fun k hk _=>zEW w.drew _ k hk⟩,?_⟩
   ·simp only [zGV,zCC,size_zeroCells,Me,Au.1,hl,← zEO]
    congr 1
    omega
   ·simp only [Array.toList_append,zAK]
    rw [← zAK,← Bg]
    exact List.take_left
   ·intro k hk
    simp only [Value.ownBlock,zCW] at hk
    exact Or.inr (by omega)
theorem Kk {ops:Array Oper} {rest:List Oper} {o:Oper} {a:Act} {Q:Exit→Act→World→Prop} (BT:Region.wanted o (yielded ops a.tmps)=true) (s x:Operand) (t:TypeId)
  (ho:o.op = .call { callee:=.builtin .append,args:=#[s,x],argTypes:=#[t,t] })
  (e:TypeId) (i:TypeInfo) (z:Value) (size bytes:Nat) (ht:P.underlying t=some (.slice e)) (hi:P.info? e=some i) (hz:i.zero=some z)
  (Cn:i.size=size) (PB:i.bytes=bytes) (Me:z.cells.size=size) (Ed:0<size)
  (v:Value) (n:Nat) (xs:List Value) (hs:a.eval s=v) (Au:w.ownsRow 0 e size v n xs)
  (ad:Addr) (m c:Nat) (news:List Value) (hx:a.eval x = .slice (some ad) m c) (hl:news.length=m*size) (ZI:∀j u,news[j]? = some u→w.cell? (ad.add j)=some u) (h1:∀u∈news,u.oneCell'=true)
  (um:n+m≤maxLen) (P2:(n+m)*bytes≤140737488355328)
  (h:∀v' w',w'.ownsRow 0 e size v' (n+m) (xs++news)→Ac (fun k=>v.ownBlock=some k) w w'→AG w.heap.size v v'→wpList P ops Q rest (a.put o.dst v') w'):wpList P ops Q (o::rest) a w:=by
 refine zDU BT fun K hK=>?_
 obtain ⟨v',w',hr,h2,h3,h4⟩:=gV (P:=P) w t o.type e i z size bytes ht hi hz Cn PB Me Ed v n xs Au ad m c news hl ZI h1 um P2
 unfold Oper.wp execOp
 simp only [ho,resolve,invoke,builtin,zCK,zDM,zCG,zFL,zBC,zCP,hs,hx,hr]
 exact hK _ _ (h v' w' h2 h3 h4)
theorem al (x:Value) (t:TypeId):∀(j:Nat) (u:Value),[x][j]? = some u→(w.alloc (.cells #[x] t)).cell? ((⟨w.heap.size,0,none⟩:Addr).add j)=some u:=by
 intro j u hj
 match j,hj with
 | 0,hj=>simp at hj;subst hj;simp [Addr.add]
end
end
section
def Rd (w:World) (sz:Nat) (v:Value) (n:Nat) (vs:List Value):Prop:=
 ∃p c,v = .slice p n c∧vs.length=n*sz∧n≤c∧c≤maxLen∧(p=none→n=0∧c=0)∧∀ad,p=some ad→∀j u,vs[j]? = some u→w.cell? (ad.add j)=some u
theorem Rd.nil (w:World) (sz:Nat):Rd w sz (.slice none 0 0) 0 []:=⟨none,0,rfl,by simp,zAD _,by simp [maxLen],fun _=>⟨rfl,rfl⟩,fun ad h=>by cases h⟩
theorem Rd.Ad {w:World} {base:Nat} {e:TypeId} {sz:Nat} {v:Value} {n:Nat} {vs:List Value} (h:w.ownsRow base e sz v n vs):Rd w sz v n vs:=by
 rcases BA h with ⟨rfl,rfl,rfl⟩ | ⟨g,cap,rfl,_,h1,h2⟩
 ·exact Rd.nil w sz
 ·exact ⟨_,_,rfl,h.1,h1,h2,(fun e=>by cases e),fun ad e=>by cases e;exact h.cells rfl⟩
theorem Rd.N5 {w w':World} {sz:Nat} {v:Value} {n:Nat} {vs:List Value} (h:Rd w sz v n vs) (hc:∀(a:Addr) (u:Value),w.cell? a=some u→(∃p,v = .slice (some p) n (match v with | .slice _ _ c=>c | _=>0)∧a.block=p.block)→w'.cell? a=some u):Rd w' sz v n vs:=by
 obtain ⟨p,c,rfl,h1,h2,h3,h4,h5⟩:=h
 refine ⟨p,c,rfl,h1,h2,h3,h4,fun ad e j u hu=>?_⟩
 subst e
 refine hc _ _ (h5 ad rfl j u hu) ⟨ad,rfl,?_⟩
 unfold Addr.add;split<;>rfl
theorem Rd.below {w w':World} {sz:Nat} {v:Value} {n:Nat} {vs:List Value} (h:Rd w sz v n vs) (hb:Below w.heap.size w w'):Rd w' sz v n vs:=
 h.N5 fun a _ hc _=>(hb.cell (zAP w a hc)).trans hc
theorem Rd.Ai {S:Nat→Prop} {w w':World} {sz:Nat} {v:Value} {n:Nat} {vs:List Value} (h:Rd w sz v n vs) (hm:Ac S w w') (hs:∀k,v.ownBlock=some k→¬S k):Rd w' sz v n vs:=
 h.N5 fun a _ hc ⟨p,hp,ha⟩=>hm.cell hc (hs _ (by rw [hp,ha];rfl))
theorem Rd.FZ {S:Nat→Prop} {w w':World} {sz:Nat} {v:Value} {n:Nat} {vs:List Value} (h:Rd w sz v n vs) (hm:Ac S w w') (hs:vs≠[]→∀k,v.ownBlock=some k→¬S k):Rd w' sz v n vs:=by
 by_cases e:vs=[]
 ·subst e
  obtain ⟨p,c,rfl,h1,h2,h3,h4,_⟩:=h
  exact ⟨p,c,rfl,h1,h2,h3,h4,fun ad _ j u hu=>by simp at hu⟩
 ·exact h.Ai hm (hs e)
theorem Rd.len {w:World} {sz:Nat} {v:Value} {n:Nat} {vs:List Value} (h:Rd w sz v n vs):vs.length=n*sz:=by obtain ⟨_,_,_,h1,_⟩:=h;exact h1
theorem Rd.le {w:World} {sz:Nat} {v:Value} {n:Nat} {vs:List Value} (h:Rd w sz v n vs):n≤maxLen:=by obtain ⟨_,_,_,_,h1,h2,_⟩:=h;omega
theorem Rd.at {w:World} {sz:Nat} {v:Value} {n:Nat} {vs:List Value} (h:Rd w sz v n vs) (BC:vs≠[]) :
  ∃b off c,v = .slice (some ⟨b,off,none⟩) n c∧n≤c∧c≤maxLen∧∀(j:Nat) (u:Value),vs[j]? = some u→w.cell? ⟨b,off+j,none⟩=some u:=by
 obtain ⟨p,c,rfl,h1,h2,h3,h4,h5⟩:=h
 cases p with
 | none=>
  obtain ⟨rfl,_⟩:=h4 rfl
  exact absurd (zAI (by simpa using h1)) BC
 | some ad=>
  obtain ⟨b,off,spot⟩:=ad
  obtain ⟨x,hx⟩:∃x,vs[0]? = some x:=by
   cases vs with
   | nil=>exact absurd rfl BC
   | cons x _=>exact ⟨x,rfl⟩
  have nJ:spot=none:=by simpa [Addr.add] using World.cell?_spot (h5 _ rfl 0 x hx)
  subst nJ
  refine ⟨b,off,c,rfl,h2,h3,fun j u hu=>?_⟩
  have:=h5 _ rfl j u hu
  simp only [Addr.add] at this
  split at this
  ·next h0=>subst h0;simpa using this
  ·exact this
theorem Rd.lt {w:World} {sz:Nat} {v:Value} {n:Nat} {vs:List Value} (h:Rd w sz v n vs) (BC:vs≠[]):∀k,v.ownBlock=some k→k<w.heap.size:=by
 intro k hk
 obtain ⟨b,off,c,rfl,_,_,hc⟩:=h.at BC
 obtain ⟨x,hx⟩:∃x,vs[0]? = some x:=by
  cases vs with
  | nil=>exact absurd rfl BC
  | cons x _=>exact ⟨x,rfl⟩
 simp only [Value.ownBlock,zCW] at hk
 subst hk
 exact zAP w _ (hc 0 x hx)
theorem Rd.shape {w:World} {sz:Nat} {v:Value} {n:Nat} {vs:List Value} (h:Rd w sz v n vs):∃p c,v = .slice p n c:=by obtain ⟨p,c,h,_⟩:=h;exact ⟨p,c,h⟩
structure Cd (P:Program) (t e:TypeId) (sz bytes:Nat):Prop where
 ht:P.underlying t=some (.slice e)
 hi:∃i z,P.info? e=some i∧i.zero=some z∧i.size=sz∧i.bytes=bytes∧z.cells.size=sz
 pos:0<sz
theorem Cd.mk' {P:Program} {t e:TypeId} {z:Value} {sz bytes:Nat} (ht:P.underlying t=some (.slice e)) (h:(P.info? e).map (fun i=>(i.zero,i.size,i.bytes))=some (some z,sz,bytes)) (hz:z.cells.size=sz) (hp:0<sz):Cd P t e sz bytes:=by
 obtain ⟨i,h1,h2,h3,h4⟩:=zGX h
 exact ⟨ht,⟨i,z,h1,h2,h3,h4,hz⟩,hp⟩
section
variable {P:Program}
theorem AD {t e:TypeId} {sz bytes:Nat} (hE:Cd P t e sz bytes) (w:World) (us:Array Value) (v:Value) (n:Nat) (xs:List Value) (Au:w.ownsRow 0 e sz v n xs) (hus:us.size=sz) (h1:∀u∈us.toList,u.oneCell'=true) (hb:(n+1)*bytes≤140737488355328∧n+1≤maxLen)
  {ops:Array Oper} {rest:List Oper} {o:Oper} {a:Act} {Q:Exit→Act→World→Prop} (BT:Region.wanted o (yielded ops a.tmps)=true) (s x:Operand) (ho:o.op = .call { callee:=.builtin .append,args:=#[s,x],argTypes:=#[t,t] })
  (hs:a.eval s=v) (hx:a.eval x = .slice (some ⟨w.heap.size,0,none⟩) 1 1)
  (h:∀v' w',w'.ownsRow 0 e sz v' (n+1) (xs++us.toList)→Ac (fun k=>v.ownBlock=some k) w w'→AG w.heap.size v v'→wpList P ops Q rest (a.put o.dst v') w'):wpList P ops Q (o::rest) a (w.alloc (.cells us e)):=by
 obtain ⟨i,z,hi,hz,Cn,PB,Me⟩:=hE.hi
 refine Kk (w.alloc (.cells us e)) BT s x t ho e i z sz bytes hE.ht hi hz Cn PB Me hE.pos v n xs hs (Au.alloc _) ⟨w.heap.size,0,none⟩ 1 1 us.toList hx (by simp [hus]) ?_ h1 hb.2 hb.1 ?_
 ·intro j u hj
  have e1:(⟨w.heap.size,0,none⟩:Addr).add j=⟨w.heap.size,j,none⟩:=by unfold Addr.add;split<;>simp_all
  rw [e1,(Ao.new w us e).cell]
  exact hj
 ·intro v' w' a1 a2 a3
  refine h v' w' a1 ((Ac.alloc _ _ _).trans a2 (fun _ _ e=>e)) (fun k hk=>?_)
  rcases a3 k hk with e | e
  ·exact Or.inl e
  ·exact Or.inr (by simp at e;omega)
theorem At {t e:TypeId} {sz bytes:Nat} (hE:Cd P t e sz bytes) (w:World) (v v2:Value) (n m:Nat) (xs news:List Value) (Au:w.ownsRow 0 e sz v n xs) (hr:Rd w sz v2 m news) (h1:∀u∈news,u.oneCell'=true) (hb:(n+m)*bytes≤140737488355328∧n+m≤maxLen)
  {ops:Array Oper} {rest:List Oper} {o:Oper} {a:Act} {Q:Exit→Act→World→Prop} (BT:Region.wanted o (yielded ops a.tmps)=true) (s x:Operand) (ho:o.op = .call { callee:=.builtin .append,args:=#[s,x],argTypes:=#[t,t] })
  (hs:a.eval s=v) (hx:a.eval x=v2)
  (h:∀v' w',w'.ownsRow 0 e sz v' (n+m) (xs++news)→Ac (fun k=>v.ownBlock=some k) w w'→AG w.heap.size v v'→wpList P ops Q rest (a.put o.dst v') w'):wpList P ops Q (o::rest) a w:=by
 obtain ⟨i,z,hi,hz,Cn,PB,Me⟩:=hE.hi
 obtain ⟨p,c,rfl,hl,FC,Vw,EB,Aj⟩:=hr
 cases p with
 | none=>
  obtain ⟨rfl,rfl⟩:=EB rfl
  obtain rfl:news=[]:=zAI (by simpa using hl)
  refine zDU BT fun K hK=>?_
  have hr:=run_append_owned_none (P:=P) w 0 t o.type e i sz hE.ht hi v n xs Au
  unfold Oper.wp execOp
  simp only [ho,resolve,invoke,builtin,zCK,zDM,zCG,zFL,zBC,zCP,hs,hx,hr]
  exact hK _ _ (h v w (by simpa using Au) (Ac.refl _ _) (AG.refl _ _))
 | some ad=>exact Kk w BT s x t ho e i z sz bytes hE.ht hi hz Cn PB Me hE.pos v n xs hs Au ad m c news hx hl (Aj ad rfl) h1 hb.2 hb.1 h
end
theorem CC (u:Value) (h:u.oneCell'=true):∀x∈(#[u]:Array Value).toList,x.oneCell'=true:=by
 intro x hx;simp at hx;subst hx;exact h
def B9 (l:List Nat):List Value:=l.map (fun n:Nat=>Value.int .u8 (n:Int))
theorem Fg (l:List Nat):(B9 l).length=l.length:=by simp [B9]
theorem Cb (a b:List Nat):B9 (a++b)=B9 a++B9 b:=by simp [B9]
theorem ia (l:List Nat) (i n:Nat):(B9 l).set i (.int .u8 n)=B9 (l.set i n):=by simp [B9,zGO]
theorem g9 (l:List Nat) (i:Nat) (h:i<l.length):(B9 l)[i]? = some (.int .u8 (l[i]:Nat)):=by simp [B9,h]
theorem A3 (l:List Nat):∀u∈B9 l,u.oneCell'=true:=by
 intro u hu
 simp only [B9,zBU] at hu
 obtain ⟨n,_,rfl⟩:=hu
 rfl
def EY (l:List Nat):ByteArray:=strOfNums (l.map fun n:Nat=>(n:Int))
theorem Wh {l k:List Nat} (hl:∀x∈l,x<256) (hk:∀x∈k,x<256):((EY l).toList == (EY k).toList)=decide (l=k):=by
 have e:∀l:List Nat,(EY l).toList=l.map (fun n=>UInt8.ofNat n):=fun l=>by
  rw [EY,Lib.strOfNums_toList];simp [Lib.bytesOf,zEK,Function.comp_def]
 rw [e,e]
 by_cases h:l=k
 ·simp [h]
 ·have:¬(l.map (fun n=>UInt8.ofNat n)=k.map (fun n=>UInt8.ofNat n)):=fun hm=>h (by
   have hm':=congrArg (List.map UInt8.toNat) hm
   rw [zEK,zEK] at hm'
   have key:∀l:List Nat,(∀x∈l,x<256)→l.map (UInt8.toNat∘fun n=>UInt8.ofNat n)=l:=by
    intro l hl
    conv=>rhs;rw [← List.map_id l]
    apply zCR
    intro x hx
    simp [Nat.mod_eq_of_lt (hl x hx)]
   rw [key l hl,key k hk] at hm'
   exact hm')
  simp [h,this]
theorem Rd.conv {P:Program} {w:World} {v:Value} {n:Nat} {l:List Nat} (h:Rd w 1 v n (B9 l)) (src e dst:TypeId) (hs:P.underlying src=some (.slice e)) (he:P.underlying e=some (.int .u8)) (hd:P.underlying dst=some .string) :
  (convert src dst v).run P w = .ok (.string (EY l)) w:=by
 obtain ⟨p,c,rfl,h1,h2,h3,h4,h5⟩:=h
 rw [Fg] at h1
 cases p with
 | none=>
  obtain ⟨rfl,rfl⟩:=h4 rfl
  obtain rfl:l=[]:=zAI (by simpa using h1)
  exact run_convert_bytes_nil w src e hs he 0 0 dst hd
 | some ad=>
  by_cases hn:n=0
  ·subst hn
   obtain rfl:l=[]:=zAI (by simpa using h1)
   rw [run_convert_bytes_string w src dst e _ 0 c hs he hd]
   simp [Conv.bytesToString,loadCells,loadCellsFrom,EY,strOfNums];rfl
  ·obtain ⟨b,off,spot⟩:=ad
   have Aj:∀i,i<n→w.cell? ((⟨b,off,spot⟩:Addr).add i)=some (.int .u8 ((l.map fun n:Nat=>(n:Int)).getD i 0)):=fun i hi=>by
    rw [h5 _ rfl i _ (g9 l i (by omega))];simp [List.getD,show i<l.length by omega]
   have nJ:spot=none:=by simpa [Addr.add] using World.cell?_spot (Aj 0 (by omega))
   subst nJ
   exact run_convert_bytes_arg w src e hs he b off n c _ (by simp;omega) (fun i hi=>by
    have:=Aj i hi
    simp only [Addr.add] at this
    split at this
    ·next h0=>subst h0;simpa using this
    ·exact this) dst hd
end
def PM (l:List Bool):List Value:=l.map Value.bool
theorem Sf (l:List Bool):(PM l).length=l.length:=by simp [PM]
theorem Se (a b:List Bool):PM (a++b)=PM a++PM b:=by simp [PM]
theorem rT (l:List Bool) (i:Nat) (h:i<l.length):(PM l)[i]? = some (.bool l[i]):=by simp [PM,h]
theorem Tryz.infoBool:(Tryz.prog.info? 4).map (fun i=>(i.zero,i.size,i.bytes))=some (some (.bool false),1,1):=by kernel_rfl
def GY (w:World) (v:Value) (bs:List Bool):Prop:=w.ownsRow 0 4 1 v bs.length (PM bs)
structure Ag (v:Value) (out:List Bool) (w:World) (v':Value) (w':World):Prop where
 own:GY w' v' out
 Ai:Ac (fun k=>v.ownBlock=some k) w w'
 fresh:AG w.heap.size v v'
theorem Wn (n i:Nat) (h:i<n):2 ^ (n-1) / 2 ^ i=2 ^ (n-1-i):=by
 rw [Nat.pow_div (by omega) (by omega)]
theorem Bn (v:Value) (bs:List Bool) (x n:Nat) (w:World) (h:GY w v bs) (hx:x<18446744073709551616) (hn:n≤64) (hb:bs.length+64≤70368744177664) :
  Calls Tryz.prog 114 #[v,.int .u64 x,.int .i64 n] w fun e w'=>∃v',e = .returned v'∧Ag v (bs++Aa x n) w v' w':=by
 obtain ⟨i0,hi,Xn,By,Co⟩:=zGX Tryz.infoBool
 have H:=zAA h;clear h
 go_enter Tryz.func114,Tryz.ntmps114
 go_wp2
 go_loop [7,8] (fun u c=>∃i:Nat,1≤i∧(i≤n∨i=1)∧c = .int .i64 i∧u = .int .u64 ((2 ^ (i-1):Nat):Int)) (fun _ c=>n-(intOf c).toNat)
 case atStart=>exact ⟨1,by omega,by omega,rfl,rfl⟩
 case round=>
  obtain ⟨i,h1,h2,rfl,rfl⟩:=hrel
  by_cases Aq:i<n
  ·have hU:2 ^ (i+1-1)=2 ^ (i-1)*2:=by rw [show i+1-1=(i-1)+1 from by omega,zDS]
   have Xa:2 ^ (i-1)≤2 ^ 62:=zDV (by omega) (by omega)
   have HU:=zAA hU;clear hU
   generalize 2 ^ (i-1)=U at *
   have qR:(U:Int)≤4611686018427387904:=by omega
   clear Xa
   go_wp2
   go_round
   case rel=>exact ⟨i+1,by omega,by omega,by go_num,by rw [HU.out];go_num⟩
   case measure=>simp [intOf];omega
  ·have hp:2 ^ (i-1)=2 ^ (n-1):=by congr 1;omega
   rw [hp]
   clear hp
   go_wp2
   go_loopw [0,7,9] (fun v2 u c wr=>∃j:Nat,j≤n∧c = .int .i64 j∧u = .int .u64 ((2 ^ (n-1) / 2 ^ j:Nat):Int)∧Ag v (bs++(Aa x n).take j) w v2 wr) (fun _ _ c _=>n-(intOf c).toNat)
   case atStart=>exact ⟨0,by omega,rfl,by simp,by simpa using H.out,Ac.refl _ _,AG.refl _ _⟩
   case round=>
    obtain ⟨j,hj,rfl,rfl,hW⟩:=hrel
    by_cases JF:j<n
    ·have hU:2 ^ (n-1) / 2 ^ (j+1)=2 ^ (n-1) / 2 ^ j / 2:=by rw [zDS,Nat.div_div_eq_div_mul]
     have hB:((x:Int) / ((2 ^ (n-1) / 2 ^ j:Nat):Int) % 2 == 1)=x.testBit (n-1-j):=by
      rw [Wn n j JF,zDO]
      have e:(x:Int) / ((2 ^ (n-1-j):Nat):Int) % 2=((x / 2 ^ (n-1-j) % 2:Nat):Int):=by simp
      rw [e]
      generalize x / 2 ^ (n-1-j) % 2=m
      by_cases hm:m=1
      ·simp [hm]
      ·have:¬(m:Int)=1:=by omega
       simp [hm,this]
     have hU1:1≤2 ^ (n-1) / 2 ^ j∧2 ^ (n-1) / 2 ^ j≤9223372036854775808:=by
      rw [Wn n j JF]
      have:2 ^ (n-1-j)≤2 ^ 63:=zDV (by omega) (by omega)
      exact ⟨zEL _,by omega⟩
     have hxU:x / (2 ^ (n-1) / 2 ^ j)≤x:=zFV _ _
     have HU:=zAA hU;have HB:=zAA hB;clear hU hB
     generalize 2 ^ (n-1) / 2 ^ j=U at *
     have Xa:(1:Int)≤U:=by omega
     have qR:(U:Int)≤9223372036854775808:=by omega
     have GD:(0:Int)≤(x:Int) / (U:Int):=by have:=zFP (x / U);rwa [Int.natCast_ediv] at this
     have ZP:(x:Int) / (U:Int)≤18446744073709551615:=by
      have h':((x / U:Nat):Int)≤(x:Int):=by exact_mod_cast hxU
      rw [Int.natCast_ediv] at h'
      omega
     clear hU1 hxU
     have HS:Hid (bs++(Aa x n).take (j+1)=(bs++(Aa x n).take j)++[x.testBit (n-1-j)]):=by
      show _=_
      rw [FX x n j JF,zAK]
     have hL0:(bs++(Aa x n).take j).length≤70368744177664:=by rw [zAB,zAR,Ae];omega
     generalize bs++(Aa x n).take j=L at hW HS hL0
     have HL:Hid (L.length+1≤maxLen∧(L.length+1)*1≤140737488355328):=by
      show _∧_
      unfold maxLen;omega
     have HW:=zAA hW;clear hW
     go_wp2_with (at_builtin;refine Kk _ rfl _ _ 117 rfl 4 i0 (.bool false) 1 1 Tryz.underlying117 hi Xn By Co rfl (by decide) _ _ _ rfl (HW.out.own.alloc _) ⟨wr.heap.size,0,none⟩ 1 1 [.bool ((x:Int) / (U:Int) % 2 == 1)] rfl rfl ?c1 ?c2 ?c3 ?c4 ?_)
     case c1=>exact al _ _ _
     case c2=>intro u hu;simp at hu;subst hu;rfl
     case c3=>exact HL.out.1
     case c4=>exact HL.out.2
     intro v' w1 Au AU P3
     have HR:Hid (Ag v (bs++(Aa x n).take (j+1)) w v' w1):=by
      rw [HS.out]
      refine ⟨?_,?_,?_⟩
      ·rw [HB.out] at Au
       rw [GY,Se,zAB]
       exact Au
      ·exact HW.out.Ai.trans ((Ac.alloc _ _ _).trans AU (fun _ _ e=>e)) (fun k hk e=>by
        rcases HW.out.fresh k e with e | e
        ·exact e
        ·omega)
      ·exact HW.out.fresh.trans P3 (by have:=HW.out.Ai.size;simp;omega)
     clear Au AU P3 HB HL HS
     go_wp2
     go_roundw
     case rel=>exact ⟨j+1,by omega,by go_num,by rw [HU.out];go_num,HR.out⟩
     case measure=>simp [intOf];omega
    ·obtain rfl:j=n:=by omega
     go_wp2
     go_ret
     exact ⟨_,rfl,by rwa [zAF (by rw [Ae];omega)] at hW⟩
def AL (l:List Nat):List Value:=l.map fun x:Nat=>.int .u64 (x:Int)
theorem BP (l:List Nat):(AL l).length=l.length:=by simp [AL]
theorem LB (a b:List Nat):AL (a++b)=AL a++AL b:=by simp [AL]
theorem DH (l:List Nat) (i:Nat) (h:i<l.length):(AL l)[i]? = some (.int .u64 (l[i]:Int)):=by simp [AL,h]
theorem Tryz.infoU64:(Tryz.prog.info? 81).map (fun i=>(i.zero,i.size,i.bytes))=some (some (.int .u64 0),1,8):=by kernel_rfl
theorem Tryz.GJ:Cd Tryz.prog 113 81 1 8:=Cd.mk' Tryz.underlying113 Tryz.infoU64 rfl (by decide)
theorem Tryz.K5:Cd Tryz.prog 117 4 1 1:=Cd.mk' Tryz.underlying117 Tryz.infoBool rfl (by decide)
theorem Ag.drewN {v v':Value} {out:List Bool} {w w':World} (h:Ag v out w v' w') (n:Nat):Ag v out w v' (w'.drewN n):=
 ⟨(Ac.drewN (fun _=>False) w' n).owns h.own (fun _ _ e=>e),h.Ai.trans (Ac.drewN _ _ _) (fun _ _ e=>e),h.fresh⟩
theorem Ag.drew {v v':Value} {out:List Bool} {w w':World} (h:Ag v out w v' w'):Ag v out w v' w'.drew:=
 ⟨(Ac.drew (fun _=>False) w').owns h.own (fun _ _ e=>e),h.Ai.trans (Ac.drew _ _) (fun _ _ e=>e),h.fresh⟩
theorem Ag.then {v v' u:Value} {out out':List Bool} {w w' w2:World} (h:Ag v out w v' w') (k:Ag v' out' w' u w2):Ag v out' w u w2:=
 ⟨k.own,h.Ai.trans k.Ai (fun j hj e=>by
  rcases h.fresh j e with e | e
  ·exact e
  ·omega),h.fresh.trans k.fresh h.Ai.size⟩
theorem Ag.below {v v':Value} {out:List Bool} {w w' w2:World} (h:Ag v out w v' w') (hb:Below w'.heap.size w' w2):Ag v out w v' w2:=
 ⟨(Ac.Ah hb (fun _=>False)).owns h.own (fun _ _ e=>e),h.Ai.trans (Ac.Ah hb _) (fun _ _ e=>e),h.fresh⟩
theorem Ag.lit {v v' u:Value} {out news:List Bool} {w w' w2:World} (h:Ag v out w v' w') (ho:w2.ownsRow 0 4 1 u (out.length+news.length) (PM out++PM news)) (hm:Ac (fun k=>v'.ownBlock=some k) w' w2) (hf:AG w'.heap.size v' u):Ag v (out++news) w u w2:=
 h.then ⟨by rw [GY,zAB,Se];exact ho,hm,hf⟩
section
def A8 (s:ByteArray):List Nat:=s.data.toList.map fun b=>b.toNat
theorem Cu (s:ByteArray):(A8 s).length=s.size:=by rw [A8,zAT,zGM];rfl
theorem jV (s:ByteArray):∀c∈A8 s,c<256:=by
 intro c hc
 simp only [A8,zBU] at hc
 obtain ⟨b,_,rfl⟩:=hc
 exact b.toNat_lt
theorem fC (s:ByteArray):B9 (A8 s)=s.data.toList.map fun b=>Value.int .u8 (b.toNat:Int):=by rw [B9,A8,zEK];rfl
section
variable {P:Program} (w:World)
theorem Nd (s:ByteArray) (n:Nat) (hn:s.size=n) (size:Nat):(Builtin.firstCells size n (.string s)).run P w = .ok (B9 (A8 s)).toArray w:=by
 subst hn
 rw [fC]
 have hx:(s.extract 0 s.size).data=s.data:=by
  rw [ByteArray.data_extract]
  exact zDJ
 simp only [Builtin.firstCells,hx,zDM]
 congr 1
 apply Array.ext'
 simp
theorem aW (t u ty e:TypeId) (i:TypeInfo) (z:Value) (ht:P.underlying t=some (.slice e)) (hu:P.underlying u=some .string) (hi:P.info? e=some i) (hz:i.zero=some z)
  (Cn:i.size=1) (PB:i.bytes=1) (Me:z.cells.size=1) (v:Value) (n:Nat) (xs:List Value) (Au:w.ownsRow 0 e 1 v n xs) (s:ByteArray) (um:n+s.size≤maxLen) (P2:(n+s.size)*1≤140737488355328) :
  ∃v' w',(Builtin.append_ #[t,u] ty #[v,.string s]).run P w = .ok v' w'∧w'.ownsRow 0 e 1 v' (n+s.size) (xs++B9 (A8 s))∧Ac (fun k=>v.ownBlock=some k) w w'∧AG w.heap.size v v':=by
 have hf:=fun w:World=>Nd (P:=P) w s s.size rfl 1
 have hl:(B9 (A8 s)).length=s.size:=by rw [Fg,Cu]
 have h1:∀u∈B9 (A8 s),u.oneCell'=true:=A3 _
 have gA:Builtin.lenOf (.string s)=pure s.size:=rfl
 generalize B9 (A8 s)=news at *
 generalize s.size=M at *
 have Bg:(xs++news).length=(n+M)*1:=by rw [zAB,Au.1,hl,zEO,zFI,zFI]
 have h63':((n+M:Nat):Int)≤9223372036854775807:=by unfold maxLen at um;omega
 rcases Au.2 with ⟨rfl,rfl⟩ | ⟨g,cap,cur,rfl,hb,hg,T3,ZE,Rw,htake⟩
 ·obtain rfl:xs=[]:=zAI (by simpa using Au.1)
  by_cases h0:M=0
  ·subst h0
   obtain rfl:news=[]:=zAI hl
   refine ⟨.slice none 0 0,w,?_,Au,Ac.refl _ _,AG.refl _ _⟩
   simp [Builtin.append_,zDG ht,zDG hu,sizeOf,typeInfo,hi,Cn,gA,hf w]
  ·have hn:¬M=0:=h0
   have h63'':¬(9223372036854775807<(M:Int)):=by omega
   have h48:¬(281474976710656<Builtin.nextslicecap M 0):=by rw [nextslicecap_zero (by omega)];omega
   have T0:=grownCap_ge w M 0 e
   refine ⟨.slice (some ⟨w.heap.size,0,none⟩) M (grownCap w M 0 e),w.drew.alloc (.cells (news.toArray++Builtin.zeroCells z.cells (grownCap w M 0 e-M)) e),?_,⟨by simpa using hl,.inr ⟨w.heap.size,_,_,by rw [zEF],zAJ _,zHA w.drew _,by rw [zEF];exact T0,zGT w M 0 e (by omega),?_,?_⟩⟩,⟨rfl,rfl,rfl,by simp,fun k hk _=>zEW w.drew _ k hk⟩,?_⟩
   ·simp [Builtin.append_,zDG ht,zDG hu,sizeOf,typeInfo,zeroValue,hi,hz,Cn,PB,gA,hn,h63'',h48,Question.forced,hf w.drew,newRow,grownCap,run_firstCells_none]
   ·simp only [zGV,zCC,size_zeroCells,Me,hl]
    omega
   ·simp [← hl]
   ·intro k hk
    simp only [Value.ownBlock,zCW] at hk
    exact Or.inr (by omega)
 ·by_cases ZN:n+M≤cap
  ·have nm:0+n+news.length≤cur.size:=by rw [hl,Rw];omega
   have Vz:=run_storeCells_at P g n e news 0 cur w hg (by omega) h1
   refine ⟨.slice (some ⟨g,0,none⟩) (n+M) cap,w.setRow g (cur.toList.take (n+0)++news++cur.toList.drop (n+0+news.length)).toArray,?_,⟨Bg,.inr ⟨g,cap,_,rfl,zAJ _,setRow_heap w g cur _ e _ hg,ZN,ZE,?_,?_⟩⟩,⟨rfl,rfl,rfl,by simp,fun k _ hk=>setRow_other w g k _ (fun e=>hk (by simp [Value.ownBlock,e]))⟩,fun k hk=>Or.inl hk⟩
   ·have ha:(⟨g,0,none⟩:Addr).add n=⟨g,n,none⟩:=by unfold Addr.add;split<;>simp_all
    simp [Builtin.append_,zDG ht,zDG hu,sizeOf,typeInfo,hi,Cn,gA,ZN,hf w,ha,Vz]
   ·simp only [zCC,zAB,zAR,zCN,zGM,Nat.add_zero]
    omega
   ·have hx:cur.toList.take n=xs:=by rw [← htake,zFI]
    simp only [Nat.add_zero,hx]
    rw [← Bg]
    exact List.take_left
  ·have holds:∀j u,xs[j]? = some u→w.cell? ((⟨g,0,none⟩:Addr).add j)=some u:=Au.cells (g:=g) rfl
   have T0:=grownCap_ge w (n+M) cap e
   have xN:xs.length=n*1:=Au.1
   have hfo:=run_firstCells_some (P:=P) w.drew 1 n ⟨g,0,none⟩ n cap xs xN (by simpa using holds)
   have h63'':¬(9223372036854775807<((n:Int)+(M:Int))):=by omega
   have h48:¬(281474976710656<Builtin.nextslicecap (n+M) cap):=by have:=growslice_fits (need:=n+M) (old:=cap) (bytes:=1) (by omega) P2;omega
   refine ⟨.slice (some ⟨w.heap.size,0,none⟩) (n+M) (grownCap w (n+M) cap e),w.drew.alloc (.cells (xs.toArray++news.toArray++Builtin.zeroCells z.cells (grownCap w (n+M) cap e-(n+M))) e),?_,⟨Bg,.inr ⟨w.heap.size,_,_,rfl,zAJ _,zHA w.drew _,T0,zGT w (n+M) cap e um,?_,?_⟩⟩,⟨rfl,rfl,rfl,by simp,fun k hk _=>zEW w.drew _ k hk⟩,?_⟩
   ·simp [Builtin.append_,zDG ht,zDG hu,sizeOf,typeInfo,zeroValue,hi,hz,Cn,PB,gA,ZN,h63'',h48,Question.forced,hf w.drew,hfo,newRow,grownCap]
    congr 2
    apply Array.ext'
    simp [zAK]
   ·simp only [zGV,zCC,size_zeroCells,Me,hl,xN]
    omega
   ·simp only [Array.toList_append,zAK]
    rw [← zAK,← Bg]
    exact List.take_left
   ·intro k hk
    simp only [Value.ownBlock,zCW] at hk
    exact Or.inr (by omega)
theorem Fh {t u e:TypeId} (hE:Cd P t e 1 1) (hu:P.underlying u=some .string) (w:World) (v:Value) (n:Nat) (xs:List Value) (Au:w.ownsRow 0 e 1 v n xs) (str:ByteArray) (hb:(n+str.size)*1≤140737488355328∧n+str.size≤maxLen)
  {ops:Array Oper} {rest:List Oper} {o:Oper} {a:Act} {Q:Exit→Act→World→Prop} (BT:Region.wanted o (yielded ops a.tmps)=true) (s x:Operand) (ho:o.op = .call { callee:=.builtin .append,args:=#[s,x],argTypes:=#[t,u] })
  (hs:a.eval s=v) (hx:a.eval x = .string str)
  (h:∀v' w',w'.ownsRow 0 e 1 v' (n+str.size) (xs++B9 (A8 str))→Ac (fun k=>v.ownBlock=some k) w w'→AG w.heap.size v v'→wpList P ops Q rest (a.put o.dst v') w'):wpList P ops Q (o::rest) a w:=by
 obtain ⟨i,z,hi,hz,Cn,PB,Me⟩:=hE.hi
 refine zDU BT fun K hK=>?_
 obtain ⟨v',w',hr,h2,h3,h4⟩:=aW (P:=P) w t u o.type e i z hE.ht hu hi hz Cn PB Me v n xs Au str hb.2 hb.1
 unfold Oper.wp execOp
 simp only [ho,resolve,invoke,builtin,zCK,zDM,zCG,zFL,zBC,zCP,hs,hx,hr]
 exact hK _ _ (h v' w' h2 h3 h4)
end
end
def Vj:List UInt8→List UInt8→Bool:=Op.bytesLess
theorem fY (a:List UInt8):Vj a a=false:=by
 induction a with
 | nil=>rfl
 | cons x a ih=>simp only [Vj,Op.bytesLess] at ih ⊢;simp [ih]
theorem cK:∀(a b c:List UInt8),Vj a b=true→Vj b c=true→Vj a c=true
 | a,[],c,h,_=>by cases a<;>simp [Vj,Op.bytesLess] at h
 | a,b::bs,[],_,h=>by simp [Vj,Op.bytesLess] at h
 | [],b::bs,c::cs,_,_=>rfl
 | a::ar,b::bs,c::cs,h,k=>by
  have ih:=cK ar bs cs
  simp only [Vj,Op.bytesLess,Bool.or_eq_true,zBY,zGB,zCH] at h k ih ⊢
  rcases h with h | ⟨h1,h2⟩
  ·rcases k with k | ⟨k1,k2⟩
   ·exact Or.inl (UInt8.lt_trans h k)
   ·subst k1;exact Or.inl h
  ·subst h1
   rcases k with k | ⟨k1,k2⟩
   ·exact Or.inl k
   ·exact Or.inr ⟨k1,ih h2 k2⟩
theorem WC:∀(a b:List UInt8),Vj a b=false→Vj b a=false→a=b
 | [],[],_,_=>rfl
 | [],b::bs,h,_=>by simp [Vj,Op.bytesLess] at h
 | a::ar,[],_,h=>by simp [Vj,Op.bytesLess] at h
 | a::ar,b::bs,h,k=>by
  have ih:=WC ar bs
  simp only [Vj,Op.bytesLess,Bool.or_eq_false_iff,Bool.and_eq_false_iff,zAQ,zDF,UInt8.not_lt] at h k ih
  have e:a=b:=UInt8.le_antisymm k.1 h.1
  subst e
  rw [ih (by rcases h.2 with h | h;exact absurd rfl h;exact h) (by rcases k.2 with h | h;exact absurd rfl h;exact h)]
def CB (a b:ByteArray):Bool:=Op.bytesLess a.toList b.toList
theorem toList_inj {a b:ByteArray} (h:a.toList=b.toList):a=b:=by
 have ha:a.toList=a.data.toList:=by simp [zES]
 have hb:b.toList=b.data.toList:=by simp [zES]
 rw [ha,hb] at h
 cases a;cases b
 simp only at h
 rw [Array.toList_inj.1 h]
theorem Bz:MH CB:=⟨⟨fun a=>fY _,fun a b c=>cK _ _ _⟩,fun a b h k=>toList_inj (WC _ _ h k)⟩
theorem eqS (a b:ByteArray):(a.toList == b.toList)=decide (a=b):=by
 by_cases h:a=b
 ·subst h;simp
 ·rw [zAV h,zAQ];exact fun e=>h (toList_inj e)
def BM (l:List ByteArray):List Value:=l.map Value.string
theorem BE (l:List ByteArray):(BM l).length=l.length:=by simp [BM]
theorem bh (a b:List ByteArray):BM (a++b)=BM a++BM b:=by simp [BM]
theorem Pj (l:List ByteArray) (j:Nat) (h:j<l.length):(BM l)[j]? = some (.string l[j]):=by simp [BM,h]
end Go.Proofs.YtdcgbgecbeegmaaGreatDoor
end
section
namespace Go.Proofs.YtdcgbgecbeegmaaGreatDoor
section
variable {α:Type}
def JZ (p:α→Bool) (l:List α):Int:=match l.findIdx? p with
 | some i=>(i:Int)
 | none=>-1
theorem Vr {p:α→Bool} {l:List α} {j:Nat} (h:∀x∈l.take j,p x=false) {x:α} (hj:l[j]? = some x) (hp:p x=true):JZ p l=(j:Int):=by
 have Aq:j<l.length:=(zAE.1 hj).1
 have e:l.findIdx? p=some j:=by
  rw [List.findIdx?_eq_some_iff_getElem]
  refine ⟨Aq,by rw [(zAE.1 hj).2];exact hp,fun i hi=>?_⟩
  have hm:l[i]∈l.take j:=by
   rw [zGJ]
   exact ⟨i,by omega,rfl⟩
  rw [h _ hm];simp
 rw [JZ,e]
theorem La {p:α→Bool} {l:List α} (h:∀x∈l,p x=false):JZ p l = -1:=by
 have e:l.findIdx? p=none:=by rw [List.findIdx?_eq_none_iff];exact h
 rw [JZ,e]
theorem WV (p:α→Bool) (l:List α):(JZ p l = -1∧∀x∈l,p x=false)∨∃(j:Nat) (x:α),JZ p l=(j:Int)∧l[j]? = some x∧p x=true∧∀y∈l.take j,p y=false:=by
 cases e:l.findIdx? p with
 | none=>exact Or.inl ⟨by rw [JZ,e],List.findIdx?_eq_none_iff.1 e⟩
 | some j=>
  obtain ⟨hj,hp,hn⟩:=List.findIdx?_eq_some_iff_getElem.1 e
  refine Or.inr ⟨j,l[j],by rw [JZ,e],zAC hj,hp,fun y hy=>?_⟩
  obtain ⟨i,hi,rfl⟩:=zGJ.1 hy
  have:=hn i (by omega)
  simpa using this
theorem UK {p:α→Bool} {l:List α} {j:Nat} (h:∀x∈l.take j,p x=false) {x:α} (hj:l[j]? = some x) (hp:p x=false):∀y∈l.take (j+1),p y=false:=by
 intro y hy
 rw [zAL,hj] at hy
 rcases zBJ.1 hy with e | e
 ·exact h y e
 ·simp at e;subst e;exact hp
end
def Ab (x:Nat):List Nat:=if x<128 then [x] else (x % 128+128)::Ab (x / 128)
termination_by x
decreasing_by omega
theorem AZ {x:Nat} (h:x<128):Ab x=[x]:=by rw [Ab,if_pos h]
theorem C8 {x:Nat} (h:¬x<128):Ab x=(x % 128+128)::Ab (x / 128):=by rw [Ab,if_neg h]
theorem iZ (x:Nat):Ab x≠[]:=by
 by_cases h:x<128
 ·rw [AZ h];simp
 ·rw [C8 h];simp
theorem MU (x:Nat):0<(Ab x).length:=zFF.2 (iZ x)
theorem SA (k x:Nat) (h:x<128 ^ (k+1)):(Ab x).length≤k+1:=by
 induction k generalizing x with
 | zero=>rw [AZ (by simpa using h)];simp
 | succ k ih=>
  by_cases hx:x<128
  ·rw [AZ hx];simp
  ·rw [C8 hx]
   have:=ih (x / 128) (by rw [Nat.div_lt_iff_lt_mul (by decide)];rwa [zDS] at h)
   simp;omega
theorem AE {x:Nat} (h:x<18446744073709551616):(Ab x).length≤10:=SA 9 x (zAO h (by decide))
theorem Gf (x:Nat):∀c∈Ab x,c<256:=by
 induction x using Nat.strongRecOn with
 | _ x ih=>
  by_cases h:x<128
  ·rw [AZ h];intro c hc;simp at hc;omega
  ·rw [C8 h]
   intro c hc
   rcases zAS.1 hc with rfl | hc
   ·omega
   ·exact ih (x / 128) (by omega) c hc
def AX:List Nat→Nat→Nat→Nat × Nat × Nat
 | [],_,_=>(0,0,3)
 | c::cs,i,x=>
  if i=9∧1<c then (0,0,6)
  else if 128≤c then AX cs (i+1) (x+c % 128*2 ^ (7*i))
  else if c=0∧0<i then (0,0,5)
  else (x+c*2 ^ (7*i),i+1,0)
def G8 (b:List Nat) (o:Int):Nat × Int × Nat:=
 if o<0∨(b.length:Int)<o then (0,0,2)
 else ((AX (b.drop o.toNat) 0 0).1,(if (AX (b.drop o.toNat) 0 0).2.2=0 then o+(AX (b.drop o.toNat) 0 0).2.1 else 0),(AX (b.drop o.toNat) 0 0).2.2)
theorem XK {l:List Nat} {i x:Nat} (h:(AX l i x).2.2≠0):(AX l i x).1=0∧(AX l i x).2.1=0:=by
 induction l generalizing i x with
 | nil=>simp [AX]
 | cons c cs ih=>
  rw [AX] at h ⊢
  split
  ·exact ⟨rfl,rfl⟩
  ·next h1=>
   rw [if_neg h1] at h
   split
   ·next h2=>rw [if_pos h2] at h;exact ih h
   ·next h2=>
    rw [if_neg h2] at h
    split
    ·exact ⟨rfl,rfl⟩
    ·next h3=>rw [if_neg h3] at h;simp at h
theorem RI (y i x:Nat) (rest:List Nat) (hi:i≤9) (hy:y<2 ^ (64-7*i)) (hp:0<i→0<y):AX (Ab y++rest) i x=(x+y*2 ^ (7*i),i+(Ab y).length,0):=by
 induction y using Nat.strongRecOn generalizing i x with
 | _ y ih=>
  have h9:i=9→y<2:=fun e=>by subst e;simpa using hy
  by_cases h:y<128
  ·rw [AZ h]
   show AX (y::rest) i x=_
   rw [AX,if_neg (by rintro ⟨e,h1⟩;have:=h9 e;omega),if_neg (by omega),if_neg (by rintro ⟨e,h1⟩;have:=hp h1;omega)]
   simp
  ·rw [C8 h]
   show AX ((y % 128+128)::(Ab (y / 128)++rest)) i x=_
   have BC:i≠9:=fun e=>by have:=h9 e;omega
   rw [AX,if_neg (by rintro ⟨e,_⟩;exact BC e),if_pos (by omega)]
   have nG:2 ^ (64-7*i)=2 ^ (64-7*(i+1))*128:=by
    rw [show 64-7*i=(64-7*(i+1))+7 from by omega,zHF]
   rw [ih (y / 128) (by omega) (i+1) _ (by omega) (by rw [Nat.div_lt_iff_lt_mul (by decide),← nG];exact hy) (fun _=>by omega)]
   have hm:2 ^ (7*(i+1))=128*2 ^ (7*i):=by rw [show 7*(i+1)=7+7*i from by omega,zHF]
   have e1:(y % 128+128) % 128=y % 128:=by omega
   rw [e1,hm]
   have e2:y / 128*(128*2 ^ (7*i))=(y / 128*128)*2 ^ (7*i):=by rw [zFH]
   rw [e2,zDH x,← zEO,show y % 128+y / 128*128=y from by omega]
   simp only [zAH]
   rw [show i+1+(Ab (y / 128)).length=i+((Ab (y / 128)).length+1) from by omega]
theorem aH {l : List Nat} {i x : Nat} (hl : ∀ c ∈ l, c < 256) (hi : i ≤ 9) (h : (AX l i x).2.2 = 0) :
    ∃ y, l.take ((AX l i x).2.1 - i) = Ab y ∧ (AX l i x).1 = x + y * 2 ^ (7 * i) ∧ (0 < i → 0 < y) ∧ y < 2 ^ (64 - 7 * i) ∧ i < (AX l i x).2.1 ∧ (AX l i x).2.1 - i ≤ l.length := by
  induction l generalizing i x with
  | nil => simp [AX] at h
  | cons c cs ih =>
    have hc : c < 256 := hl c (by simp)
    rw [AX] at h ⊢
    by_cases h1 : i = 9 ∧ 1 < c
    · rw [if_pos h1] at h; simp at h
    · rw [if_neg h1] at h ⊢
      by_cases h2 : 128 ≤ c
      · rw [if_pos h2] at h ⊢
        have BC : i ≠ 9 := fun e => h1 ⟨e, by omega⟩
        obtain ⟨y, hy, hx, hp, Aq, NO, NQ⟩ := ih (fun c h => hl c (by simp [h])) (by omega) h
        have hy0 := hp (by omega)
        have nG : 2 ^ (64 - 7 * i) = 2 ^ (64 - 7 * (i + 1)) * 128 := by
          rw [show 64 - 7 * i = (64 - 7 * (i + 1)) + 7 from by omega, zHF]
        have hm : 2 ^ (7 * (i + 1)) = 128 * 2 ^ (7 * i) := by rw [show 7 * (i + 1) = 7 + 7 * i from by omega, zHF]
        refine ⟨c % 128 + y * 128, ?_, ?_, fun _ => by omega, by rw [nG]; omega, by omega, by simp; omega⟩
        · rw [C8 (by omega), show (c % 128 + y * 128) % 128 + 128 = c from by omega, show (c % 128 + y * 128) / 128 = y from by omega, ← hy]
          generalize (AX cs (i + 1) (x + c % 128 * 2 ^ (7 * i))).2.1 = m at *
          rw [show m - i = (m - (i + 1)) + 1 from by omega, zDR]
        · rw [hx, hm, zEO, zDH, zFH]
      · rw [if_neg h2] at h ⊢
        by_cases h3 : c = 0 ∧ 0 < i
        · rw [if_pos h3] at h; simp at h
        · rw [if_neg h3]
          refine ⟨c, ?_, rfl, fun nu => by by_cases e : c = 0
                                           · exact absurd ⟨e, nu⟩ h3
                                           · omega, ?_, by simp, by simp⟩
          · rw [AZ (by omega)]
            simp
          · by_cases e : i = 9
            · subst e
              have : ¬ 1 < c := fun h => h1 ⟨rfl, h⟩
              simp; omega
            · have : 2 ^ 8 ≤ 2 ^ (64 - 7 * i) := zDV (by omega) (by omega)
              omega
theorem RJ (y i x k : Nat) (hi : i ≤ 9) (hy : y < 2 ^ (64 - 7 * i)) (hk : k < (Ab y).length) : AX ((Ab y).take k) i x = (0, 0, 3) := by
  induction y using Nat.strongRecOn generalizing i x k with
  | _ y ih =>
    cases k with
    | zero => rfl
    | succ k =>
      by_cases h : y < 128
      · rw [AZ h] at hk; simp at hk
      · have h9 : i ≠ 9 := fun e => by subst e; have : y < 2 := by simpa using hy
                                       omega
        rw [C8 h] at hk ⊢
        simp only [zAH] at hk
        rw [zDR, AX, if_neg (by rintro ⟨e, _⟩; exact h9 e), if_pos (by omega)]
        have nG : 2 ^ (64 - 7 * i) = 2 ^ (64 - 7 * (i + 1)) * 128 := by
          rw [show 64 - 7 * i = (64 - 7 * (i + 1)) + 7 from by omega, zHF]
        exact ih (y / 128) (by omega) (i + 1) _ k (by omega) (by rw [Nat.div_lt_iff_lt_mul (by decide), ← nG]; exact hy) (by omega)
def unfold (x:Nat):Int:=if x % 2=1 then -((x / 2:Nat):Int)-1 else ((x / 2:Nat):Int)
theorem LW {l:List Nat} {o:Nat} (ho:o≤l.length) {a n e:Nat} (h:AX (l.drop o) 0 0=(a,n,e)):G8 l (o:Int)=(a,(if e=0 then (o:Int)+n else 0),e):=by
 rw [G8,if_neg (by omega),zCA,h]
theorem Fm (before after:List Nat) {y:Nat} (hy:y<18446744073709551616):G8 (before++Ab y++after) (before.length:Int)=(y,((before.length+(Ab y).length:Nat):Int),0):=by
 have h:AX ((before++Ab y++after).drop before.length) 0 0=(y,(Ab y).length,0):=by
  rw [zAK,List.drop_left,RI y 0 0 after (by omega) (by simpa using hy) (by omega)]
  simp
 rw [LW (by simp) h]
 simp
theorem Cq {l:List Nat} (hl:∀c∈l,c<256) {i:Nat} (hi:i≤l.length) :
  (∃e,e≠0∧G8 l (i:Int)=(0,0,e))∨
  (∃x n,G8 l (i:Int)=(x,((i+n:Nat):Int),0)∧0<n∧i+n≤l.length∧(l.take (i+n)).drop i=Ab x∧x<18446744073709551616):=by
 obtain ⟨a,n,e,h⟩:∃a n e,AX (l.drop i) 0 0=(a,n,e):=⟨_,_,_,rfl⟩
 have hd:∀c∈l.drop i,c<256:=fun c hc=>hl c (zFB hc)
 by_cases he:e=0
 ·subst he
  obtain ⟨y,h1,h2,_,h4,h5,h6⟩:=aH hd (zAJ 9) (show (AX (l.drop i) 0 0).2.2=0 by rw [h])
  rw [h] at h1 h2 h5 h6
  simp only [Nat.sub_zero,Nat.mul_zero,Nat.pow_zero,zFI,zEF] at h1 h2 h4 h5 h6
  rw [zCN] at h6
  refine .inr ⟨y,n,?_,h5,by omega,?_,by simpa using h4⟩
  ·rw [LW hi h,h2];simp
  ·rw [List.drop_take,zFG];exact h1
 ·obtain ⟨h1,h2⟩:=XK (show (AX (l.drop i) 0 0).2.2≠0 by rw [h];exact he)
  rw [h] at h1 h2
  refine .inl ⟨e,he,?_⟩
  rw [LW hi h,if_neg he,show a=0 from h1]
inductive Mm (α:Type) where
 | ok (x:α) (to:Nat)
 | bad (e:Nat)
def bytesOf (s:List Nat):List Nat:=Ab s.length++s
def AH (id:Nat) (s:List Nat):List Nat:=Db (id::bytesOf s)
theorem MN {s:List Nat} (h:∀c∈s,c<256):∀c∈bytesOf s,c<256:=fun c hc=>by
 rcases zBJ.1 hc with h1 | h1
 ·exact Gf _ c h1
 ·exact h c h1
theorem Sy {id:Nat} {s:List Nat} (hi:id<256) (h:∀c∈s,c<256):∀c∈AH id s,c<256:=fH (fun c hc=>by
 rcases zAS.1 hc with rfl | h1
 ·exact hi
 ·exact MN h c h1)
theorem CX (s:List Nat):(bytesOf s).length=(Ab s.length).length+s.length:=by simp [bytesOf]
theorem Ez (id:Nat) (s:List Nat):(AH id s).length=1+(Ab s.length).length+s.length+4:=by
 rw [AH,Cf,zAH,CX];omega
end Go.Proofs.YtdcgbgecbeegmaaGreatDoor
end
section
namespace Go.Proofs.YtdcgbgecbeegmaaGreatDoor
open Go Go.RowKit
def Dx (l:List ByteArray) (x:ByteArray):Int:=JZ (fun y=>decide (y=x)) l
theorem Ey {t:List ByteArray} {s:ByteArray} (h:s∈t):∃j:Nat,Dx t s=(j:Int)∧t[j]? = some s:=by
 rcases WV (fun y=>decide (y=s)) t with ⟨_,h2⟩ | ⟨j,x,h1,h2,h3,_⟩
 ·have:=h2 s h;simp at this
 ·have:x=s:=by simpa using h3
  subst this
  exact ⟨j,h1,h2⟩
theorem E9 {t:List ByteArray} {s:ByteArray} (h:s∉t):Dx t s = -1:=
 La fun y hy=>by simp only [zDF];rintro rfl;exact h hy
theorem mL {t:List ByteArray} (ht:t.Nodup) {n:Nat} {s:ByteArray} (h:t[n]? = some s):Dx t s=(n:Int):=by
 obtain ⟨j,h1,h2⟩:=Ey (zAG h)
 rw [h1]
 have hj:=(zAE.1 h2).1
 have:=(List.getElem?_inj hj ht).1 (h2.trans h.symm)
 omega
def MI (w w':World) (e:TypeId) (sz:Nat) (r:Value) (n:Nat) (vs:List Value):Prop:=w'.ownsRow w.heap.size e sz r n vs∧Below w.heap.size w w'
section
section
variable {t:TypeId} {α:Type} {f1 f2:α→Value}
def two (f1 f2:α→Value) (d:List α):List Value:=d.flatMap fun x=>[f1 x,f2 x]
theorem Ff (d:List α):(two f1 f2 d).length=d.length*2:=by
 induction d with
 | nil=>rfl
 | cons r d ih=>rw [two,zBN,zAB,← two,ih,zAH];simp;omega
theorem TK (a b:List α):two f1 f2 (a++b)=two f1 f2 a++two f1 f2 b:=by simp [two,zBO]
theorem Fo (d:List α) (j:Nat) (x:α) (h:d[j]? = some x):(two f1 f2 d)[j*2]? = some (f1 x)∧(two f1 f2 d)[j*2+1]? = some (f2 x):=by
 induction d generalizing j with
 | nil=>simp at h
 | cons r d ih=>
  have e:two f1 f2 (r::d)=f1 r::f2 r::two f1 f2 d:=rfl
  cases j with
  | zero=>
   simp at h
   subst h
   rw [e]
   exact ⟨rfl,rfl⟩
  | succ j=>
   obtain ⟨h1,h2⟩:=ih j (by simpa using h)
   rw [e,show (j+1)*2=j*2+2 by omega]
   exact ⟨by simpa using h1,by simpa using h2⟩
theorem X6 (d:List α) (i:Nat) (y:α):((two f1 f2 d).set (i*2) (f1 y)).set (i*2+1) (f2 y)=two f1 f2 (d.set i y):=by
 induction d generalizing i with
 | nil=>rfl
 | cons r d ih=>
  have e:two f1 f2 (r::d)=f1 r::f2 r::two f1 f2 d:=rfl
  cases i with
  | zero=>rw [e];rfl
  | succ i=>
   rw [e,show (i+1)*2=i*2+1+1 by omega]
   simp only [zBT]
   rw [ih i];rfl
structure ER (t:TypeId) (f1 f2:α→Value) (w wr:World) (d:List α) (v:Value):Prop where
 row:wr.ownsRow w.heap.size t 2 v d.length (two f1 f2 d)
 AA:Below w.heap.size w wr
theorem ER.nil (w:World):ER t f1 f2 w w [] (.slice none 0 0):=⟨zBI _ _ _ _,zAM _ _⟩
theorem ER.below {w wr w1:World} {d:List α} {v:Value} (h:ER t f1 f2 w wr d v) (hb:Below wr.heap.size wr w1):ER t f1 f2 w w1 d v:=
 ⟨(Ac.Ah hb (fun _=>False)).owns h.row (fun _ _ e=>e),h.AA.trans (hb.mono h.AA.size)⟩
theorem ER.shape {w wr:World} {d:List α} {v:Value} (h:ER t f1 f2 w wr d v):∃p c,v = .slice p d.length c:=(Rd.Ad h.row).shape
theorem ER.rd {w wr:World} {d:List α} {v:Value} (h:ER t f1 f2 w wr d v):Rd wr 2 v d.length (two f1 f2 d):=Rd.Ad h.row
theorem ER.Cz {w wr:World} {d:List α} {v:Value} (h:ER t f1 f2 w wr d v):wr.ownsRow 0 t 2 v d.length (two f1 f2 d):=Af h.row (fun _ _=>zAJ _)
theorem ER.B5 {w wr w1:World} {d:List α} {v v1:Value} {x:α} (h:ER t f1 f2 w wr d v) (k:w1.ownsRow 0 t 2 v1 (d.length+1) (two f1 f2 d++[f1 x,f2 x])) (m:Ac (fun k=>v.ownBlock=some k) wr w1) (hf:AG wr.heap.size v v1):ER t f1 f2 w w1 (d++[x]) v1:=by
 refine ⟨?_,h.AA.trans (m.below h.AA.size (fun k hk e=>by have:=(h.row.lt k e).1;omega))⟩
 rw [zAB,TK]
 refine Af k (fun k hk=>?_)
 rcases hf k hk with e | e
 ·exact (h.row.lt k e).1
 ·have:=h.AA.size;omega
theorem ER.len {w wr:World} {d:List α} {p:Option Addr} {n c:Nat} (h:ER t f1 f2 w wr d (.slice p n c)):n=d.length:=by
 obtain ⟨p',c',h'⟩:=h.shape
 simp only [zAN] at h'
 exact h'.2.1
theorem ER.stored {w wr:World} {d e:List α} {g n c i:Nat} {y:α} (h:ER t f1 f2 w wr d (.slice (some ⟨g,0,none⟩) n c)) (he:d.set i y=e):ER t f1 f2 w ((wr.setCell ⟨g,i*2,none⟩ (f1 y)).setCell ⟨g,i*2+1,none⟩ (f2 y)) e (.slice (some ⟨g,0,none⟩) n c):=by
 subst he
 obtain rfl:=h.len
 have G6:Ac (fun k=>k=g) wr (wr.setCell ⟨g,i*2,none⟩ (f1 y)):=Ac.set _ _ _ _ (fun _=>rfl)
 have F6:Ac (fun k=>k=g) (wr.setCell ⟨g,i*2,none⟩ (f1 y)) ((wr.setCell ⟨g,i*2,none⟩ (f1 y)).setCell ⟨g,i*2+1,none⟩ (f2 y)):=Ac.set _ _ _ _ (fun _=>rfl)
 have hg:=(h.row.lt g rfl).1
 refine ⟨?_,h.AA.trans ((G6.trans F6 (fun _ _ e=>e)).below h.AA.size (fun k hk e=>by omega))⟩
 rw [zFC,← X6]
 exact ((h.row.stored (i*2) _).1.stored (i*2+1) _).1
theorem ER.cell {w wr:World} {d:List α} {g n c i:Nat} {x:α} (h:ER t f1 f2 w wr d (.slice (some ⟨g,0,none⟩) n c)) (hi:d[i]? = some x) :
  (wr.cell? ⟨g,i*2,none⟩=some (f1 x)∧wr.cell? ⟨g,i*2+1,none⟩=some (f2 x))∧(wr.frozen? ⟨g,i*2,none⟩=false∧wr.frozen? ⟨g,i*2+1,none⟩=false):=by
 obtain rfl:=h.len
 obtain ⟨h1,h2⟩:=Fo (f1:=f1) (f2:=f2) d i x hi
 have Aq:=(zAE.1 hi).1
 have hl:=Ff (f1:=f1) (f2:=f2) d
 exact ⟨⟨by rw [h.row.cellAt (i*2) (by omega)];exact h1,by rw [h.row.cellAt (i*2+1) (by omega)];exact h2⟩,h.row.frozenAt _,h.row.frozenAt _⟩
theorem Bm {w:World} {b off c n:Nat} {d:List α} (h:Rd w 2 (.slice (some ⟨b,off,none⟩) n c) n (two f1 f2 d)) {i:Nat} {x:α} (hi:d[i]? = some x) :
  w.cell? ⟨b,off+i*2,none⟩=some (f1 x)∧w.cell? ⟨b,off+i*2+1,none⟩=some (f2 x):=by
 obtain ⟨h1,h2⟩:=Fo (f1:=f1) (f2:=f2) d i x hi
 obtain ⟨b2,o2,c2,e,_,_,hc⟩:=h.at (fun e=>by rw [e] at h1;cases h1)
 simp only [zAN,zCW,zGR] at e
 obtain ⟨⟨rfl,rfl,_⟩,_,rfl⟩:=e
 exact ⟨hc _ _ h1,hc _ _ h2⟩
theorem EG {w:World} {p:Option Addr} {c n:Nat} {d:List α} (h:Rd w 2 (.slice p n c) n (two f1 f2 d)) {i:Nat} {x:α} (hi:d[i]? = some x):∃b off,p=some ⟨b,off,none⟩:=by
 obtain ⟨h1,_⟩:=Fo (f1:=f1) (f2:=f2) d i x hi
 obtain ⟨b2,o2,c2,e,_,_,_⟩:=h.at (fun e=>by rw [e] at h1;cases h1)
 simp only [zAN] at e
 exact ⟨b2,o2,e.1⟩
end
theorem ER.extended {α:Type} {t:TypeId} {f1 f2:α→Value} {w wr w1:World} {d e:List α} {v v1:Value} (h:ER t f1 f2 w wr d v) (k:w1.ownsRow 0 t 2 v1 (d.length+e.length) (two f1 f2 d++two f1 f2 e)) (m:Ac (fun k=>v.ownBlock=some k) wr w1) (hf:AG wr.heap.size v v1):ER t f1 f2 w w1 (d++e) v1:=by
 refine ⟨?_,h.AA.trans (m.below h.AA.size (fun k hk e=>by have:=(h.row.lt k e).1;omega))⟩
 rw [zAB,TK]
 refine Af k (fun k hk=>?_)
 rcases hf k hk with e | e
 ·exact (h.row.lt k e).1
 ·have:=h.AA.size;omega
end
end Go.Proofs.YtdcgbgecbeegmaaGreatDoor
end
