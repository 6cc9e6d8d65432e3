/- Texts 14. -/
import Derived.Test.YtdcgbgecbeegmaaGreatDoorMgSA
import Derived.Test.YtdcgbgecbeegmaaGreatDoorMgS13
import Derived.Test.YtdcgbgecbeegmaaGreatDoorMgS11
import Derived.ProofKit
import Derived.OpenShut
import Derived.Deep.Slices
import Derived.SizedLaws
import Derived.RegionTactic
import Derived.Laws.Slices
import Derived.ChangeKeysEq
import Derived.OrdersHeld
set_option linter.unusedVariables false
set_option linter.unusedSimpArgs false
set_option maxHeartbeats 400000000
set_option maxRecDepth 100000
section
namespace Go.Proofs.YtdcgbgecbeegmaaGreatDoor
open Go Go.RowKit
theorem Ga (l:List Dt):Al l=two (fun x:Dt=>Value.int .i64 x.1) (fun x:Dt=>Value.int .u64 (x.2:Int)) l:=rfl
def En (w:World) (h:Value × Value) (s:AJ):Prop:=Rd w 2 h.1 s.1.length (Am s.1)∧Rd w 2 h.2 s.2.length (Al s.2)
theorem En.below {w w':World} {h:Value × Value} {s:AJ} (k:En w h s) (hb:Below w.heap.size w w'):En w' h s:=⟨k.1.below hb,k.2.below hb⟩
structure FU (w:World) (v:Value) (b:List AJ):Prop where
 ex:∃hs:List (Value × Value),Rd w 2 v hs.length (two Prod.fst Prod.snd hs)∧hs.length=b.length∧∀(i:Nat) (h:Value × Value) (s:AJ),hs[i]? = some h→b[i]? = some s→En w h s
theorem FU.below {w w':World} {v:Value} {b:List AJ} (k:FU w v b) (hb:Below w.heap.size w w'):FU w' v b:=by
 obtain ⟨hs,h1,h2,h3⟩:=k.ex
 exact ⟨hs,h1.below hb,h2,fun i h s hi hj=>(h3 i h s hi hj).below hb⟩
theorem FU.shape {w:World} {v:Value} {b:List AJ} (k:FU w v b):∃p c,v = .slice p b.length c:=by
 obtain ⟨hs,h1,h2,_⟩:=k.ex
 rw [← h2]
 exact h1.shape
theorem FU.le {w:World} {v:Value} {b:List AJ} (k:FU w v b):b.length≤maxLen:=by
 obtain ⟨hs,h1,h2,_⟩:=k.ex
 rw [← h2]
 exact h1.le
theorem FU.at {w:World} {p:Option Addr} {n c:Nat} {b:List AJ} (k:FU w (.slice p n c) b) {i:Nat} {s:AJ} (hi:b[i]? = some s) :
  ∃AM off h1 h2,p=some ⟨AM,off,none⟩∧w.cell? ⟨AM,off+i*2,none⟩=some h1∧w.cell? ⟨AM,off+i*2+1,none⟩=some h2∧En w (h1,h2) s:=by
 obtain ⟨hs,h1,h2,h3⟩:=k.ex
 have Aq:=(zAE.1 hi).1
 obtain ⟨h,hh⟩:∃h,hs[i]? = some h:=⟨_,zAC (by omega)⟩
 obtain ⟨p',c',e⟩:=h1.shape
 simp only [zAN] at e
 obtain ⟨rfl,rfl,rfl⟩:=e
 obtain ⟨AM,off,rfl⟩:=EG h1 hh
 obtain ⟨c1,c2⟩:=Bm h1 hh
 exact ⟨AM,off,h.1,h.2,rfl,c1,c2,h3 i h s hh hi⟩
theorem FU.always {w:World} {p:Option Addr} {n c:Nat} {b:List AJ} (k:FU w (.slice p n c) b) {i:Nat} {s:AJ} (hi:b[i]? = some s) :
  ∃AM off h1 h2,p=some ⟨AM,off,none⟩∧(∃p1 c1,h1 = .slice p1 s.1.length c1)∧(∃p2 c2,h2 = .slice p2 s.2.length c2)∧
   ∀w',Below w.heap.size w w'→w'.cell? ⟨AM,off+i*2,none⟩=some h1∧w'.cell? ⟨AM,off+i*2+1,none⟩=some h2∧En w' (h1,h2) s:=by
 obtain ⟨AM,off,h1,h2,e,c1,c2,hs⟩:=k.at hi
 exact ⟨AM,off,h1,h2,e,hs.1.shape,hs.2.shape,fun w' hb=>⟨(hb.cell (zAP w _ c1)).trans c1,(hb.cell (zAP w _ c2)).trans c2,hs.below hb⟩⟩
def Sb (s:AJ):Prop:=(∀x∈s.1,x.1.size≤9223372036854775807∧x.2.size≤9223372036854775807)∧∀x∈s.2,EK x
def Du (b:List AJ):Prop:=∀s∈b,Sb s
structure Jn (b:List AJ):Prop where
 len:b.length≤300
 ko:Aw b≤3000
 NV:∀s∈b,s.1.length≤200
theorem Jn.mem {b:List AJ} (h:Jn b) {s:AJ} (hs:s∈b):s.2.length≤3000:=zAW (Pf hs) h.ko
structure KS (b:List AJ):Prop where
 len:b.length≤20000
 ko:Aw b≤1000000
 flat:(b.map Prod.fst).flatten.length≤60000
theorem dt {α:Type} {l:List (List α)} {x:List α} (h:x∈l):x.length≤l.flatten.length:=by
 induction l with
 | nil=>cases h
 | cons y l ih=>
  rw [zFZ,zAB]
  rcases zAS.1 h with rfl | h
  ·omega
  ·have:=ih h;omega
theorem KS.NV {b:List AJ} (h:KS b):∀s∈b,s.1.length≤60000:=fun s hs=>zAW (dt (zBU.2 ⟨s,hs,rfl⟩)) h.flat
theorem KS.mem {b:List AJ} (h:KS b) {s:AJ} (hs:s∈b):s.2.length≤1000000:=zAW (Pf hs) h.ko
theorem Jn.mid {b:List AJ} (h:Jn b):KS b:=by
 have key:∀(b:List AJ),(∀s∈b,s.1.length≤200)→(b.map Prod.fst).flatten.length≤b.length*200:=by
  intro b
  induction b with
  | nil=>intro _;simp
  | cons s b ih=>
   intro h
   rw [zBC,zFZ,zAB,zAH]
   have:=h s (by simp)
   have:=ih (fun t ht=>h t (by simp [ht]))
   omega
 have h1:=key b h.NV
 have h2:=h.len
 exact ⟨by omega,by have:=h.ko;omega,by omega⟩
theorem Pk (l:List ByteArray):∀u∈BM l,u.oneCell'=true:=by
 intro u hu
 simp only [BM,zBU] at hu
 obtain ⟨n,_,rfl⟩:=hu
 rfl
theorem Tryz.infoPz:(Tryz.prog.info? 9).map (fun i=>(i.zero,i.size,i.bytes))=some (some (.string ⟨#[]⟩),1,16):=by kernel_rfl
theorem Tryz.JW:Cd Tryz.prog 44 9 1 16:=Cd.mk' Tryz.underlying44 Tryz.infoPz rfl (by decide)
end Go.Proofs.YtdcgbgecbeegmaaGreatDoor
end
section
namespace Go.Proofs.YtdcgbgecbeegmaaGreatDoor
open Go Go.RowKit Go.ChangeShapes
def Nk (P:Program) (e:TypeId) (sz:Nat) {α:Type} (f:α→List Value) (ok:α→Prop):Prop:=
 P.cellsOf e=sz∧∀(H:Type) (enc:TypeId × Value→H) (w:World) (base:Nat) (spare:Nat→Bool) (held:Bool) (fuel:Nat) (cs:List Value) (x:DataW H × List MemPlace),
  DataW.trod enc P w base spare held fuel e cs=some x→∃a,ok a∧cs=f a
theorem Nk.map {P:Program} {e:TypeId} {sz:Nat} {α β:Type} {f:α→List Value} {ok:α→Prop} (h:Nk P e sz f ok) {g:β→List Value} {ok':β→Prop} (hm:∀a,ok a→∃b,ok' b∧f a=g b):Nk P e sz g ok':=
 ⟨h.1,fun H enc w base spare held fuel cs x hx=>by
  obtain ⟨a,ha,rfl⟩:=h.2 H enc w base spare held fuel cs x hx
  exact hm a ha⟩
theorem Zx {P:Program} {e:TypeId} {k:IntKind} (he:P.underlying e=some (.int k)) (hc:P.cellsOf e=1):Nk P e 1 (fun z:Int=>[Value.int k z]) (fun z=>(Lit.int k z).wf=true):=
 ⟨hc,fun H enc w base spare held fuel cs x hx=>by
  obtain ⟨n,rfl,_,hw⟩:=DataW.trod_int he hx
  exact ⟨n,hw,rfl⟩⟩
theorem QH {P:Program} {e:TypeId} (he:P.underlying e=some .string) (hc:P.cellsOf e=1):Nk P e 1 (fun s:ByteArray=>[Value.string s]) (fun s=>s.size≤maxLen):=
 ⟨hc,fun H enc w base spare held fuel cs x hx=>by
  obtain ⟨s,rfl,_,hs⟩:=DataW.trod_string he hx
  exact ⟨s,hs,rfl⟩⟩
theorem NH {P:Program} {e:TypeId} {f0 f1:Field} {s0 s1:Nat} {α β:Type} {g0:α→List Value} {g1:β→List Value} {k0:α→Prop} {k1:β→Prop}
  (he:P.underlying e=some (.struct #[f0,f1])) (hc:P.cellsOf e=s0+s1) (o0:f0.offset=0) (o1:f1.offset=s0) (h0:Nk P f0.type s0 g0 k0) (h1:Nk P f1.type s1 g1 k1) :
  Nk P e (s0+s1) (fun a:α × β=>g0 a.1++g1 a.2) (fun a=>k0 a.1∧k1 a.2):=
 ⟨hc,fun H enc w base spare held fuel cs x hx=>by
  obtain ⟨y0,y1,n,_,hl,t0,t1⟩:=trod_struct2 he hx
  rw [o0,h0.1] at t0
  rw [o1,h1.1] at t1
  obtain ⟨a,ha,ea⟩:=h0.2 H enc w base spare held n _ _ t0
  obtain ⟨b,hb,eb⟩:=h1.2 H enc w base spare held n _ _ t1
  refine ⟨(a,b),⟨ha,hb⟩,?_⟩
  show cs=g0 a++g1 b
  rw [← ea,← eb]
  simp only [List.drop_zero]
  rw [zAF (l:=cs.drop s0) (by rw [zCN,hl,hc];omega),zBD]⟩
theorem iF {w:World} {base:Nat} {a:Addr} {n:Nat} {cs:List Value} (h:w.cells? base a n=some cs):cs.length=n∧∀(j:Nat) (u:Value),cs[j]? = some u→w.cell? (a.add j)=some u:=by
 unfold World.cells? at h
 split at h
 ·have key:∀(l:List Nat) (cs:List Value),l.mapM (fun i=>w.cell? (a.add i))=some cs→cs.length=l.length∧∀(j:Nat) (u:Value),cs[j]? = some u→∃i,l[j]? = some i∧w.cell? (a.add i)=some u:=by
   intro l
   induction l with
   | nil=>intro cs h;simp at h;subst h;simp
   | cons i l ih=>
    intro cs h
    rw [List.mapM_cons] at h
    simp only [Option.bind_eq_bind,Option.bind_eq_some_iff,Option.pure_def,zCW] at h
    obtain ⟨x,hx,ys,uS,rfl⟩:=h
    obtain ⟨h1,h2⟩:=ih ys uS
    refine ⟨by simp [h1],fun j u hu=>?_⟩
    cases j with
    | zero=>simp at hu;subst hu;exact ⟨i,rfl,hx⟩
    | succ j=>simp at hu;obtain ⟨i',hi',hc⟩:=h2 j u hu;exact ⟨i',by simpa using hi',hc⟩
  obtain ⟨h1,h2⟩:=key _ _ h
  refine ⟨by simpa using h1,fun j u hu=>?_⟩
  obtain ⟨i,hi,hc⟩:=h2 j u hu
  rw [List.getElem?_range (by rcases Nat.lt_or_ge j n with hj | hj;exact hj;simp [zCJ (show cs.length≤j by rw [h1];simpa using hj)] at hu)] at hi
  simp at hi
  subst hi
  exact hc
 ·cases h
theorem Zv {α β:Type} {sz:Nat} (f:α→List β) (l:List α) (hf:∀a∈l,(f a).length=sz) (i k:Nat) (hk:k<sz) (u:β) (h:(l.flatMap f)[i*sz+k]? = some u):∃a,l[i]? = some a∧(f a)[k]? = some u:=by
 induction l generalizing i with
 | nil=>simp at h
 | cons a l ih=>
  have ha:=hf a (by simp)
  rw [zBN] at h
  cases i with
  | zero=>
   rw [Nat.zero_mul,zEF,zCE (by omega)] at h
   exact ⟨a,rfl,h⟩
  | succ i=>
   rw [zBS (by rw [ha,zEO];omega),ha,show (i+1)*sz+k-sz=i*sz+k by rw [zEO];omega] at h
   obtain ⟨b,hb,hu⟩:=ih (fun a ha=>hf a (by simp [ha])) i h
   exact ⟨b,by simpa using hb,hu⟩
theorem Zw {α β:Type} {sz:Nat} (f:α→List β) (l:List α) (hf:∀a∈l,(f a).length=sz):(l.flatMap f).length=l.length*sz:=by
 induction l with
 | nil=>simp
 | cons a l ih=>rw [zBN,zAB,hf a (by simp),ih (fun a ha=>hf a (by simp [ha])),zAH,zEO];omega
theorem mT {P:Program} {e:TypeId} (he:P.underlying e=some (.int .u64)) (hc:P.cellsOf e=1):Nk P e 1 (fun n:Nat=>[Value.int .u64 (n:Int)]) (fun n=>n<18446744073709551616):=
 (Zx he hc).map fun z hz=>by
  have:=bounds_u64 hz
  exact ⟨z.toNat,by omega,by rw [Int.toNat_of_nonneg (by omega)]⟩
theorem mR {P:Program} {e:TypeId} (he:P.underlying e=some (.int .i64)) (hc:P.cellsOf e=1):Nk P e 1 (fun z:Int=>[Value.int .i64 z]) (fun z=>-9223372036854775808≤z∧z<9223372036854775808):=
 (Zx he hc).map fun z hz=>by
  have:=bounds_i64 hz
  exact ⟨z,by omega,rfl⟩
end Go.Proofs.YtdcgbgecbeegmaaGreatDoor
end
section
namespace Go.Proofs.YtdcgbgecbeegmaaGreatDoor
open Go Go.RowKit
section
structure Cp (t:TypeId) {α:Type} (f:α→Value) (w wr:World) (d:List α) (v:Value):Prop where
 row:wr.ownsRow w.heap.size t 1 v d.length (d.map f)
 AA:Below w.heap.size w wr
variable {t:TypeId} {α:Type} {f:α→Value}
theorem Cp.nil (w:World):Cp t f w w [] (.slice none 0 0):=⟨zBI _ _ _ _,zAM _ _⟩
theorem Cp.drewN {w wr:World} {d:List α} {v:Value} (h:Cp t f w wr d v) (n:Nat):Cp t f w (wr.drewN n) d v:=
 ⟨(Ac.drewN (fun _=>False) wr n).owns h.row (fun _ _ e=>e),h.AA.trans ((Ac.drewN (fun _=>False) wr n).below h.AA.size (fun _ _ e=>e))⟩
theorem Cp.below {w wr w1:World} {d:List α} {v:Value} (h:Cp t f w wr d v) (hb:Below wr.heap.size wr w1):Cp t f w w1 d v:=
 ⟨(Ac.Ah hb (fun _=>False)).owns h.row (fun _ _ e=>e),h.AA.trans (hb.mono h.AA.size)⟩
theorem Cp.B5 {w wr w1:World} {d:List α} {v v1:Value} {x:α} (h:Cp t f w wr d v) (k:w1.ownsRow 0 t 1 v1 (d.length+1) (d.map f++[f x])) (m:Ac (fun k=>v.ownBlock=some k) wr w1) (hf:AG wr.heap.size v v1):Cp t f w w1 (d++[x]) v1:=by
 refine ⟨?_,h.AA.trans (m.below h.AA.size (fun k hk e=>by have:=(h.row.lt k e).1;omega))⟩
 rw [zAB,zCD]
 refine Af k (fun k hk=>?_)
 rcases hf k hk with e | e
 ·exact (h.row.lt k e).1
 ·have:=h.AA.size;omega
theorem Cp.extended {w wr w1:World} {d e:List α} {v v1:Value} (h:Cp t f w wr d v) (k:w1.ownsRow 0 t 1 v1 (d.length+e.length) (d.map f++e.map f)) (m:Ac (fun k=>v.ownBlock=some k) wr w1) (hf:AG wr.heap.size v v1):Cp t f w w1 (d++e) v1:=by
 refine ⟨?_,h.AA.trans (m.below h.AA.size (fun k hk e=>by have:=(h.row.lt k e).1;omega))⟩
 rw [zAB,zCD]
 refine Af k (fun k hk=>?_)
 rcases hf k hk with e | e
 ·exact (h.row.lt k e).1
 ·have:=h.AA.size;omega
theorem Cp.shape {w wr:World} {d:List α} {v:Value} (h:Cp t f w wr d v):∃p c,v = .slice p d.length c:=(Rd.Ad h.row).shape
theorem Cp.rd {w wr:World} {d:List α} {v:Value} (h:Cp t f w wr d v):Rd wr 1 v d.length (d.map f):=Rd.Ad h.row
theorem Cp.Cz {w wr:World} {d:List α} {v:Value} (h:Cp t f w wr d v):wr.ownsRow 0 t 1 v d.length (d.map f):=Af h.row (fun _ _=>zAJ _)
theorem Cp.stored {w wr:World} {d e:List α} {g n c i:Nat} {y:α} (h:Cp t f w wr d (.slice (some ⟨g,0,none⟩) n c)) (he:d.set i y=e):Cp t f w (wr.setCell ⟨g,i,none⟩ (f y)) e (.slice (some ⟨g,0,none⟩) n c):=by
 subst he
 have hn:n=d.length:=by
  obtain ⟨p,c',h'⟩:=(Rd.Ad h.row).shape
  simp only [zAN] at h'
  exact h'.2.1
 subst hn
 have hm:Ac (fun k=>k=g) wr (wr.setCell ⟨g,i,none⟩ (f y)):=Ac.set _ _ _ _ (fun _=>rfl)
 have hg:=(h.row.lt g rfl).1
 refine ⟨?_,h.AA.trans (hm.below h.AA.size (fun k hk e=>by omega))⟩
 rw [zFC,zGO]
 exact (h.row.stored i _).1
theorem Cp.cell {w wr:World} {d:List α} {g n c i:Nat} (h:Cp t f w wr d (.slice (some ⟨g,0,none⟩) n c)) (hi:i<d.length):wr.cell? ⟨g,i,none⟩=some (f d[i])∧wr.frozen? ⟨g,i,none⟩=false:=by
 have hn:n=d.length:=by
  obtain ⟨p,c',h'⟩:=(Rd.Ad h.row).shape
  simp only [zAN] at h'
  exact h'.2.1
 subst hn
 refine ⟨?_,h.row.frozenAt _⟩
 rw [h.row.cellAt i (by omega)]
 simp [hi]
theorem Gt {w:World} {b off c n:Nat} {d:List α} (h:Rd w 1 (.slice (some ⟨b,off,none⟩) n c) n (d.map f)) {i:Nat} (hi:i<d.length):w.cell? ⟨b,off+i,none⟩=some (f d[i]):=by
 obtain ⟨b2,o2,c2,e,_,_,hc⟩:=h.at (fun e=>by have:=congrArg List.length e;simp at this;subst this;simp at hi)
 simp only [zAN,zCW,zGR] at e
 obtain ⟨⟨rfl,rfl,_⟩,_,rfl⟩:=e
 exact hc i _ (by simp [hi])
theorem Nh (d:List α) (k:Nat) (y z:α) (hk:k≤d.length):(d.take k++y::d.drop k).set k z=d.take k++z::d.drop k:=by
 have hl:(d.take k).length=k:=by rw [zAR];omega
 rw [zDQ _ _ (by omega),hl,zFD,zBL]
theorem ku (d:List α) (k:Nat) (hk:k<d.length) (z:α) (hz:d[k]=z):d.take (k+1)++z::d.drop (k+1)=d.take k++z::d.drop k:=by
 have e:d.drop k=z::d.drop (k+1):=by rw [← hz,zEG]
 rw [zAL,zAC hk,hz,e,zAK]
 rfl
end
section
def J7 (md:Region.Mode) (ops:Array Oper) (calls:List Nat):List Nat→Array Bool→Bool
 | [],listed=>(Region.ready md ops listed).isEmpty
 | i::rest,listed=>(if calls.contains i then Region.ready md ops listed == [i] else Region.free md ops listed i&&(Region.ready md ops listed).contains i)&&J7 md ops calls rest (listed.setIfInBounds i true)
def Cj (l:List Oper) (L:List Nat):List (Nat × Oper):=L.map fun i=>(i,(l[i]?).getD { dst:=none,op:=.move (.tmp 0),type:=0,pos:= "",after:=#[],guard:=none })
theorem put_defers (a:Act) (d:Option Tmp) (v:Value):(a.put d v).defers=a.defers:=by cases d<;>rfl
section
variable {P:Program} {l:List Oper} {Q:Exit→Act→World→Prop} {md:Region.Mode} {calls:List Nat}
variable {ops:Array Oper}
end
end
section
theorem Addr.add_add (ad:Addr) (i j:Nat):(ad.add i).add j=ad.add (i+j):=by
 unfold Addr.add
 by_cases hi:i=0
 ·simp [hi]
 ·by_cases hj:j=0
  ·simp [hi,hj]
  ·simp [hi,hj,zDH]
theorem Rd.from {w:World} {sz:Nat} {p:Option Addr} {n c:Nat} {vs:List Value} (h:Rd w sz (.slice p n c) n vs) (i:Nat) (hi:i≤n) :
  Rd w sz (sliced p i n c sz) (n-i) (vs.drop (i*sz)):=by
 obtain ⟨p',c',e,h1,h2,h3,h4,h5⟩:=h
 cases e
 refine ⟨_,_,rfl,by rw [zCN,h1,Nat.sub_mul],by omega,by omega,?_,?_⟩
 ·intro hp
  split at hp
  ·obtain ⟨rfl,rfl⟩:=h4 hp;simp
  ·cases p with
   | none=>obtain ⟨rfl,rfl⟩:=h4 rfl;simp
   | some a=>simp at hp
 ·intro ad yJ j u hu
  rw [zFQ] at hu
  split at yJ
  ·next hc=>
   have Aq:=(zAE.1 hu).1
   rw [h1] at Aq
   have:n=i:=by omega
   subst this
   omega
  ·cases p with
   | none=>simp at yJ
   | some a=>
    simp only [zEV,zCW] at yJ
    subst yJ
    rw [Addr.add_add]
    exact h5 a rfl _ u hu
theorem Rd.upto {w:World} {sz:Nat} {p:Option Addr} {n c:Nat} {vs:List Value} (h:Rd w sz (.slice p n c) n vs) (i:Nat) (hi:i≤n) :
  Rd w sz (.slice p i c) i (vs.take (i*sz)):=by
 obtain ⟨p',c',e,h1,h2,h3,h4,h5⟩:=h
 cases e
 refine ⟨_,_,rfl,?_,by omega,by omega,fun e=>?_,?_⟩
 ·rw [zAR,h1]
  exact zFW (zGG _ hi)
 ·obtain ⟨rfl,rfl⟩:=h4 e;exact ⟨by omega,rfl⟩
 ·intro ad yJ j u hu
  refine h5 ad yJ j u ?_
  rw [zFR] at hu
  split at hu
  ·exact hu
  ·cases hu
theorem Rd.mW {w:World} {sz:Nat} {p:Option Addr} {n c:Nat} {vs:List Value} (h:Rd w sz (.slice p n c) n vs) (i k:Nat) (hi:i≤k) (hk:k≤n) :
  Rd w sz (sliced p i k c sz) (k-i) ((vs.take (k*sz)).drop (i*sz)):=(h.upto k hk).from i hi
section
variable {P:Program}
theorem bB {t e:TypeId} {sz bytes:Nat} (hE:Cd P t e sz bytes) (w:World) (v:Value) (n i:Nat) (vs:List Value) (h0:Rd w sz v n vs) (hi:i≤n)
  {ops:Array Oper} {rest:List Oper} {o:Oper} {a:Act} {Q:Exit→Act→World→Prop} (BT:Region.wanted o (yielded ops a.tmps)=true) (s x:Operand) (ho:o.op = .slice t s (some x) none none)
  (hs:a.eval s=v) (hx:a.eval x = .int .i64 (i:Int))
  (h:∀p c,Rd w sz (.slice p (n-i) c) (n-i) (vs.drop (i*sz))→wpList P ops Q rest (a.put o.dst (.slice p (n-i) c)) w):wpList P ops Q (o::rest) a w:=by
 obtain ⟨inf,z,NP,hz,Cn,PB,Me⟩:=hE.hi
 obtain ⟨p,c,hv⟩:=h0.shape
 subst hv
 refine zDU BT fun K hK=>?_
 have EA:P.elem t=e:=by simp [Program.elem,hE.ht]
 have hu:P.underlying t=some (.slice (P.elem t)):=by rw [EA];exact hE.ht
 have Aj:P.cellsOf (P.elem t)=sz:=by rw [EA];simp [Program.cellsOf,NP,Cn]
 have hr:(Instr.sliceAt t (.slice p n c) (some (.int .i64 (i:Int))) none none).run P w = .ok (sliced p i n c sz) w:=by
  have Ed:=run_sizeOf (w:=w) (show P.info? (P.elem t)=some inf by rw [EA];exact NP)
  rw [zGD (h:=hu),run_slice_l (ht:=hu) (h0:=by omega) (h1:=by omega),Ed,Aj]
  simp [Result.andThen]
 unfold Oper.wp execOp
 simp only [ho,zCK,zDM,zCG,hs,hx,hr,zEV,Option.map_none]
 exact hK _ _ (h _ _ (h0.from i hi))
end
end
section
def Bq (P : Program) (ops : Array Oper) (Q : Exit → Act → World → Prop) (calls : List Nat) (S : World → Prop) : List (Nat × Oper) → Act → World → Prop
  | [], a, w => Q .normal a w
  | (i, o) :: rest, a, w => if Region.wanted o (yielded ops a.tmps) = true then
        (if calls.contains i = true then o.wp P a w (fun a' w' => S w' ∧ Bq P ops Q calls S rest a' w') Q else ∃ v, (∀ w, S w → (execOp a.eval o).run P w = .ok (.value v) w) ∧ Bq P ops Q calls S rest (a.put o.dst v) w)
      else Bq P ops Q calls S rest (a.put o.dst undef) w
section
variable {P:Program} {l:List Oper} {Q:Exit→Act→World→Prop} {md:Region.Mode} {calls:List Nat} {S:World→Prop}
theorem DJ (hs:Region.noSelect l.toArray=true) (hQ:∀c (a a':Act) w,a.defers=a'.defers→Q (.panic c) a w→Q (.panic c) a' w):∀(L:List Nat) (listed:Array Bool) (a:Act) (w:World) (fuel:Nat),L.length≤fuel→
  (∀i∈L,i<l.length)→J7 md l.toArray calls L listed=true→S w→Bq P l.toArray Q calls S (Cj l L) a w→wpAnyH P md l.toArray Q S fuel listed a w
 | [],listed,a,w,fuel,_,_,hB,_,h=>wpAnyH_done (by simpa [J7] using hB) h fuel
 | i::rest,listed,a,w,0,hf,_,_,_,_=>by simp at hf
 | i::rest,listed,a,w,fuel+1,hf,hl,hB,hS,h=>by
  have hf':rest.length≤fuel:=by simpa using hf
  have hl':∀j∈rest,j<l.length:=fun j hj=>hl j (by simp [hj])
  have hi:i<l.length:=hl i (by simp)
  unfold J7 at hB
  rw [zBY] at hB
  obtain ⟨h1,h2⟩:=hB
  have ho:l.toArray[i]? = some l[i]:=by simp [hi]
  have e:Cj l (i::rest)=(i,l[i])::Cj l rest:=by simp [Cj,hi]
  rw [e] at h
  unfold Bq at h
  generalize l[i]=o at *
  by_cases hc:calls.contains i=true
  ·rw [if_pos hc] at h1 h
   have hr:Region.ready md l.toArray listed=[i]:=by simpa using h1
   refine wpAnyH_all hr (by simp) (fun j hj=>?_)
   obtain rfl:j=i:=by simpa using hj
   unfold wpOp
   simp only [ho]
   split
   ·next hw=>
    rw [if_pos hw] at h
    exact .inl (Oper.wp_mono (fun a w h=>⟨h.1,DJ hs hQ rest _ a w fuel hf' hl' h2 h.1 h.2⟩) h)
   ·next hw=>
    rw [if_neg hw] at h
    exact ⟨hS,DJ hs hQ rest _ _ w fuel hf' hl' h2 hS h⟩
  ·rw [if_neg hc] at h1 h
   rw [zBY] at h1
   by_cases hw:Region.wanted o (yielded l.toArray a.tmps)=true
   ·rw [if_pos hw] at h
    obtain ⟨v,hv,h⟩:=h
    exact wpAnyH_take ho hs h1.1 h1.2 (fun c a w h=>hQ c _ _ w (put_defers _ _ _) h) (.inl ⟨hw,hv⟩) hS (DJ hs hQ rest _ _ w fuel hf' hl' h2 hS h)
   ·rw [if_neg hw] at h
    exact wpAnyH_take ho hs h1.1 h1.2 (fun c a w h=>hQ c _ _ w (put_defers _ _ _) h) (.inr ⟨by simpa using hw,rfl⟩) hS (DJ hs hQ rest _ _ w fuel hf' hl' h2 hS h)
theorem AI {id:Nat} {a:Act} {w:World} (S:World→Prop) (calls L:List Nat) (hm:P.follows .mixedOrders=true) (hs:Region.noSelect l.toArray=true) (hB:(decide (L.length≤l.length)&&(L.all (fun i=>decide (i<l.length))&&J7 .any l.toArray calls L (Array.replicate l.length false)))=true)
  (hQ:∀c (a a':Act) w,a.defers=a'.defers→Q (.panic c) a w→Q (.panic c) a' w) (hS:S w.drew) (h:Bq P l.toArray Q calls S (Cj l L) a w.drew):(Code.region id l.toArray true).wp P Q a w:=by
 rw [zBY,zBY] at hB
 refine wp_region_held hm (DJ hs hQ L _ a _ _ (by simpa using hB.1) (by simpa using hB.2.1) (by simpa using hB.2.2) hS h)
variable {ops:Array Oper}
theorem Bv {a:Act} {w:World} (h:Q .normal a w):Bq P ops Q calls S [] a w:=h
theorem takeH_skip {i:Nat} {o:Oper} {rest:List (Nat × Oper)} {a:Act} {w:World} (hw:Region.wanted o (yielded ops a.tmps)=false) (h:Bq P ops Q calls S rest (a.put o.dst undef) w):Bq P ops Q calls S ((i,o)::rest) a w:=by
 unfold Bq
 simp only [hw]
 exact h
theorem takeH_blind {i:Nat} {o:Oper} {rest:List (Nat × Oper)} {a:Act} {w:World} (hc:calls.contains i=false) (hw:Region.wanted o (yielded ops a.tmps)=true)
  (h:∃v,(∀w,(execOp a.eval o).run P w = .ok (.value v) w)∧Bq P ops Q calls S rest (a.put o.dst v) w):Bq P ops Q calls S ((i,o)::rest) a w:=by
 unfold Bq
 simp only [hw,hc]
 obtain ⟨v,h1,h2⟩:=h
 exact ⟨v,fun w _=>h1 w,h2⟩
theorem Gx {i:Nat} {o:Oper} {rest:List (Nat × Oper)} {a:Act} {w:World} (hc:calls.contains i=false) (hw:Region.wanted o (yielded ops a.tmps)=true) (v:Value)
  (h1:∀w,S w→(execOp a.eval o).run P w = .ok (.value v) w) (h:Bq P ops Q calls S rest (a.put o.dst v) w):Bq P ops Q calls S ((i,o)::rest) a w:=by
 unfold Bq
 simp only [hw,hc]
 exact ⟨v,h1,h⟩
theorem AY {i:Nat} {o:Oper} {rest:List (Nat × Oper)} {a:Act} {w:World} (hc:calls.contains i=true) (hw:Region.wanted o (yielded ops a.tmps)=true)
  (h:∀K:Act→World→Prop,(∀a w,S w→Bq P ops Q calls S rest a w→K a w)→o.wp P a w K Q):Bq P ops Q calls S ((i,o)::rest) a w:=by
 unfold Bq
 simp only [hw,hc]
 exact h (fun a' w'=>S w'∧Bq P ops Q calls S rest a' w') (fun _ _ h1 h2=>⟨h1,h2⟩)
theorem iX {t e:TypeId} {sz bytes:Nat} (hE:Cd P t e sz bytes) (w:World) (p:Option Addr) (n c i:Nat) (hi:i≤n) {o:Oper} {a:Act} (s x:Operand) (ho:o.op = .slice t s (some x) none none)
  (hs:a.eval s = .slice p n c) (hx:a.eval x = .int .i64 (i:Int)):(execOp a.eval o).run P w = .ok (.value (sliced p i n c sz)) w:=by
 obtain ⟨inf,z,NP,hz,Cn,PB,Me⟩:=hE.hi
 have EA:P.elem t=e:=by simp [Program.elem,hE.ht]
 have hu:P.underlying t=some (.slice (P.elem t)):=by rw [EA];exact hE.ht
 have Aj:P.cellsOf (P.elem t)=sz:=by rw [EA];simp [Program.cellsOf,NP,Cn]
 have hr:(Instr.sliceAt t (.slice p n c) (some (.int .i64 (i:Int))) none none).run P w = .ok (sliced p i n c sz) w:=by
  have Ed:=run_sizeOf (w:=w) (show P.info? (P.elem t)=some inf by rw [EA];exact NP)
  rw [zGD (h:=hu),run_slice_l (ht:=hu) (h0:=by omega) (h1:=by omega),Ed,Aj]
  simp [Result.andThen]
 unfold execOp
 simp only [ho,zCK,zDM,zCG,hs,hx,hr,zEV,Option.map_none]
theorem NE {o:Oper} {a:Act} {w:World} (src dst:TypeId) (s:Operand) {v u:Value} (ho:o.op = .convert src dst s) (hs:a.eval s=v) (h:(convert src dst v).run P w = .ok u w):(execOp a.eval o).run P w = .ok (.value u) w:=by
 unfold execOp
 simp only [ho,zCK,zDM,zCG,hs,h]
end
end
section
section
variable {P:Program} {ops:Array Oper} {Q:Exit→Act→World→Prop} {calls:List Nat} {S:World→Prop}
theorem takeH_reads {i:Nat} {o:Oper} {rest:List (Nat × Oper)} {a:Act} {w:World} (hc:calls.contains i=false) (hw:Region.wanted o (yielded ops a.tmps)=true)
  (h:∃v,(∀w,S w→(execOp a.eval o).run P w = .ok (.value v) w)∧Bq P ops Q calls S rest (a.put o.dst v) w):Bq P ops Q calls S ((i,o)::rest) a w:=by
 obtain ⟨v,h1,h2⟩:=h
 exact Gx hc hw v h1 h2
theorem Wk {i:Nat} {o:Oper} {rest:List (Nat × Oper)} {a:Act} {w:World} (hc:calls.contains i=true) (hw:Region.wanted o (yielded ops a.tmps)=true) (v:Value) (w2:World) (h1:(execOp a.eval o).run P w = .ok (.value v) w2) (hS:S w2)
  (h:Bq P ops Q calls S rest (a.put o.dst v) w2):Bq P ops Q calls S ((i,o)::rest) a w:=by
 unfold Bq
 simp only [hw,hc]
 show o.wp P a w (fun a' w'=>S w'∧Bq P ops Q calls S rest a' w') Q
 unfold Oper.wp
 rw [h1]
 exact ⟨hS,h⟩
theorem QF {t e:TypeId} {sz bytes:Nat} (hE:Cd P t e sz bytes) (w:World) (p:Option Addr) (n c i k:Nat) (hi:i≤k) (hk:k≤c) {o:Oper} {a:Act} (s x y:Operand) (ho:o.op = .slice t s (some x) (some y) none)
  (hs:a.eval s = .slice p n c) (hx:a.eval x = .int .i64 (i:Int)) (hy:a.eval y = .int .i64 (k:Int)):(execOp a.eval o).run P w = .ok (.value (sliced p i k c sz)) w:=by
 obtain ⟨inf,z,NP,hz,Cn,PB,Me⟩:=hE.hi
 have EA:P.elem t=e:=by simp [Program.elem,hE.ht]
 have hu:P.underlying t=some (.slice (P.elem t)):=by rw [EA];exact hE.ht
 have Aj:P.cellsOf (P.elem t)=sz:=by rw [EA];simp [Program.cellsOf,NP,Cn]
 have hr:(Instr.sliceAt t (.slice p n c) (some (.int .i64 (i:Int))) (some (.int .i64 (k:Int))) none).run P w = .ok (sliced p i k c sz) w:=by
  have Ed:=run_sizeOf (w:=w) (show P.info? (P.elem t)=some inf by rw [EA];exact NP)
  rw [zGD (h:=hu),run_slice_lh (ht:=hu) (h0:=by omega) (h1:=by omega) (h2:=by omega),Ed,Aj]
  simp [Result.andThen]
 unfold execOp
 simp only [ho,zCK,zDM,zCG,hs,hx,hy,hr,zEV,Option.map_none]
theorem K9 {t e:TypeId} {sz bytes:Nat} (hE:Cd P t e sz bytes) (w:World) (v v2:Value) (n m:Nat) (xs news:List Value) (Au:w.ownsRow 0 e sz v n xs) (hr:Rd w sz v2 m news) (h1:∀u∈news,u.oneCell'=true) (hb:(n+m)*bytes≤140737488355328∧n+m≤maxLen)
  {o:Oper} {a:Act} (s x:Operand) (ho:o.op = .call { callee:=.builtin .append,args:=#[s,x],argTypes:=#[t,t] }) (hs:a.eval s=v) (hx:a.eval x=v2) :
  ∃v' w',(execOp a.eval o).run P w = .ok (.value v') w'∧w'.ownsRow 0 e sz v' (n+m) (xs++news)∧Ac (fun k=>v.ownBlock=some k) w w'∧AG w.heap.size v v':=by
 obtain ⟨i,z,hi,hz,Cn,PB,Me⟩:=hE.hi
 obtain ⟨p,c,rfl,hl,FC,Vw,EB,Aj⟩:=hr
 cases p with
 | none=>
  obtain ⟨rfl,rfl⟩:=EB rfl
  obtain rfl:news=[]:=zAI (by simpa using hl)
  have hr:=run_append_owned_none (P:=P) w 0 t o.type e i sz hE.ht hi v n xs Au
  refine ⟨v,w,?_,by simpa using Au,Ac.refl _ _,AG.refl _ _⟩
  unfold execOp
  simp only [ho,resolve,invoke,builtin,zCK,zDM,zCG,zFL,zBC,zCP,hs,hx,hr]
 | some ad=>
  obtain ⟨v',w',hr,h2,h3,h4⟩:=gV (P:=P) w t o.type e i z sz bytes hE.ht hi hz Cn PB Me hE.pos v n xs Au ad m c news hl (Aj ad rfl) h1 hb.2 hb.1
  refine ⟨v',w',?_,h2,h3,h4⟩
  unfold execOp
  simp only [ho,resolve,invoke,builtin,zCK,zDM,zCG,zFL,zBC,zCP,hs,hx,hr]
theorem X5 {t e:TypeId} {sz bytes:Nat} (hE:Cd P t e sz bytes) {i:Nat} {o:Oper} {rest:List (Nat × Oper)} {a:Act} {w:World} (hc:calls.contains i=true) (hw:Region.wanted o (yielded ops a.tmps)=true) (s x:Operand)
  (ho:o.op = .call { callee:=.builtin .append,args:=#[s,x],argTypes:=#[t,t] }) {v v2:Value} (hs:a.eval s=v) (hx:a.eval x=v2) {n m:Nat} {xs news:List Value} (Au:w.ownsRow 0 e sz v n xs) (hr:Rd w sz v2 m news) (h1:∀u∈news,u.oneCell'=true) (hb:(n+m)*bytes≤140737488355328∧n+m≤maxLen)
  (h:∀v' w',w'.ownsRow 0 e sz v' (n+m) (xs++news)→Ac (fun k=>v.ownBlock=some k) w w'→AG w.heap.size v v'→S w'∧Bq P ops Q calls S rest (a.put o.dst v') w'):Bq P ops Q calls S ((i,o)::rest) a w:=by
 obtain ⟨v',w',J0,h2,h3,h4⟩:=K9 hE w v v2 n m xs news Au hr h1 hb s x ho hs hx
 obtain ⟨h5,h6⟩:=h v' w' h2 h3 h4
 exact Wk hc hw v' w' J0 h5 h6
end
end
abbrev FI:=Cp 9 Value.string
structure vd (w:World) (l:List ByteArray) (r:Value) (w':World):Prop where
 rd:Rd w' 1 r l.length (BM l)
 far:∀k,r.ownBlock=some k→w.heap.size≤k
 AA:Below w.heap.size w w'
end Go.Proofs.YtdcgbgecbeegmaaGreatDoor
end
