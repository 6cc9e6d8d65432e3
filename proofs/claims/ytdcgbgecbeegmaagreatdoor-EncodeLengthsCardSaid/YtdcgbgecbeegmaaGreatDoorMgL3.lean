/- Texts 3. -/
import Derived.Test.YtdcgbgecbeegmaaGreatDoorMgL2
import Derived.Test.YtdcgbgecbeegmaaGreatDoorProg
import Derived.Test.YtdcgbgecbeegmaaGreatDoorMgL1
import Derived.WalkSpells
import Derived.WalkLawsBesides
import Derived.Outline
import Derived.Lib.Hide
import Derived.Deep.QuietTactic
import Derived.BigQuiet
import Derived.StillTailTactics
import Derived.Laws.IdiomStrings
import Derived.Lib.SlBytesConst
set_option linter.unusedVariables false
set_option linter.unusedSimpArgs false
section
namespace Go.Proofs.YtdcgbgecbeegmaaGreatDoor
theorem readAt_take {B:List Nat} (hB:∀c∈B,c<256) {a m x:Nat} {to:Int} (ham:a≤m) (hm:m≤B.length) (h:readAt B (a:Int)=(x,to,0)) :
  ∃b:Nat,to=(b:Int)∧a<b∧b≤B.length∧B.drop a=groups x++B.drop b∧b=a+(groups x).length∧x<18446744073709551616∧readAt (B.take m) (a:Int)=if b≤m then (x,(b:Int),0) else (0,0,3):=by
 rcases readAt_cases hB (Nat.le_trans ham hm) with ⟨e,he,hr⟩ | ⟨y,n,hr,hn,hin,hg,hy⟩
 ·rw [h] at hr;simp only [Prod.mk.injEq] at hr;exact absurd hr.2.2.symm he
 ·rw [h] at hr
  simp only [Prod.mk.injEq] at hr
  obtain ⟨rfl,rfl,_⟩:=hr
  have hl:(groups x).length=n:=by rw [← hg,List.length_drop,List.length_take];omega
  have hd:B.drop a=groups x++B.drop (a+n):=by
   have:B.drop a=(B.take (a+n)++B.drop (a+n)).drop a:=by rw [List.take_append_drop]
   rw [this,List.drop_append_of_le_length (by rw [List.length_take];omega),hg]
  have hta:(B.take a).length=a:=by rw [List.length_take];omega
  have hBs:B=B.take a++(groups x++B.drop (a+n)):=by rw [← hd,List.take_append_drop]
  have htm:B.take m=B.take a++(groups x++B.drop (a+n)).take (m-a):=by
   have h0:B.take m=(B.take a++(groups x++B.drop (a+n))).take m:=by rw [← hBs]
   rw [h0,List.take_append,hta,List.take_of_length_le (l:=B.take a) (by omega)]
  refine ⟨a+n,rfl,by omega,hin,hd,by rw [hl],hy,?_⟩
  by_cases hle:a+n≤m
  ·rw [if_pos hle,htm]
   have h1:(groups x++B.drop (a+n)).take (m-a)=groups x++(B.drop (a+n)).take (m-a-n):=by
    rw [List.take_append,hl,List.take_of_length_le (l:=groups x) (by omega)]
   rw [h1,← List.append_assoc]
   have:=readAt_groups (B.take a) ((B.drop (a+n)).take (m-a-n)) hy
   rw [hta,hl] at this
   exact this
  ·rw [if_neg hle,htm]
   have h1:(groups x++B.drop (a+n)).take (m-a)=(groups x).take (m-a):=by
    rw [List.take_append_of_le_length (by omega)]
   rw [h1]
   have hp:=readFrom_prefix x 0 0 (m-a) (by decide) (by simpa using hy) (by omega)
   have h2:readFrom ((B.take a++(groups x).take (m-a)).drop a) 0 0=(0,0,3):=by
    rw [List.drop_append_of_le_length (by omega),List.drop_of_length_le (by omega),List.nil_append];exact hp
   rw [readAt_in (by rw [List.length_append];omega) h2];rfl
structure Reads {α:Type} (p:List Nat→Nat→Out α) (f:α→List Nat) (ok:α→Prop):Prop where
 back:∀(pre rest:List Nat) (x:α),ok x→p (pre++f x++rest) pre.length = .ok x (pre.length+(f x).length)
 inv:∀{B:List Nat} {a:Nat} {x:α} {b:Nat},(∀c∈B,c<256)→a≤B.length→p B a = .ok x b→ok x∧B.drop a=f x++B.drop b∧a<b∧b≤B.length
 bad:∀{B:List Nat} {a e:Nat},(∀c∈B,c<256)→a≤B.length→p B a = .bad e→e≠0
 cut:∀{B:List Nat} {a:Nat} {x:α} {b m:Nat},(∀c∈B,c<256)→a≤m→m≤B.length→p B a = .ok x b→p (B.take m) a = .bad 3∨(b≤m∧p (B.take m) a = .ok x b)
 pos:∀x,ok x→0<(f x).length
 lt:∀x,ok x→∀c∈f x,c<256
def pNum {α:Type} (g:Nat→Option α) (z:Nat) (B:List Nat) (a:Nat):Out α:=match readAt B (a:Int) with
 | (n,to,0)=>match g n with
  | some x=>.ok x to.toNat
  | none=>.bad z
 | (_,_,e+1)=>.bad (e+1)
theorem reads_num {α:Type} {g:Nat→Option α} {h:α→Nat} {ok:α→Prop} {z:Nat} (hz:z≠0) (h1:∀x,ok x→g (h x)=some x∧h x<18446744073709551616) (h2:∀n x,g n=some x→ok x∧h x=n):Reads (pNum g z) (fun x=>groups (h x)) ok where
 back:=fun pre rest x hx=>by
  obtain ⟨e1,e2⟩:=h1 x hx
  rw [pNum,readAt_groups pre rest e2]
  simp only [e1,Int.toNat_natCast]
 inv:=fun {B a x b} hB ha hp=>by
  rcases readAt_cases hB ha with ⟨e,he,hr⟩ | ⟨y,n,hr,hn,hin,hg,hy⟩
  ·obtain ⟨k,rfl⟩:∃k,e=k+1:=⟨e-1,by omega⟩
   rw [pNum,hr] at hp;cases hp
  ·obtain ⟨b',hb,h3,h4,h5,h6,h7,_⟩:=readAt_take hB (Nat.le_refl a) ha hr
   rw [pNum,hr] at hp
   simp only at hp
   split at hp
   ·next x' hx'=>
    cases hp
    obtain ⟨k1,k2⟩:=h2 _ _ hx'
    rw [Int.toNat_natCast]
    have:b'=a+n:=by omega
    subst this
    exact ⟨k1,by rw [k2];exact h5,by omega,h4⟩
   ·cases hp
 bad:=fun {B a e} hB ha hp=>by
  rw [pNum] at hp
  split at hp
  ·split at hp
   ·cases hp
   ·cases hp;exact hz
  ·cases hp;omega
 cut:=fun {B a x b m} hB ha hm hp=>by
  rcases readAt_cases hB (Nat.le_trans ha hm) with ⟨e,he,hr⟩ | ⟨y,n,hr,hn,hin,hg,hy⟩
  ·obtain ⟨k,rfl⟩:∃k,e=k+1:=⟨e-1,by omega⟩
   rw [pNum,hr] at hp;cases hp
  ·obtain ⟨b',hb,h3,h4,h5,h6,h7,h8⟩:=readAt_take hB ha hm hr
   rw [pNum,hr] at hp
   simp only at hp
   split at hp
   ·next x' hx'=>
    cases hp
    have e:b'=a+n:=by omega
    rw [pNum,h8]
    by_cases hle:b'≤m
    ·rw [if_pos hle]
     refine Or.inr ⟨by rw [Int.toNat_natCast];omega,?_⟩
     simp only [hx']
     rw [← hb]
    ·rw [if_neg hle];exact Or.inl rfl
   ·cases hp
 pos:=fun x _=>groups_pos _
 lt:=fun x _=>groups_lt _
def pPair {α β:Type} (p:List Nat→Nat→Out α) (q:List Nat→Nat→Out β) (B:List Nat) (a:Nat):Out (α × β):=match p B a with
 | .bad e=>.bad e
 | .ok x b=>match q B b with
  | .bad e=>.bad e
  | .ok y c=>.ok (x,y) c
theorem reads_pair {α β:Type} {p:List Nat→Nat→Out α} {q:List Nat→Nat→Out β} {f:α→List Nat} {g:β→List Nat} {ok1:α→Prop} {ok2:β→Prop} (hp:Reads p f ok1) (hq:Reads q g ok2) :
  Reads (pPair p q) (fun x=>f x.1++g x.2) (fun x=>ok1 x.1∧ok2 x.2) where
 back:=fun pre rest x hx=>by
  have e1:=hp.back pre (g x.2++rest) x.1 hx.1
  have e2:=hq.back (pre++f x.1) rest x.2 hx.2
  have e0:pre++(f x.1++g x.2)++rest=pre++f x.1++(g x.2++rest):=by simp
  have e3:pre++(f x.1++g x.2)++rest=pre++f x.1++g x.2++rest:=by simp
  rw [pPair,e0,e1]
  simp only
  rw [← e0,e3,← List.length_append,e2]
  simp only [List.length_append,Nat.add_assoc]
 inv:=fun {B a x c} hB ha h=>by
  rw [pPair] at h
  split at h
  ·cases h
  ·next y b h1=>
   split at h
   ·cases h
   ·next z c' h2=>
    cases h
    obtain ⟨a1,a2,a3,a4⟩:=hp.inv hB ha h1
    obtain ⟨b1,b2,b3,b4⟩:=hq.inv hB a4 h2
    exact ⟨⟨a1,b1⟩,by rw [a2,b2,List.append_assoc],by omega,b4⟩
 bad:=fun {B a e} hB ha h=>by
  rw [pPair] at h
  split at h
  ·next e' h1=>cases h;exact hp.bad hB ha h1
  ·next y b h1=>
   split at h
   ·next e' h2=>cases h;exact hq.bad hB (hp.inv hB ha h1).2.2.2 h2
   ·cases h
 cut:=fun {B a x c m} hB ha hm h=>by
  rw [pPair] at h
  split at h
  ·cases h
  ·next y b h1=>
   split at h
   ·cases h
   ·next z c' h2=>
    cases h
    rcases hp.cut hB ha hm h1 with e1 | ⟨hb,e1⟩
    ·rw [pPair,e1];exact Or.inl rfl
    ·rcases hq.cut hB hb hm h2 with e2 | ⟨hc,e2⟩
     ·exact Or.inl (by rw [pPair,e1];simp only [e2])
     ·exact Or.inr ⟨hc,by rw [pPair,e1];simp only [e2]⟩
 pos:=fun x hx=>by rw [List.length_append];have:=hp.pos _ hx.1;omega
 lt:=fun x hx c hc=>by
  rcases List.mem_append.1 hc with h | h
  ·exact hp.lt _ hx.1 c h
  ·exact hq.lt _ hx.2 c h
def pMany {α:Type} (p:List Nat→Nat→Out α) (B:List Nat):Nat→Nat→List α→Out (List α)
 | 0,a,acc=>.ok acc a
 | k+1,a,acc=>match p B a with
  | .bad e=>.bad e
  | .ok x b=>pMany p B k b (acc++[x])
def pList {α:Type} (z:Nat) (p:List Nat→Nat→Out α) (B:List Nat) (a:Nat):Out (List α):=match readAt B (a:Int) with
 | (n,to,0)=>if B.length-to.toNat<n then .bad 3 else if z≠0∧n=0 then .bad z else pMany p B n to.toNat []
 | (_,_,e+1)=>.bad (e+1)
section
variable {α:Type} {p:List Nat→Nat→Out α} {f:α→List Nat} {ok:α→Prop}
theorem many_back (h:Reads p f ok) (rest:List Nat) (l:List α):∀(pre:List Nat) (acc:List α),(∀x∈l,ok x)→pMany p (pre++l.flatMap f++rest) l.length pre.length acc = .ok (acc++l) (pre.length+(l.flatMap f).length):=by
 induction l with
 | nil=>intro pre acc _;simp [pMany]
 | cons x l ih=>
  intro pre acc ho
  have e0:pre++(x::l).flatMap f++rest=pre++f x++(l.flatMap f++rest):=by simp
  have e1:=h.back pre (l.flatMap f++rest) x (ho x (by simp))
  have e2:=ih (pre++f x) (acc++[x]) (fun y hy=>ho y (by simp [hy]))
  rw [List.length_cons,pMany,e0,e1]
  simp only
  rw [← List.append_assoc,← List.length_append,e2]
  simp [Nat.add_assoc]
theorem many_inv (h:Reads p f ok) {B:List Nat} (hB:∀c∈B,c<256):∀(k a:Nat) (acc u:List α) (b:Nat),a≤B.length→pMany p B k a acc = .ok u b→∃l,u=acc++l∧l.length=k∧(∀x∈l,ok x)∧B.drop a=l.flatMap f++B.drop b∧a≤b∧b≤B.length:=by
 intro k
 induction k with
 | zero=>intro a acc u b ha hp;rw [pMany] at hp;cases hp;exact ⟨[],by simp,rfl,(fun _ h=>by cases h),rfl,Nat.le_refl _,ha⟩
 | succ k ih=>
  intro a acc u b ha hp
  rw [pMany] at hp
  split at hp
  ·cases hp
  ·next x b1 h1=>
   obtain ⟨a1,a2,a3,a4⟩:=h.inv hB ha h1
   obtain ⟨l,e1,e2,e3,e4,e5,e6⟩:=ih b1 (acc++[x]) u b a4 hp
   refine ⟨x::l,by rw [e1];simp,by simp [e2],?_,by rw [a2,e4];simp,by omega,e6⟩
   intro y hy
   rcases List.mem_cons.1 hy with rfl | hy
   ·exact a1
   ·exact e3 y hy
theorem many_bad (h:Reads p f ok) {B:List Nat} (hB:∀c∈B,c<256):∀(k a:Nat) (acc:List α) (e:Nat),a≤B.length→pMany p B k a acc = .bad e→e≠0:=by
 intro k
 induction k with
 | zero=>intro a acc e _ hp;rw [pMany] at hp;cases hp
 | succ k ih=>
  intro a acc e ha hp
  rw [pMany] at hp
  split at hp
  ·next e' h1=>cases hp;exact h.bad hB ha h1
  ·next x b1 h1=>exact ih b1 _ e (h.inv hB ha h1).2.2.2 hp
theorem many_cut (h:Reads p f ok) {B:List Nat} (hB:∀c∈B,c<256) {m:Nat} (hm:m≤B.length):∀(k a:Nat) (acc u:List α) (b:Nat),a≤m→pMany p B k a acc = .ok u b→pMany p (B.take m) k a acc = .bad 3∨(b≤m∧pMany p (B.take m) k a acc = .ok u b):=by
 intro k
 induction k with
 | zero=>intro a acc u b ha hp;rw [pMany] at hp;cases hp;exact Or.inr ⟨ha,rfl⟩
 | succ k ih=>
  intro a acc u b ha hp
  rw [pMany] at hp
  split at hp
  ·cases hp
  ·next x b1 h1=>
   rcases h.cut hB ha hm h1 with e1 | ⟨hb,e1⟩
   ·rw [pMany,e1];exact Or.inl rfl
   ·rw [pMany,e1];exact ih b1 _ u b hb hp
theorem flat_le (h:Reads p f ok) (l:List α) (ho:∀x∈l,ok x):l.length≤(l.flatMap f).length:=by
 induction l with
 | nil=>exact Nat.le_refl _
 | cons x l ih=>rw [List.flatMap_cons,List.length_append,List.length_cons];have:=h.pos x (ho x (by simp));have:=ih (fun y hy=>ho y (by simp [hy]));omega
theorem reads_list {z:Nat} (h:Reads p f ok):Reads (pList z p) (fun l=>groups l.length++l.flatMap f) (fun l=>(∀x∈l,ok x)∧l.length<18446744073709551616∧(z≠0→l≠[])) where
 back:=fun pre rest l hl=>by
  have e0:pre++(groups l.length++l.flatMap f)++rest=pre++groups l.length++(l.flatMap f++rest):=by simp
  have e3:pre++(groups l.length++l.flatMap f)++rest=pre++groups l.length++l.flatMap f++rest:=by simp
  have hr:=readAt_groups pre (l.flatMap f++rest) hl.2.1
  rw [pList,e0,hr]
  simp only [Int.toNat_natCast]
  have hf:=flat_le h l hl.1
  rw [if_neg (by simp only [List.length_append];omega),if_neg (fun e=>hl.2.2 e.1 (List.eq_nil_of_length_eq_zero e.2)),← e0,e3,← List.length_append,many_back h rest l _ _ hl.1]
  simp [Nat.add_assoc]
 inv:=fun {B a u b} hB ha hp=>by
  rcases readAt_cases hB ha with ⟨e,he,hr⟩ | ⟨y,n,hr,hn,hin,hg,hy⟩
  ·obtain ⟨k,rfl⟩:∃k,e=k+1:=⟨e-1,by omega⟩
   rw [pList,hr] at hp;cases hp
  ·obtain ⟨b',hb,h3,h4,h5,h6,h7,_⟩:=readAt_take hB (Nat.le_refl a) ha hr
   have e:b'=a+n:=by omega
   rw [pList,hr] at hp
   simp only [Int.toNat_natCast] at hp
   split at hp
   ·cases hp
   ·split at hp
    ·cases hp
    ·next hz=>
     rw [← e] at hp
     obtain ⟨l,e1,e2,e3,e4,e5,e6⟩:=many_inv h hB y b' [] u b h4 hp
     rw [List.nil_append] at e1
     subst e1
     refine ⟨⟨e3,by rw [e2];exact h7,fun hz1 hn1=>hz ⟨hz1,by rw [← e2,hn1];rfl⟩⟩,by rw [h5,e4,e2,List.append_assoc],by omega,e6⟩
 bad:=fun {B a e} hB ha hp=>by
  rcases readAt_cases hB ha with ⟨e1,he,hr⟩ | ⟨y,n,hr,hn,hin,hg,hy⟩
  ·obtain ⟨k,rfl⟩:∃k,e1=k+1:=⟨e1-1,by omega⟩
   rw [pList,hr] at hp;cases hp;omega
  ·rw [pList,hr] at hp
   simp only [Int.toNat_natCast] at hp
   split at hp
   ·cases hp;decide
   ·split at hp
    ·next hz=>cases hp;exact hz.1
    ·exact many_bad h hB _ _ _ _ hin hp
 cut:=fun {B a u b m} hB ha hm hp=>by
  rcases readAt_cases hB (Nat.le_trans ha hm) with ⟨e1,he,hr⟩ | ⟨y,n,hr,hn,hin,hg,hy⟩
  ·obtain ⟨k,rfl⟩:∃k,e1=k+1:=⟨e1-1,by omega⟩
   rw [pList,hr] at hp;cases hp
  ·obtain ⟨b',hb,h3,h4,h5,h6,h7,h8⟩:=readAt_take hB ha hm hr
   have e:b'=a+n:=by omega
   rw [pList,hr] at hp
   simp only [Int.toNat_natCast] at hp
   rw [pList,h8]
   by_cases hle:b'≤m
   ·rw [if_pos hle]
    simp only [Int.toNat_natCast]
    split
    ·exact Or.inl rfl
    ·split at hp
     ·cases hp
     ·split at hp
      ·cases hp
      ·next hz=>
       rw [if_neg hz]
       rw [← e] at hp
       exact many_cut h hB hm _ _ _ _ _ hle hp
   ·rw [if_neg hle];exact Or.inl rfl
 pos:=fun l _=>by rw [List.length_append];have:=groups_pos l.length;omega
 lt:=fun l hl c hc=>by
  rcases List.mem_append.1 hc with e | e
  ·exact groups_lt _ c e
  ·obtain ⟨x,hx,e⟩:=List.mem_flatMap.1 e
   exact h.lt x (hl.1 x hx) c e
end
def pAll {α:Type} (p:List Nat→Nat→Out α) (z:α) (B:List Nat):Nat × α:=match p B 0 with
 | .bad e=>(e,z)
 | .ok x b=>if b<B.length then (4,z) else (0,x)
section
variable {α:Type} {p:List Nat→Nat→Out α} {f:α→List Nat} {ok:α→Prop} {z:α}
theorem all_back (h:Reads p f ok) {x:α} (hx:ok x):pAll p z (f x)=(0,x):=by
 have:=h.back [] [] x hx
 simp only [List.nil_append,List.append_nil,List.length_nil,Nat.zero_add] at this
 rw [pAll,this];simp
end
end Go.Proofs.YtdcgbgecbeegmaaGreatDoor
end
section
namespace Go.Proofs.YtdcgbgecbeegmaaGreatDoor
open Go Go.RowKit
def findS (l:List ByteArray) (x:ByteArray):Int:=firstI (fun y=>decide (y=x)) l
theorem findS_in {t:List ByteArray} {s:ByteArray} (h:s∈t):∃j:Nat,findS t s=(j:Int)∧t[j]? = some s:=by
 rcases firstI_cases (fun y=>decide (y=s)) t with ⟨_,h2⟩ | ⟨j,x,h1,h2,h3,_⟩
 ·have:=h2 s h;simp at this
 ·have:x=s:=by simpa using h3
  subst this
  exact ⟨j,h1,h2⟩
theorem findS_out {t:List ByteArray} {s:ByteArray} (h:s∉t):findS t s = -1:=
 firstI_none fun y hy=>by simp only [decide_eq_false_iff_not];rintro rfl;exact h hy
theorem findS_at {t:List ByteArray} (ht:t.Nodup) {n:Nat} {s:ByteArray} (h:t[n]? = some s):findS t s=(n:Int):=by
 obtain ⟨j,h1,h2⟩:=findS_in (List.mem_of_getElem? h)
 rw [h1]
 have hj:=(List.getElem?_eq_some_iff.1 h2).1
 have:=(List.getElem?_inj hj ht).1 (h2.trans h.symm)
 omega
end Go.Proofs.YtdcgbgecbeegmaaGreatDoor
end
section
namespace Go.Proofs.YtdcgbgecbeegmaaGreatDoor
open Go Go.RowKit
abbrev Rec:=List Lab × List Int
def idxT (t:List ByteArray) (s:ByteArray):Nat:=(findS t s).toNat
def labBytes (t:List ByteArray) (x:Lab):List Nat:=groups (idxT t x.1)++groups (idxT t x.2)
def lenOk (n:Int):Prop:=1≤n∧n≤2147483647
instance (n:Int):Decidable (lenOk n):=inferInstanceAs (Decidable (1≤n∧n≤2147483647))
def labsBytes (t:List ByteArray) (l:List Lab):List Nat:=groups l.length++l.flatMap (labBytes t)
def lensBytes (l:List Int):List Nat:=groups l.length++l.flatMap (fun n=>groups n.toNat)
def recBytes (t:List ByteArray) (r:Rec):List Nat:=labsBytes t r.1++lensBytes r.2
def encRc (t:List ByteArray) (l:List Rec):List Nat:=groups l.length++l.flatMap (recBytes t)
def pSym (t:List ByteArray):List Nat→Nat→Out ByteArray:=pNum (fun n=>t[n]?) 14
def pLen:List Nat→Nat→Out Int:=pNum (fun n=>if 1≤n∧n≤2147483647 then some (n:Int) else none) 23
def pLab (t:List ByteArray):List Nat→Nat→Out Lab:=pPair (pSym t) (pSym t)
def pLabs (t:List ByteArray):List Nat→Nat→Out (List Lab):=pList 0 (pLab t)
def pLens:List Nat→Nat→Out (List Int):=pList 23 pLen
def pRec (t:List ByteArray):List Nat→Nat→Out Rec:=pPair (pLabs t) pLens
def pRecs (t:List ByteArray):List Nat→Nat→Out (List Rec):=pList 0 (pRec t)
def decRc (t:List ByteArray) (B:List Nat):Nat × List Rec:=pAll (pRecs t) [] B
def labIn (t:List ByteArray) (x:Lab):Prop:=x.1∈t∧x.2∈t
instance memDec (t:List ByteArray) (s:ByteArray):Decidable (s∈t):=decidable_of_iff (∃y∈t,y=s) ⟨fun ⟨y,hy,e⟩=>e ▸ hy,fun h=>⟨s,h,rfl⟩⟩
instance (t:List ByteArray) (x:Lab):Decidable (labIn t x):=inferInstanceAs (Decidable (x.1∈t∧x.2∈t))
def recErr (t:List ByteArray) (r:Rec):Nat:=if ∀x∈r.1,labIn t x then (if r.2=[] then 23 else if ∀n∈r.2,lenOk n then 0 else 23) else 14
def recsErr (t:List ByteArray):List Rec→Nat
 | []=>0
 | r::l=>if recErr t r=0 then recsErr t l else recErr t r
def encRcR (t:List ByteArray) (l:List Rec):Nat × List Nat:=if recsErr t l=0 then (0,encRc t l) else (recsErr t l,[])
theorem asc_nodup {t:List ByteArray} (h:AscB ltS t):t.Nodup:=
 List.Pairwise.imp (fun hab e=>by rw [e,ltS_ok.irr] at hab;cases hab) h
section
variable {t:List ByteArray} (ht:t.Nodup) (hl:t.length<18446744073709551616)
include ht hl
theorem reads_sym:Reads (pSym t) (fun s=>groups (idxT t s)) (fun s=>s∈t):=
 reads_num (by decide) (fun s hs=>by
  obtain ⟨j,h1,h2⟩:=findS_in hs
  have hj:=(List.getElem?_eq_some_iff.1 h2).1
  rw [idxT,h1]
  exact ⟨h2,by simp only [Int.toNat_natCast];omega⟩) (fun n s h=>⟨List.mem_of_getElem? h,by rw [idxT,findS_at ht h];rfl⟩)
omit ht hl in
theorem reads_len:Reads pLen (fun n=>groups n.toNat) lenOk:=
 reads_num (by decide) (fun n hn=>by
  obtain ⟨h1,h2⟩:=hn
  refine ⟨?_,by omega⟩
  rw [if_pos (by omega)]
  congr 1
  omega) (fun n x h=>by
  split at h
  ·next hn=>cases h;exact ⟨⟨by omega,by omega⟩,by simp⟩
  ·cases h)
theorem reads_lab:Reads (pLab t) (labBytes t) (fun x=>x.1∈t∧x.2∈t):=reads_pair (reads_sym ht hl) (reads_sym ht hl)
theorem reads_labs:Reads (pLabs t) (labsBytes t) (fun l=>(∀x∈l,x.1∈t∧x.2∈t)∧l.length<18446744073709551616∧((0:Nat)≠0→l≠[])):=reads_list (reads_lab ht hl)
omit ht hl in
theorem reads_lens:Reads pLens lensBytes (fun l=>(∀n∈l,lenOk n)∧l.length<18446744073709551616∧((23:Nat)≠0→l≠[])):=reads_list reads_len
def okRec (t:List ByteArray) (r:Rec):Prop:=((∀x∈r.1,x.1∈t∧x.2∈t)∧r.1.length<18446744073709551616∧((0:Nat)≠0→r.1≠[]))∧((∀n∈r.2,lenOk n)∧r.2.length<18446744073709551616∧((23:Nat)≠0→r.2≠[]))
theorem reads_rec:Reads (pRec t) (recBytes t) (okRec t):=reads_pair (reads_labs ht hl) reads_lens
def okRecs (t:List ByteArray) (l:List Rec):Prop:=(∀r∈l,okRec t r)∧l.length<18446744073709551616∧((0:Nat)≠0→l≠[])
theorem reads_recs:Reads (pRecs t) (encRc t) (okRecs t):=reads_list (reads_rec ht hl)
end
theorem recErr_zero {t:List ByteArray} {r:Rec}:recErr t r=0↔(∀x∈r.1,labIn t x)∧r.2≠[]∧∀n∈r.2,lenOk n:=by
 unfold recErr
 constructor
 ·intro h
  split at h
  ·next h1=>
   split at h
   ·cases h
   ·next h2=>
    split at h
    ·next h3=>exact ⟨h1,h2,h3⟩
    ·cases h
  ·cases h
 ·rintro ⟨h1,h2,h3⟩
  rw [if_pos h1,if_neg h2,if_pos h3]
theorem recsErr_zero {t:List ByteArray} {l:List Rec}:recsErr t l=0↔∀r∈l,recErr t r=0:=by
 induction l with
 | nil=>simp [recsErr]
 | cons r l ih=>
  rw [recsErr]
  by_cases h:recErr t r=0
  ·rw [if_pos h,ih];simp [h]
  ·rw [if_neg h];simp [h]
def recLens (l:List Rec):Prop:=l.length<18446744073709551616∧∀r∈l,r.1.length<18446744073709551616∧r.2.length<18446744073709551616
theorem okRecs_of {t:List ByteArray} {l:List Rec} (h:recsErr t l=0) (hl:recLens l):okRecs t l:=
 ⟨fun r hr=>by
  obtain ⟨h1,h2,h3⟩:=recErr_zero.1 (recsErr_zero.1 h r hr)
  exact ⟨⟨h1,(hl.2 r hr).1,fun e=>absurd rfl e⟩,h3,(hl.2 r hr).2,fun _=>h2⟩,hl.1,fun e=>absurd rfl e⟩
section
variable {t:List ByteArray} (ht:AscB ltS t) (hl:t.length<18446744073709551616)
include ht hl
theorem decRc_back {l:List Rec} (h:recsErr t l=0) (hl':recLens l):decRc t (encRc t l)=(0,l):=all_back (reads_recs (asc_nodup ht) hl) (okRecs_of h hl')
theorem encRc_lt {l:List Rec} (h:recsErr t l=0) (hl':recLens l):∀c∈encRc t l,c<256:=(reads_recs (asc_nodup ht) hl).lt _ (okRecs_of h hl')
end
end Go.Proofs.YtdcgbgecbeegmaaGreatDoor
end
section
namespace Go.Proofs.YtdcgbgecbeegmaaGreatDoor
def ltI (a b:Int):Bool:=decide (a<b)
theorem ltI_ok:LtOk ltI:=⟨⟨fun a=>by simp [ltI],fun a b c h k=>by simp only [ltI,decide_eq_true_eq] at *;omega⟩,fun a b h k=>by simp only [ltI,decide_eq_false_iff_not] at *;omega⟩
instance decAscI (l:List Int):Decidable (AscB ltI l):=inferInstanceAs (Decidable (List.Pairwise _ _))
end Go.Proofs.YtdcgbgecbeegmaaGreatDoor
end
section
namespace Go.Proofs.YtdcgbgecbeegmaaGreatDoor
open Go Go.RowKit
instance labMemDec (l:List Lab) (x:Lab):Decidable (x∈l):=decidable_of_iff (∃y∈l,y=x) ⟨fun ⟨y,hy,e⟩=>e ▸ hy,fun h=>⟨x,h,rfl⟩⟩
abbrev Ent:=Lab × List Int
def ltE (a b:Lab):Bool:=decide (cmpLab a b = -1)
theorem ltE_ok:LtOk ltE:=cmpLab_ok.lt
theorem ltE_gt (a b:Lab):ltE b a=true↔0<cmpLab a b:=by
 unfold ltE
 rw [decide_eq_true_eq,cmpLab_ok.flip a b]
 rcases cmpLab_ok.dom a b with e | e | e<;>rw [e]<;>decide
def insStep (x:Lab) (n:Int) (s:List Ent × Bool) (e:Ent):List Ent × Bool:=
 let s1:=if 0<cmpLab e.1 x∧s.2=false then (s.1++[(x,[n])],true) else s
 if cmpLab e.1 x=0 then (s1.1++[(x,insB ltI n e.2)],true) else (s1.1++[e],s1.2)
def insR (x:Lab) (n:Int) (l:List Ent):List Ent:=
 let s:=l.foldl (insStep x n) ([],false)
 if s.2=true then s.1 else s.1++[(x,[n])]
def insP (x:Lab) (n:Int):List Ent→List Ent
 | []=>[(x,[n])]
 | e::l=>if cmpLab e.1 x=0 then (x,insB ltI n e.2)::l else if 0<cmpLab e.1 x then (x,[n])::e::l else e::insP x n l
theorem fold_done {x:Lab} {n:Int} (l:List Ent) (h:∀e∈l,0<cmpLab e.1 x):∀acc,l.foldl (insStep x n) (acc,true)=(acc++l,true):=by
 induction l with
 | nil=>intro acc;simp
 | cons e l ih=>
  intro acc
  have h0:=h e (by simp)
  have hs:insStep x n (acc,true) e=(acc++[e],true):=by
   unfold insStep
   simp only [Bool.true_eq_false,and_false,if_false]
   rw [if_neg (by omega)]
  rw [List.foldl_cons,hs,ih (fun y hy=>h y (by simp [hy]))]
  simp
theorem fold_asc {x:Lab} {n:Int} (l:List Ent) (ha:AscB ltE (l.map Prod.fst)):∀acc,(if (l.foldl (insStep x n) (acc,false)).2=true then (l.foldl (insStep x n) (acc,false)).1 else (l.foldl (insStep x n) (acc,false)).1++[(x,[n])])=acc++insP x n l:=by
 induction l with
 | nil=>intro acc;simp [insP]
 | cons e l ih=>
  intro acc
  obtain ⟨h1,h2⟩:=List.pairwise_cons.1 ha
  have hgt:0≤cmpLab e.1 x→∀d∈l,0<cmpLab d.1 x:=fun h0 d hd=>by
   rw [← ltE_gt]
   have h3:=h1 d.1 (List.mem_map.2 ⟨d,hd,rfl⟩)
   rcases cmpLab_ok.dom e.1 x with f | f | f
   ·omega
   ·rw [← (cmpLab_ok.eq _ _).1 f];exact h3
   ·exact ltE_ok.tr _ _ _ ((ltE_gt e.1 x).2 (by omega)) h3
  rw [List.foldl_cons,insP]
  by_cases h0:cmpLab e.1 x=0
  ·have hs:insStep x n (acc,false) e=(acc++[(x,insB ltI n e.2)],true):=by
    simp [insStep,h0]
   rw [hs,fold_done l (hgt (by omega)),if_pos h0]
   simp
  ·by_cases hp:0<cmpLab e.1 x
   ·have hs:insStep x n (acc,false) e=(acc++[(x,[n])]++[e],true):=by
     simp [insStep,h0,hp]
    rw [hs,fold_done l (hgt (by omega)),if_neg h0,if_pos hp]
    simp
   ·have hs:insStep x n (acc,false) e=(acc++[e],false):=by
     simp [insStep,h0,hp]
    rw [hs,ih h2,if_neg h0,if_neg hp]
    simp
theorem insR_asc {x:Lab} {n:Int} {l:List Ent} (ha:AscB ltE (l.map Prod.fst)):insR x n l=insP x n l:=by
 have h:=fold_asc (x:=x) (n:=n) l ha []
 rw [List.nil_append] at h
 exact h
theorem insP_map {y:Lab} {i:Int} (F:Lab→List Int) (T:List Lab) (ha:AscB ltE T) :
  insP y i (T.map fun x=>(x,F x))=(insB ltE y T).map fun x=>(x,if x=y then (if y∈T then insB ltI i (F y) else [i]) else F x):=by
 induction T with
 | nil=>simp [insP,insB]
 | cons t T ih=>
  obtain ⟨h1,h2⟩:=List.pairwise_cons.1 ha
  rw [List.map_cons,insP]
  simp only
  rcases cmpLab_ok.dom t y with e | e | e
  ·have hlt:ltE t y=true:=by unfold ltE;rw [e];rfl
   have hne:t≠y:=ltE_ok.toLtPre.ne hlt
   have hi:insB ltE y (t::T)=t::insB ltE y T:=by rw [insB,if_pos hlt]
   rw [if_neg (by omega),if_neg (by omega),hi,List.map_cons,if_neg hne,ih h2]
   congr 1
   refine List.map_congr_left fun x _=>?_
   have:y∈t::T↔y∈T:=⟨fun h=>(List.mem_cons.1 h).resolve_left (fun e=>hne e.symm),fun h=>List.mem_cons_of_mem _ h⟩
   simp only [this]
  ·obtain rfl:t=y:=(cmpLab_ok.eq _ _).1 e
   have hir:ltE t t=false:=ltE_ok.irr t
   have hi:insB ltE t (t::T)=t::T:=by rw [insB,if_neg (by rw [hir];decide),if_neg (by rw [hir];decide)]
   rw [if_pos e,hi,List.map_cons,if_pos rfl,if_pos (by simp)]
   congr 1
   refine List.map_congr_left fun x hx=>?_
   rw [if_neg (fun e:x=t=>by subst e;have:=h1 x hx;rw [hir] at this;cases this)]
  ·have hlt:ltE y t=true:=(ltE_gt t y).2 (by omega)
   have hnl:ltE t y=false:=ltE_ok.toLtPre.asy hlt
   have hnm:y∉t::T:=fun hm=>by
    rcases List.mem_cons.1 hm with f | f
    ·subst f;rw [ltE_ok.irr] at hlt;cases hlt
    ·have:=h1 y f;rw [hnl] at this;cases this
   have hi:insB ltE y (t::T)=y::t::T:=by rw [insB,if_neg (by rw [hnl];decide),if_pos hlt]
   rw [if_neg (by omega),if_pos (by omega),hi,List.map_cons,if_pos rfl,if_neg hnm]
   congr 1
   rw [List.map_cons,if_neg (fun e:t=y=>hnm (by rw [e];simp))]
   congr 1
   refine List.map_congr_left fun x hx=>?_
   rw [if_neg (fun e:x=y=>hnm (by rw [← e];simp [hx]))]
def addS (i:Int) (l:List Ent) (s:List Lab):List Ent:=s.foldl (fun l x=>insR x i l) l
theorem addS_snoc (i:Int) (l:List Ent) (s:List Lab) (x:Lab):addS i l (s++[x])=insR x i (addS i l s):=by rw [addS,List.foldl_append];rfl
def buildTo (l:List (List Lab)) (k:Nat):List Ent:=(List.range k).foldl (fun acc (i:Nat)=>addS (i:Int) acc (l.getD i [])) []
theorem buildTo_succ (l:List (List Lab)) (k:Nat):buildTo l (k+1)=addS (k:Int) (buildTo l k) (l.getD k []):=by
 rw [buildTo,List.range_succ,List.foldl_append];rfl
def buildP (l:List (List Lab)):List Ent:=buildTo l l.length
def posTo (l:List (List Lab)) (k:Nat) (x:Lab):List Int:=((List.range k).filter fun i=>decide (x∈l.getD i [])).map fun i:Nat=>(i:Int)
theorem posTo_succ (l:List (List Lab)) (k:Nat) (x:Lab):posTo l (k+1) x=posTo l k x++if x∈l.getD k [] then [(k:Int)] else []:=by
 rw [posTo,List.range_succ,List.filter_append,List.map_append]
 by_cases h:x∈l.getD k []
 ·rw [if_pos h,List.filter_cons_of_pos (by simpa using h)];rfl
 ·rw [if_neg h,List.filter_cons_of_neg (by simpa using h)];rfl
theorem posTo_lt (l:List (List Lab)) (k:Nat) (x:Lab):∀y∈posTo l k x,0≤y∧y<(k:Int):=by
 intro y hy
 obtain ⟨i,hi,rfl⟩:=List.mem_map.1 hy
 have:=List.mem_range.1 (List.mem_filter.1 hi).1
 omega
theorem posTo_asc (l:List (List Lab)) (k:Nat) (x:Lab):AscB ltI (posTo l k x):=by
 unfold posTo AscB
 rw [List.pairwise_map]
 refine List.Pairwise.imp (fun h=>?_) (List.Pairwise.filter _ List.pairwise_lt_range)
 simp only [ltI,decide_eq_true_eq];omega
theorem posTo_mem (l:List (List Lab)) (k:Nat) (x:Lab) (i:Int):i∈posTo l k x↔∃j:Nat,i=(j:Int)∧j<k∧x∈l.getD j []:=by
 simp only [posTo,List.mem_map,List.mem_filter,List.mem_range,decide_eq_true_eq]
 constructor
 ·rintro ⟨j,⟨h1,h2⟩,rfl⟩;exact ⟨j,rfl,h1,h2⟩
 ·rintro ⟨j,rfl,h1,h2⟩;exact ⟨j,⟨h1,h2⟩,rfl⟩
def flatTo (l:List (List Lab)) (k:Nat):List Lab:=(l.take k).flatten
theorem flatTo_succ {l:List (List Lab)} {k:Nat} (h:k<l.length):flatTo l (k+1)=flatTo l k++l.getD k []:=by
 rw [flatTo,List.take_add_one,List.getElem?_eq_getElem h,List.flatten_append,List.getD_eq_getElem?_getD,List.getElem?_eq_getElem h]
 simp [flatTo]
def idxTo (l:List (List Lab)) (k:Nat):List Ent:=(tabB ltE (flatTo l k)).map fun x=>(x,posTo l k x)
def idxP (l:List (List Lab)):List Ent:=idxTo l l.length
theorem posTo_none {l:List (List Lab)} {k:Nat} {x:Lab} (h:x∉flatTo l k):posTo l k x=[]:=by
 rw [posTo,List.filter_eq_nil_iff.2]
 ·rfl
 ·intro i hi
  simp only [decide_eq_true_eq]
  intro hx
  apply h
  rw [flatTo,List.mem_flatten]
  have hik:=List.mem_range.1 hi
  by_cases hl:i<l.length
  ·refine ⟨l[i],?_,by rwa [List.getD_eq_getElem?_getD,List.getElem?_eq_getElem hl] at hx⟩
   exact List.mem_of_getElem? (i:=i) (by rw [List.getElem?_take,if_pos hik,List.getElem?_eq_getElem hl])
  ·rw [List.getD_eq_getElem?_getD,List.getElem?_eq_none (by omega)] at hx
   cases hx
theorem addS_idx {l:List (List Lab)} {k:Nat} (h:k<l.length) (s:List Lab):addS (k:Int) (idxTo l k) s=(tabB ltE (flatTo l k++s)).map fun x=>(x,posTo l k x++if x∈s then [(k:Int)] else []):=by
 induction s using snoc_ind with
 | h0=>simp [addS,idxTo]
 | h1 s y ih=>
  rw [addS_snoc,ih]
  have hT:AscB ltE (tabB ltE (flatTo l k++s)):=tabB_asc ltE_ok _
  have hfst:((tabB ltE (flatTo l k++s)).map fun x=>(x,posTo l k x++if x∈s then [(k:Int)] else [])).map Prod.fst=tabB ltE (flatTo l k++s):=by
   rw [List.map_map]
   exact (List.map_congr_left (fun x _=>rfl)).trans (List.map_id _)
  rw [insR_asc (by rw [hfst];exact hT),insP_map (fun x=>posTo l k x++if x∈s then [(k:Int)] else []) _ hT,← List.append_assoc,tabB_snoc]
  refine List.map_congr_left fun x _=>?_
  by_cases e:x=y
  ·subst e
   have hy:x∈s++[x]:=by simp
   rw [if_pos rfl,if_pos hy]
   by_cases hm:x∈tabB ltE (flatTo l k++s)
   ·rw [if_pos hm]
    by_cases hs:x∈s
    ·rw [if_pos hs,insB_at ltI_ok.toLtPre _ _ [] (fun z hz=>by have:=posTo_lt l k x z hz;simp only [ltI,decide_eq_true_eq];omega)]
    ·rw [if_neg hs,List.append_nil,insB_last ltI_ok.toLtPre _ _ (fun z hz=>by have:=posTo_lt l k x z hz;simp only [ltI,decide_eq_true_eq];omega)]
   ·rw [if_neg hm,posTo_none (fun h=>hm ((tabB_mem ltE_ok _ _).2 (by simp [h])))]
    rfl
  ·rw [if_neg e]
   have:x∈s++[y]↔x∈s:=by simp [e]
   simp only [this]
theorem build_idxTo (l:List (List Lab)) (k:Nat) (h:k≤l.length):buildTo l k=idxTo l k:=by
 induction k with
 | zero=>simp [buildTo,idxTo,flatTo,tabB,tabFrom]
 | succ k ih=>
  rw [buildTo_succ,ih (by omega),addS_idx (by omega),idxTo,flatTo_succ (by omega)]
  refine List.map_congr_left fun x _=>?_
  rw [posTo_succ]
theorem build_idx (l:List (List Lab)):buildP l=idxP l:=build_idxTo l _ (Nat.le_refl _)
theorem idx_asc (l:List (List Lab)):AscB ltE ((idxP l).map Prod.fst):=by
 have:(idxP l).map Prod.fst=tabB ltE (flatTo l l.length):=by
  rw [idxP,idxTo,List.map_map]
  exact (List.map_congr_left (fun x _=>rfl)).trans (List.map_id _)
 rw [this]
 exact tabB_asc ltE_ok _
theorem idx_mem {l:List (List Lab)} {e:Ent} (h:e∈idxP l):e.1∈l.flatten∧e.2=posTo l l.length e.1:=by
 obtain ⟨x,hx,rfl⟩:=List.mem_map.1 h
 refine ⟨?_,rfl⟩
 have:=(tabB_mem ltE_ok _ _).1 hx
 rwa [flatTo,List.take_length] at this
end Go.Proofs.YtdcgbgecbeegmaaGreatDoor
end
section
namespace Go.Proofs.YtdcgbgecbeegmaaGreatDoor
def pOnly {α:Type} (p:List Nat→Nat→Out α) (q:α→Bool) (z:Nat) (B:List Nat) (a:Nat):Out α:=match p B a with
 | .bad e=>.bad e
 | .ok x b=>if q x=true then .ok x b else .bad z
theorem reads_only {α:Type} {p:List Nat→Nat→Out α} {f:α→List Nat} {ok:α→Prop} {q:α→Bool} {z:Nat} (hz:z≠0) (h:Reads p f ok):Reads (pOnly p q z) f (fun x=>ok x∧q x=true) where
 back:=fun pre rest x hx=>by rw [pOnly,h.back pre rest x hx.1];simp only [hx.2,if_true]
 inv:=fun {B a x b} hB ha hp=>by
  rw [pOnly] at hp
  split at hp
  ·cases hp
  ·next y b' h1=>
   split at hp
   ·next hq=>
    cases hp
    obtain ⟨a1,a2,a3,a4⟩:=h.inv hB ha h1
    exact ⟨⟨a1,hq⟩,a2,a3,a4⟩
   ·cases hp
 bad:=fun {B a e} hB ha hp=>by
  rw [pOnly] at hp
  split at hp
  ·next e' h1=>cases hp;exact h.bad hB ha h1
  ·split at hp
   ·cases hp
   ·cases hp;exact hz
 cut:=fun {B a x b m} hB ha hm hp=>by
  rw [pOnly] at hp
  split at hp
  ·cases hp
  ·next y b' h1=>
   split at hp
   ·next hq=>
    cases hp
    rcases h.cut hB ha hm h1 with e1 | ⟨hb,e1⟩
    ·exact Or.inl (by rw [pOnly,e1])
    ·exact Or.inr ⟨hb,by rw [pOnly,e1];simp only [hq,if_true]⟩
   ·cases hp
 pos:=fun x hx=>h.pos x hx.1
 lt:=fun x hx=>h.lt x hx.1
section
variable {α σ:Type} (p:σ→List Nat→Nat→Out α) (f:σ→α→List Nat) (ok:σ→α→Prop) (nx:σ→α→σ)
def pManyS (B:List Nat):Nat→Nat→σ→List α→Out (List α)
 | 0,a,_,acc=>.ok acc a
 | k+1,a,s,acc=>match p s B a with
  | .bad e=>.bad e
  | .ok x b=>pManyS B k b (nx s x) (acc++[x])
def fManyS:σ→List α→List Nat
 | _,[]=>[]
 | s,x::l=>f s x++fManyS (nx s x) l
def okS:σ→List α→Prop
 | _,[]=>True
 | s,x::l=>ok s x∧okS (nx s x) l
def pListS (z:Nat) (s0:σ) (B:List Nat) (a:Nat):Out (List α):=match readAt B (a:Int) with
 | (n,to,0)=>if B.length-to.toNat<n then .bad 3 else if z≠0∧n=0 then .bad z else pManyS p nx B n to.toNat s0 []
 | (_,_,e+1)=>.bad (e+1)
end
section
variable {α σ:Type} {p:σ→List Nat→Nat→Out α} {f:σ→α→List Nat} {ok:σ→α→Prop} {nx:σ→α→σ}
theorem manyS_back (h:∀s,Reads (p s) (f s) (ok s)) (rest:List Nat) (l:List α):∀(s:σ) (pre:List Nat) (acc:List α),okS ok nx s l→pManyS p nx (pre++fManyS f nx s l++rest) l.length pre.length s acc = .ok (acc++l) (pre.length+(fManyS f nx s l).length):=by
 induction l with
 | nil=>intro s pre acc _;simp [pManyS,fManyS]
 | cons x l ih=>
  intro s pre acc ho
  have e0:pre++fManyS f nx s (x::l)++rest=pre++f s x++(fManyS f nx (nx s x) l++rest):=by simp [fManyS]
  have e1:=(h s).back pre (fManyS f nx (nx s x) l++rest) x ho.1
  have e2:=ih (nx s x) (pre++f s x) (acc++[x]) ho.2
  rw [List.length_cons,pManyS,e0,e1]
  simp only
  rw [← List.append_assoc,← List.length_append,e2]
  simp [fManyS,Nat.add_assoc]
theorem manyS_inv (h:∀s,Reads (p s) (f s) (ok s)) {B:List Nat} (hB:∀c∈B,c<256):∀(k a:Nat) (s:σ) (acc u:List α) (b:Nat),a≤B.length→pManyS p nx B k a s acc = .ok u b→∃l,u=acc++l∧l.length=k∧okS ok nx s l∧B.drop a=fManyS f nx s l++B.drop b∧a≤b∧b≤B.length:=by
 intro k
 induction k with
 | zero=>intro a s acc u b ha hp;rw [pManyS] at hp;cases hp;exact ⟨[],by simp,rfl,trivial,rfl,Nat.le_refl _,ha⟩
 | succ k ih=>
  intro a s acc u b ha hp
  rw [pManyS] at hp
  split at hp
  ·cases hp
  ·next x b1 h1=>
   obtain ⟨a1,a2,a3,a4⟩:=(h s).inv hB ha h1
   obtain ⟨l,e1,e2,e3,e4,e5,e6⟩:=ih b1 (nx s x) (acc++[x]) u b a4 hp
   exact ⟨x::l,by rw [e1];simp,by simp [e2],⟨a1,e3⟩,by rw [a2,e4,fManyS,List.append_assoc],by omega,e6⟩
theorem manyS_bad (h:∀s,Reads (p s) (f s) (ok s)) {B:List Nat} (hB:∀c∈B,c<256):∀(k a:Nat) (s:σ) (acc:List α) (e:Nat),a≤B.length→pManyS p nx B k a s acc = .bad e→e≠0:=by
 intro k
 induction k with
 | zero=>intro a s acc e _ hp;rw [pManyS] at hp;cases hp
 | succ k ih=>
  intro a s acc e ha hp
  rw [pManyS] at hp
  split at hp
  ·next e' h1=>cases hp;exact (h s).bad hB ha h1
  ·next x b1 h1=>exact ih b1 _ _ e ((h s).inv hB ha h1).2.2.2 hp
theorem manyS_cut (h:∀s,Reads (p s) (f s) (ok s)) {B:List Nat} (hB:∀c∈B,c<256) {m:Nat} (hm:m≤B.length):∀(k a:Nat) (s:σ) (acc u:List α) (b:Nat),a≤m→pManyS p nx B k a s acc = .ok u b→pManyS p nx (B.take m) k a s acc = .bad 3∨(b≤m∧pManyS p nx (B.take m) k a s acc = .ok u b):=by
 intro k
 induction k with
 | zero=>intro a s acc u b ha hp;rw [pManyS] at hp;cases hp;exact Or.inr ⟨ha,rfl⟩
 | succ k ih=>
  intro a s acc u b ha hp
  rw [pManyS] at hp
  split at hp
  ·cases hp
  ·next x b1 h1=>
   rcases (h s).cut hB ha hm h1 with e1 | ⟨hb,e1⟩
   ·rw [pManyS,e1];exact Or.inl rfl
   ·rw [pManyS,e1];exact ih b1 _ _ u b hb hp
theorem flatS_le (h:∀s,Reads (p s) (f s) (ok s)) (l:List α):∀s,okS ok nx s l→l.length≤(fManyS f nx s l).length:=by
 induction l with
 | nil=>intro s _;exact Nat.le_refl _
 | cons x l ih=>intro s ho;rw [fManyS,List.length_append,List.length_cons];have:=(h s).pos x ho.1;have:=ih _ ho.2;omega
theorem flatS_lt (h:∀s,Reads (p s) (f s) (ok s)) (l:List α):∀s,okS ok nx s l→∀c∈fManyS f nx s l,c<256:=by
 induction l with
 | nil=>intro s _ c hc;cases hc
 | cons x l ih=>
  intro s ho c hc
  rw [fManyS] at hc
  rcases List.mem_append.1 hc with e | e
  ·exact (h s).lt x ho.1 c e
  ·exact ih _ ho.2 c e
theorem reads_listS {z:Nat} (h:∀s,Reads (p s) (f s) (ok s)) (s0:σ):Reads (pListS p nx z s0) (fun l=>groups l.length++fManyS f nx s0 l) (fun l=>okS ok nx s0 l∧l.length<18446744073709551616∧(z≠0→l≠[])) where
 back:=fun pre rest l hl=>by
  have e0:pre++(groups l.length++fManyS f nx s0 l)++rest=pre++groups l.length++(fManyS f nx s0 l++rest):=by simp
  have e3:pre++(groups l.length++fManyS f nx s0 l)++rest=pre++groups l.length++fManyS f nx s0 l++rest:=by simp
  have hr:=readAt_groups pre (fManyS f nx s0 l++rest) hl.2.1
  rw [pListS,e0,hr]
  simp only [Int.toNat_natCast]
  have hf:=flatS_le h l s0 hl.1
  rw [if_neg (by simp only [List.length_append];omega),if_neg (fun e=>hl.2.2 e.1 (List.eq_nil_of_length_eq_zero e.2)),← e0,e3,← List.length_append,manyS_back h rest l _ _ _ hl.1]
  simp [Nat.add_assoc]
 inv:=fun {B a u b} hB ha hp=>by
  rcases readAt_cases hB ha with ⟨e,he,hr⟩ | ⟨y,n,hr,hn,hin,hg,hy⟩
  ·obtain ⟨k,rfl⟩:∃k,e=k+1:=⟨e-1,by omega⟩
   rw [pListS,hr] at hp;cases hp
  ·obtain ⟨b',hb,h3,h4,h5,h6,h7,_⟩:=readAt_take hB (Nat.le_refl a) ha hr
   have e:b'=a+n:=by omega
   rw [pListS,hr] at hp
   simp only [Int.toNat_natCast] at hp
   split at hp
   ·cases hp
   ·split at hp
    ·cases hp
    ·next hz=>
     rw [← e] at hp
     obtain ⟨l,e1,e2,e3,e4,e5,e6⟩:=manyS_inv h hB y b' s0 [] u b h4 hp
     rw [List.nil_append] at e1
     subst e1
     refine ⟨⟨e3,by rw [e2];exact h7,fun hz1 hn1=>hz ⟨hz1,by rw [← e2,hn1];rfl⟩⟩,by rw [h5,e4,e2,List.append_assoc],by omega,e6⟩
 bad:=fun {B a e} hB ha hp=>by
  rcases readAt_cases hB ha with ⟨e1,he,hr⟩ | ⟨y,n,hr,hn,hin,hg,hy⟩
  ·obtain ⟨k,rfl⟩:∃k,e1=k+1:=⟨e1-1,by omega⟩
   rw [pListS,hr] at hp;cases hp;omega
  ·rw [pListS,hr] at hp
   simp only [Int.toNat_natCast] at hp
   split at hp
   ·cases hp;decide
   ·split at hp
    ·next hz=>cases hp;exact hz.1
    ·exact manyS_bad h hB _ _ _ _ _ hin hp
 cut:=fun {B a u b m} hB ha hm hp=>by
  rcases readAt_cases hB (Nat.le_trans ha hm) with ⟨e1,he,hr⟩ | ⟨y,n,hr,hn,hin,hg,hy⟩
  ·obtain ⟨k,rfl⟩:∃k,e1=k+1:=⟨e1-1,by omega⟩
   rw [pListS,hr] at hp;cases hp
  ·obtain ⟨b',hb,h3,h4,h5,h6,h7,h8⟩:=readAt_take hB ha hm hr
   have e:b'=a+n:=by omega
   rw [pListS,hr] at hp
   simp only [Int.toNat_natCast] at hp
   rw [pListS,h8]
   by_cases hle:b'≤m
   ·rw [if_pos hle]
    simp only [Int.toNat_natCast]
    split
    ·exact Or.inl rfl
    ·split at hp
     ·cases hp
     ·split at hp
      ·cases hp
      ·next hz=>
       rw [if_neg hz]
       rw [← e] at hp
       exact manyS_cut h hB hm _ _ _ _ _ _ hle hp
   ·rw [if_neg hle];exact Or.inl rfl
 pos:=fun l _=>by rw [List.length_append];have:=groups_pos l.length;omega
 lt:=fun l hl c hc=>by
  rcases List.mem_append.1 hc with e | e
  ·exact groups_lt _ c e
  ·exact flatS_lt h l s0 hl.1 c e
end
end Go.Proofs.YtdcgbgecbeegmaaGreatDoor
end
section
namespace Go.Proofs.YtdcgbgecbeegmaaGreatDoor
open Go Go.RowKit
def serB (s:Option Int) (x:Int):List Nat:=groups (x-s.getD 0).toNat
def serBytes (l:List Int):List Nat:=groups l.length++fManyS serB (fun _ x=>some x) none l
def entBytes (t:List ByteArray) (e:Ent):List Nat:=labBytes t e.1++serBytes e.2
def entsBytes (t:List ByteArray) (l:List Ent):List Nat:=groups l.length++l.flatMap (entBytes t)
def ltOpt (s:Option Lab) (x:Lab):Bool:=match s with
 | none=>true
 | some y=>ltE y x
def pLabO (t:List ByteArray) (s:Option Lab):List Nat→Nat→Out Lab:=pOnly (pLab t) (ltOpt s) 16
def pSer (n:Int) (s:Option Int):List Nat→Nat→Out Int:=pNum (fun d=>if 0≤s.getD 0∧s.getD 0+(d:Int)<n∧(s=none∨d≠0) then some (s.getD 0+(d:Int)) else none) 22
def pSers (n:Int):List Nat→Nat→Out (List Int):=pListS (pSer n) (fun _ x=>some x) 22 none
def pEnt (t:List ByteArray) (n:Int) (s:Option Lab):List Nat→Nat→Out Ent:=pPair (pLabO t s) (pSers n)
def pEnts (t:List ByteArray) (n:Int):List Nat→Nat→Out (List Ent):=pListS (pEnt t n) (fun _ e=>some e.1) 0 none
def encPoR (t:List ByteArray) (l:List Ent):Nat × List Nat:=if ∀e∈l,labIn t e.1 then (0,entsBytes t l) else (14,[])
def okSer (n:Int) (s:Option Int) (x:Int):Prop:=0≤s.getD 0∧x<n∧(s=none→0≤x)∧∀y,s=some y→y<x
theorem reads_ser {n : Int} (hn : n < 9223372036854775808) (s : Option Int) : Reads (pSer n s) (serB s) (okSer n s) :=
  reads_num (by decide) (fun x hx => by
    obtain ⟨h1, h2, h3, h4⟩ := hx
    cases s with
    | none =>
      have h5 := h3 rfl
      simp only [Option.getD_none] at *
      refine ⟨?_, by omega⟩
      rw [if_pos ⟨by omega, by omega, Or.inl trivial⟩]
      congr 1
      omega
    | some y =>
      have h5 := h4 y rfl
      simp only [Option.getD_some] at *
      refine ⟨?_, by omega⟩
      rw [if_pos ⟨by omega, by omega, Or.inr (by omega)⟩]
      congr 1
      omega) (fun d x h => by
    split at h
    · next hd =>
      cases h
      obtain ⟨h1, h2, h3⟩ := hd
      cases s with
      | none =>
        simp only [Option.getD_none] at *
        exact ⟨⟨by simp, by omega, fun _ => by omega, fun y hy => by cases hy⟩, by omega⟩
      | some y =>
        simp only [Option.getD_some] at *
        have h4 : d ≠ 0 := by rcases h3 with e | e; · cases e
                              · exact e
        exact ⟨⟨by simpa using h1, by omega, (fun hy => by cases hy), fun z hz => by cases hz; omega⟩, by omega⟩
    · cases h)
def okSers (n:Int) (l:List Int):Prop:=okS (okSer n) (fun _ x=>some x) none l∧l.length<18446744073709551616∧((22:Nat)≠0→l≠[])
theorem reads_sers {n:Int} (hn:n<9223372036854775808):Reads (pSers n) serBytes (okSers n):=reads_listS (fun s=>reads_ser hn s) none
def okEnt (t:List ByteArray) (n:Int) (s:Option Lab) (e:Ent):Prop:=((e.1.1∈t∧e.1.2∈t)∧ltOpt s e.1=true)∧okSers n e.2
def okEnts (t:List ByteArray) (n:Int) (l:List Ent):Prop:=okS (okEnt t n) (fun _ e=>some e.1) none l∧l.length<18446744073709551616∧((0:Nat)≠0→l≠[])
theorem fMany_const {α σ:Type} (f:α→List Nat) (nx:σ→α→σ) (l:List α):∀s,fManyS (fun _=>f) nx s l=l.flatMap f:=by
 induction l with
 | nil=>intro s;rfl
 | cons x l ih=>intro s;rw [fManyS,ih,List.flatMap_cons]
section
variable {t:List ByteArray} (ht:t.Nodup) (hl:t.length<18446744073709551616) {n:Int} (hn:n<9223372036854775808)
include ht hl hn
theorem reads_ent (s:Option Lab):Reads (pEnt t n s) (entBytes t) (okEnt t n s):=reads_pair (reads_only (by decide) (reads_lab ht hl)) (reads_sers hn)
theorem reads_ents:Reads (pEnts t n) (entsBytes t) (okEnts t n):=by
 have h:=reads_listS (p:=pEnt t n) (f:=fun _=>entBytes t) (ok:=okEnt t n) (nx:=fun _ e=>some e.1) (z:=0) (fun s=>reads_ent ht hl hn s) none
 have e:(fun l=>groups l.length++fManyS (fun (_:Option Lab)=>entBytes t) (fun _ (e:Ent)=>some e.1) none l)=entsBytes t:=by
  funext l
  rw [fMany_const,entsBytes]
 rw [e] at h
 exact h
end
theorem sers_ok {n:Int} (l:List Int):∀s,okS (okSer n) (fun _ x=>some x) s l↔(∀x∈l,x<n)∧AscB ltI l∧(s=none→∀x∈l,0≤x)∧(l≠[]→0≤s.getD 0)∧∀y,s=some y→∀x∈l,y<x:=by
 induction l with
 | nil=>intro s;simp [okS,AscB]
 | cons x l ih=>
  intro s
  rw [okS,ih (some x)]
  constructor
  ·rintro ⟨⟨h1,h2,h3,h4⟩,k1,k2,_,k4,k5⟩
   have hx:∀z∈l,x<z:=k5 x rfl
   refine ⟨fun z hz=>?_,List.pairwise_cons.2 ⟨fun z hz=>by simpa [ltI] using hx z hz,k2⟩,fun e z hz=>?_,fun _=>h1,fun y hy z hz=>?_⟩
   ·rcases List.mem_cons.1 hz with rfl | hz
    ·exact h2
    ·exact k1 z hz
   ·rcases List.mem_cons.1 hz with rfl | hz
    ·exact h3 e
    ·have:=h3 e;have:=hx z hz;omega
   ·rcases List.mem_cons.1 hz with rfl | hz
    ·exact h4 y hy
    ·have:=h4 y hy;have:=hx z hz;omega
  ·rintro ⟨k1,k2,k3,k4,k5⟩
   obtain ⟨h1,h2⟩:=List.pairwise_cons.1 k2
   refine ⟨⟨k4 (by simp),k1 x (by simp),fun e=>k3 e x (by simp),fun y hy=>k5 y hy x (by simp)⟩,fun z hz=>k1 z (by simp [hz]),h2,(fun e=>by cases e),fun _=>?_,fun y hy z hz=>?_⟩
   ·show 0≤x
    cases s with
    | none=>exact k3 rfl x (by simp)
    | some y=>have h5:=k4 (by simp);have h6:=k5 y rfl x (by simp);simp only [Option.getD_some] at h5;omega
   ·cases hy
    simpa [ltI] using h1 z hz
theorem sers_ok0 {n:Int} {l:List Int}:okSers n l↔(AscB ltI l∧(∀x∈l,0≤x∧x<n)∧l≠[])∧l.length<18446744073709551616:=by
 rw [okSers,sers_ok]
 constructor
 ·rintro ⟨⟨h1,h2,h3,_,_⟩,h5,h6⟩
  exact ⟨⟨h2,fun x hx=>⟨h3 rfl x hx,h1 x hx⟩,h6 (by decide)⟩,h5⟩
 ·rintro ⟨⟨h1,h2,h3⟩,h4⟩
  exact ⟨⟨fun x hx=>(h2 x hx).2,h1,fun _ x hx=>(h2 x hx).1,fun _=>by simp,fun y hy=>by cases hy⟩,h4,fun _=>h3⟩
theorem ents_ok {t:List ByteArray} {n:Int} (l:List Ent):∀s,okS (okEnt t n) (fun _ e=>some e.1) s l↔(∀e∈l,(e.1.1∈t∧e.1.2∈t)∧okSers n e.2)∧AscB ltE (l.map Prod.fst)∧∀y,s=some y→∀e∈l,ltE y e.1=true:=by
 induction l with
 | nil=>intro s;simp [okS,AscB]
 | cons x l ih=>
  intro s
  rw [okS,ih (some x.1)]
  constructor
  ·rintro ⟨⟨⟨h1,h2⟩,h3⟩,k1,k2,k3⟩
   have hx:∀e∈l,ltE x.1 e.1=true:=k3 x.1 rfl
   refine ⟨fun e he=>?_,?_,fun y hy e he=>?_⟩
   ·rcases List.mem_cons.1 he with rfl | he
    ·exact ⟨h1,h3⟩
    ·exact k1 e he
   ·refine List.pairwise_cons.2 ⟨fun y hy=>?_,k2⟩
    obtain ⟨e,he,rfl⟩:=List.mem_map.1 hy
    exact hx e he
   ·subst hy
    rcases List.mem_cons.1 he with rfl | he
    ·exact h2
    ·exact ltE_ok.tr _ _ _ h2 (hx e he)
  ·rintro ⟨k1,k2,k3⟩
   obtain ⟨h1,h2⟩:=List.pairwise_cons.1 k2
   refine ⟨⟨⟨(k1 x (by simp)).1,?_⟩,(k1 x (by simp)).2⟩,fun e he=>k1 e (by simp [he]),h2,fun y hy e he=>?_⟩
   ·cases s with
    | none=>rfl
    | some y=>exact k3 y rfl x (by simp)
   ·cases hy
    exact h1 e.1 (List.mem_map.2 ⟨e,he,rfl⟩)
def IsIdx (n:Int) (l:List Ent):Prop:=AscB ltE (l.map Prod.fst)∧∀e∈l,AscB ltI e.2∧(∀x∈e.2,0≤x∧x<n)∧e.2≠[]
theorem okEnts_iff {t:List ByteArray} {n:Int} {l:List Ent}:okEnts t n l↔IsIdx n l∧(∀e∈l,labIn t e.1)∧l.length<18446744073709551616∧∀e∈l,e.2.length<18446744073709551616:=by
 rw [okEnts,ents_ok]
 constructor
 ·rintro ⟨⟨h1,h2,_⟩,h3,_⟩
  exact ⟨⟨h2,fun e he=>(sers_ok0.1 (h1 e he).2).1⟩,fun e he=>(h1 e he).1,h3,fun e he=>(sers_ok0.1 (h1 e he).2).2⟩
 ·rintro ⟨⟨h1,h2⟩,h3,h4,h5⟩
  exact ⟨⟨fun e he=>⟨h3 e he,sers_ok0.2 ⟨h2 e he,h5 e he⟩⟩,h1,fun y hy=>by cases hy⟩,h4,fun e=>absurd rfl e⟩
section
variable {t:List ByteArray} (ht:AscB ltS t) (hl:t.length<18446744073709551616) {n:Int} (hn:n<9223372036854775808) (h0:0≤n)
include ht hl hn h0
omit h0 in
omit h0 in
theorem encPo_lt {l:List Ent} (h:okEnts t n l):∀c∈entsBytes t l,c<256:=(reads_ents (asc_nodup ht) hl hn).lt _ h
end
theorem idx_is (l:List (List Lab)):IsIdx (l.length:Int) (idxP l):=by
 refine ⟨idx_asc l,fun e he=>?_⟩
 obtain ⟨h1,h2⟩:=idx_mem he
 rw [h2]
 refine ⟨posTo_asc _ _ _,posTo_lt _ _ _,fun hnil=>?_⟩
 obtain ⟨s,hs,hx⟩:=List.mem_flatten.1 h1
 obtain ⟨j,hj,rfl⟩:=List.getElem_of_mem hs
 have:(j:Int)∈posTo l l.length e.1:=(posTo_mem _ _ _ _).2 ⟨j,rfl,hj,by rwa [List.getD_eq_getElem?_getD,List.getElem?_eq_getElem hj]⟩
 rw [hnil] at this
 cases this
end Go.Proofs.YtdcgbgecbeegmaaGreatDoor
end
section
namespace Go.Proofs.YtdcgbgecbeegmaaGreatDoor
open Go Go.RowKit
instance {α:Type} (lt:α→α→Bool) (l:List α):Decidable (AscB lt l):=inferInstanceAs (Decidable (List.Pairwise _ _))
def tabS (l:List ByteArray):List ByteArray:=tabB ltS l
def Fits (t:List ByteArray):Prop:=∀s∈t,s.size≤65535
instance (t:List ByteArray):Decidable (Fits t):=inferInstanceAs (Decidable (∀s∈t,_))
def encSy (t:List ByteArray):List Nat:=groups t.length++t.flatMap fun s=>bytesOf (numsOf s)
def encSyR (t:List ByteArray):Nat × List Nat:=if ¬Fits t then (7,[]) else if ¬AscB ltS t then (16,[]) else (0,encSy t)
theorem encSyR_of {t:List ByteArray} (h1:Fits t) (h2:AscB ltS t):encSyR t=(0,encSy t):=by
 unfold encSyR
 rw [if_neg (not_not_intro h1),if_neg (not_not_intro h2)]
theorem encSy_lt (t:List ByteArray):∀c∈encSy t,c<256:=fun c hc=>by
 rcases List.mem_append.1 hc with h | h
 ·exact groups_lt _ c h
 ·obtain ⟨s,_,h⟩:=List.mem_flatMap.1 h
  exact bytesOf_lt (numsOf_lt s) c h
end Go.Proofs.YtdcgbgecbeegmaaGreatDoor
end
section
namespace Go.Proofs.YtdcgbgecbeegmaaGreatDoor
def headL:List Nat:=[84,83,66,75,1]
def tailL:List Nat:=[75,66,83,84]
def putS:Nat→List (List Nat)→List Nat
 | _,[]=>[]
 | id,d::S=>frameOf id d++putS (id+1) S
def offs:Nat→Nat→List (List Nat)→List Nat
 | _,_,[]=>[]
 | id,a,d::S=>a::offs (id+1) (a+(frameOf id d).length) S
def contents (ats:List Nat):List Nat:=ats.flatMap groups
def bodyL (S:List (List Nat)):List Nat:=headL++putS 1 S++frameOf 5 (contents (offs 1 5 S))
def asmL (S:List (List Nat)):List Nat:=withCrc (bodyL S)++tailL
def okS4 (S:List (List Nat)):Prop:=∀d∈S,(∀c∈d,c<256)∧d.length<18446744073709551616
theorem offs_length:∀(id a:Nat) (S:List (List Nat)),(offs id a S).length=S.length
 | _,_,[]=>rfl
 | id,a,d::S=>by rw [offs,List.length_cons,offs_length,List.length_cons]
theorem putS_lt:∀(id:Nat) (S:List (List Nat)),id+S.length≤256→okS4 S→∀c∈putS id S,c<256
 | _,[],_,_,c,hc=>by cases hc
 | id,d::S,hi,h,c,hc=>by
  rw [putS] at hc
  rw [List.length_cons] at hi
  rcases List.mem_append.1 hc with e | e
  ·exact frameOf_lt (by omega) (h d (by simp)).1 c e
  ·exact putS_lt (id+1) S (by omega) (fun d hd=>h d (by simp [hd])) c e
theorem contents_lt (l:List Nat):∀c∈contents l,c<256:=fun c hc=>by
 obtain ⟨x,_,h⟩:=List.mem_flatMap.1 hc
 exact groups_lt x c h
theorem bodyL_lt {S:List (List Nat)} (h4:S.length=4) (h:okS4 S):∀c∈bodyL S,c<256:=fun c hc=>by
 unfold bodyL at hc
 rcases List.mem_append.1 hc with hc | hc
 ·rcases List.mem_append.1 hc with hc | hc
  ·simp [headL] at hc;omega
  ·exact putS_lt 1 S (by omega) h c hc
 ·exact frameOf_lt (by decide) (contents_lt _) c hc
theorem contents_length {l:List Nat} (h:∀x∈l,x<18446744073709551616):(contents l).length≤10*l.length:=by
 induction l with
 | nil=>simp [contents]
 | cons x l ih=>
  have h1:=groups_ten (h x (by simp))
  have h2:=ih (fun y hy=>h y (by simp [hy]))
  rw [contents,List.flatMap_cons,List.length_append,List.length_cons,← contents]
  omega
end Go.Proofs.YtdcgbgecbeegmaaGreatDoor
end
section
namespace Go.Proofs.YtdcgbgecbeegmaaGreatDoor
open Go Go.RowKit
def Made (w w':World) (e:TypeId) (sz:Nat) (r:Value) (n:Nat) (vs:List Value):Prop:=w'.ownsRow w.heap.size e sz r n vs∧Below w.heap.size w w'
def labCells (l:List Lab):List Value:=l.flatMap fun r=>[.string r.1,.string r.2]
theorem elemLab:Elem Tryz.prog 48 108 2 32:=Elem.mk' (z:=.agg #[.string ⟨#[]⟩,.string ⟨#[]⟩]) Tryz.underlying48 (by kernel_rfl) rfl (by decide)
theorem labCells_one (l:List Lab):∀u∈labCells l,u.oneCell'=true:=by
 intro u hu
 simp only [labCells,List.mem_flatMap] at hu
 obtain ⟨r,_,hu⟩:=hu
 simp only [List.mem_cons,List.not_mem_nil,or_false] at hu
 rcases hu with rfl | rfl<;>rfl
theorem labCells_length (rs:List Lab):(labCells rs).length=rs.length*2:=by
 induction rs with
 | nil=>rfl
 | cons r rs ih=>rw [labCells,List.flatMap_cons,List.length_append,← labCells,ih,List.length_cons];simp;omega
theorem labCells_append (a b:List Lab):labCells (a++b)=labCells a++labCells b:=by simp [labCells,List.flatMap_append]
theorem labCells_get (rs:List Lab) (j:Nat) (x c:ByteArray) (h:rs[j]? = some (x,c)):(labCells rs)[j*2]? = some (.string x)∧(labCells rs)[j*2+1]? = some (.string c):=by
 induction rs generalizing j with
 | nil=>simp at h
 | cons r rs ih=>
  have e:labCells (r::rs)=[.string r.1,.string r.2]++labCells rs:=by simp [labCells]
  cases j with
  | zero=>
   simp at h
   subst h
   rw [e]
   exact ⟨rfl,rfl⟩
  | succ j=>
   obtain ⟨h1,h2⟩:=ih j (by simpa using h)
   rw [e,show (j+1)*2=j*2+2 by omega]
   exact ⟨by simpa using h1,by simpa using h2⟩
def samCells (l:List (Int × Nat)):List Value:=l.flatMap fun r=>[.int .i64 r.1,.int .u64 (r.2:Int)]
theorem elemSam:Elem Tryz.prog 49 110 2 16:=Elem.mk' (z:=.agg #[.int .i64 0,.int .u64 0]) Tryz.underlying49 (by kernel_rfl) rfl (by decide)
theorem samCells_one (l:List (Int × Nat)):∀u∈samCells l,u.oneCell'=true:=by
 intro u hu
 simp only [samCells,List.mem_flatMap] at hu
 obtain ⟨r,_,hu⟩:=hu
 simp only [List.mem_cons,List.not_mem_nil,or_false] at hu
 rcases hu with rfl | rfl<;>rfl
theorem samCells_length (rs:List (Int × Nat)):(samCells rs).length=rs.length*2:=by
 induction rs with
 | nil=>rfl
 | cons r rs ih=>rw [samCells,List.flatMap_cons,List.length_append,← samCells,ih,List.length_cons];simp;omega
theorem samCells_append (a b:List (Int × Nat)):samCells (a++b)=samCells a++samCells b:=by simp [samCells,List.flatMap_append]
theorem samCells_get (rs:List (Int × Nat)) (j:Nat) (x:Int) (c:Nat) (h:rs[j]? = some (x,c)):(samCells rs)[j*2]? = some (.int .i64 x)∧(samCells rs)[j*2+1]? = some (.int .u64 (c:Int)):=by
 induction rs generalizing j with
 | nil=>simp at h
 | cons r rs ih=>
  have e:samCells (r::rs)=[.int .i64 r.1,.int .u64 (r.2:Int)]++samCells rs:=by simp [samCells]
  cases j with
  | zero=>
   simp at h
   subst h
   rw [e]
   exact ⟨rfl,rfl⟩
  | succ j=>
   obtain ⟨h1,h2⟩:=ih j (by simpa using h)
   rw [e,show (j+1)*2=j*2+2 by omega]
   exact ⟨by simpa using h1,by simpa using h2⟩
end Go.Proofs.YtdcgbgecbeegmaaGreatDoor
end
section
namespace Go.Proofs.YtdcgbgecbeegmaaGreatDoor
open Go Go.RowKit
section
variable {t:TypeId} {α:Type} {f1 f2:α→Value}
def two (f1 f2:α→Value) (d:List α):List Value:=d.flatMap fun x=>[f1 x,f2 x]
theorem two_length (d:List α):(two f1 f2 d).length=d.length*2:=by
 induction d with
 | nil=>rfl
 | cons r d ih=>rw [two,List.flatMap_cons,List.length_append,← two,ih,List.length_cons];simp;omega
theorem two_append (a b:List α):two f1 f2 (a++b)=two f1 f2 a++two f1 f2 b:=by simp [two,List.flatMap_append]
theorem two_get (d:List α) (j:Nat) (x:α) (h:d[j]? = some x):(two f1 f2 d)[j*2]? = some (f1 x)∧(two f1 f2 d)[j*2+1]? = some (f2 x):=by
 induction d generalizing j with
 | nil=>simp at h
 | cons r d ih=>
  have e:two f1 f2 (r::d)=f1 r::f2 r::two f1 f2 d:=rfl
  cases j with
  | zero=>
   simp at h
   subst h
   rw [e]
   exact ⟨rfl,rfl⟩
  | succ j=>
   obtain ⟨h1,h2⟩:=ih j (by simpa using h)
   rw [e,show (j+1)*2=j*2+2 by omega]
   exact ⟨by simpa using h1,by simpa using h2⟩
theorem two_set (d:List α) (i:Nat) (y:α):((two f1 f2 d).set (i*2) (f1 y)).set (i*2+1) (f2 y)=two f1 f2 (d.set i y):=by
 induction d generalizing i with
 | nil=>rfl
 | cons r d ih=>
  have e:two f1 f2 (r::d)=f1 r::f2 r::two f1 f2 d:=rfl
  cases i with
  | zero=>rw [e];rfl
  | succ i=>
   rw [e,show (i+1)*2=i*2+1+1 by omega]
   simp only [List.set_cons_succ]
   rw [ih i];rfl
structure Own2 (t:TypeId) (f1 f2:α→Value) (w wr:World) (d:List α) (v:Value):Prop where
 row:wr.ownsRow w.heap.size t 2 v d.length (two f1 f2 d)
 bel:Below w.heap.size w wr
theorem Own2.nil (w:World):Own2 t f1 f2 w w [] (.slice none 0 0):=⟨World.ownsRow_nil _ _ _ _,Below.refl _ _⟩
theorem Own2.below {w wr w1:World} {d:List α} {v:Value} (h:Own2 t f1 f2 w wr d v) (hb:Below wr.heap.size wr w1):Own2 t f1 f2 w w1 d v:=
 ⟨(Mods.of_below hb (fun _=>False)).owns h.row (fun _ _ e=>e),h.bel.trans (hb.mono h.bel.size)⟩
theorem Own2.shape {w wr:World} {d:List α} {v:Value} (h:Own2 t f1 f2 w wr d v):∃p c,v = .slice p d.length c:=(Rd.of_owns h.row).shape
theorem Own2.rd {w wr:World} {d:List α} {v:Value} (h:Own2 t f1 f2 w wr d v):Rd wr 2 v d.length (two f1 f2 d):=Rd.of_owns h.row
theorem Own2.base0 {w wr:World} {d:List α} {v:Value} (h:Own2 t f1 f2 w wr d v):wr.ownsRow 0 t 2 v d.length (two f1 f2 d):=owns_rebase h.row (fun _ _=>Nat.zero_le _)
theorem Own2.pushed {w wr w1:World} {d:List α} {v v1:Value} {x:α} (h:Own2 t f1 f2 w wr d v) (k:w1.ownsRow 0 t 2 v1 (d.length+1) (two f1 f2 d++[f1 x,f2 x])) (m:Mods (fun k=>v.ownBlock=some k) wr w1) (hf:Fresh wr.heap.size v v1):Own2 t f1 f2 w w1 (d++[x]) v1:=by
 refine ⟨?_,h.bel.trans (m.below h.bel.size (fun k hk e=>by have:=(h.row.lt k e).1;omega))⟩
 rw [List.length_append,two_append]
 refine owns_rebase k (fun k hk=>?_)
 rcases hf k hk with e | e
 ·exact (h.row.lt k e).1
 ·have:=h.bel.size;omega
theorem Own2.len {w wr:World} {d:List α} {p:Option Addr} {n c:Nat} (h:Own2 t f1 f2 w wr d (.slice p n c)):n=d.length:=by
 obtain ⟨p',c',h'⟩:=h.shape
 simp only [Value.slice.injEq] at h'
 exact h'.2.1
theorem Own2.stored {w wr:World} {d e:List α} {g n c i:Nat} {y:α} (h:Own2 t f1 f2 w wr d (.slice (some ⟨g,0,none⟩) n c)) (he:d.set i y=e):Own2 t f1 f2 w ((wr.setCell ⟨g,i*2,none⟩ (f1 y)).setCell ⟨g,i*2+1,none⟩ (f2 y)) e (.slice (some ⟨g,0,none⟩) n c):=by
 subst he
 obtain rfl:=h.len
 have hm1:Mods (fun k=>k=g) wr (wr.setCell ⟨g,i*2,none⟩ (f1 y)):=Mods.set _ _ _ _ (fun _=>rfl)
 have hm2:Mods (fun k=>k=g) (wr.setCell ⟨g,i*2,none⟩ (f1 y)) ((wr.setCell ⟨g,i*2,none⟩ (f1 y)).setCell ⟨g,i*2+1,none⟩ (f2 y)):=Mods.set _ _ _ _ (fun _=>rfl)
 have hg:=(h.row.lt g rfl).1
 refine ⟨?_,h.bel.trans ((hm1.trans hm2 (fun _ _ e=>e)).below h.bel.size (fun k hk e=>by omega))⟩
 rw [List.length_set,← two_set]
 exact ((h.row.stored (i*2) _).1.stored (i*2+1) _).1
theorem Own2.cell {w wr:World} {d:List α} {g n c i:Nat} {x:α} (h:Own2 t f1 f2 w wr d (.slice (some ⟨g,0,none⟩) n c)) (hi:d[i]? = some x) :
  (wr.cell? ⟨g,i*2,none⟩=some (f1 x)∧wr.cell? ⟨g,i*2+1,none⟩=some (f2 x))∧(wr.frozen? ⟨g,i*2,none⟩=false∧wr.frozen? ⟨g,i*2+1,none⟩=false):=by
 obtain rfl:=h.len
 obtain ⟨h1,h2⟩:=two_get (f1:=f1) (f2:=f2) d i x hi
 have hlt:=(List.getElem?_eq_some_iff.1 hi).1
 have hl:=two_length (f1:=f1) (f2:=f2) d
 exact ⟨⟨by rw [h.row.cellAt (i*2) (by omega)];exact h1,by rw [h.row.cellAt (i*2+1) (by omega)];exact h2⟩,h.row.frozenAt _,h.row.frozenAt _⟩
theorem rd2_cell {w:World} {b off c n:Nat} {d:List α} (h:Rd w 2 (.slice (some ⟨b,off,none⟩) n c) n (two f1 f2 d)) {i:Nat} {x:α} (hi:d[i]? = some x) :
  w.cell? ⟨b,off+i*2,none⟩=some (f1 x)∧w.cell? ⟨b,off+i*2+1,none⟩=some (f2 x):=by
 obtain ⟨h1,h2⟩:=two_get (f1:=f1) (f2:=f2) d i x hi
 obtain ⟨b2,o2,c2,e,_,_,hc⟩:=h.at (fun e=>by rw [e] at h1;cases h1)
 simp only [Value.slice.injEq,Option.some.injEq,Addr.mk.injEq] at e
 obtain ⟨⟨rfl,rfl,_⟩,_,rfl⟩:=e
 exact ⟨hc _ _ h1,hc _ _ h2⟩
theorem rd2_at {w:World} {p:Option Addr} {c n:Nat} {d:List α} (h:Rd w 2 (.slice p n c) n (two f1 f2 d)) {i:Nat} {x:α} (hi:d[i]? = some x):∃b off,p=some ⟨b,off,none⟩:=by
 obtain ⟨h1,_⟩:=two_get (f1:=f1) (f2:=f2) d i x hi
 obtain ⟨b2,o2,c2,e,_,_,_⟩:=h.at (fun e=>by rw [e] at h1;cases h1)
 simp only [Value.slice.injEq] at e
 exact ⟨b2,o2,e.1⟩
end
theorem Own2.extended {α:Type} {t:TypeId} {f1 f2:α→Value} {w wr w1:World} {d e:List α} {v v1:Value} (h:Own2 t f1 f2 w wr d v) (k:w1.ownsRow 0 t 2 v1 (d.length+e.length) (two f1 f2 d++two f1 f2 e)) (m:Mods (fun k=>v.ownBlock=some k) wr w1) (hf:Fresh wr.heap.size v v1):Own2 t f1 f2 w w1 (d++e) v1:=by
 refine ⟨?_,h.bel.trans (m.below h.bel.size (fun k hk e=>by have:=(h.row.lt k e).1;omega))⟩
 rw [List.length_append,two_append]
 refine owns_rebase k (fun k hk=>?_)
 rcases hf k hk with e | e
 ·exact (h.row.lt k e).1
 ·have:=h.bel.size;omega
end Go.Proofs.YtdcgbgecbeegmaaGreatDoor
end
