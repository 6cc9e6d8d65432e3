/- Texts 2. -/
import Derived.Test.YtdcgbgecbeegmaaGreatDoorMgD1
import Derived.Test.YtdcgbgecbeegmaaGreatDoorProg
import Derived.WalkSpells
import Derived.WalkLawsBesides
import Derived.Outline
import Derived.Lib.Hide
import Derived.Deep.QuietTactic
import Derived.BigQuiet
import Derived.Laws.CopyRow
set_option linter.unusedVariables false
set_option linter.unusedSimpArgs false
section
namespace Go.Proofs.YtdcgbgecbeegmaaGreatDoor
def insD (x:Nat):List Nat→List Nat
 | []=>[x]
 | y::l=>if y=x then y::l else if x<y then x::y::l else y::insD x l
def dictFrom (d l:List Nat):List Nat:=l.foldl (fun d x=>insD x d) d
def dictD (l:List Nat):List Nat:=dictFrom [] l
def Asc (d:List Nat):Prop:=d.Pairwise (· < ·)
def widthD (k:Nat):Nat:=if k≤1 then 0 else Nat.log2 (k-1)+1
theorem insD_mem (x z:Nat) (d:List Nat):z∈insD x d↔z=x∨z∈d:=by
 induction d with
 | nil=>simp [insD]
 | cons y l ih=>
  rw [insD]
  split
  ·next h=>subst h;simp
  ·split
   ·simp
   ·rw [List.mem_cons,ih,List.mem_cons]
    constructor
    ·rintro (h | h | h)
     ·exact Or.inr (Or.inl h)
     ·exact Or.inl h
     ·exact Or.inr (Or.inr h)
    ·rintro (h | h | h)
     ·exact Or.inr (Or.inl h)
     ·exact Or.inl h
     ·exact Or.inr (Or.inr h)
theorem insD_asc (x:Nat) (d:List Nat) (h:Asc d):Asc (insD x d):=by
 induction d with
 | nil=>exact List.pairwise_singleton _ _
 | cons y l ih=>
  obtain ⟨h1,h2⟩:=List.pairwise_cons.1 h
  rw [insD]
  split
  ·exact h
  ·next hne=>
   split
   ·next hlt=>
    exact List.pairwise_cons.2 ⟨fun z hz=>by
     rcases List.mem_cons.1 hz with e | e
     ·omega
     ·have:=h1 z e;omega,h⟩
   ·next hge=>
    exact List.pairwise_cons.2 ⟨fun z hz=>by
     rcases (insD_mem x z l).1 hz with e | e
     ·omega
     ·exact h1 z e,ih h2⟩
theorem insD_in (x:Nat) (d:List Nat) (ha:Asc d) (h:x∈d):insD x d=d:=by
 induction d with
 | nil=>cases h
 | cons y l ih=>
  obtain ⟨h1,h2⟩:=List.pairwise_cons.1 ha
  rw [insD]
  split
  ·rfl
  ·next hne=>
   rcases List.mem_cons.1 h with e | e
   ·exact absurd e.symm hne
   ·rw [if_neg (by have:=h1 x e;omega),ih h2 e]
theorem insD_le (x:Nat) (d:List Nat):(insD x d).length≤d.length+1:=by
 induction d with
 | nil=>exact Nat.le_refl _
 | cons y l ih=>
  rw [insD]
  split
  ·exact Nat.le_succ _
  ·split
   ·exact Nat.le_refl _
   ·rw [List.length_cons,List.length_cons];omega
theorem dictFrom_asc (d l:List Nat) (h:Asc d):Asc (dictFrom d l):=by
 induction l generalizing d with
 | nil=>exact h
 | cons x l ih=>exact ih (insD x d) (insD_asc x d h)
theorem dictFrom_mem (d l:List Nat) (z:Nat):z∈dictFrom d l↔z∈d∨z∈l:=by
 induction l generalizing d with
 | nil=>simp [dictFrom]
 | cons x l ih=>
  have:=ih (insD x d)
  show z∈dictFrom (insD x d) l↔_
  rw [this,insD_mem,List.mem_cons]
  constructor
  ·rintro ((h | h) | h)
   ·exact Or.inr (Or.inl h)
   ·exact Or.inl h
   ·exact Or.inr (Or.inr h)
  ·rintro (h | h | h)
   ·exact Or.inl (Or.inr h)
   ·exact Or.inl (Or.inl h)
   ·exact Or.inr h
theorem dictFrom_len (d l:List Nat):(dictFrom d l).length≤d.length+l.length:=by
 induction l generalizing d with
 | nil=>exact Nat.le_refl _
 | cons x l ih=>
  have h1:=ih (insD x d);have h2:=insD_le x d
  show (dictFrom (insD x d) l).length≤_
  rw [List.length_cons];omega
theorem dictD_asc (l:List Nat):Asc (dictD l):=dictFrom_asc [] l List.Pairwise.nil
theorem dictD_mem (l:List Nat) (z:Nat):z∈dictD l↔z∈l:=by rw [dictD,dictFrom_mem];simp
theorem dictD_len (l:List Nat):(dictD l).length≤l.length:=by have:=dictFrom_len [] l;rw [List.length_nil] at this;rw [dictD];omega
theorem asc_ext (a b:List Nat) (ha:Asc a) (hb:Asc b) (h:∀x,x∈a↔x∈b):a=b:=by
 induction a generalizing b with
 | nil=>
  cases b with
  | nil=>rfl
  | cons y l=>exact absurd ((h y).2 (List.mem_cons_self ..)) List.not_mem_nil
 | cons x a ih=>
  cases b with
  | nil=>exact absurd ((h x).1 (List.mem_cons_self ..)) List.not_mem_nil
  | cons y b=>
   obtain ⟨a1,a2⟩:=List.pairwise_cons.1 ha
   obtain ⟨b1,b2⟩:=List.pairwise_cons.1 hb
   have hxy:x=y:=by
    rcases List.mem_cons.1 ((h x).1 (List.mem_cons_self ..)) with e | e
    ·exact e
    ·rcases List.mem_cons.1 ((h y).2 (List.mem_cons_self ..)) with f | f
     ·exact f.symm
     ·have:=b1 x e;have:=a1 y f;omega
   subst hxy
   rw [ih b a2 b2 (fun z=>by
    constructor
    ·intro hz
     rcases List.mem_cons.1 ((h z).1 (List.mem_cons_of_mem _ hz)) with e | e
     ·have:=a1 z hz;omega
     ·exact e
    ·intro hz
     rcases List.mem_cons.1 ((h z).2 (List.mem_cons_of_mem _ hz)) with e | e
     ·have:=b1 z hz;omega
     ·exact e)]
theorem dictD_unique (l d:List Nat) (hd:Asc d) (h:∀x,x∈d↔x∈l):dictD l=d:=
 asc_ext _ _ (dictD_asc l) hd (fun x=>by rw [dictD_mem,h])
theorem lt_width {x k:Nat} (h:x<k):x<2 ^ widthD k:=by
 rw [widthD]
 split
 ·have:x=0:=by omega
  subst this;decide
 ·have:=@Nat.lt_log2_self (k-1)
  omega
theorem width_le {k:Nat} (h:k≤128):widthD k≤7:=by
 rw [widthD]
 split
 ·omega
 ·have:Nat.log2 (k-1)<7:=(Nat.log2_lt (by omega)).2 (by omega)
  omega
def wordsBits (d:List Nat):List Bool:=d.flatMap fun x=>fieldBits x 64
def indsBits (k:Nat) (is:List Nat):List Bool:=is.flatMap fun i=>fieldBits i (widthD k)
def encD (l:List Nat):List Bool:=if l=[] then [] else fieldBits ((dictD l).length-1) 7++(wordsBits (dictD l)++indsBits (dictD l).length (l.map fun x=>(dictD l).idxOf x))
def wordsD:Nat→List Nat→List Bool→Res (List Nat)
 | 0,acc,bs=>⟨0,acc,bs⟩
 | k+1,acc,bs=>
  if (field 64 bs).e≠0 then ⟨(field 64 bs).e,[],(field 64 bs).r⟩ else
  if acc≠[]∧(field 64 bs).x≤acc.getLastD 0 then ⟨8,[],(field 64 bs).r⟩ else
  wordsD k (acc++[(field 64 bs).x]) (field 64 bs).r
def indsD (k:Nat):Nat→List Nat→List Bool→Res (List Nat)
 | 0,acc,bs=>⟨0,acc,bs⟩
 | n+1,acc,bs=>
  if (field (widthD k) bs).e≠0 then ⟨(field (widthD k) bs).e,[],(field (widthD k) bs).r⟩ else
  if k≤(field (widthD k) bs).x then ⟨8,[],(field (widthD k) bs).r⟩ else
  indsD k n (acc++[(field (widthD k) bs).x]) (field (widthD k) bs).r
def usedAll (k:Nat) (is:List Nat):Bool:=(List.range k).all fun j=>is.contains j
def valsD (d is:List Nat):List Nat:=is.map fun i=>d.getD i 0
def decIx (d:List Nat) (n:Nat) (bs:List Bool):Res (List Nat):=
 if (indsD d.length n [] bs).e≠0 then ⟨(indsD d.length n [] bs).e,[],(indsD d.length n [] bs).r⟩ else
 if usedAll d.length (indsD d.length n [] bs).x=false then ⟨8,[],(indsD d.length n [] bs).r⟩ else ⟨0,valsD d (indsD d.length n [] bs).x,(indsD d.length n [] bs).r⟩
def decWords (k n:Nat) (bs:List Bool):Res (List Nat):=
 if (wordsD (k+1) [] bs).e≠0 then ⟨(wordsD (k+1) [] bs).e,[],(wordsD (k+1) [] bs).r⟩ else decIx (wordsD (k+1) [] bs).x n (wordsD (k+1) [] bs).r
def decD (n:Nat) (bs:List Bool):Res (List Nat):=
 if n=0 then ⟨0,[],bs⟩ else
 if (field 7 bs).e≠0 then ⟨(field 7 bs).e,[],(field 7 bs).r⟩ else decWords (field 7 bs).x n (field 7 bs).r
theorem getLastD_snoc (a:List Nat) (x y:Nat):(a++[x]).getLastD y=x:=by simp [List.getLastD_eq_getLast?]
theorem asc_last {a:List Nat} {x:Nat} (h:Asc (a++[x])) (hne:a≠[]):a.getLastD 0<x:=by
 obtain ⟨b,y,rfl⟩:∃b y,a=b++[y]:=⟨a.dropLast,a.getLast hne,(List.dropLast_concat_getLast hne).symm⟩
 rw [getLastD_snoc]
 rw [Asc,List.pairwise_append] at h
 exact h.2.2 y (by simp) x (by simp)
theorem asc_left {a b:List Nat} (h:Asc (a++b)):Asc a:=(List.pairwise_append.1 h).1
theorem wordsD_back (d acc:List Nat) (rest:List Bool) (ha:Asc (acc++d)) (hd:∀x∈d,x<18446744073709551616):wordsD d.length acc (wordsBits d++rest)=⟨0,acc++d,rest⟩:=by
 induction d generalizing acc with
 | nil=>rw [List.append_nil];rfl
 | cons x d ih=>
  have hx:=hd x (List.mem_cons_self ..)
  have e1:acc++x::d=(acc++[x])++d:=by rw [List.append_assoc];rfl
  rw [e1] at ha ⊢
  have hf:=field_back x 64 (wordsBits d++rest) (by simpa using hx)
  rw [wordsBits,List.flatMap_cons,List.append_assoc,List.length_cons,wordsD]
  rw [wordsBits] at hf
  rw [hf]
  rw [if_neg (by simp),if_neg (fun h=>by have:=asc_last (asc_left ha) h.1;have:=h.2;simp only at this;omega)]
  exact ih (acc++[x]) ha (fun z hz=>hd z (List.mem_cons_of_mem _ hz))
theorem indsD_back (k:Nat) (is acc:List Nat) (rest:List Bool) (hi:∀i∈is,i<k):indsD k is.length acc (indsBits k is++rest)=⟨0,acc++is,rest⟩:=by
 induction is generalizing acc with
 | nil=>rw [List.append_nil];rfl
 | cons x d ih=>
  have hx:=hi x (List.mem_cons_self ..)
  have e1:acc++x::d=(acc++[x])++d:=by rw [List.append_assoc];rfl
  rw [e1]
  have hf:=field_back x (widthD k) (indsBits k d++rest) (lt_width hx)
  rw [indsBits,List.flatMap_cons,List.append_assoc,List.length_cons,indsD]
  rw [indsBits] at hf
  rw [hf]
  rw [if_neg (by simp),if_neg (by simp only;omega)]
  exact ih (acc++[x]) (fun z hz=>hi z (List.mem_cons_of_mem _ hz))
theorem usedAll_iff (k:Nat) (is:List Nat):usedAll k is=true↔∀j,j<k→j∈is:=by
 rw [usedAll,List.all_eq_true]
 constructor
 ·intro h j hj
  exact List.contains_iff_mem.1 (h j (List.mem_range.2 hj))
 ·intro h j hj
  exact List.contains_iff_mem.2 (h j (List.mem_range.1 hj))
theorem getD_idxOf {d:List Nat} {x:Nat} (h:x∈d):d.getD (d.idxOf x) 0=x:=by
 have hl:=List.idxOf_lt_length_of_mem h
 rw [List.getD_eq_getElem?_getD,List.getElem?_eq_getElem hl,Option.getD_some]
 exact List.getElem_idxOf hl
theorem ascD_nodup {d:List Nat} (h:Asc d):d.Nodup:=h.imp (fun h=>Nat.ne_of_lt h)
theorem idxOf_getD {d:List Nat} (hd:Asc d) {i:Nat} (h:i<d.length):d.idxOf (d.getD i 0)=i:=by
 rw [List.getD_eq_getElem?_getD,List.getElem?_eq_getElem h,Option.getD_some]
 exact (ascD_nodup hd).idxOf_getElem i h
theorem decD_back (l:List Nat) (rest:List Bool) (hl:∀x∈l,x<18446744073709551616) (hk:(dictD l).length≤128):decD l.length (encD l++rest)=⟨0,l,rest⟩:=by
 by_cases hne:l=[]
 ·subst hne;rfl
 ·have hn:l.length≠0:=fun e=>hne (List.eq_nil_of_length_eq_zero e)
  obtain ⟨x0,hx0⟩:=List.exists_mem_of_ne_nil l hne
  have hdp:0<(dictD l).length:=List.length_pos_of_mem ((dictD_mem l x0).2 hx0)
  have h1:=field_back ((dictD l).length-1) 7 (wordsBits (dictD l)++indsBits (dictD l).length (l.map fun x=>(dictD l).idxOf x)++rest) (by omega)
  have h2:=wordsD_back (dictD l) [] (indsBits (dictD l).length (l.map fun x=>(dictD l).idxOf x)++rest) (dictD_asc l) (fun x hx=>hl x ((dictD_mem l x).1 hx))
  have hix:∀i∈l.map (fun x=>(dictD l).idxOf x),i<(dictD l).length:=fun i hi=>by
   obtain ⟨x,hx,rfl⟩:=List.mem_map.1 hi
   exact List.idxOf_lt_length_of_mem ((dictD_mem l x).2 hx)
  have h3:=indsD_back (dictD l).length (l.map fun x=>(dictD l).idxOf x) [] rest hix
  have h4:usedAll (dictD l).length (l.map fun x=>(dictD l).idxOf x)=true:=(usedAll_iff _ _).2 fun j hj=>by
   have hm:(dictD l).getD j 0∈l:=(dictD_mem l _).1 (by
    rw [List.getD_eq_getElem?_getD,List.getElem?_eq_getElem hj,Option.getD_some]
    exact List.getElem_mem hj)
   exact List.mem_map.2 ⟨_,hm,idxOf_getD (dictD_asc l) hj⟩
  have h5:valsD (dictD l) (l.map fun x=>(dictD l).idxOf x)=l:=by
   rw [valsD,List.map_map]
   conv=>rhs;rw [← List.map_id l]
   exact List.map_congr_left fun x hx=>getD_idxOf ((dictD_mem l x).2 hx)
  rw [List.length_map] at h3
  rw [List.nil_append] at h2 h3
  rw [encD,if_neg hne,decD,if_neg hn,List.append_assoc,h1]
  simp only [ne_eq,not_true_eq_false,if_false]
  rw [decWords,show (dictD l).length-1+1=(dictD l).length by omega,List.append_assoc,h2]
  simp only [ne_eq,not_true_eq_false,if_false]
  rw [decIx,h3]
  simp only [ne_eq,not_true_eq_false,if_false,h4,h5,Bool.true_eq_false]
end Go.Proofs.YtdcgbgecbeegmaaGreatDoor
end
section
namespace Go.Proofs.YtdcgbgecbeegmaaGreatDoor
open Go
def okD (l:List Nat):Bool:=decide ((dictD l).length≤128)
def putD (l:List Nat):List Bool:=if okD l then encD l else []
theorem wordsBits_len (d:List Nat):(wordsBits d).length=64*d.length:=by
 induction d with
 | nil=>rfl
 | cons x d ih=>rw [wordsBits,List.flatMap_cons,List.length_append,fieldBits_length];rw [wordsBits] at ih;rw [ih,List.length_cons];omega
theorem indsBits_len (k:Nat) (is:List Nat):(indsBits k is).length=widthD k*is.length:=by
 induction is with
 | nil=>rfl
 | cons x d ih=>rw [indsBits,List.flatMap_cons,List.length_append,fieldBits_length];rw [indsBits] at ih;rw [ih,List.length_cons,Nat.mul_add];omega
theorem wordsBits_take (d:List Nat) (i:Nat) (h:i<d.length) (x:Nat) (hx:d[i]=x):wordsBits (d.take (i+1))=wordsBits (d.take i)++fieldBits x 64:=by
 rw [List.take_add_one,List.getElem?_eq_getElem h,hx,wordsBits,List.flatMap_append];simp [wordsBits]
theorem indsBits_take (k:Nat) (is:List Nat) (i:Nat) (h:i<is.length) (x:Nat) (hx:is[i]=x):indsBits k (is.take (i+1))=indsBits k (is.take i)++fieldBits x (widthD k):=by
 rw [List.take_add_one,List.getElem?_eq_getElem h,hx,indsBits,List.flatMap_append];simp [indsBits]
def widthI (c:Int):Int:=(widthD c.toNat:Int)
end Go.Proofs.YtdcgbgecbeegmaaGreatDoor
end
section
namespace Go.Proofs.YtdcgbgecbeegmaaGreatDoor
open Go Go.RowKit
def u64s (l:List Nat):List Value:=l.map fun x:Nat=>.int .u64 (x:Int)
theorem u64s_length (l:List Nat):(u64s l).length=l.length:=by simp [u64s]
theorem u64s_get (l:List Nat) (i:Nat) (h:i<l.length):(u64s l)[i]? = some (.int .u64 (l[i]:Int)):=by simp [u64s,h]
theorem Tryz.infoU64:(Tryz.prog.info? 81).map (fun i=>(i.zero,i.size,i.bytes))=some (some (.int .u64 0),1,8):=by kernel_rfl
theorem Tryz.elemU64:Elem Tryz.prog 113 81 1 8:=Elem.mk' Tryz.underlying113 Tryz.infoU64 rfl (by decide)
end Go.Proofs.YtdcgbgecbeegmaaGreatDoor
end
section
namespace Go.Proofs.YtdcgbgecbeegmaaGreatDoor
def endR (bs:List Bool):Int:=if 8≤bs.length then 4 else if bs.all (fun b=>!b) then 0 else 4
theorem endR_zero {bs:List Bool} (h8:¬8≤bs.length) (h:∀j (hj:j<bs.length),bs[j]=false):endR bs=0:=by
 rw [endR,if_neg h8,if_pos]
 rw [List.all_eq_true]
 intro b hb
 obtain ⟨j,hj,rfl⟩:=List.mem_iff_getElem.1 hb
 rw [h j hj];rfl
def sampleOk (s:Int × Nat):Prop:=(-9223372036854775808≤s.1∧s.1<9223372036854775808)∧s.2<18446744073709551616
def bitsC (tag:Nat) (l:List Nat):List Bool:=if tag=1 then encV l else if tag=2 then encR l else putD l
def okC (tag:Nat) (l:List Nat):Bool:=if tag=1 then true else if tag=2 then true else okD l
def sizeC (tag:Nat) (l:List Nat):Int:=if okC tag l=true then ((bitsC tag l).length:Int) else -1
def chooseC (l:List Nat):Nat:=
 if sizeC 2 l<sizeC 1 l then (if 0≤sizeC 3 l∧sizeC 3 l<sizeC 2 l then 3 else 2) else (if 0≤sizeC 3 l∧sizeC 3 l<sizeC 1 l then 3 else 1)
def timesC (l:List (Int × Nat)):List Int:=l.map (·.1)
def valuesC (l:List (Int × Nat)):List Nat:=l.map (·.2)
def encC (l:List (Int × Nat)):List Nat × Nat:=
 if l=[] then ([],21) else if 120<l.length then ([],7) else
 (chooseC (valuesC l)::(l.length-1)::pack (encT (timesC l)++bitsC (chooseC (valuesC l)) (valuesC l)),0)
def valsC (tag n:Nat) (bits:List Bool):Res (List Nat):=if tag=1 then decV n bits else if tag=2 then decR n bits else decD n bits
def decBody (t n:Nat) (bits:List Bool):List (Int × Nat) × Nat:=
 if (decT n bits).e≠0 then ([],(decT n bits).e) else
 if (valsC t n (decT n bits).r).e≠0 then ([],(valsC t n (decT n bits).r).e) else
 if endR (valsC t n (decT n bits).r).r≠0 then ([],4) else
 if chooseC (valsC t n (decT n bits).r).x≠t then ([],8) else ((decT n bits).x.zip (valsC t n (decT n bits).r).x,0)
def decC:List Nat→List (Int × Nat) × Nat
 | []=>([],3)
 | [t]=>if t<1∨3<t then ([],9) else ([],3)
 | t::m::rest=>if t<1∨3<t then ([],9) else if 120<m+1 then ([],7) else decBody t (m+1) (unpack rest)
theorem choose_ok (l:List Nat):okC (chooseC l) l=true:=by
 rw [chooseC]
 split
 ·split
  ·next h=>
   rw [sizeC] at h
   by_cases hk:okC 3 l=true
   ·exact hk
   ·rw [if_neg hk] at h;omega
  ·rfl
 ·split
  ·next h=>
   rw [sizeC] at h
   by_cases hk:okC 3 l=true
   ·exact hk
   ·rw [if_neg hk] at h;omega
  ·rfl
theorem choose_tag (l:List Nat):chooseC l=1∨chooseC l=2∨chooseC l=3:=by
 rw [chooseC]
 split
 ·split
  ·exact Or.inr (Or.inr rfl)
  ·exact Or.inr (Or.inl rfl)
 ·split
  ·exact Or.inr (Or.inr rfl)
  ·exact Or.inl rfl
theorem valsC_back {tag:Nat} {l:List Nat} (hk:okC tag l=true) (hl:∀x∈l,x<18446744073709551616) (rest:List Bool):valsC tag l.length (bitsC tag l++rest)=⟨0,l,rest⟩:=by
 rw [okC] at hk
 rw [valsC,bitsC]
 split
 ·exact decV_back l hl rest
 ·next h1=>
  rw [if_neg h1] at hk
  split
  ·exact decR_back l hl rest
  ·next h2=>
   rw [if_neg h2] at hk
   rw [putD,if_pos hk]
   exact decD_back l rest hl (of_decide_eq_true hk)
theorem numOf_byte {b:Nat} (h:b<256):numOf (fieldBits b 8)=b:=by
 have h1:=field_back b 8 [] (by simpa using h)
 rw [List.append_nil,field,if_neg (by simp [fieldBits_length])] at h1
 have h2:=congrArg Res.x h1
 simp only at h2
 rwa [List.take_of_length_le (by simp [fieldBits_length])] at h2
theorem unpack_inj:∀{a b:List Nat},(∀x∈a,x<256)→(∀x∈b,x<256)→unpack a=unpack b→a=b
 | [],[],_,_,_=>rfl
 | [],y::b,_,_,h=>by have:=congrArg List.length h;rw [unpack_length,unpack_length] at this;simp at this
 | x::a,[],_,_,h=>by have:=congrArg List.length h;rw [unpack_length,unpack_length] at this;simp at this
 | x::a,y::b,ha,hb,h=>by
  rw [unpack_cons,unpack_cons] at h
  obtain ⟨h1,h2⟩:=List.append_inj h (by rw [fieldBits_length,fieldBits_length])
  have h3:=congrArg numOf h1
  rw [numOf_byte (ha x (List.mem_cons_self ..)),numOf_byte (hb y (List.mem_cons_self ..))] at h3
  rw [h3,unpack_inj (fun z hz=>ha z (List.mem_cons_of_mem _ hz)) (fun z hz=>hb z (List.mem_cons_of_mem _ hz)) h2]
theorem endR_replicate (k:Nat) (h:k<8):endR (List.replicate k false)=0:=endR_zero (by simp;omega) (fun j hj=>by simp)
theorem zip_back (l:List (Int × Nat)):(timesC l).zip (valuesC l)=l:=by
 induction l with
 | nil=>rfl
 | cons x l ih=>rw [timesC,valuesC,List.map_cons,List.map_cons,List.zip_cons_cons];rw [timesC,valuesC] at ih;rw [ih]
theorem decC_back (l:List (Int × Nat)) (hne:l≠[]) (h120:l.length≤120) (ok:∀s∈l,sampleOk s):decC (encC l).1=(l,0):=by
 have hlen:0<l.length:=List.length_pos_iff.2 hne
 have ht:∀t∈timesC l,in64 t:=fun t ht=>by
  obtain ⟨s,hs,rfl⟩:=List.mem_map.1 ht
  exact (ok s hs).1
 have hv:∀x∈valuesC l,x<18446744073709551616:=fun x hx=>by
  obtain ⟨s,hs,rfl⟩:=List.mem_map.1 hx
  exact (ok s hs).2
 have hk:=choose_ok (valuesC l)
 have htag:=choose_tag (valuesC l)
 have e1:(timesC l).length=l.length:=by simp [timesC]
 have e2:(valuesC l).length=l.length:=by simp [valuesC]
 rw [encC,if_neg hne,if_neg (by omega)]
 simp only [decC]
 rw [if_neg (by omega),if_neg (by omega),show l.length-1+1=l.length by omega,unpack_pack,decBody]
 generalize hpad:List.replicate (8*(((encT (timesC l)++bitsC (chooseC (valuesC l)) (valuesC l)).length+7) / 8)-(encT (timesC l)++bitsC (chooseC (valuesC l)) (valuesC l)).length) false=pad
 have hend:endR pad=0:=by rw [← hpad];exact endR_replicate _ (by omega)
 rw [List.append_assoc]
 have hT:=decT_back (timesC l) ht (bitsC (chooseC (valuesC l)) (valuesC l)++pad)
 rw [e1] at hT
 have hV:=valsC_back hk hv pad
 rw [e2] at hV
 rw [hT]
 simp only [ne_eq,not_true_eq_false,if_false]
 rw [hV]
 simp only [ne_eq,not_true_eq_false,if_false,hend]
 rw [zip_back]
theorem bitsC_len (tag:Nat) (l:List Nat):(bitsC tag l).length≤8199+78*l.length:=by
 rw [bitsC]
 split
 ·have:=encV_len l;omega
 ·split
  ·have:=encR_len l;omega
  ·rw [putD]
   split
   ·next h=>
    have hk:(dictD l).length≤128:=of_decide_eq_true h
    rw [encD]
    split
    ·simp
    ·rw [List.length_append,List.length_append,fieldBits_length,wordsBits_len,indsBits_len,List.length_map]
     have:=Nat.mul_le_mul_right l.length (width_le hk)
     omega
   ·simp
end Go.Proofs.YtdcgbgecbeegmaaGreatDoor
end
section
namespace Go.Proofs.YtdcgbgecbeegmaaGreatDoor
open Go Go.RowKit
def numsOf (s:ByteArray):List Nat:=s.data.toList.map fun b=>b.toNat
theorem numsOf_length (s:ByteArray):(numsOf s).length=s.size:=by rw [numsOf,List.length_map,Array.length_toList];rfl
theorem numsOf_lt (s:ByteArray):∀c∈numsOf s,c<256:=by
 intro c hc
 simp only [numsOf,List.mem_map] at hc
 obtain ⟨b,_,rfl⟩:=hc
 exact b.toNat_lt
theorem strOf_numsOf (s:ByteArray):strOf (numsOf s)=s:=by
 obtain ⟨⟨l⟩⟩:=s
 unfold strOf strOfNums numsOf
 congr 1
 simp [List.map_map,Function.comp_def]
theorem u8s_numsOf (s:ByteArray):u8s (numsOf s)=s.data.toList.map fun b=>Value.int .u8 (b.toNat:Int):=by rw [u8s,numsOf,List.map_map];rfl
section
variable {P:Program} (w:World)
theorem run_firstCells_str (s:ByteArray) (n:Nat) (hn:s.size=n) (size:Nat):(Builtin.firstCells size n (.string s)).run P w = .ok (u8s (numsOf s)).toArray w:=by
 subst hn
 rw [u8s_numsOf]
 have hx:(s.extract 0 s.size).data=s.data:=by
  rw [ByteArray.data_extract]
  exact Array.extract_size
 simp only [Builtin.firstCells,hx,Sem.run_pure]
 congr 1
 apply Array.ext'
 simp
theorem run_app_str (t u ty e:TypeId) (i:TypeInfo) (z:Value) (ht:P.underlying t=some (.slice e)) (hu:P.underlying u=some .string) (hi:P.info? e=some i) (hz:i.zero=some z)
  (hsize:i.size=1) (hby:i.bytes=1) (hzs:z.cells.size=1) (v:Value) (n:Nat) (xs:List Value) (hown:w.ownsRow 0 e 1 v n xs) (s:ByteArray) (h63:n+s.size≤maxLen) (hbytes:(n+s.size)*1≤140737488355328) :
  ∃v' w',(Builtin.append_ #[t,u] ty #[v,.string s]).run P w = .ok v' w'∧w'.ownsRow 0 e 1 v' (n+s.size) (xs++u8s (numsOf s))∧Mods (fun k=>v.ownBlock=some k) w w'∧Fresh w.heap.size v v':=by
 have hf:=fun w:World=>run_firstCells_str (P:=P) w s s.size rfl 1
 have hl:(u8s (numsOf s)).length=s.size:=by rw [u8s_length,numsOf_length]
 have h1:∀u∈u8s (numsOf s),u.oneCell'=true:=u8s_oneCell _
 have hlen0:Builtin.lenOf (.string s)=pure s.size:=rfl
 generalize u8s (numsOf s)=news at *
 generalize s.size=M at *
 have hlen:(xs++news).length=(n+M)*1:=by rw [List.length_append,hown.1,hl,Nat.add_mul,Nat.mul_one,Nat.mul_one]
 have h63':((n+M:Nat):Int)≤9223372036854775807:=by unfold maxLen at h63;omega
 rcases hown.2 with ⟨rfl,rfl⟩ | ⟨g,cap,cur,rfl,hb,hg,hnc,hcm,hcs,htake⟩
 ·obtain rfl:xs=[]:=List.eq_nil_of_length_eq_zero (by simpa using hown.1)
  by_cases h0:M=0
  ·subst h0
   obtain rfl:news=[]:=List.eq_nil_of_length_eq_zero hl
   refine ⟨.slice none 0 0,w,?_,hown,Mods.refl _ _,Fresh.refl _ _⟩
   simp [Builtin.append_,run_underlying ht,run_underlying hu,sizeOf,typeInfo,hi,hsize,hlen0,hf w]
  ·have hn:¬M=0:=h0
   have h63'':¬(9223372036854775807<(M:Int)):=by omega
   have h48:¬(281474976710656<Builtin.nextslicecap M 0):=by rw [nextslicecap_zero (by omega)];omega
   have hge:=grownCap_ge w M 0 e
   refine ⟨.slice (some ⟨w.heap.size,0,none⟩) M (grownCap w M 0 e),w.drew.alloc (.cells (news.toArray++Builtin.zeroCells z.cells (grownCap w M 0 e-M)) e),?_,⟨by simpa using hl,.inr ⟨w.heap.size,_,_,by rw [Nat.zero_add],Nat.zero_le _,heap_alloc_new w.drew _,by rw [Nat.zero_add];exact hge,grownCap_le_maxLen w M 0 e (by omega),?_,?_⟩⟩,⟨rfl,rfl,rfl,by simp,fun k hk _=>Below.heap_alloc w.drew _ k hk⟩,?_⟩
   ·simp [Builtin.append_,run_underlying ht,run_underlying hu,sizeOf,typeInfo,zeroValue,hi,hz,hsize,hby,hlen0,hn,h63'',h48,Question.forced,hf w.drew,newRow,grownCap,run_firstCells_none]
   ·simp only [Array.size_append,List.size_toArray,size_zeroCells,hzs,hl]
    omega
   ·simp [← hl]
   ·intro k hk
    simp only [Value.ownBlock,Option.some.injEq] at hk
    exact Or.inr (by omega)
 ·by_cases hroom:n+M≤cap
  ·have hfit:0+n+news.length≤cur.size:=by rw [hl,hcs];omega
   have hst:=run_storeCells_at P g n e news 0 cur w hg (by omega) h1
   refine ⟨.slice (some ⟨g,0,none⟩) (n+M) cap,w.setRow g (cur.toList.take (n+0)++news++cur.toList.drop (n+0+news.length)).toArray,?_,⟨hlen,.inr ⟨g,cap,_,rfl,Nat.zero_le _,setRow_heap w g cur _ e _ hg,hroom,hcm,?_,?_⟩⟩,⟨rfl,rfl,rfl,by simp,fun k _ hk=>setRow_other w g k _ (fun e=>hk (by simp [Value.ownBlock,e]))⟩,fun k hk=>Or.inl hk⟩
   ·have ha:(⟨g,0,none⟩:Addr).add n=⟨g,n,none⟩:=by unfold Addr.add;split<;>simp_all
    simp [Builtin.append_,run_underlying ht,run_underlying hu,sizeOf,typeInfo,hi,hsize,hlen0,hroom,hf w,ha,hst]
   ·simp only [List.size_toArray,List.length_append,List.length_take,List.length_drop,Array.length_toList,Nat.add_zero]
    omega
   ·have hx:cur.toList.take n=xs:=by rw [← htake,Nat.mul_one]
    simp only [Nat.add_zero,hx]
    rw [← hlen]
    exact List.take_left
  ·have holds:∀j u,xs[j]? = some u→w.cell? ((⟨g,0,none⟩:Addr).add j)=some u:=hown.cells (g:=g) rfl
   have hge:=grownCap_ge w (n+M) cap e
   have hxl:xs.length=n*1:=hown.1
   have hfo:=run_firstCells_some (P:=P) w.drew 1 n ⟨g,0,none⟩ n cap xs hxl (by simpa using holds)
   have h63'':¬(9223372036854775807<((n:Int)+(M:Int))):=by omega
   have h48:¬(281474976710656<Builtin.nextslicecap (n+M) cap):=by have:=growslice_fits (need:=n+M) (old:=cap) (bytes:=1) (by omega) hbytes;omega
   refine ⟨.slice (some ⟨w.heap.size,0,none⟩) (n+M) (grownCap w (n+M) cap e),w.drew.alloc (.cells (xs.toArray++news.toArray++Builtin.zeroCells z.cells (grownCap w (n+M) cap e-(n+M))) e),?_,⟨hlen,.inr ⟨w.heap.size,_,_,rfl,Nat.zero_le _,heap_alloc_new w.drew _,hge,grownCap_le_maxLen w (n+M) cap e h63,?_,?_⟩⟩,⟨rfl,rfl,rfl,by simp,fun k hk _=>Below.heap_alloc w.drew _ k hk⟩,?_⟩
   ·simp [Builtin.append_,run_underlying ht,run_underlying hu,sizeOf,typeInfo,zeroValue,hi,hz,hsize,hby,hlen0,hroom,h63'',h48,Question.forced,hf w.drew,hfo,newRow,grownCap]
    congr 2
    apply Array.ext'
    simp [List.append_assoc]
   ·simp only [Array.size_append,List.size_toArray,size_zeroCells,hzs,hl,hxl]
    omega
   ·simp only [Array.toList_append,List.append_assoc]
    rw [← List.append_assoc,← hlen]
    exact List.take_left
   ·intro k hk
    simp only [Value.ownBlock,Option.some.injEq] at hk
    exact Or.inr (by omega)
theorem wpList_extendStr {t u e:TypeId} (hE:Elem P t e 1 1) (hu:P.underlying u=some .string) (w:World) (v:Value) (n:Nat) (xs:List Value) (hown:w.ownsRow 0 e 1 v n xs) (str:ByteArray) (hb:(n+str.size)*1≤140737488355328∧n+str.size≤maxLen)
  {ops:Array Oper} {rest:List Oper} {o:Oper} {a:Act} {Q:Exit→Act→World→Prop} (hgd:Region.wanted o (yielded ops a.tmps)=true) (s x:Operand) (ho:o.op = .call { callee:=.builtin .append,args:=#[s,x],argTypes:=#[t,u] })
  (hs:a.eval s=v) (hx:a.eval x = .string str)
  (h:∀v' w',w'.ownsRow 0 e 1 v' (n+str.size) (xs++u8s (numsOf str))→Mods (fun k=>v.ownBlock=some k) w w'→Fresh w.heap.size v v'→wpList P ops Q rest (a.put o.dst v') w'):wpList P ops Q (o::rest) a w:=by
 obtain ⟨i,z,hi,hz,hsize,hby,hzs⟩:=hE.hi
 refine BigFrame.wpList_want hgd fun K hK=>?_
 obtain ⟨v',w',hr,h2,h3,h4⟩:=run_app_str (P:=P) w t u o.type e i z hE.ht hu hi hz hsize hby hzs v n xs hown str hb.2 hb.1
 unfold Oper.wp execOp
 simp only [ho,resolve,invoke,builtin,Sem.run_bind,Sem.run_pure,Result.andThen_ok,List.map_toArray,List.map_cons,List.map_nil,hs,hx,hr]
 exact hK _ _ (h v' w' h2 h3 h4)
end
end Go.Proofs.YtdcgbgecbeegmaaGreatDoor
end
section
namespace Go.Proofs.YtdcgbgecbeegmaaGreatDoor
section
variable {α:Type}
structure LtPre (lt:α→α→Bool):Prop where
 irr:∀a,lt a a=false
 tr:∀a b c,lt a b=true→lt b c=true→lt a c=true
structure LtOk (lt:α→α→Bool):Prop extends LtPre lt where
 tot:∀a b,lt a b=false→lt b a=false→a=b
def AscB (lt:α→α→Bool) (l:List α):Prop:=l.Pairwise (fun a b=>lt a b=true)
def insB (lt:α→α→Bool) (x:α):List α→List α
 | []=>[x]
 | y::l=>if lt y x then y::insB lt x l else if lt x y then x::y::l else y::l
def tabFrom (lt:α→α→Bool) (t l:List α):List α:=l.foldl (fun t x=>insB lt x t) t
def tabB (lt:α→α→Bool) (l:List α):List α:=tabFrom lt [] l
variable {lt:α→α→Bool}
theorem LtPre.asy (h:LtPre lt) {a b:α} (hab:lt a b=true):lt b a=false:=by
 rcases Bool.eq_false_or_eq_true (lt b a) with hb | hb
 ·have:=h.tr a b a hab hb;rw [h.irr] at this;cases this
 ·exact hb
theorem LtPre.ne (h:LtPre lt) {a b:α} (hab:lt a b=true):a≠b:=fun e=>by subst e;rw [h.irr] at hab;cases hab
theorem LtOk.le_tr (h:LtOk lt) {a b c:α} (hab:lt b a=false) (hbc:lt b c=true):lt a c=true:=by
 rcases Bool.eq_false_or_eq_true (lt a b) with e | e
 ·exact h.tr a b c e hbc
 ·rw [h.tot a b e hab];exact hbc
theorem insB_mem (h:LtOk lt) (x z:α) (d:List α):z∈insB lt x d↔z=x∨z∈d:=by
 induction d with
 | nil=>simp [insB]
 | cons y l ih=>
  rw [insB]
  split
  ·rw [List.mem_cons,ih,List.mem_cons]
   constructor
   ·rintro (h | h | h)
    ·exact Or.inr (Or.inl h)
    ·exact Or.inl h
    ·exact Or.inr (Or.inr h)
   ·rintro (h | h | h)
    ·exact Or.inr (Or.inl h)
    ·exact Or.inl h
    ·exact Or.inr (Or.inr h)
  ·next h1=>
   split
   ·simp
   ·next h2=>
    have e:y=x:=h.tot y x (by simpa using h1) (by simpa using h2)
    subst e
    simp
theorem insB_asc (h:LtOk lt) (x:α) (d:List α) (ha:AscB lt d):AscB lt (insB lt x d):=by
 induction d with
 | nil=>exact List.pairwise_singleton _ _
 | cons y l ih=>
  obtain ⟨h1,h2⟩:=List.pairwise_cons.1 ha
  rw [insB]
  split
  ·next hyx=>
   exact List.pairwise_cons.2 ⟨fun z hz=>by
    rcases (insB_mem h x z l).1 hz with e | e
    ·subst e;exact hyx
    ·exact h1 z e,ih h2⟩
  ·split
   ·next hxy=>
    exact List.pairwise_cons.2 ⟨fun z hz=>by
     rcases List.mem_cons.1 hz with e | e
     ·subst e;exact hxy
     ·exact h.tr _ _ _ hxy (h1 z e),ha⟩
   ·exact ha
theorem insB_le (x:α) (d:List α):(insB lt x d).length≤d.length+1:=by
 induction d with
 | nil=>exact Nat.le_refl _
 | cons y l ih=>
  rw [insB]
  split
  ·rw [List.length_cons,List.length_cons];omega
  ·split
   ·exact Nat.le_refl _
   ·exact Nat.le_succ _
theorem insB_at (h:LtPre lt) (x:α) (a b:List α) (ha:∀z∈a,lt z x=true):insB lt x (a++x::b)=a++x::b:=by
 induction a with
 | nil=>rw [List.nil_append,insB,if_neg (by rw [h.irr];simp),if_neg (by rw [h.irr];simp)]
 | cons y l ih=>
  rw [List.cons_append,insB,if_pos (ha y (by simp)),ih (fun z hz=>ha z (by simp [hz]))]
theorem insB_parts (h:LtPre lt) (x:α) (a b:List α) (ha:∀z∈a,lt z x=true) (hb:∀z,b.head? = some z→lt x z=true):insB lt x (a++b)=a++x::b:=by
 induction a with
 | nil=>
  cases b with
  | nil=>rfl
  | cons y l=>
   have:=hb y rfl
   rw [List.nil_append,insB,if_neg (by rw [h.asy this];simp),if_pos this,List.nil_append]
 | cons y l ih=>
  rw [List.cons_append,insB,if_pos (ha y (by simp)),ih (fun z hz=>ha z (by simp [hz])),List.cons_append]
theorem insB_last (h:LtPre lt) (x:α) (d:List α) (hd:∀z∈d,lt z x=true):insB lt x d=d++[x]:=by
 have:=insB_parts h x d [] hd (fun z e=>by cases e)
 rwa [List.append_nil] at this
theorem tabFrom_asc (h:LtOk lt) (t l:List α) (ht:AscB lt t):AscB lt (tabFrom lt t l):=by
 induction l generalizing t with
 | nil=>exact ht
 | cons x l ih=>exact ih (insB lt x t) (insB_asc h x t ht)
theorem tabFrom_mem (h:LtOk lt) (t l:List α) (z:α):z∈tabFrom lt t l↔z∈t∨z∈l:=by
 induction l generalizing t with
 | nil=>simp [tabFrom]
 | cons x l ih=>
  show z∈tabFrom lt (insB lt x t) l↔_
  rw [ih (insB lt x t),insB_mem h,List.mem_cons]
  constructor
  ·rintro ((h | h) | h)
   ·exact Or.inr (Or.inl h)
   ·exact Or.inl h
   ·exact Or.inr (Or.inr h)
  ·rintro (h | h | h)
   ·exact Or.inl (Or.inr h)
   ·exact Or.inl (Or.inl h)
   ·exact Or.inr h
theorem tabFrom_len (t l:List α):(tabFrom lt t l).length≤t.length+l.length:=by
 induction l generalizing t with
 | nil=>exact Nat.le_refl _
 | cons x l ih=>
  have h1:=ih (insB lt x t);have h2:=insB_le (lt:=lt) x t
  show (tabFrom lt (insB lt x t) l).length≤_
  rw [List.length_cons];omega
theorem tabFrom_snoc (t l:List α) (x:α):tabFrom lt t (l++[x])=insB lt x (tabFrom lt t l):=by rw [tabFrom,List.foldl_append];rfl
theorem tabB_asc (h:LtOk lt) (l:List α):AscB lt (tabB lt l):=tabFrom_asc h [] l List.Pairwise.nil
theorem tabB_mem (h:LtOk lt) (l:List α) (z:α):z∈tabB lt l↔z∈l:=by rw [tabB,tabFrom_mem h];simp
theorem tabB_len (l:List α):(tabB lt l).length≤l.length:=by have:=tabFrom_len (lt:=lt) [] l;rw [List.length_nil] at this;rw [tabB];omega
theorem tabB_snoc (l:List α) (x:α):tabB lt (l++[x])=insB lt x (tabB lt l):=tabFrom_snoc [] l x
theorem ascB_ext (h:LtPre lt) (a b:List α) (ha:AscB lt a) (hb:AscB lt b) (hm:∀x,x∈a↔x∈b):a=b:=by
 induction a generalizing b with
 | nil=>
  cases b with
  | nil=>rfl
  | cons y l=>exact absurd ((hm y).2 (List.mem_cons_self ..)) List.not_mem_nil
 | cons x a ih=>
  cases b with
  | nil=>exact absurd ((hm x).1 (List.mem_cons_self ..)) List.not_mem_nil
  | cons y b=>
   obtain ⟨a1,a2⟩:=List.pairwise_cons.1 ha
   obtain ⟨b1,b2⟩:=List.pairwise_cons.1 hb
   have hxy:x=y:=by
    rcases List.mem_cons.1 ((hm x).1 (List.mem_cons_self ..)) with e | e
    ·exact e
    ·rcases List.mem_cons.1 ((hm y).2 (List.mem_cons_self ..)) with f | f
     ·exact f.symm
     ·have p:=b1 x e;have q:=a1 y f
      rw [h.asy p] at q;cases q
   subst hxy
   rw [ih b a2 b2 (fun z=>?_)]
   constructor
   ·intro hz
    rcases List.mem_cons.1 ((hm z).1 (List.mem_cons_of_mem _ hz)) with e | e
    ·subst e;exact absurd rfl (h.ne (a1 z hz))
    ·exact e
   ·intro hz
    rcases List.mem_cons.1 ((hm z).2 (List.mem_cons_of_mem _ hz)) with e | e
    ·subst e;exact absurd rfl (h.ne (b1 z hz))
    ·exact e
theorem ascB_get {l:List α} (h:AscB lt l) {i j:Nat} (hij:i<j) (hj:j<l.length):lt (l[i]'(by omega)) l[j]=true:=List.pairwise_iff_getElem.1 h i j (by omega) hj hij
end
end Go.Proofs.YtdcgbgecbeegmaaGreatDoor
end
section
namespace Go.Proofs.YtdcgbgecbeegmaaGreatDoor
open Go Go.RowKit
def bLt:List UInt8→List UInt8→Bool:=Op.bytesLess
theorem bLt_irr (a:List UInt8):bLt a a=false:=by
 induction a with
 | nil=>rfl
 | cons x a ih=>simp only [bLt,Op.bytesLess] at ih ⊢;simp [ih]
theorem bLt_tr:∀(a b c:List UInt8),bLt a b=true→bLt b c=true→bLt a c=true
 | a,[],c,h,_=>by cases a<;>simp [bLt,Op.bytesLess] at h
 | a,b::bs,[],_,h=>by simp [bLt,Op.bytesLess] at h
 | [],b::bs,c::cs,_,_=>rfl
 | a::ar,b::bs,c::cs,h,k=>by
  have ih:=bLt_tr ar bs cs
  simp only [bLt,Op.bytesLess,Bool.or_eq_true,Bool.and_eq_true,beq_iff_eq,decide_eq_true_eq] at h k ih ⊢
  rcases h with h | ⟨h1,h2⟩
  ·rcases k with k | ⟨k1,k2⟩
   ·exact Or.inl (UInt8.lt_trans h k)
   ·subst k1;exact Or.inl h
  ·subst h1
   rcases k with k | ⟨k1,k2⟩
   ·exact Or.inl k
   ·exact Or.inr ⟨k1,ih h2 k2⟩
theorem bLt_tot:∀(a b:List UInt8),bLt a b=false→bLt b a=false→a=b
 | [],[],_,_=>rfl
 | [],b::bs,h,_=>by simp [bLt,Op.bytesLess] at h
 | a::ar,[],_,h=>by simp [bLt,Op.bytesLess] at h
 | a::ar,b::bs,h,k=>by
  have ih:=bLt_tot ar bs
  simp only [bLt,Op.bytesLess,Bool.or_eq_false_iff,Bool.and_eq_false_iff,beq_eq_false_iff_ne,decide_eq_false_iff_not,UInt8.not_lt] at h k ih
  have e:a=b:=UInt8.le_antisymm k.1 h.1
  subst e
  rw [ih (by rcases h.2 with h | h;exact absurd rfl h;exact h) (by rcases k.2 with h | h;exact absurd rfl h;exact h)]
def ltS (a b:ByteArray):Bool:=Op.bytesLess a.toList b.toList
theorem toList_inj {a b:ByteArray} (h:a.toList=b.toList):a=b:=by
 have ha:a.toList=a.data.toList:=by simp [ByteArray.toList_eq]
 have hb:b.toList=b.data.toList:=by simp [ByteArray.toList_eq]
 rw [ha,hb] at h
 cases a;cases b
 simp only at h
 rw [Array.toList_inj.1 h]
theorem ltS_ok:LtOk ltS:=⟨⟨fun a=>bLt_irr _,fun a b c=>bLt_tr _ _ _⟩,fun a b h k=>toList_inj (bLt_tot _ _ h k)⟩
theorem eqS (a b:ByteArray):(a.toList == b.toList)=decide (a=b):=by
 by_cases h:a=b
 ·subst h;simp
 ·rw [decide_eq_false h,beq_eq_false_iff_ne];exact fun e=>h (toList_inj e)
def strs (l:List ByteArray):List Value:=l.map Value.string
theorem strs_length (l:List ByteArray):(strs l).length=l.length:=by simp [strs]
theorem strs_append (a b:List ByteArray):strs (a++b)=strs a++strs b:=by simp [strs]
theorem strs_get (l:List ByteArray) (j:Nat) (h:j<l.length):(strs l)[j]? = some (.string l[j]):=by simp [strs,h]
end Go.Proofs.YtdcgbgecbeegmaaGreatDoor
end
section
namespace Go.Proofs.YtdcgbgecbeegmaaGreatDoor
variable {α:Type}
def firstI (p:α→Bool) (l:List α):Int:=match l.findIdx? p with
 | some i=>(i:Int)
 | none=>-1
theorem firstI_at {p:α→Bool} {l:List α} {j:Nat} (h:∀x∈l.take j,p x=false) {x:α} (hj:l[j]? = some x) (hp:p x=true):firstI p l=(j:Int):=by
 have hlt:j<l.length:=(List.getElem?_eq_some_iff.1 hj).1
 have e:l.findIdx? p=some j:=by
  rw [List.findIdx?_eq_some_iff_getElem]
  refine ⟨hlt,by rw [(List.getElem?_eq_some_iff.1 hj).2];exact hp,fun i hi=>?_⟩
  have hm:l[i]∈l.take j:=by
   rw [List.mem_take_iff_getElem]
   exact ⟨i,by omega,rfl⟩
  rw [h _ hm];simp
 rw [firstI,e]
theorem firstI_none {p:α→Bool} {l:List α} (h:∀x∈l,p x=false):firstI p l = -1:=by
 have e:l.findIdx? p=none:=by rw [List.findIdx?_eq_none_iff];exact h
 rw [firstI,e]
theorem firstI_cases (p:α→Bool) (l:List α):(firstI p l = -1∧∀x∈l,p x=false)∨∃(j:Nat) (x:α),firstI p l=(j:Int)∧l[j]? = some x∧p x=true∧∀y∈l.take j,p y=false:=by
 cases e:l.findIdx? p with
 | none=>exact Or.inl ⟨by rw [firstI,e],List.findIdx?_eq_none_iff.1 e⟩
 | some j=>
  obtain ⟨hj,hp,hn⟩:=List.findIdx?_eq_some_iff_getElem.1 e
  refine Or.inr ⟨j,l[j],by rw [firstI,e],List.getElem?_eq_getElem hj,hp,fun y hy=>?_⟩
  obtain ⟨i,hi,rfl⟩:=List.mem_take_iff_getElem.1 hy
  have:=hn i (by omega)
  simpa using this
end Go.Proofs.YtdcgbgecbeegmaaGreatDoor
end
section
namespace Go.Proofs.YtdcgbgecbeegmaaGreatDoor
open Go Go.RowKit
structure CmpOk {α:Type} (cmp:α→α→Int):Prop where
 dom:∀a b,cmp a b = -1∨cmp a b=0∨cmp a b=1
 eq:∀a b,cmp a b=0↔a=b
 flip:∀a b,cmp b a = - cmp a b
 tr:∀a b c,cmp a b = -1→cmp b c = -1→cmp a c = -1
theorem CmpOk.refl {α:Type} {cmp:α→α→Int} (h:CmpOk cmp) (a:α):cmp a a=0:=(h.eq a a).2 rfl
theorem CmpOk.lt {α:Type} {cmp:α→α→Int} (h:CmpOk cmp):LtOk (fun a b=>decide (cmp a b = -1)):=
 ⟨⟨fun a=>by rw [h.refl];rfl,fun a b c h1 h2=>by
  simp only [decide_eq_true_eq] at h1 h2 ⊢
  exact h.tr a b c h1 h2⟩,fun a b h1 h2=>by
  simp only [decide_eq_false_iff_not] at h1 h2
  rw [h.flip a b] at h2
  rcases h.dom a b with e | e | e
  ·exact absurd e h1
  ·exact (h.eq a b).1 e
  ·rw [e] at h2;exact absurd rfl h2⟩
def ordB {α:Type} (lt:α→α→Bool) (a b:α):Int:=if lt a b then -1 else if lt b a then 1 else 0
theorem ordB_ok {α:Type} {lt:α→α→Bool} (h:LtOk lt):CmpOk (ordB lt):=by
 refine ⟨fun a b=>?_,fun a b=>?_,fun a b=>?_,fun a b c h1 h2=>?_⟩
 ·unfold ordB;split
  ·exact Or.inl rfl
  ·split
   ·exact Or.inr (Or.inr rfl)
   ·exact Or.inr (Or.inl rfl)
 ·unfold ordB
  constructor
  ·intro e
   split at e
   ·cases e
   ·next h1=>
    split at e
    ·cases e
    ·next h2=>exact h.tot a b (by simpa using h1) (by simpa using h2)
  ·rintro rfl;simp [h.irr]
 ·unfold ordB
  rcases Bool.eq_false_or_eq_true (lt a b) with e | e
  ·simp [e,h.asy e]
  ·rcases Bool.eq_false_or_eq_true (lt b a) with f | f<;>simp [e,f]
 ·have lt1:∀x y,ordB lt x y = -1→lt x y=true:=fun x y e=>by
   unfold ordB at e
   split at e
   ·assumption
   ·split at e<;>cases e
  have:=h.tr a b c (lt1 a b h1) (lt1 b c h2)
  unfold ordB;rw [if_pos this]
def cmpP {α β:Type} (c1:α→α→Int) (c2:β→β→Int) (a b:α × β):Int:=if c1 a.1 b.1=0 then c2 a.2 b.2 else c1 a.1 b.1
theorem cmpP_ok {α β:Type} {c1:α→α→Int} {c2:β→β→Int} (h1:CmpOk c1) (h2:CmpOk c2):CmpOk (cmpP c1 c2):=by
 refine ⟨fun a b=>?_,fun a b=>?_,fun a b=>?_,fun a b c e f=>?_⟩
 ·unfold cmpP;split
  ·exact h2.dom _ _
  ·exact h1.dom _ _
 ·obtain ⟨a1,a2⟩:=a;obtain ⟨b1,b2⟩:=b
  unfold cmpP
  split
  ·next e=>rw [h2.eq];simp only at e;rw [(h1.eq _ _).1 e];simp
  ·next e=>
   constructor
   ·intro h;exact absurd h e
   ·rintro h;cases h;exact absurd (h1.refl _) e
 ·unfold cmpP
  rw [h1.flip a.1 b.1,h2.flip a.2 b.2]
  by_cases e:c1 a.1 b.1=0
  ·rw [if_pos e,if_pos (by omega)]
  ·rw [if_neg e,if_neg (by omega)]
 ·unfold cmpP at e f ⊢
  by_cases e1:c1 a.1 b.1=0
  ·rw [if_pos e1] at e
   rw [(h1.eq _ _).1 e1]
   by_cases f1:c1 b.1 c.1=0
   ·rw [if_pos f1] at f ⊢;exact h2.tr _ _ _ e f
   ·rw [if_neg f1] at f ⊢;exact f
  ·rw [if_neg e1] at e
   by_cases f1:c1 b.1 c.1=0
   ·rw [if_pos f1] at f
    rw [← (h1.eq _ _).1 f1,if_neg e1];exact e
   ·rw [if_neg f1] at f
    have:=h1.tr _ _ _ e f
    rw [this,if_neg (by decide)]
def cmpL {α:Type} (c:α→α→Int):List α→List α→Int
 | [],[]=>0
 | [],_::_=>-1
 | _::_,[]=>1
 | a::l,b::k=>if c a b=0 then cmpL c l k else c a b
theorem cmpL_ok {α : Type} {c : α → α → Int} (h : CmpOk c) : CmpOk (cmpL c) := by
  refine ⟨fun a => ?_, fun a => ?_, fun a => ?_, fun a => ?_⟩
  · induction a with
    | nil => intro b; cases b <;> simp [cmpL]
    | cons x a ih =>
      intro b
      cases b with
      | nil => simp [cmpL]
      | cons y b => rw [cmpL]; split
                    · exact ih b
                    · exact h.dom _ _
  · induction a with
    | nil => intro b; cases b <;> simp [cmpL]
    | cons x a ih =>
      intro b
      cases b with
      | nil => simp [cmpL]
      | cons y b =>
        rw [cmpL]
        split
        · next e => rw [ih b, (h.eq _ _).1 e]; simp
        · next e =>
          constructor
          · intro g; exact absurd g e
          · rintro g; cases g; exact absurd (h.refl _) e
  · induction a with
    | nil => intro b; cases b <;> simp [cmpL]
    | cons x a ih =>
      intro b
      cases b with
      | nil => simp [cmpL]
      | cons y b =>
        rw [cmpL, cmpL, h.flip x y, ih b]
        by_cases e : c x y = 0
        · rw [if_pos e, if_pos (by omega)]
        · rw [if_neg e, if_neg (by omega)]
  · induction a with
    | nil =>
      intro b k e f
      cases k with
      | nil => cases b with
        | nil => simp [cmpL] at e
        | cons y b => simp [cmpL] at f
      | cons z k => rfl
    | cons x a ih =>
      intro b k e f
      cases b with
      | nil => simp [cmpL] at e
      | cons y b =>
        cases k with
        | nil => simp [cmpL] at f
        | cons z k =>
          rw [cmpL] at e f ⊢
          by_cases e1 : c x y = 0
          · rw [if_pos e1] at e
            rw [(h.eq _ _).1 e1]
            by_cases f1 : c y z = 0
            · rw [if_pos f1] at f ⊢; exact ih b k e f
            · rw [if_neg f1] at f ⊢; exact f
          · rw [if_neg e1] at e
            by_cases f1 : c y z = 0
            · rw [← (h.eq _ _).1 f1, if_neg e1]; exact e
            · rw [if_neg f1] at f
              have := h.tr _ _ _ e f
              rw [this, if_neg (by decide)]
abbrev Lab:=ByteArray × ByteArray
def ordS:ByteArray→ByteArray→Int:=ordB ltS
theorem ordS_ok:CmpOk ordS:=ordB_ok ltS_ok
def cmpLab:Lab→Lab→Int:=cmpP ordS ordS
theorem cmpLab_ok:CmpOk cmpLab:=cmpP_ok ordS_ok ordS_ok
def cmpLabs:List Lab→List Lab→Int:=cmpL cmpLab
theorem cmpLabs_ok:CmpOk cmpLabs:=cmpL_ok cmpLab_ok
def oneL (x:Lab):Nat:=if x.1.size=0 then 17 else if 65535<x.1.size∨65535<x.2.size then 7 else 0
def checkFrom (p:Option ByteArray):List Lab→Nat
 | []=>0
 | x::l=>
  if oneL x≠0 then oneL x else
  match p with
  | none=>checkFrom (some x.1) l
  | some n=>if x.1=n then 18 else if ltS x.1 n then 16 else checkFrom (some x.1) l
def checkL (l:List Lab):Nat:=checkFrom none l
def ltN (a b:Lab):Bool:=ltS a.1 b.1
def firstErr:List Lab→Nat
 | []=>0
 | x::l=>if oneL x≠0 then oneL x else firstErr l
def putL:List Lab→List Lab→Option (List Lab)
 | out,[]=>some out
 | out,x::l=>if ∃y∈out,y.1=x.1 then none else putL (insB ltN x out) l
def normL (l:List Lab):Nat × List Lab:=if firstErr l≠0 then (firstErr l,[]) else match putL [] l with
 | none=>(18,[])
 | some out=>(0,out)
def stringsL (l:List Lab):List ByteArray:=l.flatMap fun x=>[x.1,x.2]
theorem ltN_ok:LtPre ltN:=⟨fun a=>ltS_ok.irr _,fun a b c=>ltS_ok.tr _ _ _⟩
theorem ltN_ne {a b:Lab} (h:a.1≠b.1):ltN a b=false→ltN b a=true:=fun h1=>by
 rcases Bool.eq_false_or_eq_true (ltN b a) with e | e
 ·exact e
 ·exact absurd (ltS_ok.tot _ _ h1 e) h
theorem insN_mem (x z:Lab) (d:List Lab) (hd:∀y∈d,y.1≠x.1):z∈insB ltN x d↔z=x∨z∈d:=by
 induction d with
 | nil=>simp [insB]
 | cons y l ih=>
  have hy:=hd y (by simp)
  rw [insB]
  split
  ·rw [List.mem_cons,ih (fun y hy=>hd y (by simp [hy])),List.mem_cons]
   constructor
   ·rintro (h | h | h)
    ·exact Or.inr (Or.inl h)
    ·exact Or.inl h
    ·exact Or.inr (Or.inr h)
   ·rintro (h | h | h)
    ·exact Or.inr (Or.inl h)
    ·exact Or.inl h
    ·exact Or.inr (Or.inr h)
  ·next h1=>
   rw [if_pos (ltN_ne hy (by simpa using h1))]
   simp
theorem insN_asc (x:Lab) (d:List Lab) (hd:∀y∈d,y.1≠x.1) (ha:AscB ltN d):AscB ltN (insB ltN x d):=by
 induction d with
 | nil=>exact List.pairwise_singleton _ _
 | cons y l ih=>
  obtain ⟨h1,h2⟩:=List.pairwise_cons.1 ha
  have hd':∀y∈l,y.1≠x.1:=fun y hy=>hd y (by simp [hy])
  rw [insB]
  split
  ·next hyx=>
   exact List.pairwise_cons.2 ⟨fun z hz=>by
    rcases (insN_mem x z l hd').1 hz with e | e
    ·subst e;exact hyx
    ·exact h1 z e,ih hd' h2⟩
  ·next hyx=>
   have hxy:=ltN_ne (hd y (by simp)) (by simpa using hyx)
   rw [if_pos hxy]
   exact List.pairwise_cons.2 ⟨fun z hz=>by
    rcases List.mem_cons.1 hz with e | e
    ·subst e;exact hxy
    ·exact ltN_ok.tr _ _ _ hxy (h1 z e),ha⟩
theorem firstErr_zero (l : List Lab) : firstErr l = 0 ↔ ∀ x ∈ l, oneL x = 0 := by
  induction l with
  | nil => simp [firstErr]
  | cons x l ih =>
    rw [firstErr]
    split
    · next h => constructor
                · intro e; exact absurd e h
                · intro e; exact absurd (e x (by simp)) h
    · next h => rw [ih]; simp only [List.mem_cons, forall_eq_or_imp]
                constructor
                · intro e; exact ⟨Decidable.not_not.1 h, e⟩
                · intro e; exact e.2
def namesL (l:List Lab):List ByteArray:=l.map Prod.fst
theorem putL_some (l:List Lab):∀(out r:List Lab),putL out l=some r→AscB ltN out→AscB ltN r∧(∀z,z∈r↔z∈out∨z∈l)∧(namesL l).Nodup∧(∀y∈out,∀x∈l,y.1≠x.1):=by
 induction l with
 | nil=>intro out r h ha;simp [putL] at h;subst h;exact ⟨ha,fun z=>by simp,List.nodup_nil,fun _ _ _ h=>by cases h⟩
 | cons x l ih=>
  intro out r h ha
  rw [putL] at h
  split at h
  ·cases h
  ·next hn=>
   have hn':∀y∈out,y.1≠x.1:=fun y hy e=>hn ⟨y,hy,e⟩
   obtain ⟨h1,h2,h3,h4⟩:=ih _ r h (insN_asc x out hn' ha)
   refine ⟨h1,fun z=>?_,?_,fun y hy z hz=>?_⟩
   ·rw [h2,insN_mem x z out hn',List.mem_cons]
    constructor
    ·rintro ((h | h) | h)
     ·exact Or.inr (Or.inl h)
     ·exact Or.inl h
     ·exact Or.inr (Or.inr h)
    ·rintro (h | h | h)
     ·exact Or.inl (Or.inr h)
     ·exact Or.inl (Or.inl h)
     ·exact Or.inr h
   ·rw [namesL,List.map_cons,List.nodup_cons]
    refine ⟨fun hm=>?_,h3⟩
    obtain ⟨z,hz,he⟩:=List.mem_map.1 hm
    exact h4 x ((insN_mem x x out hn').2 (Or.inl rfl)) z hz he.symm
   ·rcases List.mem_cons.1 hz with e | e
    ·subst e;exact hn' y hy
    ·exact h4 y ((insN_mem x y out hn').2 (Or.inr hy)) z e
theorem putL_of (l:List Lab):∀(out:List Lab),(namesL l).Nodup→(∀y∈out,∀x∈l,y.1≠x.1)→∃r,putL out l=some r:=by
 induction l with
 | nil=>intro out _ _;exact ⟨out,rfl⟩
 | cons x l ih=>
  intro out hnd hd
  rw [namesL,List.map_cons,List.nodup_cons] at hnd
  have hn':∀y∈out,y.1≠x.1:=fun y hy=>hd y hy x (by simp)
  rw [putL,if_neg (fun ⟨y,hy,e⟩=>hn' y hy e)]
  refine ih _ hnd.2 (fun y hy z hz=>?_)
  rcases (insN_mem x y out hn').1 hy with e | e
  ·subst e;intro he;exact hnd.1 (List.mem_map.2 ⟨z,hz,he.symm⟩)
  ·exact hd y e z (by simp [hz])
theorem normL_ok {l:List Lab}:(normL l).1=0↔(∀x∈l,oneL x=0)∧(namesL l).Nodup:=by
 unfold normL
 constructor
 ·intro h
  split at h
  ·next h1=>exact absurd h h1
  ·next h1=>
   split at h
   ·cases h
   ·next r hr=>exact ⟨(firstErr_zero l).1 (Decidable.not_not.1 h1),(putL_some l [] r hr List.Pairwise.nil).2.2.1⟩
 ·rintro ⟨h1,h2⟩
  rw [if_neg (not_not_intro ((firstErr_zero l).2 h1))]
  obtain ⟨r,hr⟩:=putL_of l [] h2 (fun _ h=>by cases h)
  rw [hr]
theorem normL_res {l:List Lab} (h:(normL l).1=0):AscB ltN (normL l).2∧∀z,z∈(normL l).2↔z∈l:=by
 have h0:=normL_ok.1 h
 unfold normL
 rw [if_neg (not_not_intro ((firstErr_zero l).2 h0.1))]
 obtain ⟨r,hr⟩:=putL_of l [] h0.2 (fun _ h=>by cases h)
 rw [hr]
 obtain ⟨a,b,_⟩:=putL_some l [] r hr List.Pairwise.nil
 exact ⟨a,fun z=>by rw [b];simp⟩
theorem normL_err {l:List Lab} (h:(normL l).1≠0):(normL l).2=[]:=by
 unfold normL at h ⊢
 split
 ·rfl
 ·next h1=>
  rw [if_neg h1] at h
  split
  ·rfl
  ·next r hr=>rw [hr] at h;exact absurd rfl h
theorem norm_perm {l m:List Lab} (hp:l.Perm m):((normL l).1=0↔(normL m).1=0)∧(normL l).2=(normL m).2:=by
 have hiff:(normL l).1=0↔(normL m).1=0:=by
  rw [normL_ok,normL_ok]
  have h1:(namesL l).Nodup↔(namesL m).Nodup:=(hp.map Prod.fst).nodup_iff
  have h2:(∀x∈l,oneL x=0)↔(∀x∈m,oneL x=0):=⟨fun h x hx=>h x (hp.mem_iff.2 hx),fun h x hx=>h x (hp.mem_iff.1 hx)⟩
  rw [h1,h2]
 refine ⟨hiff,?_⟩
 by_cases h:(normL l).1=0
 ·obtain ⟨a1,a2⟩:=normL_res h
  obtain ⟨b1,b2⟩:=normL_res (hiff.1 h)
  exact ascB_ext ltN_ok _ _ a1 b1 (fun z=>by rw [a2,b2];exact hp.mem_iff)
 ·rw [normL_err h,normL_err (fun e=>h (hiff.2 e))]
theorem ascN_nodup {l:List Lab} (h:AscB ltN l):(namesL l).Nodup:=by
 rw [namesL,List.Nodup,List.pairwise_map]
 exact List.Pairwise.imp (fun hab e=>by unfold ltN at hab;rw [e,ltS_ok.irr] at hab;cases hab) h
theorem norm_of_asc {l:List Lab} (h:AscB ltN l) (ho:∀x∈l,oneL x=0):normL l=(0,l):=by
 have h0:(normL l).1=0:=normL_ok.2 ⟨ho,ascN_nodup h⟩
 obtain ⟨a1,a2⟩:=normL_res h0
 have:(normL l).2=l:=ascB_ext ltN_ok _ _ a1 h a2
 exact Prod.ext h0 this
theorem oneL_le (x:Lab):oneL x≤18:=by rw [oneL];(repeat' split)<;>omega
theorem checkFrom_le (l:List Lab):∀p,checkFrom p l≤18:=by
 induction l with
 | nil=>intro p;rw [checkFrom];omega
 | cons x l ih=>
  intro p
  have h1:=oneL_le x
  cases p with
  | none=>
   rw [checkFrom]
   split
   ·exact h1
   ·exact ih _
  | some n=>
   rw [checkFrom]
   repeat' split
   all_goals first | exact h1 | exact ih _ | omega
theorem firstErr_le (l:List Lab):firstErr l≤18:=by
 induction l with
 | nil=>rw [firstErr];omega
 | cons x l ih=>
  rw [firstErr]
  split
  ·exact oneL_le x
  ·exact ih
theorem putL_le (l:List Lab):∀(out r:List Lab),putL out l=some r→r.length≤out.length+l.length:=by
 induction l with
 | nil=>intro out r h;rw [putL] at h;simp at h;subst h;simp
 | cons x l ih=>
  intro out r h
  rw [putL] at h
  split at h
  ·cases h
  ·have h1:=ih _ _ h
   have h2:=insB_le (lt:=ltN) x out
   rw [List.length_cons];omega
theorem norm_le (l:List Lab):(normL l).1≤18∧(normL l).2.length≤l.length:=by
 have hf:=firstErr_le l
 rw [normL]
 split
 ·exact ⟨hf,Nat.zero_le _⟩
 ·cases hp:putL [] l with
  | none=>exact ⟨Nat.le_refl _,Nat.zero_le _⟩
  | some r=>
   have:=putL_le l [] r hp
   rw [List.length_nil,Nat.zero_add] at this
   exact ⟨Nat.zero_le _,this⟩
theorem norm_all {p:Lab→Prop} {l:List Lab} (h:∀x∈l,p x):∀x∈(normL l).2,p x:=by
 intro x hx
 by_cases h0:(normL l).1=0
 ·exact h x (((normL_res h0).2 x).1 hx)
 ·rw [normL_err h0] at hx;cases hx
end Go.Proofs.YtdcgbgecbeegmaaGreatDoor
end
section
namespace Go.Proofs.YtdcgbgecbeegmaaGreatDoor
theorem snoc_ind {α:Type} {p:List α→Prop} (h0:p []) (h1:∀l x,p l→p (l++[x])) (l:List α):p l:=by
 have h:∀l:List α,p l.reverse:=fun l=>by
  induction l with
  | nil=>exact h0
  | cons x l ih=>rw [List.reverse_cons];exact h1 _ _ ih
 have:=h l.reverse
 rwa [List.reverse_reverse] at this
section
variable {α:Type}
structure LtWk (lt:α→α→Bool):Prop extends LtPre lt where
 co:∀a b c,lt a c=true→lt a b=true∨lt b c=true
variable {lt:α→α→Bool}
def posE (lt:α→α→Bool) (x:α) (d:List α):Nat:=d.length-(d.reverse.takeWhile (fun y=>lt x y)).length
def insE (lt:α→α→Bool) (x:α) (d:List α):List α:=d.take (posE lt x d)++x::d.drop (posE lt x d)
def sortE (lt:α→α→Bool) (l:List α):List α:=l.foldl (fun d x=>insE lt x d) []
theorem posE_of {x:α} {d:List α} {k:Nat} (hk:k≤d.length) (h1:∀y∈d.drop k,lt x y=true) (h2:∀y,0<k→d[k-1]? = some y→lt x y=false):posE lt x d=k:=by
 have hs:d.reverse=(d.drop k).reverse++(d.take k).reverse:=by rw [← List.reverse_append,List.take_append_drop]
 have ht:d.reverse.takeWhile (fun y=>lt x y)=(d.drop k).reverse:=by
  rw [hs,List.takeWhile_append_of_pos (fun y hy=>h1 y (List.mem_reverse.1 hy))]
  have:(d.take k).reverse.takeWhile (fun y=>lt x y)=[]:=by
   rcases Nat.eq_zero_or_pos k with rfl | hp
   ·simp
   ·have hlt:k-1<d.length:=by omega
    have hl:d.take k=d.take (k-1)++[d[k-1]]:=by
     conv=>lhs;rw [show k=(k-1)+1 by omega]
     rw [List.take_add_one,List.getElem?_eq_getElem hlt];rfl
    rw [hl,List.reverse_append,List.reverse_singleton,List.singleton_append,List.takeWhile_cons,h2 _ hp (List.getElem?_eq_getElem hlt)]
    rfl
  rw [this,List.append_nil]
 rw [posE,ht,List.length_reverse,List.length_drop];omega
theorem posE_spec (x:α) (d:List α):posE lt x d≤d.length∧(∀y∈d.drop (posE lt x d),lt x y=true)∧(∀y,0<posE lt x d→d[posE lt x d-1]? = some y→lt x y=false):=by
 induction d using snoc_ind with
 | h0=>exact ⟨Nat.le_refl _,fun y hy=>by simp at hy,fun y h _=>by simp [posE] at h⟩
 | h1 d z ih=>
  by_cases hz:lt x z=true
  ·have hp:posE lt x (d++[z])=posE lt x d:=by
    refine posE_of (by rw [List.length_append];have:=ih.1;omega) (fun y hy=>?_) (fun y h0 hy=>?_)
    ·rw [List.drop_append_of_le_length ih.1] at hy
     rcases List.mem_append.1 hy with e | e
     ·exact ih.2.1 y e
     ·rw [List.mem_singleton.1 e];exact hz
    ·rw [List.getElem?_append_left (by have:=ih.1;omega)] at hy
     exact ih.2.2 y h0 hy
   rw [hp]
   refine ⟨by rw [List.length_append];have:=ih.1;omega,fun y hy=>?_,fun y h0 hy=>?_⟩
   ·rw [List.drop_append_of_le_length ih.1] at hy
    rcases List.mem_append.1 hy with e | e
    ·exact ih.2.1 y e
    ·rw [List.mem_singleton.1 e];exact hz
   ·rw [List.getElem?_append_left (by have:=ih.1;omega)] at hy
    exact ih.2.2 y h0 hy
  ·have hp:posE lt x (d++[z])=d.length+1:=by
    refine posE_of (by simp) (fun y hy=>?_) (fun y h0 hy=>?_)
    ·rw [List.drop_of_length_le (by simp)] at hy;cases hy
    ·rw [Nat.add_sub_cancel,List.getElem?_append_right (Nat.le_refl _),Nat.sub_self] at hy
     simp at hy;subst hy;simpa using hz
   rw [hp]
   refine ⟨by simp,fun y hy=>?_,fun y h0 hy=>?_⟩
   ·rw [List.drop_of_length_le (by simp)] at hy;cases hy
   ·rw [Nat.add_sub_cancel,List.getElem?_append_right (Nat.le_refl _),Nat.sub_self] at hy
    simp at hy;subst hy;simpa using hz
theorem insE_perm (x:α) (d:List α):(insE lt x d).Perm (x::d):=by
 unfold insE
 refine (List.perm_middle).trans ?_
 rw [List.take_append_drop]
def SrtE (lt:α→α→Bool) (d:List α):Prop:=d.Pairwise (fun a b=>lt b a=false)
theorem insE_srt (h : LtWk lt) (x : α) (d : List α) (hd : SrtE lt d) : SrtE lt (insE lt x d) := by
  obtain ⟨h1, h2, h3⟩ := posE_spec (lt := lt) x d
  generalize posE lt x d = k at *
  have hk : insE lt x d = d.take (posE lt x d) ++ x :: d.drop (posE lt x d) := rfl
  have hp : posE lt x d = k := posE_of h1 h2 h3
  rw [hk, hp]
  have hsp : SrtE lt (d.take k ++ d.drop k) := by rw [List.take_append_drop]; exact hd
  obtain ⟨a1, a2, a3⟩ := List.pairwise_append.1 hsp
  refine List.pairwise_append.2 ⟨a1, List.pairwise_cons.2 ⟨fun b hb => h.asy (h2 b hb), a2⟩, fun a ha b hb => ?_⟩
  rcases List.mem_cons.1 hb with rfl | hb
  · have hp : 0 < k := by rcases Nat.eq_zero_or_pos k with rfl | hp; · simp at ha
                          · exact hp
    have hlt : k - 1 < d.length := by omega
    have hy := h3 d[k - 1] hp (List.getElem?_eq_getElem hlt)
    obtain ⟨i, hi, rfl⟩ := List.getElem_of_mem ha
    rw [List.length_take] at hi
    rw [List.getElem_take]
    rcases Bool.eq_false_or_eq_true (lt b d[i]) with e | e
    · rcases h.co b d[k - 1] d[i] e with f | f
      · rw [hy] at f; cases f
      · rcases Nat.lt_or_eq_of_le (show i ≤ k - 1 by omega) with g | g
        · have := List.pairwise_iff_getElem.1 hd i (k - 1) (by omega) hlt g
          rw [this] at f; cases f
        · simp only [g] at f; rw [h.irr] at f; cases f
    · exact e
  · exact a3 a ha b hb
theorem sortE_snoc (l:List α) (x:α):sortE lt (l++[x])=insE lt x (sortE lt l):=by rw [sortE,List.foldl_append];rfl
theorem sortE_perm (l:List α):(sortE lt l).Perm l:=by
 induction l using snoc_ind with
 | h0=>exact List.Perm.refl _
 | h1 l x ih=>
  rw [sortE_snoc]
  exact (insE_perm x _).trans ((List.Perm.cons x ih).trans (List.perm_append_singleton x l).symm)
theorem sortE_srt (h:LtWk lt) (l:List α):SrtE lt (sortE lt l):=by
 induction l using snoc_ind with
 | h0=>exact List.Pairwise.nil
 | h1 l x ih=>rw [sortE_snoc];exact insE_srt h x _ ih
theorem sortE_len (l:List α):(sortE lt l).length=l.length:=(sortE_perm l).length_eq
def Keys (lt:α→α→Bool) (l:List α):Prop:=l.Pairwise (fun a b=>lt a b=true∨lt b a=true)
theorem Keys.perm {l m:List α} (h:l.Perm m):Keys lt l↔Keys lt m:=h.pairwise_iff (fun {_ _} e=>e.symm)
theorem asc_of_srt {d:List α} (h:SrtE lt d) (hk:Keys lt d):AscB lt d:=by
 refine (List.pairwise_and_iff.2 ⟨h,hk⟩).imp (fun {_ _} e=>?_)
 rcases e.2 with f | f
 ·exact f
 ·rw [e.1] at f;cases f
theorem keys_of_asc {d:List α} (h:AscB lt d):Keys lt d:=h.imp (fun {_ _} e=>Or.inl e)
theorem sortE_asc (h:LtWk lt) {l:List α} (hk:Keys lt l):AscB lt (sortE lt l):=asc_of_srt (sortE_srt h l) ((Keys.perm (sortE_perm l)).2 hk)
theorem sortE_ext (h:LtWk lt) {l m:List α} (hk:Keys lt l) (hp:l.Perm m):sortE lt l=sortE lt m:=
 ascB_ext h.toLtPre _ _ (sortE_asc h hk) (sortE_asc h ((Keys.perm hp).1 hk)) (fun x=>by rw [(sortE_perm l).mem_iff,(sortE_perm m).mem_iff,hp.mem_iff])
theorem sortE_of_asc (h:LtWk lt) {l:List α} (ha:AscB lt l):sortE lt l=l:=
 ascB_ext h.toLtPre _ _ (sortE_asc h (keys_of_asc ha)) ha (fun _=>(sortE_perm l).mem_iff)
end
end Go.Proofs.YtdcgbgecbeegmaaGreatDoor
end
