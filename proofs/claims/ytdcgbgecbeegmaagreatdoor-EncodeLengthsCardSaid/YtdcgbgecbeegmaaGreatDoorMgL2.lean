/- Texts 2. -/
import Derived.Test.YtdcgbgecbeegmaaGreatDoorMgL1
import Derived.Laws.BitsLemmas
import Derived.Laws.Bits64
import Derived.Laws.Bits64b
set_option linter.unusedVariables false
set_option linter.unusedSimpArgs false
section
namespace Go.Proofs.YtdcgbgecbeegmaaGreatDoor
section
variable {α:Type}
structure LtPre (lt:α→α→Bool):Prop where
 irr:∀a,lt a a=false
 tr:∀a b c,lt a b=true→lt b c=true→lt a c=true
structure LtOk (lt:α→α→Bool):Prop extends LtPre lt where
 tot:∀a b,lt a b=false→lt b a=false→a=b
def AscB (lt:α→α→Bool) (l:List α):Prop:=l.Pairwise (fun a b=>lt a b=true)
def insB (lt:α→α→Bool) (x:α):List α→List α
 | []=>[x]
 | y::l=>if lt y x then y::insB lt x l else if lt x y then x::y::l else y::l
def tabFrom (lt:α→α→Bool) (t l:List α):List α:=l.foldl (fun t x=>insB lt x t) t
def tabB (lt:α→α→Bool) (l:List α):List α:=tabFrom lt [] l
variable {lt:α→α→Bool}
theorem LtPre.asy (h:LtPre lt) {a b:α} (hab:lt a b=true):lt b a=false:=by
 rcases Bool.eq_false_or_eq_true (lt b a) with hb | hb
 ·have:=h.tr a b a hab hb;rw [h.irr] at this;cases this
 ·exact hb
theorem LtPre.ne (h:LtPre lt) {a b:α} (hab:lt a b=true):a≠b:=fun e=>by subst e;rw [h.irr] at hab;cases hab
theorem LtOk.le_tr (h:LtOk lt) {a b c:α} (hab:lt b a=false) (hbc:lt b c=true):lt a c=true:=by
 rcases Bool.eq_false_or_eq_true (lt a b) with e | e
 ·exact h.tr a b c e hbc
 ·rw [h.tot a b e hab];exact hbc
theorem insB_mem (h:LtOk lt) (x z:α) (d:List α):z∈insB lt x d↔z=x∨z∈d:=by
 induction d with
 | nil=>simp [insB]
 | cons y l ih=>
  rw [insB]
  split
  ·rw [List.mem_cons,ih,List.mem_cons]
   constructor
   ·rintro (h | h | h)
    ·exact Or.inr (Or.inl h)
    ·exact Or.inl h
    ·exact Or.inr (Or.inr h)
   ·rintro (h | h | h)
    ·exact Or.inr (Or.inl h)
    ·exact Or.inl h
    ·exact Or.inr (Or.inr h)
  ·next h1=>
   split
   ·simp
   ·next h2=>
    have e:y=x:=h.tot y x (by simpa using h1) (by simpa using h2)
    subst e
    simp
theorem insB_asc (h:LtOk lt) (x:α) (d:List α) (ha:AscB lt d):AscB lt (insB lt x d):=by
 induction d with
 | nil=>exact List.pairwise_singleton _ _
 | cons y l ih=>
  obtain ⟨h1,h2⟩:=List.pairwise_cons.1 ha
  rw [insB]
  split
  ·next hyx=>
   exact List.pairwise_cons.2 ⟨fun z hz=>by
    rcases (insB_mem h x z l).1 hz with e | e
    ·subst e;exact hyx
    ·exact h1 z e,ih h2⟩
  ·split
   ·next hxy=>
    exact List.pairwise_cons.2 ⟨fun z hz=>by
     rcases List.mem_cons.1 hz with e | e
     ·subst e;exact hxy
     ·exact h.tr _ _ _ hxy (h1 z e),ha⟩
   ·exact ha
theorem insB_le (x:α) (d:List α):(insB lt x d).length≤d.length+1:=by
 induction d with
 | nil=>exact Nat.le_refl _
 | cons y l ih=>
  rw [insB]
  split
  ·rw [List.length_cons,List.length_cons];omega
  ·split
   ·exact Nat.le_refl _
   ·exact Nat.le_succ _
theorem insB_at (h:LtPre lt) (x:α) (a b:List α) (ha:∀z∈a,lt z x=true):insB lt x (a++x::b)=a++x::b:=by
 induction a with
 | nil=>rw [List.nil_append,insB,if_neg (by rw [h.irr];simp),if_neg (by rw [h.irr];simp)]
 | cons y l ih=>
  rw [List.cons_append,insB,if_pos (ha y (by simp)),ih (fun z hz=>ha z (by simp [hz]))]
theorem insB_parts (h:LtPre lt) (x:α) (a b:List α) (ha:∀z∈a,lt z x=true) (hb:∀z,b.head? = some z→lt x z=true):insB lt x (a++b)=a++x::b:=by
 induction a with
 | nil=>
  cases b with
  | nil=>rfl
  | cons y l=>
   have:=hb y rfl
   rw [List.nil_append,insB,if_neg (by rw [h.asy this];simp),if_pos this,List.nil_append]
 | cons y l ih=>
  rw [List.cons_append,insB,if_pos (ha y (by simp)),ih (fun z hz=>ha z (by simp [hz])),List.cons_append]
theorem insB_last (h:LtPre lt) (x:α) (d:List α) (hd:∀z∈d,lt z x=true):insB lt x d=d++[x]:=by
 have:=insB_parts h x d [] hd (fun z e=>by cases e)
 rwa [List.append_nil] at this
theorem tabFrom_asc (h:LtOk lt) (t l:List α) (ht:AscB lt t):AscB lt (tabFrom lt t l):=by
 induction l generalizing t with
 | nil=>exact ht
 | cons x l ih=>exact ih (insB lt x t) (insB_asc h x t ht)
theorem tabFrom_mem (h:LtOk lt) (t l:List α) (z:α):z∈tabFrom lt t l↔z∈t∨z∈l:=by
 induction l generalizing t with
 | nil=>simp [tabFrom]
 | cons x l ih=>
  show z∈tabFrom lt (insB lt x t) l↔_
  rw [ih (insB lt x t),insB_mem h,List.mem_cons]
  constructor
  ·rintro ((h | h) | h)
   ·exact Or.inr (Or.inl h)
   ·exact Or.inl h
   ·exact Or.inr (Or.inr h)
  ·rintro (h | h | h)
   ·exact Or.inl (Or.inr h)
   ·exact Or.inl (Or.inl h)
   ·exact Or.inr h
theorem tabFrom_len (t l:List α):(tabFrom lt t l).length≤t.length+l.length:=by
 induction l generalizing t with
 | nil=>exact Nat.le_refl _
 | cons x l ih=>
  have h1:=ih (insB lt x t);have h2:=insB_le (lt:=lt) x t
  show (tabFrom lt (insB lt x t) l).length≤_
  rw [List.length_cons];omega
theorem tabFrom_snoc (t l:List α) (x:α):tabFrom lt t (l++[x])=insB lt x (tabFrom lt t l):=by rw [tabFrom,List.foldl_append];rfl
theorem tabB_asc (h:LtOk lt) (l:List α):AscB lt (tabB lt l):=tabFrom_asc h [] l List.Pairwise.nil
theorem tabB_mem (h:LtOk lt) (l:List α) (z:α):z∈tabB lt l↔z∈l:=by rw [tabB,tabFrom_mem h];simp
theorem tabB_len (l:List α):(tabB lt l).length≤l.length:=by have:=tabFrom_len (lt:=lt) [] l;rw [List.length_nil] at this;rw [tabB];omega
theorem tabB_snoc (l:List α) (x:α):tabB lt (l++[x])=insB lt x (tabB lt l):=tabFrom_snoc [] l x
theorem ascB_ext (h:LtPre lt) (a b:List α) (ha:AscB lt a) (hb:AscB lt b) (hm:∀x,x∈a↔x∈b):a=b:=by
 induction a generalizing b with
 | nil=>
  cases b with
  | nil=>rfl
  | cons y l=>exact absurd ((hm y).2 (List.mem_cons_self ..)) List.not_mem_nil
 | cons x a ih=>
  cases b with
  | nil=>exact absurd ((hm x).1 (List.mem_cons_self ..)) List.not_mem_nil
  | cons y b=>
   obtain ⟨a1,a2⟩:=List.pairwise_cons.1 ha
   obtain ⟨b1,b2⟩:=List.pairwise_cons.1 hb
   have hxy:x=y:=by
    rcases List.mem_cons.1 ((hm x).1 (List.mem_cons_self ..)) with e | e
    ·exact e
    ·rcases List.mem_cons.1 ((hm y).2 (List.mem_cons_self ..)) with f | f
     ·exact f.symm
     ·have p:=b1 x e;have q:=a1 y f
      rw [h.asy p] at q;cases q
   subst hxy
   rw [ih b a2 b2 (fun z=>?_)]
   constructor
   ·intro hz
    rcases List.mem_cons.1 ((hm z).1 (List.mem_cons_of_mem _ hz)) with e | e
    ·subst e;exact absurd rfl (h.ne (a1 z hz))
    ·exact e
   ·intro hz
    rcases List.mem_cons.1 ((hm z).2 (List.mem_cons_of_mem _ hz)) with e | e
    ·subst e;exact absurd rfl (h.ne (b1 z hz))
    ·exact e
theorem ascB_get {l:List α} (h:AscB lt l) {i j:Nat} (hij:i<j) (hj:j<l.length):lt (l[i]'(by omega)) l[j]=true:=List.pairwise_iff_getElem.1 h i j (by omega) hj hij
end
end Go.Proofs.YtdcgbgecbeegmaaGreatDoor
end
section
namespace Go.Proofs.YtdcgbgecbeegmaaGreatDoor
open Go Go.RowKit
def bLt:List UInt8→List UInt8→Bool:=Op.bytesLess
theorem bLt_irr (a:List UInt8):bLt a a=false:=by
 induction a with
 | nil=>rfl
 | cons x a ih=>simp only [bLt,Op.bytesLess] at ih ⊢;simp [ih]
theorem bLt_tr:∀(a b c:List UInt8),bLt a b=true→bLt b c=true→bLt a c=true
 | a,[],c,h,_=>by cases a<;>simp [bLt,Op.bytesLess] at h
 | a,b::bs,[],_,h=>by simp [bLt,Op.bytesLess] at h
 | [],b::bs,c::cs,_,_=>rfl
 | a::ar,b::bs,c::cs,h,k=>by
  have ih:=bLt_tr ar bs cs
  simp only [bLt,Op.bytesLess,Bool.or_eq_true,Bool.and_eq_true,beq_iff_eq,decide_eq_true_eq] at h k ih ⊢
  rcases h with h | ⟨h1,h2⟩
  ·rcases k with k | ⟨k1,k2⟩
   ·exact Or.inl (UInt8.lt_trans h k)
   ·subst k1;exact Or.inl h
  ·subst h1
   rcases k with k | ⟨k1,k2⟩
   ·exact Or.inl k
   ·exact Or.inr ⟨k1,ih h2 k2⟩
theorem bLt_tot:∀(a b:List UInt8),bLt a b=false→bLt b a=false→a=b
 | [],[],_,_=>rfl
 | [],b::bs,h,_=>by simp [bLt,Op.bytesLess] at h
 | a::ar,[],_,h=>by simp [bLt,Op.bytesLess] at h
 | a::ar,b::bs,h,k=>by
  have ih:=bLt_tot ar bs
  simp only [bLt,Op.bytesLess,Bool.or_eq_false_iff,Bool.and_eq_false_iff,beq_eq_false_iff_ne,decide_eq_false_iff_not,UInt8.not_lt] at h k ih
  have e:a=b:=UInt8.le_antisymm k.1 h.1
  subst e
  rw [ih (by rcases h.2 with h | h;exact absurd rfl h;exact h) (by rcases k.2 with h | h;exact absurd rfl h;exact h)]
def ltS (a b:ByteArray):Bool:=Op.bytesLess a.toList b.toList
theorem toList_inj {a b:ByteArray} (h:a.toList=b.toList):a=b:=by
 have ha:a.toList=a.data.toList:=by simp [ByteArray.toList_eq]
 have hb:b.toList=b.data.toList:=by simp [ByteArray.toList_eq]
 rw [ha,hb] at h
 cases a;cases b
 simp only at h
 rw [Array.toList_inj.1 h]
theorem ltS_ok:LtOk ltS:=⟨⟨fun a=>bLt_irr _,fun a b c=>bLt_tr _ _ _⟩,fun a b h k=>toList_inj (bLt_tot _ _ h k)⟩
theorem eqS (a b:ByteArray):(a.toList == b.toList)=decide (a=b):=by
 by_cases h:a=b
 ·subst h;simp
 ·rw [decide_eq_false h,beq_eq_false_iff_ne];exact fun e=>h (toList_inj e)
def strs (l:List ByteArray):List Value:=l.map Value.string
theorem strs_length (l:List ByteArray):(strs l).length=l.length:=by simp [strs]
theorem strs_append (a b:List ByteArray):strs (a++b)=strs a++strs b:=by simp [strs]
theorem strs_get (l:List ByteArray) (j:Nat) (h:j<l.length):(strs l)[j]? = some (.string l[j]):=by simp [strs,h]
end Go.Proofs.YtdcgbgecbeegmaaGreatDoor
end
section
namespace Go.Proofs.YtdcgbgecbeegmaaGreatDoor
variable {α:Type}
def firstI (p:α→Bool) (l:List α):Int:=match l.findIdx? p with
 | some i=>(i:Int)
 | none=>-1
theorem firstI_at {p:α→Bool} {l:List α} {j:Nat} (h:∀x∈l.take j,p x=false) {x:α} (hj:l[j]? = some x) (hp:p x=true):firstI p l=(j:Int):=by
 have hlt:j<l.length:=(List.getElem?_eq_some_iff.1 hj).1
 have e:l.findIdx? p=some j:=by
  rw [List.findIdx?_eq_some_iff_getElem]
  refine ⟨hlt,by rw [(List.getElem?_eq_some_iff.1 hj).2];exact hp,fun i hi=>?_⟩
  have hm:l[i]∈l.take j:=by
   rw [List.mem_take_iff_getElem]
   exact ⟨i,by omega,rfl⟩
  rw [h _ hm];simp
 rw [firstI,e]
theorem firstI_none {p:α→Bool} {l:List α} (h:∀x∈l,p x=false):firstI p l = -1:=by
 have e:l.findIdx? p=none:=by rw [List.findIdx?_eq_none_iff];exact h
 rw [firstI,e]
theorem firstI_cases (p:α→Bool) (l:List α):(firstI p l = -1∧∀x∈l,p x=false)∨∃(j:Nat) (x:α),firstI p l=(j:Int)∧l[j]? = some x∧p x=true∧∀y∈l.take j,p y=false:=by
 cases e:l.findIdx? p with
 | none=>exact Or.inl ⟨by rw [firstI,e],List.findIdx?_eq_none_iff.1 e⟩
 | some j=>
  obtain ⟨hj,hp,hn⟩:=List.findIdx?_eq_some_iff_getElem.1 e
  refine Or.inr ⟨j,l[j],by rw [firstI,e],List.getElem?_eq_getElem hj,hp,fun y hy=>?_⟩
  obtain ⟨i,hi,rfl⟩:=List.mem_take_iff_getElem.1 hy
  have:=hn i (by omega)
  simpa using this
end Go.Proofs.YtdcgbgecbeegmaaGreatDoor
end
section
namespace Go.Proofs.YtdcgbgecbeegmaaGreatDoor
open Go Go.RowKit
structure CmpOk {α:Type} (cmp:α→α→Int):Prop where
 dom:∀a b,cmp a b = -1∨cmp a b=0∨cmp a b=1
 eq:∀a b,cmp a b=0↔a=b
 flip:∀a b,cmp b a = - cmp a b
 tr:∀a b c,cmp a b = -1→cmp b c = -1→cmp a c = -1
theorem CmpOk.refl {α:Type} {cmp:α→α→Int} (h:CmpOk cmp) (a:α):cmp a a=0:=(h.eq a a).2 rfl
theorem CmpOk.lt {α:Type} {cmp:α→α→Int} (h:CmpOk cmp):LtOk (fun a b=>decide (cmp a b = -1)):=
 ⟨⟨fun a=>by rw [h.refl];rfl,fun a b c h1 h2=>by
  simp only [decide_eq_true_eq] at h1 h2 ⊢
  exact h.tr a b c h1 h2⟩,fun a b h1 h2=>by
  simp only [decide_eq_false_iff_not] at h1 h2
  rw [h.flip a b] at h2
  rcases h.dom a b with e | e | e
  ·exact absurd e h1
  ·exact (h.eq a b).1 e
  ·rw [e] at h2;exact absurd rfl h2⟩
def ordB {α:Type} (lt:α→α→Bool) (a b:α):Int:=if lt a b then -1 else if lt b a then 1 else 0
theorem ordB_ok {α:Type} {lt:α→α→Bool} (h:LtOk lt):CmpOk (ordB lt):=by
 refine ⟨fun a b=>?_,fun a b=>?_,fun a b=>?_,fun a b c h1 h2=>?_⟩
 ·unfold ordB;split
  ·exact Or.inl rfl
  ·split
   ·exact Or.inr (Or.inr rfl)
   ·exact Or.inr (Or.inl rfl)
 ·unfold ordB
  constructor
  ·intro e
   split at e
   ·cases e
   ·next h1=>
    split at e
    ·cases e
    ·next h2=>exact h.tot a b (by simpa using h1) (by simpa using h2)
  ·rintro rfl;simp [h.irr]
 ·unfold ordB
  rcases Bool.eq_false_or_eq_true (lt a b) with e | e
  ·simp [e,h.asy e]
  ·rcases Bool.eq_false_or_eq_true (lt b a) with f | f<;>simp [e,f]
 ·have lt1:∀x y,ordB lt x y = -1→lt x y=true:=fun x y e=>by
   unfold ordB at e
   split at e
   ·assumption
   ·split at e<;>cases e
  have:=h.tr a b c (lt1 a b h1) (lt1 b c h2)
  unfold ordB;rw [if_pos this]
def cmpP {α β:Type} (c1:α→α→Int) (c2:β→β→Int) (a b:α × β):Int:=if c1 a.1 b.1=0 then c2 a.2 b.2 else c1 a.1 b.1
theorem cmpP_ok {α β:Type} {c1:α→α→Int} {c2:β→β→Int} (h1:CmpOk c1) (h2:CmpOk c2):CmpOk (cmpP c1 c2):=by
 refine ⟨fun a b=>?_,fun a b=>?_,fun a b=>?_,fun a b c e f=>?_⟩
 ·unfold cmpP;split
  ·exact h2.dom _ _
  ·exact h1.dom _ _
 ·obtain ⟨a1,a2⟩:=a;obtain ⟨b1,b2⟩:=b
  unfold cmpP
  split
  ·next e=>rw [h2.eq];simp only at e;rw [(h1.eq _ _).1 e];simp
  ·next e=>
   constructor
   ·intro h;exact absurd h e
   ·rintro h;cases h;exact absurd (h1.refl _) e
 ·unfold cmpP
  rw [h1.flip a.1 b.1,h2.flip a.2 b.2]
  by_cases e:c1 a.1 b.1=0
  ·rw [if_pos e,if_pos (by omega)]
  ·rw [if_neg e,if_neg (by omega)]
 ·unfold cmpP at e f ⊢
  by_cases e1:c1 a.1 b.1=0
  ·rw [if_pos e1] at e
   rw [(h1.eq _ _).1 e1]
   by_cases f1:c1 b.1 c.1=0
   ·rw [if_pos f1] at f ⊢;exact h2.tr _ _ _ e f
   ·rw [if_neg f1] at f ⊢;exact f
  ·rw [if_neg e1] at e
   by_cases f1:c1 b.1 c.1=0
   ·rw [if_pos f1] at f
    rw [← (h1.eq _ _).1 f1,if_neg e1];exact e
   ·rw [if_neg f1] at f
    have:=h1.tr _ _ _ e f
    rw [this,if_neg (by decide)]
def cmpL {α:Type} (c:α→α→Int):List α→List α→Int
 | [],[]=>0
 | [],_::_=>-1
 | _::_,[]=>1
 | a::l,b::k=>if c a b=0 then cmpL c l k else c a b
theorem cmpL_ok {α : Type} {c : α → α → Int} (h : CmpOk c) : CmpOk (cmpL c) := by
  refine ⟨fun a => ?_, fun a => ?_, fun a => ?_, fun a => ?_⟩
  · induction a with
    | nil => intro b; cases b <;> simp [cmpL]
    | cons x a ih =>
      intro b
      cases b with
      | nil => simp [cmpL]
      | cons y b => rw [cmpL]; split
                    · exact ih b
                    · exact h.dom _ _
  · induction a with
    | nil => intro b; cases b <;> simp [cmpL]
    | cons x a ih =>
      intro b
      cases b with
      | nil => simp [cmpL]
      | cons y b =>
        rw [cmpL]
        split
        · next e => rw [ih b, (h.eq _ _).1 e]; simp
        · next e =>
          constructor
          · intro g; exact absurd g e
          · rintro g; cases g; exact absurd (h.refl _) e
  · induction a with
    | nil => intro b; cases b <;> simp [cmpL]
    | cons x a ih =>
      intro b
      cases b with
      | nil => simp [cmpL]
      | cons y b =>
        rw [cmpL, cmpL, h.flip x y, ih b]
        by_cases e : c x y = 0
        · rw [if_pos e, if_pos (by omega)]
        · rw [if_neg e, if_neg (by omega)]
  · induction a with
    | nil =>
      intro b k e f
      cases k with
      | nil => cases b with
        | nil => simp [cmpL] at e
        | cons y b => simp [cmpL] at f
      | cons z k => rfl
    | cons x a ih =>
      intro b k e f
      cases b with
      | nil => simp [cmpL] at e
      | cons y b =>
        cases k with
        | nil => simp [cmpL] at f
        | cons z k =>
          rw [cmpL] at e f ⊢
          by_cases e1 : c x y = 0
          · rw [if_pos e1] at e
            rw [(h.eq _ _).1 e1]
            by_cases f1 : c y z = 0
            · rw [if_pos f1] at f ⊢; exact ih b k e f
            · rw [if_neg f1] at f ⊢; exact f
          · rw [if_neg e1] at e
            by_cases f1 : c y z = 0
            · rw [← (h.eq _ _).1 f1, if_neg e1]; exact e
            · rw [if_neg f1] at f
              have := h.tr _ _ _ e f
              rw [this, if_neg (by decide)]
abbrev Lab:=ByteArray × ByteArray
def ordS:ByteArray→ByteArray→Int:=ordB ltS
theorem ordS_ok:CmpOk ordS:=ordB_ok ltS_ok
def cmpLab:Lab→Lab→Int:=cmpP ordS ordS
theorem cmpLab_ok:CmpOk cmpLab:=cmpP_ok ordS_ok ordS_ok
def cmpLabs:List Lab→List Lab→Int:=cmpL cmpLab
theorem cmpLabs_ok:CmpOk cmpLabs:=cmpL_ok cmpLab_ok
def oneL (x:Lab):Nat:=if x.1.size=0 then 17 else if 65535<x.1.size∨65535<x.2.size then 7 else 0
def checkFrom (p:Option ByteArray):List Lab→Nat
 | []=>0
 | x::l=>
  if oneL x≠0 then oneL x else
  match p with
  | none=>checkFrom (some x.1) l
  | some n=>if x.1=n then 18 else if ltS x.1 n then 16 else checkFrom (some x.1) l
def checkL (l:List Lab):Nat:=checkFrom none l
def ltN (a b:Lab):Bool:=ltS a.1 b.1
def firstErr:List Lab→Nat
 | []=>0
 | x::l=>if oneL x≠0 then oneL x else firstErr l
def putL:List Lab→List Lab→Option (List Lab)
 | out,[]=>some out
 | out,x::l=>if ∃y∈out,y.1=x.1 then none else putL (insB ltN x out) l
def normL (l:List Lab):Nat × List Lab:=if firstErr l≠0 then (firstErr l,[]) else match putL [] l with
 | none=>(18,[])
 | some out=>(0,out)
def stringsL (l:List Lab):List ByteArray:=l.flatMap fun x=>[x.1,x.2]
theorem ltN_ok:LtPre ltN:=⟨fun a=>ltS_ok.irr _,fun a b c=>ltS_ok.tr _ _ _⟩
theorem ltN_ne {a b:Lab} (h:a.1≠b.1):ltN a b=false→ltN b a=true:=fun h1=>by
 rcases Bool.eq_false_or_eq_true (ltN b a) with e | e
 ·exact e
 ·exact absurd (ltS_ok.tot _ _ h1 e) h
theorem insN_mem (x z:Lab) (d:List Lab) (hd:∀y∈d,y.1≠x.1):z∈insB ltN x d↔z=x∨z∈d:=by
 induction d with
 | nil=>simp [insB]
 | cons y l ih=>
  have hy:=hd y (by simp)
  rw [insB]
  split
  ·rw [List.mem_cons,ih (fun y hy=>hd y (by simp [hy])),List.mem_cons]
   constructor
   ·rintro (h | h | h)
    ·exact Or.inr (Or.inl h)
    ·exact Or.inl h
    ·exact Or.inr (Or.inr h)
   ·rintro (h | h | h)
    ·exact Or.inr (Or.inl h)
    ·exact Or.inl h
    ·exact Or.inr (Or.inr h)
  ·next h1=>
   rw [if_pos (ltN_ne hy (by simpa using h1))]
   simp
theorem insN_asc (x:Lab) (d:List Lab) (hd:∀y∈d,y.1≠x.1) (ha:AscB ltN d):AscB ltN (insB ltN x d):=by
 induction d with
 | nil=>exact List.pairwise_singleton _ _
 | cons y l ih=>
  obtain ⟨h1,h2⟩:=List.pairwise_cons.1 ha
  have hd':∀y∈l,y.1≠x.1:=fun y hy=>hd y (by simp [hy])
  rw [insB]
  split
  ·next hyx=>
   exact List.pairwise_cons.2 ⟨fun z hz=>by
    rcases (insN_mem x z l hd').1 hz with e | e
    ·subst e;exact hyx
    ·exact h1 z e,ih hd' h2⟩
  ·next hyx=>
   have hxy:=ltN_ne (hd y (by simp)) (by simpa using hyx)
   rw [if_pos hxy]
   exact List.pairwise_cons.2 ⟨fun z hz=>by
    rcases List.mem_cons.1 hz with e | e
    ·subst e;exact hxy
    ·exact ltN_ok.tr _ _ _ hxy (h1 z e),ha⟩
theorem firstErr_zero (l : List Lab) : firstErr l = 0 ↔ ∀ x ∈ l, oneL x = 0 := by
  induction l with
  | nil => simp [firstErr]
  | cons x l ih =>
    rw [firstErr]
    split
    · next h => constructor
                · intro e; exact absurd e h
                · intro e; exact absurd (e x (by simp)) h
    · next h => rw [ih]; simp only [List.mem_cons, forall_eq_or_imp]
                constructor
                · intro e; exact ⟨Decidable.not_not.1 h, e⟩
                · intro e; exact e.2
def namesL (l:List Lab):List ByteArray:=l.map Prod.fst
theorem putL_some (l:List Lab):∀(out r:List Lab),putL out l=some r→AscB ltN out→AscB ltN r∧(∀z,z∈r↔z∈out∨z∈l)∧(namesL l).Nodup∧(∀y∈out,∀x∈l,y.1≠x.1):=by
 induction l with
 | nil=>intro out r h ha;simp [putL] at h;subst h;exact ⟨ha,fun z=>by simp,List.nodup_nil,fun _ _ _ h=>by cases h⟩
 | cons x l ih=>
  intro out r h ha
  rw [putL] at h
  split at h
  ·cases h
  ·next hn=>
   have hn':∀y∈out,y.1≠x.1:=fun y hy e=>hn ⟨y,hy,e⟩
   obtain ⟨h1,h2,h3,h4⟩:=ih _ r h (insN_asc x out hn' ha)
   refine ⟨h1,fun z=>?_,?_,fun y hy z hz=>?_⟩
   ·rw [h2,insN_mem x z out hn',List.mem_cons]
    constructor
    ·rintro ((h | h) | h)
     ·exact Or.inr (Or.inl h)
     ·exact Or.inl h
     ·exact Or.inr (Or.inr h)
    ·rintro (h | h | h)
     ·exact Or.inl (Or.inr h)
     ·exact Or.inl (Or.inl h)
     ·exact Or.inr h
   ·rw [namesL,List.map_cons,List.nodup_cons]
    refine ⟨fun hm=>?_,h3⟩
    obtain ⟨z,hz,he⟩:=List.mem_map.1 hm
    exact h4 x ((insN_mem x x out hn').2 (Or.inl rfl)) z hz he.symm
   ·rcases List.mem_cons.1 hz with e | e
    ·subst e;exact hn' y hy
    ·exact h4 y ((insN_mem x y out hn').2 (Or.inr hy)) z e
theorem putL_of (l:List Lab):∀(out:List Lab),(namesL l).Nodup→(∀y∈out,∀x∈l,y.1≠x.1)→∃r,putL out l=some r:=by
 induction l with
 | nil=>intro out _ _;exact ⟨out,rfl⟩
 | cons x l ih=>
  intro out hnd hd
  rw [namesL,List.map_cons,List.nodup_cons] at hnd
  have hn':∀y∈out,y.1≠x.1:=fun y hy=>hd y hy x (by simp)
  rw [putL,if_neg (fun ⟨y,hy,e⟩=>hn' y hy e)]
  refine ih _ hnd.2 (fun y hy z hz=>?_)
  rcases (insN_mem x y out hn').1 hy with e | e
  ·subst e;intro he;exact hnd.1 (List.mem_map.2 ⟨z,hz,he.symm⟩)
  ·exact hd y e z (by simp [hz])
theorem normL_ok {l:List Lab}:(normL l).1=0↔(∀x∈l,oneL x=0)∧(namesL l).Nodup:=by
 unfold normL
 constructor
 ·intro h
  split at h
  ·next h1=>exact absurd h h1
  ·next h1=>
   split at h
   ·cases h
   ·next r hr=>exact ⟨(firstErr_zero l).1 (Decidable.not_not.1 h1),(putL_some l [] r hr List.Pairwise.nil).2.2.1⟩
 ·rintro ⟨h1,h2⟩
  rw [if_neg (not_not_intro ((firstErr_zero l).2 h1))]
  obtain ⟨r,hr⟩:=putL_of l [] h2 (fun _ h=>by cases h)
  rw [hr]
theorem normL_res {l:List Lab} (h:(normL l).1=0):AscB ltN (normL l).2∧∀z,z∈(normL l).2↔z∈l:=by
 have h0:=normL_ok.1 h
 unfold normL
 rw [if_neg (not_not_intro ((firstErr_zero l).2 h0.1))]
 obtain ⟨r,hr⟩:=putL_of l [] h0.2 (fun _ h=>by cases h)
 rw [hr]
 obtain ⟨a,b,_⟩:=putL_some l [] r hr List.Pairwise.nil
 exact ⟨a,fun z=>by rw [b];simp⟩
theorem normL_err {l:List Lab} (h:(normL l).1≠0):(normL l).2=[]:=by
 unfold normL at h ⊢
 split
 ·rfl
 ·next h1=>
  rw [if_neg h1] at h
  split
  ·rfl
  ·next r hr=>rw [hr] at h;exact absurd rfl h
theorem norm_perm {l m:List Lab} (hp:l.Perm m):((normL l).1=0↔(normL m).1=0)∧(normL l).2=(normL m).2:=by
 have hiff:(normL l).1=0↔(normL m).1=0:=by
  rw [normL_ok,normL_ok]
  have h1:(namesL l).Nodup↔(namesL m).Nodup:=(hp.map Prod.fst).nodup_iff
  have h2:(∀x∈l,oneL x=0)↔(∀x∈m,oneL x=0):=⟨fun h x hx=>h x (hp.mem_iff.2 hx),fun h x hx=>h x (hp.mem_iff.1 hx)⟩
  rw [h1,h2]
 refine ⟨hiff,?_⟩
 by_cases h:(normL l).1=0
 ·obtain ⟨a1,a2⟩:=normL_res h
  obtain ⟨b1,b2⟩:=normL_res (hiff.1 h)
  exact ascB_ext ltN_ok _ _ a1 b1 (fun z=>by rw [a2,b2];exact hp.mem_iff)
 ·rw [normL_err h,normL_err (fun e=>h (hiff.2 e))]
theorem ascN_nodup {l:List Lab} (h:AscB ltN l):(namesL l).Nodup:=by
 rw [namesL,List.Nodup,List.pairwise_map]
 exact List.Pairwise.imp (fun hab e=>by unfold ltN at hab;rw [e,ltS_ok.irr] at hab;cases hab) h
theorem norm_of_asc {l:List Lab} (h:AscB ltN l) (ho:∀x∈l,oneL x=0):normL l=(0,l):=by
 have h0:(normL l).1=0:=normL_ok.2 ⟨ho,ascN_nodup h⟩
 obtain ⟨a1,a2⟩:=normL_res h0
 have:(normL l).2=l:=ascB_ext ltN_ok _ _ a1 h a2
 exact Prod.ext h0 this
theorem oneL_le (x:Lab):oneL x≤18:=by rw [oneL];(repeat' split)<;>omega
theorem checkFrom_le (l:List Lab):∀p,checkFrom p l≤18:=by
 induction l with
 | nil=>intro p;rw [checkFrom];omega
 | cons x l ih=>
  intro p
  have h1:=oneL_le x
  cases p with
  | none=>
   rw [checkFrom]
   split
   ·exact h1
   ·exact ih _
  | some n=>
   rw [checkFrom]
   repeat' split
   all_goals first | exact h1 | exact ih _ | omega
theorem firstErr_le (l:List Lab):firstErr l≤18:=by
 induction l with
 | nil=>rw [firstErr];omega
 | cons x l ih=>
  rw [firstErr]
  split
  ·exact oneL_le x
  ·exact ih
theorem putL_le (l:List Lab):∀(out r:List Lab),putL out l=some r→r.length≤out.length+l.length:=by
 induction l with
 | nil=>intro out r h;rw [putL] at h;simp at h;subst h;simp
 | cons x l ih=>
  intro out r h
  rw [putL] at h
  split at h
  ·cases h
  ·have h1:=ih _ _ h
   have h2:=insB_le (lt:=ltN) x out
   rw [List.length_cons];omega
theorem norm_le (l:List Lab):(normL l).1≤18∧(normL l).2.length≤l.length:=by
 have hf:=firstErr_le l
 rw [normL]
 split
 ·exact ⟨hf,Nat.zero_le _⟩
 ·cases hp:putL [] l with
  | none=>exact ⟨Nat.le_refl _,Nat.zero_le _⟩
  | some r=>
   have:=putL_le l [] r hp
   rw [List.length_nil,Nat.zero_add] at this
   exact ⟨Nat.zero_le _,this⟩
theorem norm_all {p:Lab→Prop} {l:List Lab} (h:∀x∈l,p x):∀x∈(normL l).2,p x:=by
 intro x hx
 by_cases h0:(normL l).1=0
 ·exact h x (((normL_res h0).2 x).1 hx)
 ·rw [normL_err h0] at hx;cases hx
end Go.Proofs.YtdcgbgecbeegmaaGreatDoor
end
section
namespace Go.Proofs.YtdcgbgecbeegmaaGreatDoor
theorem snoc_ind {α:Type} {p:List α→Prop} (h0:p []) (h1:∀l x,p l→p (l++[x])) (l:List α):p l:=by
 have h:∀l:List α,p l.reverse:=fun l=>by
  induction l with
  | nil=>exact h0
  | cons x l ih=>rw [List.reverse_cons];exact h1 _ _ ih
 have:=h l.reverse
 rwa [List.reverse_reverse] at this
section
variable {α:Type}
structure LtWk (lt:α→α→Bool):Prop extends LtPre lt where
 co:∀a b c,lt a c=true→lt a b=true∨lt b c=true
variable {lt:α→α→Bool}
def posE (lt:α→α→Bool) (x:α) (d:List α):Nat:=d.length-(d.reverse.takeWhile (fun y=>lt x y)).length
def insE (lt:α→α→Bool) (x:α) (d:List α):List α:=d.take (posE lt x d)++x::d.drop (posE lt x d)
def sortE (lt:α→α→Bool) (l:List α):List α:=l.foldl (fun d x=>insE lt x d) []
theorem posE_of {x:α} {d:List α} {k:Nat} (hk:k≤d.length) (h1:∀y∈d.drop k,lt x y=true) (h2:∀y,0<k→d[k-1]? = some y→lt x y=false):posE lt x d=k:=by
 have hs:d.reverse=(d.drop k).reverse++(d.take k).reverse:=by rw [← List.reverse_append,List.take_append_drop]
 have ht:d.reverse.takeWhile (fun y=>lt x y)=(d.drop k).reverse:=by
  rw [hs,List.takeWhile_append_of_pos (fun y hy=>h1 y (List.mem_reverse.1 hy))]
  have:(d.take k).reverse.takeWhile (fun y=>lt x y)=[]:=by
   rcases Nat.eq_zero_or_pos k with rfl | hp
   ·simp
   ·have hlt:k-1<d.length:=by omega
    have hl:d.take k=d.take (k-1)++[d[k-1]]:=by
     conv=>lhs;rw [show k=(k-1)+1 by omega]
     rw [List.take_add_one,List.getElem?_eq_getElem hlt];rfl
    rw [hl,List.reverse_append,List.reverse_singleton,List.singleton_append,List.takeWhile_cons,h2 _ hp (List.getElem?_eq_getElem hlt)]
    rfl
  rw [this,List.append_nil]
 rw [posE,ht,List.length_reverse,List.length_drop];omega
theorem posE_spec (x:α) (d:List α):posE lt x d≤d.length∧(∀y∈d.drop (posE lt x d),lt x y=true)∧(∀y,0<posE lt x d→d[posE lt x d-1]? = some y→lt x y=false):=by
 induction d using snoc_ind with
 | h0=>exact ⟨Nat.le_refl _,fun y hy=>by simp at hy,fun y h _=>by simp [posE] at h⟩
 | h1 d z ih=>
  by_cases hz:lt x z=true
  ·have hp:posE lt x (d++[z])=posE lt x d:=by
    refine posE_of (by rw [List.length_append];have:=ih.1;omega) (fun y hy=>?_) (fun y h0 hy=>?_)
    ·rw [List.drop_append_of_le_length ih.1] at hy
     rcases List.mem_append.1 hy with e | e
     ·exact ih.2.1 y e
     ·rw [List.mem_singleton.1 e];exact hz
    ·rw [List.getElem?_append_left (by have:=ih.1;omega)] at hy
     exact ih.2.2 y h0 hy
   rw [hp]
   refine ⟨by rw [List.length_append];have:=ih.1;omega,fun y hy=>?_,fun y h0 hy=>?_⟩
   ·rw [List.drop_append_of_le_length ih.1] at hy
    rcases List.mem_append.1 hy with e | e
    ·exact ih.2.1 y e
    ·rw [List.mem_singleton.1 e];exact hz
   ·rw [List.getElem?_append_left (by have:=ih.1;omega)] at hy
    exact ih.2.2 y h0 hy
  ·have hp:posE lt x (d++[z])=d.length+1:=by
    refine posE_of (by simp) (fun y hy=>?_) (fun y h0 hy=>?_)
    ·rw [List.drop_of_length_le (by simp)] at hy;cases hy
    ·rw [Nat.add_sub_cancel,List.getElem?_append_right (Nat.le_refl _),Nat.sub_self] at hy
     simp at hy;subst hy;simpa using hz
   rw [hp]
   refine ⟨by simp,fun y hy=>?_,fun y h0 hy=>?_⟩
   ·rw [List.drop_of_length_le (by simp)] at hy;cases hy
   ·rw [Nat.add_sub_cancel,List.getElem?_append_right (Nat.le_refl _),Nat.sub_self] at hy
    simp at hy;subst hy;simpa using hz
theorem insE_perm (x:α) (d:List α):(insE lt x d).Perm (x::d):=by
 unfold insE
 refine (List.perm_middle).trans ?_
 rw [List.take_append_drop]
def SrtE (lt:α→α→Bool) (d:List α):Prop:=d.Pairwise (fun a b=>lt b a=false)
theorem insE_srt (h : LtWk lt) (x : α) (d : List α) (hd : SrtE lt d) : SrtE lt (insE lt x d) := by
  obtain ⟨h1, h2, h3⟩ := posE_spec (lt := lt) x d
  generalize posE lt x d = k at *
  have hk : insE lt x d = d.take (posE lt x d) ++ x :: d.drop (posE lt x d) := rfl
  have hp : posE lt x d = k := posE_of h1 h2 h3
  rw [hk, hp]
  have hsp : SrtE lt (d.take k ++ d.drop k) := by rw [List.take_append_drop]; exact hd
  obtain ⟨a1, a2, a3⟩ := List.pairwise_append.1 hsp
  refine List.pairwise_append.2 ⟨a1, List.pairwise_cons.2 ⟨fun b hb => h.asy (h2 b hb), a2⟩, fun a ha b hb => ?_⟩
  rcases List.mem_cons.1 hb with rfl | hb
  · have hp : 0 < k := by rcases Nat.eq_zero_or_pos k with rfl | hp; · simp at ha
                          · exact hp
    have hlt : k - 1 < d.length := by omega
    have hy := h3 d[k - 1] hp (List.getElem?_eq_getElem hlt)
    obtain ⟨i, hi, rfl⟩ := List.getElem_of_mem ha
    rw [List.length_take] at hi
    rw [List.getElem_take]
    rcases Bool.eq_false_or_eq_true (lt b d[i]) with e | e
    · rcases h.co b d[k - 1] d[i] e with f | f
      · rw [hy] at f; cases f
      · rcases Nat.lt_or_eq_of_le (show i ≤ k - 1 by omega) with g | g
        · have := List.pairwise_iff_getElem.1 hd i (k - 1) (by omega) hlt g
          rw [this] at f; cases f
        · simp only [g] at f; rw [h.irr] at f; cases f
    · exact e
  · exact a3 a ha b hb
theorem sortE_snoc (l:List α) (x:α):sortE lt (l++[x])=insE lt x (sortE lt l):=by rw [sortE,List.foldl_append];rfl
theorem sortE_perm (l:List α):(sortE lt l).Perm l:=by
 induction l using snoc_ind with
 | h0=>exact List.Perm.refl _
 | h1 l x ih=>
  rw [sortE_snoc]
  exact (insE_perm x _).trans ((List.Perm.cons x ih).trans (List.perm_append_singleton x l).symm)
theorem sortE_srt (h:LtWk lt) (l:List α):SrtE lt (sortE lt l):=by
 induction l using snoc_ind with
 | h0=>exact List.Pairwise.nil
 | h1 l x ih=>rw [sortE_snoc];exact insE_srt h x _ ih
theorem sortE_len (l:List α):(sortE lt l).length=l.length:=(sortE_perm l).length_eq
def Keys (lt:α→α→Bool) (l:List α):Prop:=l.Pairwise (fun a b=>lt a b=true∨lt b a=true)
theorem Keys.perm {l m:List α} (h:l.Perm m):Keys lt l↔Keys lt m:=h.pairwise_iff (fun {_ _} e=>e.symm)
theorem asc_of_srt {d:List α} (h:SrtE lt d) (hk:Keys lt d):AscB lt d:=by
 refine (List.pairwise_and_iff.2 ⟨h,hk⟩).imp (fun {_ _} e=>?_)
 rcases e.2 with f | f
 ·exact f
 ·rw [e.1] at f;cases f
theorem keys_of_asc {d:List α} (h:AscB lt d):Keys lt d:=h.imp (fun {_ _} e=>Or.inl e)
theorem sortE_asc (h:LtWk lt) {l:List α} (hk:Keys lt l):AscB lt (sortE lt l):=asc_of_srt (sortE_srt h l) ((Keys.perm (sortE_perm l)).2 hk)
theorem sortE_ext (h:LtWk lt) {l m:List α} (hk:Keys lt l) (hp:l.Perm m):sortE lt l=sortE lt m:=
 ascB_ext h.toLtPre _ _ (sortE_asc h hk) (sortE_asc h ((Keys.perm hp).1 hk)) (fun x=>by rw [(sortE_perm l).mem_iff,(sortE_perm m).mem_iff,hp.mem_iff])
theorem sortE_of_asc (h:LtWk lt) {l:List α} (ha:AscB lt l):sortE lt l=l:=
 ascB_ext h.toLtPre _ _ (sortE_asc h (keys_of_asc ha)) ha (fun _=>(sortE_perm l).mem_iff)
end
end Go.Proofs.YtdcgbgecbeegmaaGreatDoor
end
section
namespace Go.Proofs.YtdcgbgecbeegmaaGreatDoor
open Go Go.RowKit
abbrev Sam:=Int × Nat
abbrev Ser:=List Lab × List Sam
def samplesB (b:List Ser):Nat:=(b.map fun s=>s.2.length).sum
theorem samplesB_cons (s:Ser) (b:List Ser):samplesB (s::b)=s.2.length+samplesB b:=by simp [samplesB]
theorem samplesB_append (a b:List Ser):samplesB (a++b)=samplesB a+samplesB b:=by simp [samplesB]
theorem samplesB_take_le (b:List Ser) (i:Nat):samplesB (b.take i)≤samplesB b:=by
 have:samplesB b=samplesB (b.take i)+samplesB (b.drop i):=by rw [← samplesB_append,List.take_append_drop]
 omega
theorem samplesB_mem {b:List Ser} {s:Ser} (h:s∈b):s.2.length≤samplesB b:=by
 induction b with
 | nil=>cases h
 | cons x b ih=>
  rw [samplesB_cons]
  rcases List.mem_cons.1 h with rfl | h
  ·omega
  ·have:=ih h;omega
def timesFrom:Int→List Sam→Nat
 | _,[]=>0
 | t,s::l=>if s.1=t then 20 else if s.1<t then 16 else timesFrom s.1 l
def timesL:List Sam→Nat
 | []=>0
 | s::l=>timesFrom s.1 l
def serErr (s:Ser):Nat:=if checkL s.1≠0 then checkL s.1 else if s.2=[] then 21 else timesL s.2
def checkBFrom:Option (List Lab)→List Ser→Nat
 | _,[]=>0
 | p,s::l=>if serErr s≠0 then serErr s else match p with
  | none=>checkBFrom (some s.1) l
  | some q=>if cmpLabs q s.1=0 then 19 else if 0<cmpLabs q s.1 then 16 else checkBFrom (some s.1) l
def checkB (b:List Ser):Nat:=checkBFrom none b
def ltT (a b:Sam):Bool:=decide (a.1<b.1)
def ltB (a b:Ser):Bool:=decide (cmpLabs a.1 b.1 = -1)
def nSer (s:Ser):Ser:=((normL s.1).2,sortE ltT s.2)
def nErr (s:Ser):Nat:=if (normL s.1).1≠0 then (normL s.1).1 else if s.2=[] then 21 else timesL (sortE ltT s.2)
def firstErrB:List Ser→Nat
 | []=>0
 | s::l=>if nErr s≠0 then nErr s else firstErrB l
def adjB:List Ser→Bool
 | a::b::l=>decide (cmpLabs a.1 b.1=0) || adjB (b::l)
 | _=>false
def normB (l:List Ser):Nat × List Ser:=
 if firstErrB l≠0 then (firstErrB l,[]) else if adjB (sortE ltB (l.map nSer))=true then (19,[]) else (0,sortE ltB (l.map nSer))
theorem ltT_ok:LtWk ltT:=⟨⟨fun a=>by simp [ltT],fun a b c h1 h2=>by simp [ltT] at *;omega⟩,fun a b c h=>by simp [ltT] at *;omega⟩
theorem ltB_ok:LtWk ltB:=by
 refine ⟨⟨fun a=>by simp [ltB,cmpLabs_ok.refl],fun a b c h1 h2=>?_⟩,fun a b c h=>?_⟩
 ·simp only [ltB,decide_eq_true_eq] at *;exact cmpLabs_ok.tr _ _ _ h1 h2
 ·simp only [ltB,decide_eq_true_eq] at *
  rcases cmpLabs_ok.dom a.1 b.1 with e | e | e
  ·exact Or.inl e
  ·right;rw [← (cmpLabs_ok.eq _ _).1 e];exact h
  ·right
   have h1:cmpLabs b.1 a.1 = -1:=by rw [cmpLabs_ok.flip a.1 b.1,e]
   exact cmpLabs_ok.tr _ _ _ h1 h
theorem timesFrom_zero (l:List Sam):∀(a:Sam),timesFrom a.1 l=0↔AscB ltT (a::l):=by
 induction l with
 | nil=>intro a;exact ⟨fun _=>List.pairwise_singleton _ _,fun _=>rfl⟩
 | cons s l ih=>
  intro a
  rw [timesFrom]
  constructor
  ·intro h
   split at h
   ·cases h
   ·next h1=>
    split at h
    ·cases h
    ·next h2=>
     have h3:=(ih s).1 h
     have hab:ltT a s=true:=by simp [ltT];omega
     refine List.pairwise_cons.2 ⟨fun y hy=>?_,h3⟩
     rcases List.mem_cons.1 hy with rfl | hy
     ·exact hab
     ·exact ltT_ok.tr _ _ _ hab ((List.pairwise_cons.1 h3).1 y hy)
  ·intro h
   obtain ⟨h1,h2⟩:=List.pairwise_cons.1 h
   have hab:=h1 s (by simp)
   simp [ltT] at hab
   rw [if_neg (by omega),if_neg (by omega)]
   exact (ih s).2 h2
theorem timesL_zero (l:List Sam):timesL l=0↔AscB ltT l:=by
 cases l with
 | nil=>exact ⟨fun _=>List.Pairwise.nil,fun _=>rfl⟩
 | cons s l=>exact timesFrom_zero l s
theorem times_sort (l:List Sam):timesL (sortE ltT l)=0↔Keys ltT l:=by
 rw [timesL_zero]
 exact ⟨fun h=>(Keys.perm (sortE_perm l)).1 (keys_of_asc h),fun h=>sortE_asc ltT_ok h⟩
theorem firstErrB_zero (l:List Ser):firstErrB l=0↔∀s∈l,nErr s=0:=by
 induction l with
 | nil=>simp [firstErrB]
 | cons s l ih=>
  rw [firstErrB]
  split
  ·next h=>exact ⟨fun e=>absurd e h,fun e=>absurd (e s (by simp)) h⟩
  ·next h=>rw [ih];simp only [List.mem_cons,forall_eq_or_imp];exact ⟨fun e=>⟨Decidable.not_not.1 h,e⟩,fun e=>e.2⟩
theorem adjB_false {d:List Ser} (h:SrtE ltB d):adjB d=false↔AscB ltB d:=by
 induction d with
 | nil=>exact ⟨fun _=>List.Pairwise.nil,fun _=>rfl⟩
 | cons a l ih=>
  obtain ⟨h1,h2⟩:=List.pairwise_cons.1 h
  cases l with
  | nil=>exact ⟨fun _=>List.pairwise_singleton _ _,fun _=>rfl⟩
  | cons b l=>
   rw [adjB,Bool.or_eq_false_iff,ih h2]
   have hba:=h1 b (by simp)
   constructor
   ·rintro ⟨e1,e2⟩
    have hab:ltB a b=true:=by
     simp only [ltB,decide_eq_true_eq,decide_eq_false_iff_not] at *
     rw [cmpLabs_ok.flip a.1 b.1] at hba
     rcases cmpLabs_ok.dom a.1 b.1 with e | e | e
     ·exact e
     ·exact absurd e e1
     ·exact absurd (by rw [e]) hba
    refine List.pairwise_cons.2 ⟨fun y hy=>?_,e2⟩
    rcases List.mem_cons.1 hy with rfl | hy
    ·exact hab
    ·exact ltB_ok.tr _ _ _ hab ((List.pairwise_cons.1 e2).1 y hy)
   ·intro e
    obtain ⟨f1,f2⟩:=List.pairwise_cons.1 e
    have:=f1 b (by simp)
    simp only [ltB,decide_eq_true_eq] at this
    exact ⟨by rw [this];rfl,f2⟩
theorem adj_sort (l:List Ser):adjB (sortE ltB l)=false↔Keys ltB l:=by
 rw [adjB_false (sortE_srt ltB_ok l)]
 exact ⟨fun h=>(Keys.perm (sortE_perm l)).1 (keys_of_asc h),fun h=>sortE_asc ltB_ok h⟩
structure Block (b:List Ser):Prop where
 lab:∀s∈b,AscB ltN s.1∧∀x∈s.1,oneL x=0
 ne:∀s∈b,s.2≠[]
 asc:∀s∈b,AscB ltT s.2
 srt:AscB ltB b
end Go.Proofs.YtdcgbgecbeegmaaGreatDoor
end
section
namespace Go.Proofs.YtdcgbgecbeegmaaGreatDoor
def groups (x:Nat):List Nat:=if x<128 then [x] else (x % 128+128)::groups (x / 128)
termination_by x
decreasing_by omega
theorem groups_small {x:Nat} (h:x<128):groups x=[x]:=by rw [groups,if_pos h]
theorem groups_big {x:Nat} (h:¬x<128):groups x=(x % 128+128)::groups (x / 128):=by rw [groups,if_neg h]
theorem groups_ne (x:Nat):groups x≠[]:=by
 by_cases h:x<128
 ·rw [groups_small h];simp
 ·rw [groups_big h];simp
theorem groups_pos (x:Nat):0<(groups x).length:=List.length_pos_iff.2 (groups_ne x)
theorem groups_len (k x:Nat) (h:x<128 ^ (k+1)):(groups x).length≤k+1:=by
 induction k generalizing x with
 | zero=>rw [groups_small (by simpa using h)];simp
 | succ k ih=>
  by_cases hx:x<128
  ·rw [groups_small hx];simp
  ·rw [groups_big hx]
   have:=ih (x / 128) (by rw [Nat.div_lt_iff_lt_mul (by decide)];rwa [Nat.pow_succ] at h)
   simp;omega
theorem groups_ten {x:Nat} (h:x<18446744073709551616):(groups x).length≤10:=groups_len 9 x (Nat.lt_of_lt_of_le h (by decide))
theorem groups_lt (x:Nat):∀c∈groups x,c<256:=by
 induction x using Nat.strongRecOn with
 | _ x ih=>
  by_cases h:x<128
  ·rw [groups_small h];intro c hc;simp at hc;omega
  ·rw [groups_big h]
   intro c hc
   rcases List.mem_cons.1 hc with rfl | hc
   ·omega
   ·exact ih (x / 128) (by omega) c hc
def readFrom:List Nat→Nat→Nat→Nat × Nat × Nat
 | [],_,_=>(0,0,3)
 | c::cs,i,x=>
  if i=9∧1<c then (0,0,6)
  else if 128≤c then readFrom cs (i+1) (x+c % 128*2 ^ (7*i))
  else if c=0∧0<i then (0,0,5)
  else (x+c*2 ^ (7*i),i+1,0)
def readAt (b:List Nat) (o:Int):Nat × Int × Nat:=
 if o<0∨(b.length:Int)<o then (0,0,2)
 else ((readFrom (b.drop o.toNat) 0 0).1,(if (readFrom (b.drop o.toNat) 0 0).2.2=0 then o+(readFrom (b.drop o.toNat) 0 0).2.1 else 0),(readFrom (b.drop o.toNat) 0 0).2.2)
theorem readFrom_err {l:List Nat} {i x:Nat} (h:(readFrom l i x).2.2≠0):(readFrom l i x).1=0∧(readFrom l i x).2.1=0:=by
 induction l generalizing i x with
 | nil=>simp [readFrom]
 | cons c cs ih=>
  rw [readFrom] at h ⊢
  split
  ·exact ⟨rfl,rfl⟩
  ·next h1=>
   rw [if_neg h1] at h
   split
   ·next h2=>rw [if_pos h2] at h;exact ih h
   ·next h2=>
    rw [if_neg h2] at h
    split
    ·exact ⟨rfl,rfl⟩
    ·next h3=>rw [if_neg h3] at h;simp at h
theorem readFrom_groups (y i x:Nat) (rest:List Nat) (hi:i≤9) (hy:y<2 ^ (64-7*i)) (hp:0<i→0<y):readFrom (groups y++rest) i x=(x+y*2 ^ (7*i),i+(groups y).length,0):=by
 induction y using Nat.strongRecOn generalizing i x with
 | _ y ih=>
  have h9:i=9→y<2:=fun e=>by subst e;simpa using hy
  by_cases h:y<128
  ·rw [groups_small h]
   show readFrom (y::rest) i x=_
   rw [readFrom,if_neg (by rintro ⟨e,h1⟩;have:=h9 e;omega),if_neg (by omega),if_neg (by rintro ⟨e,h1⟩;have:=hp h1;omega)]
   simp
  ·rw [groups_big h]
   show readFrom ((y % 128+128)::(groups (y / 128)++rest)) i x=_
   have hne:i≠9:=fun e=>by have:=h9 e;omega
   rw [readFrom,if_neg (by rintro ⟨e,_⟩;exact hne e),if_pos (by omega)]
   have hpow:2 ^ (64-7*i)=2 ^ (64-7*(i+1))*128:=by
    rw [show 64-7*i=(64-7*(i+1))+7 from by omega,Nat.pow_add]
   rw [ih (y / 128) (by omega) (i+1) _ (by omega) (by rw [Nat.div_lt_iff_lt_mul (by decide),← hpow];exact hy) (fun _=>by omega)]
   have hm:2 ^ (7*(i+1))=128*2 ^ (7*i):=by rw [show 7*(i+1)=7+7*i from by omega,Nat.pow_add]
   have e1:(y % 128+128) % 128=y % 128:=by omega
   rw [e1,hm]
   have e2:y / 128*(128*2 ^ (7*i))=(y / 128*128)*2 ^ (7*i):=by rw [Nat.mul_assoc]
   rw [e2,Nat.add_assoc x,← Nat.add_mul,show y % 128+y / 128*128=y from by omega]
   simp only [List.length_cons]
   rw [show i+1+(groups (y / 128)).length=i+((groups (y / 128)).length+1) from by omega]
theorem readFrom_ok {l : List Nat} {i x : Nat} (hl : ∀ c ∈ l, c < 256) (hi : i ≤ 9) (h : (readFrom l i x).2.2 = 0) :
    ∃ y, l.take ((readFrom l i x).2.1 - i) = groups y ∧ (readFrom l i x).1 = x + y * 2 ^ (7 * i) ∧ (0 < i → 0 < y) ∧ y < 2 ^ (64 - 7 * i) ∧ i < (readFrom l i x).2.1 ∧ (readFrom l i x).2.1 - i ≤ l.length := by
  induction l generalizing i x with
  | nil => simp [readFrom] at h
  | cons c cs ih =>
    have hc : c < 256 := hl c (by simp)
    rw [readFrom] at h ⊢
    by_cases h1 : i = 9 ∧ 1 < c
    · rw [if_pos h1] at h; simp at h
    · rw [if_neg h1] at h ⊢
      by_cases h2 : 128 ≤ c
      · rw [if_pos h2] at h ⊢
        have hne : i ≠ 9 := fun e => h1 ⟨e, by omega⟩
        obtain ⟨y, hy, hx, hp, hlt, hgt, hle⟩ := ih (fun c h => hl c (by simp [h])) (by omega) h
        have hy0 := hp (by omega)
        have hpow : 2 ^ (64 - 7 * i) = 2 ^ (64 - 7 * (i + 1)) * 128 := by
          rw [show 64 - 7 * i = (64 - 7 * (i + 1)) + 7 from by omega, Nat.pow_add]
        have hm : 2 ^ (7 * (i + 1)) = 128 * 2 ^ (7 * i) := by rw [show 7 * (i + 1) = 7 + 7 * i from by omega, Nat.pow_add]
        refine ⟨c % 128 + y * 128, ?_, ?_, fun _ => by omega, by rw [hpow]; omega, by omega, by simp; omega⟩
        · rw [groups_big (by omega), show (c % 128 + y * 128) % 128 + 128 = c from by omega, show (c % 128 + y * 128) / 128 = y from by omega, ← hy]
          generalize (readFrom cs (i + 1) (x + c % 128 * 2 ^ (7 * i))).2.1 = m at *
          rw [show m - i = (m - (i + 1)) + 1 from by omega, List.take_succ_cons]
        · rw [hx, hm, Nat.add_mul, Nat.add_assoc, Nat.mul_assoc]
      · rw [if_neg h2] at h ⊢
        by_cases h3 : c = 0 ∧ 0 < i
        · rw [if_pos h3] at h; simp at h
        · rw [if_neg h3]
          refine ⟨c, ?_, rfl, fun hi0 => by by_cases e : c = 0
                                            · exact absurd ⟨e, hi0⟩ h3
                                            · omega, ?_, by simp, by simp⟩
          · rw [groups_small (by omega)]
            simp
          · by_cases e : i = 9
            · subst e
              have : ¬ 1 < c := fun h => h1 ⟨rfl, h⟩
              simp; omega
            · have : 2 ^ 8 ≤ 2 ^ (64 - 7 * i) := Nat.pow_le_pow_right (by omega) (by omega)
              omega
theorem readFrom_prefix (y i x k : Nat) (hi : i ≤ 9) (hy : y < 2 ^ (64 - 7 * i)) (hk : k < (groups y).length) : readFrom ((groups y).take k) i x = (0, 0, 3) := by
  induction y using Nat.strongRecOn generalizing i x k with
  | _ y ih =>
    cases k with
    | zero => rfl
    | succ k =>
      by_cases h : y < 128
      · rw [groups_small h] at hk; simp at hk
      · have h9 : i ≠ 9 := fun e => by subst e; have : y < 2 := by simpa using hy
                                       omega
        rw [groups_big h] at hk ⊢
        simp only [List.length_cons] at hk
        rw [List.take_succ_cons, readFrom, if_neg (by rintro ⟨e, _⟩; exact h9 e), if_pos (by omega)]
        have hpow : 2 ^ (64 - 7 * i) = 2 ^ (64 - 7 * (i + 1)) * 128 := by
          rw [show 64 - 7 * i = (64 - 7 * (i + 1)) + 7 from by omega, Nat.pow_add]
        exact ih (y / 128) (by omega) (i + 1) _ k (by omega) (by rw [Nat.div_lt_iff_lt_mul (by decide), ← hpow]; exact hy) (by omega)
def unfold (x:Nat):Int:=if x % 2=1 then -((x / 2:Nat):Int)-1 else ((x / 2:Nat):Int)
theorem readAt_in {l:List Nat} {o:Nat} (ho:o≤l.length) {a n e:Nat} (h:readFrom (l.drop o) 0 0=(a,n,e)):readAt l (o:Int)=(a,(if e=0 then (o:Int)+n else 0),e):=by
 rw [readAt,if_neg (by omega),Int.toNat_natCast,h]
theorem readAt_groups (before after:List Nat) {y:Nat} (hy:y<18446744073709551616):readAt (before++groups y++after) (before.length:Int)=(y,((before.length+(groups y).length:Nat):Int),0):=by
 have h:readFrom ((before++groups y++after).drop before.length) 0 0=(y,(groups y).length,0):=by
  rw [List.append_assoc,List.drop_left,readFrom_groups y 0 0 after (by omega) (by simpa using hy) (by omega)]
  simp
 rw [readAt_in (by simp) h]
 simp
theorem pow_seven {k:Nat} (hk:k≤8):2 ^ (7*k)≤72057594037927936:=Nat.le_trans (Nat.pow_le_pow_right (by decide) (show 7*k≤56 by omega)) (by decide)
theorem next_small {y u k:Nat} (hy:y<2 ^ (7*k)):y+u % 128*2 ^ (7*k)<2 ^ (7*(k+1)):=by
 have hm:2 ^ (7*(k+1))=128*2 ^ (7*k):=by rw [show 7*(k+1)=7+7*k from by omega,Nat.pow_add]
 have:u % 128*2 ^ (7*k)≤127*2 ^ (7*k):=Nat.mul_le_mul_right _ (by omega)
 rw [hm];omega
theorem wrap_u64_nat (n:Nat) (h:n<18446744073709551616):IntKind.u64.wrap (n:Int)=(n:Int):=by rw [IntKind.wrap_u64];omega
theorem add_group (y u U:Nat) (hy:y<U) (hU:U≤72057594037927936):IntKind.u64.wrap ((y:Int)+IntKind.u64.wrap ((u:Int) % 128*(U:Int)))=((y+u % 128*U:Nat):Int)∧y+u % 128*U<U*128:=by
 have h1:u % 128*U≤127*U:=Nat.mul_le_mul_right _ (by omega)
 have e:(u:Int) % 128*(U:Int)=((u % 128*U:Nat):Int):=by simp
 have e2:(y:Int)+((u % 128*U:Nat):Int)=((y+u % 128*U:Nat):Int):=by omega
 rw [e,wrap_u64_nat _ (by omega),e2,wrap_u64_nat _ (by omega)]
 exact ⟨rfl,by omega⟩
theorem readAt_cases {l:List Nat} (hl:∀c∈l,c<256) {i:Nat} (hi:i≤l.length) :
  (∃e,e≠0∧readAt l (i:Int)=(0,0,e))∨
  (∃x n,readAt l (i:Int)=(x,((i+n:Nat):Int),0)∧0<n∧i+n≤l.length∧(l.take (i+n)).drop i=groups x∧x<18446744073709551616):=by
 obtain ⟨a,n,e,h⟩:∃a n e,readFrom (l.drop i) 0 0=(a,n,e):=⟨_,_,_,rfl⟩
 have hd:∀c∈l.drop i,c<256:=fun c hc=>hl c (List.mem_of_mem_drop hc)
 by_cases he:e=0
 ·subst he
  obtain ⟨y,h1,h2,_,h4,h5,h6⟩:=readFrom_ok hd (Nat.zero_le 9) (show (readFrom (l.drop i) 0 0).2.2=0 by rw [h])
  rw [h] at h1 h2 h5 h6
  simp only [Nat.sub_zero,Nat.mul_zero,Nat.pow_zero,Nat.mul_one,Nat.zero_add] at h1 h2 h4 h5 h6
  rw [List.length_drop] at h6
  refine .inr ⟨y,n,?_,h5,by omega,?_,by simpa using h4⟩
  ·rw [readAt_in hi h,h2];simp
  ·rw [List.drop_take,Nat.add_sub_cancel_left];exact h1
 ·obtain ⟨h1,h2⟩:=readFrom_err (show (readFrom (l.drop i) 0 0).2.2≠0 by rw [h];exact he)
  rw [h] at h1 h2
  refine .inl ⟨e,he,?_⟩
  rw [readAt_in hi h,if_neg he,show a=0 from h1]
def shr1 (s:Nat):Nat:=if s % 2=1 then s / 2 ^^^ 3988292384 else s / 2
def shrN:Nat→Nat→Nat
 | 0,s=>s
 | n+1,s=>shrN n (shr1 s)
theorem xor_swap (a b c d:Nat):(a ^^^ b) ^^^ (c ^^^ d)=(a ^^^ c) ^^^ (b ^^^ d):=by
 rw [Nat.xor_assoc,Nat.xor_assoc,← Nat.xor_assoc b c d,Nat.xor_comm b c,Nat.xor_assoc c b d]
theorem xor_lt32 {a b:Nat} (ha:a<4294967296) (hb:b<4294967296):a ^^^ b<4294967296:=Nat.xor_lt_two_pow (n:=32) ha hb
theorem xor_mod2 (a b:Nat):(a ^^^ b) % 2=(a+b) % 2:=by
 have h:=Nat.xor_mod_two_pow (a:=a) (b:=b) (n:=1)
 rw [Nat.pow_one] at h
 rw [h]
 rcases Nat.mod_two_eq_zero_or_one a with ha | ha<;>rcases Nat.mod_two_eq_zero_or_one b with hb | hb<;>rw [ha,hb]<;>simp<;>omega
theorem shr1_xor (a b:Nat):shr1 (a ^^^ b)=shr1 a ^^^ shr1 b:=by
 have hd:(a ^^^ b) / 2=a / 2 ^^^ b / 2:=Nat.xor_div_two
 have hm:(a ^^^ b) % 2=(a+b) % 2:=xor_mod2 _ _
 unfold shr1
 rw [hd,hm]
 by_cases ha:a % 2=1
 ·by_cases hb:b % 2=1
  ·rw [if_neg (by omega),if_pos ha,if_pos hb,xor_swap,Nat.xor_self,Nat.xor_zero]
  ·rw [if_pos (by omega),if_pos ha,if_neg hb,Nat.xor_assoc,Nat.xor_comm (b / 2),← Nat.xor_assoc]
 ·by_cases hb:b % 2=1
  ·rw [if_pos (by omega),if_neg ha,if_pos hb,Nat.xor_assoc]
  ·rw [if_neg (by omega),if_neg ha,if_neg hb]
theorem shr1_even (y:Nat):shr1 (2*y)=y:=by unfold shr1;rw [if_neg (by omega)];omega
theorem shr1_lt {s:Nat} (h:s<4294967296):shr1 s<4294967296:=by
 unfold shr1
 split
 ·exact xor_lt32 (by omega) (by decide)
 ·omega
theorem shrN_add (m n s:Nat):shrN (m+n) s=shrN n (shrN m s):=by
 induction m generalizing s with
 | zero=>rw [Nat.zero_add];rfl
 | succ m ih=>rw [Nat.succ_add,shrN,ih,shrN]
theorem shrN_xor (n a b:Nat):shrN n (a ^^^ b)=shrN n a ^^^ shrN n b:=by
 induction n generalizing a b with
 | zero=>rfl
 | succ n ih=>rw [shrN,shrN,shrN,shr1_xor,ih]
theorem shrN_lt {n s:Nat} (h:s<4294967296):shrN n s<4294967296:=by
 induction n generalizing s with
 | zero=>exact h
 | succ n ih=>exact ih (shr1_lt h)
def step8 (s c:Nat):Nat:=shrN 8 (s ^^^ c)
def upd (s:Nat) (bs:List Nat):Nat:=bs.foldl step8 s
theorem upd_cons (s c:Nat) (bs:List Nat):upd s (c::bs)=upd (step8 s c) bs:=rfl
theorem upd_append (s:Nat) (a b:List Nat):upd s (a++b)=upd (upd s a) b:=by simp [upd]
theorem upd_lt {s:Nat} (hs:s<4294967296) (bs:List Nat) (h:∀c∈bs,c<256):upd s bs<4294967296:=by
 induction bs generalizing s with
 | nil=>exact hs
 | cons c bs ih=>
  rw [upd_cons]
  exact ih (shrN_lt (xor_lt32 hs (by have:=h c (by simp);omega))) (fun c hc=>h c (by simp [hc]))
def le4 (t:Nat):List Nat:=[t % 256,t / 256 % 256,t / 65536 % 256,t / 16777216 % 256]
theorem le4_lt (t:Nat):∀c∈le4 t,c<256:=by intro c hc;simp [le4] at hc;omega
theorem max_xor (x:Nat) (h:x<4294967296):4294967295 ^^^ x=4294967295-x:=by
 apply Nat.eq_of_testBit_eq
 intro i
 have h1:=Nat.testBit_two_pow_sub_succ (n:=32) (x:=x) h i
 have h2:=Nat.testBit_two_pow_sub_one 32 i
 rw [show (2:Nat) ^ 32-1=4294967295 from rfl] at h2
 rw [show (2:Nat) ^ 32-(x+1)=4294967295-x from by omega] at h1
 rw [Nat.testBit_xor,h1,h2]
 by_cases hi:i<32
 ·simp [hi]
 ·have:x.testBit i=false:=Nat.testBit_lt_two_pow (Nat.lt_of_lt_of_le h (Nat.pow_le_pow_right (n:=2) (i:=32) (by decide) (by omega)))
  simp [hi,this]
def crcOf (b:List Nat):Nat:=4294967295-upd 4294967295 b
theorem crcOf_xor (b:List Nat) (h:∀c∈b,c<256):crcOf b=4294967295 ^^^ upd 4294967295 b:=(max_xor _ (upd_lt (by decide) b h)).symm
theorem crcOf_lt (b:List Nat):crcOf b<4294967296:=by unfold crcOf;omega
def withCrc (b:List Nat):List Nat:=b++le4 (crcOf b)
theorem withCrc_lt {b:List Nat} (h:∀c∈b,c<256):∀c∈withCrc b,c<256:=fun c hc=>by
 rcases List.mem_append.1 hc with h1 | h1
 ·exact h c h1
 ·exact le4_lt _ c h1
theorem withCrc_length (b:List Nat):(withCrc b).length=b.length+4:=by simp [withCrc,le4]
def fours:List Nat:=[0,498536548,997073096,651767980,1994146192,1802195444,1303535960,1342533948,3988292384,4027552580,3604390888,3412177804,2607071920,2262029012,2685067896,3183342108]
theorem fours_eq:∀i,i<16→fours.getD i 0=shrN 4 i:=by decide
theorem shrN_four (y:Nat):shrN 4 (16*y)=y:=by
 rw [show 16*y=2*(2*(2*(2*y))) by omega]
 simp only [shrN,shr1_even]
theorem shr4 (s:Nat):shrN 4 s=s / 16 ^^^ shrN 4 (s % 16):=by
 have e:s=16*(s / 16) ^^^ s % 16:=by
  apply Nat.eq_of_testBit_eq
  intro i
  have h1:16*(s / 16)=2 ^ 4*(s / 16):=rfl
  have h2:s % 16=s % 2 ^ 4:=rfl
  rw [Nat.testBit_xor,h1,h2,Nat.testBit_two_pow_mul,Nat.testBit_mod_two_pow,show (16:Nat)=2 ^ 4 from rfl,Nat.testBit_div_two_pow]
  by_cases hi:i<4
  ·simp [hi,show ¬4≤i by omega]
  ·simp [hi,show 4≤i by omega]
 conv=>lhs;rw [e]
 rw [shrN_xor,shrN_four]
theorem step8_fours (s c:Nat):step8 s c=shrN 4 (shrN 4 (s ^^^ c)):=by rw [step8,← shrN_add]
inductive Out (α:Type) where
 | ok (x:α) (to:Nat)
 | bad (e:Nat)
def outUint (B:List Nat) (a most:Nat):Out Nat:=match readAt B (a:Int) with
 | (x,to,0)=>if most<x then .bad 7 else .ok x to.toNat
 | (_,_,e+1)=>.bad (e+1)
def bytesOf (s:List Nat):List Nat:=groups s.length++s
def frameOf (id:Nat) (s:List Nat):List Nat:=withCrc (id::bytesOf s)
theorem bytesOf_lt {s:List Nat} (h:∀c∈s,c<256):∀c∈bytesOf s,c<256:=fun c hc=>by
 rcases List.mem_append.1 hc with h1 | h1
 ·exact groups_lt _ c h1
 ·exact h c h1
theorem frameOf_lt {id:Nat} {s:List Nat} (hi:id<256) (h:∀c∈s,c<256):∀c∈frameOf id s,c<256:=withCrc_lt (fun c hc=>by
 rcases List.mem_cons.1 hc with rfl | h1
 ·exact hi
 ·exact bytesOf_lt h c h1)
theorem bytesOf_length (s:List Nat):(bytesOf s).length=(groups s.length).length+s.length:=by simp [bytesOf]
theorem frameOf_length (id:Nat) (s:List Nat):(frameOf id s).length=1+(groups s.length).length+s.length+4:=by
 rw [frameOf,withCrc_length,List.length_cons,bytesOf_length];omega
theorem outUint_cases {B:List Nat} (hB:∀c∈B,c<256) {a:Nat} (ha:a≤B.length) (most:Nat) :
  (∃e,e≠0∧readAt B (a:Int)=(0,0,e)∧outUint B a most = .bad e)∨
  (∃x to:Nat,readAt B (a:Int)=(x,(to:Int),0)∧a<to∧to≤B.length∧x<18446744073709551616∧outUint B a most=if most<x then .bad 7 else .ok x to):=by
 rcases readAt_cases hB ha with ⟨e,he,hr⟩ | ⟨x,n,hr,hn,hin,hg,hx⟩
 ·refine .inl ⟨e,he,hr,?_⟩
  obtain ⟨k,rfl⟩:∃k,e=k+1:=⟨e-1,by omega⟩
  rw [outUint,hr]
 ·refine .inr ⟨x,a+n,hr,by omega,hin,hx,?_⟩
  rw [outUint,hr]
  simp only [Int.toNat_natCast]
end Go.Proofs.YtdcgbgecbeegmaaGreatDoor
end
