/- Texts 2. -/
import Derived.Test.YtdcgbgecbeegmaaGreatDoorMgSA
import Derived.Test.YtdcgbgecbeegmaaGreatDoorMgS1
set_option linter.unusedVariables false
set_option linter.unusedSimpArgs false
set_option maxHeartbeats 400000000
set_option maxRecDepth 100000
section
namespace Go.Proofs.YtdcgbgecbeegmaaGreatDoor
def FN (x:Nat):List Nat→List Nat
 | []=>[x]
 | y::l=>if y=x then y::l else if x<y then x::y::l else y::FN x l
def Dv (d l:List Nat):List Nat:=l.foldl (fun d x=>FN x d) d
def A2 (l:List Nat):List Nat:=Dv [] l
def bD (d:List Nat):Prop:=d.Pairwise (· < ·)
def CD (k:Nat):Nat:=if k≤1 then 0 else Nat.log2 (k-1)+1
theorem ZR (x z:Nat) (d:List Nat):z∈FN x d↔z=x∨z∈d:=by
 induction d with
 | nil=>simp [FN]
 | cons y l ih=>
  rw [FN]
  split
  ·next h=>subst h;simp
  ·split
   ·simp
   ·rw [zAS,ih,zAS]
    constructor
    ·rintro (h | h | h)
     ·exact Or.inr (Or.inl h)
     ·exact Or.inl h
     ·exact Or.inr (Or.inr h)
    ·rintro (h | h | h)
     ·exact Or.inr (Or.inl h)
     ·exact Or.inl h
     ·exact Or.inr (Or.inr h)
theorem nT (x:Nat) (d:List Nat) (h:bD d):bD (FN x d):=by
 induction d with
 | nil=>exact zCY _ _
 | cons y l ih=>
  obtain ⟨h1,h2⟩:=zAU.1 h
  rw [FN]
  split
  ·exact h
  ·next BC=>
   split
   ·next Aq=>
    exact zAU.2 ⟨fun z hz=>by
     rcases zAS.1 hz with e | e
     ·omega
     ·have:=h1 z e;omega,h⟩
   ·next T0=>
    exact zAU.2 ⟨fun z hz=>by
     rcases (ZR x z l).1 hz with e | e
     ·omega
     ·exact h1 z e,ih h2⟩
theorem sV (x:Nat) (d:List Nat) (ha:bD d) (h:x∈d):FN x d=d:=by
 induction d with
 | nil=>cases h
 | cons y l ih=>
  obtain ⟨h1,h2⟩:=zAU.1 ha
  rw [FN]
  split
  ·rfl
  ·next BC=>
   rcases zAS.1 h with e | e
   ·exact absurd e.symm BC
   ·rw [if_neg (by have:=h1 x e;omega),ih h2 e]
theorem dI (x:Nat) (a b:List Nat) (ha:∀z∈a,z<x) (hb:∀z∈b,x<z):FN x (a++b)=a++x::b:=by
 induction a with
 | nil=>
  cases b with
  | nil=>rfl
  | cons y l=>
   have:=hb y (zDD ..)
   rw [zBK,FN,if_neg (by omega),if_pos this,zBK]
 | cons y l ih=>
  have:=ha y (zDD ..)
  rw [zBX,FN,if_neg (by omega),if_neg (by omega),ih (fun z hz=>ha z (zCS _ hz)),zBX]
theorem sX (x:Nat) (d:List Nat):(FN x d).length≤d.length+1:=by
 induction d with
 | nil=>exact zAD _
 | cons y l ih=>
  rw [FN]
  split
  ·exact Nat.le_succ _
  ·split
   ·exact zAD _
   ·rw [zAH,zAH];omega
theorem WK (d l:List Nat) (h:bD d):bD (Dv d l):=by
 induction l generalizing d with
 | nil=>exact h
 | cons x l ih=>exact ih (FN x d) (nT x d h)
theorem WM (d l:List Nat) (z:Nat):z∈Dv d l↔z∈d∨z∈l:=by
 induction l generalizing d with
 | nil=>simp [Dv]
 | cons x l ih=>
  have:=ih (FN x d)
  show z∈Dv (FN x d) l↔_
  rw [this,ZR,zAS]
  constructor
  ·rintro ((h | h) | h)
   ·exact Or.inr (Or.inl h)
   ·exact Or.inl h
   ·exact Or.inr (Or.inr h)
  ·rintro (h | h | h)
   ·exact Or.inl (Or.inr h)
   ·exact Or.inl (Or.inl h)
   ·exact Or.inr h
theorem WL (d l:List Nat):(Dv d l).length≤d.length+l.length:=by
 induction l generalizing d with
 | nil=>exact zAD _
 | cons x l ih=>
  have h1:=ih (FN x d);have h2:=sX x d
  show (Dv (FN x d) l).length≤_
  rw [zAH];omega
theorem Ur (d l:List Nat) (x:Nat):Dv d (l++[x])=FN x (Dv d l):=by rw [Dv,zDL];rfl
theorem PT (l:List Nat):bD (A2 l):=WK [] l List.Pairwise.nil
theorem Ge (l:List Nat) (z:Nat):z∈A2 l↔z∈l:=by rw [A2,WM];simp
theorem PU (l:List Nat):(A2 l).length≤l.length:=by have:=WL [] l;rw [zBG] at this;rw [A2];omega
theorem de (l:List Nat) (x:Nat):A2 (l++[x])=FN x (A2 l):=Ur [] l x
theorem rP (a b:List Nat) (ha:bD a) (hb:bD b) (h:∀x,x∈a↔x∈b):a=b:=by
 induction a generalizing b with
 | nil=>
  cases b with
  | nil=>rfl
  | cons y l=>exact absurd ((h y).2 (zDD ..)) zCX
 | cons x a ih=>
  cases b with
  | nil=>exact absurd ((h x).1 (zDD ..)) zCX
  | cons y b=>
   obtain ⟨a1,a2⟩:=zAU.1 ha
   obtain ⟨b1,b2⟩:=zAU.1 hb
   have KH:x=y:=by
    rcases zAS.1 ((h x).1 (zDD ..)) with e | e
    ·exact e
    ·rcases zAS.1 ((h y).2 (zDD ..)) with f | f
     ·exact f.symm
     ·have:=b1 x e;have:=a1 y f;omega
   subst KH
   rw [ih b a2 b2 (fun z=>by
    constructor
    ·intro hz
     rcases zAS.1 ((h z).1 (zCS _ hz)) with e | e
     ·have:=a1 z hz;omega
     ·exact e
    ·intro hz
     rcases zAS.1 ((h z).2 (zCS _ hz)) with e | e
     ·have:=b1 z hz;omega
     ·exact e)]
theorem NA (l d:List Nat) (hd:bD d) (h:∀x,x∈d↔x∈l):A2 l=d:=
 rP _ _ (PT l) hd (fun x=>by rw [Ge,h])
theorem Po {k:Nat} (h:k≤128):CD k≤7:=by
 rw [CD]
 split
 ·omega
 ·have:Nat.log2 (k-1)<7:=(zHE (by omega)).2 (by omega)
  omega
def Ba (d:List Nat):List Bool:=d.flatMap fun x=>Aa x 64
def Bh (k:Nat) (is:List Nat):List Bool:=is.flatMap fun i=>Aa i (CD k)
def Zh (l:List Nat):List Bool:=if l=[] then [] else Aa ((A2 l).length-1) 7++(Ba (A2 l)++Bh (A2 l).length (l.map fun x=>(A2 l).idxOf x))
theorem dx {d:List Nat} {x:Nat} (h:x∈d):d.getD (d.idxOf x) 0=x:=by
 have hl:=zET h
 rw [zBP,zAC hl,zBM]
 exact List.getElem_idxOf hl
end Go.Proofs.YtdcgbgecbeegmaaGreatDoor
end
section
namespace Go.Proofs.YtdcgbgecbeegmaaGreatDoor
open Go
def RZ (l:List Nat):Bool:=decide ((A2 l).length≤128)
def Lt (l:List Nat):List Bool:=if RZ l then Zh l else []
theorem Dl (d:List Nat):(Ba d).length=64*d.length:=by
 induction d with
 | nil=>rfl
 | cons x d ih=>rw [Ba,zBN,zAB,Ae];rw [Ba] at ih;rw [ih,zAH];omega
theorem F7 (k:Nat) (is:List Nat):(Bh k is).length=CD k*is.length:=by
 induction is with
 | nil=>rfl
 | cons x d ih=>rw [Bh,zBN,zAB,Ae];rw [Bh] at ih;rw [ih,zAH,Nat.mul_add];omega
theorem LF (d:List Nat) (i:Nat) (h:i<d.length) (x:Nat) (hx:d[i]=x):Ba (d.take (i+1))=Ba (d.take i)++Aa x 64:=by
 rw [zAL,zAC h,hx,Ba,zBO];simp [Ba]
theorem UC (k:Nat) (is:List Nat) (i:Nat) (h:i<is.length) (x:Nat) (hx:is[i]=x):Bh k (is.take (i+1))=Bh k (is.take i)++Aa x (CD k):=by
 rw [zAL,zAC h,hx,Bh,zBO];simp [Bh]
end Go.Proofs.YtdcgbgecbeegmaaGreatDoor
end
