/- Texts 3. -/
import Derived.Test.YtdcgbgecbeegmaaGreatDoorMgSA
set_option linter.unusedVariables false
set_option linter.unusedSimpArgs false
set_option maxHeartbeats 400000000
set_option maxRecDepth 100000
section
namespace Go.Proofs.YtdcgbgecbeegmaaGreatDoor
section
section
variable {α:Type}
structure LtPre (lt:α→α→Bool):Prop where
 SP:∀a,lt a a=false
 tr:∀a b c,lt a b=true→lt b c=true→lt a c=true
structure MH (lt:α→α→Bool):Prop extends LtPre lt where
 kQ:∀a b,lt a b=false→lt b a=false→a=b
def AN (lt:α→α→Bool) (l:List α):Prop:=l.Pairwise (fun a b=>lt a b=true)
def BL (lt:α→α→Bool) (x:α):List α→List α
 | []=>[x]
 | y::l=>if lt y x then y::BL lt x l else if lt x y then x::y::l else y::l
def EM (lt:α→α→Bool) (t l:List α):List α:=l.foldl (fun t x=>BL lt x t) t
def Kh (lt:α→α→Bool) (l:List α):List α:=EM lt [] l
variable {lt:α→α→Bool}
theorem LtPre.uk (h:LtPre lt) {a b:α} (Gz:lt a b=true):lt b a=false:=by
 rcases zBH (lt b a) with hb | hb
 ·have:=h.tr a b a Gz hb;rw [h.SP] at this;cases this
 ·exact hb
theorem LtPre.ne (h:LtPre lt) {a b:α} (Gz:lt a b=true):a≠b:=fun e=>by subst e;rw [h.SP] at Gz;cases Gz
theorem MH.n9 (h:MH lt) {a b c:α} (Gz:lt b a=false) (hbc:lt b c=true):lt a c=true:=by
 rcases zBH (lt a b) with e | e
 ·exact h.tr a b c e hbc
 ·rw [h.kQ a b e Gz];exact hbc
theorem SO (h:MH lt) (x z:α) (d:List α):z∈BL lt x d↔z=x∨z∈d:=by
 induction d with
 | nil=>simp [BL]
 | cons y l ih=>
  rw [BL]
  split
  ·rw [zAS,ih,zAS]
   constructor
   ·rintro (h | h | h)
    ·exact Or.inr (Or.inl h)
    ·exact Or.inl h
    ·exact Or.inr (Or.inr h)
   ·rintro (h | h | h)
    ·exact Or.inr (Or.inl h)
    ·exact Or.inl h
    ·exact Or.inr (Or.inr h)
  ·next h1=>
   split
   ·simp
   ·next h2=>
    have e:y=x:=h.kQ y x (by simpa using h1) (by simpa using h2)
    subst e
    simp
theorem NR (h:MH lt) (x:α) (d:List α) (ha:AN lt d):AN lt (BL lt x d):=by
 induction d with
 | nil=>exact zCY _ _
 | cons y l ih=>
  obtain ⟨h1,h2⟩:=zAU.1 ha
  rw [BL]
  split
  ·next Xm=>
   exact zAU.2 ⟨fun z hz=>by
    rcases (SO h x z l).1 hz with e | e
    ·subst e;exact Xm
    ·exact h1 z e,ih h2⟩
  ·split
   ·next KH=>
    exact zAU.2 ⟨fun z hz=>by
     rcases zAS.1 hz with e | e
     ·subst e;exact KH
     ·exact h.tr _ _ _ KH (h1 z e),ha⟩
   ·exact ha
theorem RX (x:α) (d:List α):(BL lt x d).length≤d.length+1:=by
 induction d with
 | nil=>exact zAD _
 | cons y l ih=>
  rw [BL]
  split
  ·rw [zAH,zAH];omega
  ·split
   ·exact zAD _
   ·exact Nat.le_succ _
theorem gH (h:LtPre lt) (x:α) (a b:List α) (ha:∀z∈a,lt z x=true):BL lt x (a++x::b)=a++x::b:=by
 induction a with
 | nil=>rw [zBK,BL,if_neg (by rw [h.SP];simp),if_neg (by rw [h.SP];simp)]
 | cons y l ih=>
  rw [zBX,BL,if_pos (ha y (by simp)),ih (fun z hz=>ha z (by simp [hz]))]
theorem J1 (h:LtPre lt) (x:α) (a b:List α) (ha:∀z∈a,lt z x=true) (hb:∀z,b.head? = some z→lt x z=true):BL lt x (a++b)=a++x::b:=by
 induction a with
 | nil=>
  cases b with
  | nil=>rfl
  | cons y l=>
   have:=hb y rfl
   rw [zBK,BL,if_neg (by rw [h.uk this];simp),if_pos this,zBK]
 | cons y l ih=>
  rw [zBX,BL,if_pos (ha y (by simp)),ih (fun z hz=>ha z (by simp [hz])),zBX]
theorem jE (h:LtPre lt) (x:α) (d:List α) (hd:∀z∈d,lt z x=true):BL lt x d=d++[x]:=by
 have:=J1 h x d [] hd (fun z e=>by cases e)
 rwa [zBR] at this
theorem bi (h:MH lt) (t l:List α) (ht:AN lt t):AN lt (EM lt t l):=by
 induction l generalizing t with
 | nil=>exact ht
 | cons x l ih=>exact ih (BL lt x t) (NR h x t ht)
theorem bl (h:MH lt) (t l:List α) (z:α):z∈EM lt t l↔z∈t∨z∈l:=by
 induction l generalizing t with
 | nil=>simp [EM]
 | cons x l ih=>
  show z∈EM lt (BL lt x t) l↔_
  rw [ih (BL lt x t),SO h,zAS]
  constructor
  ·rintro ((h | h) | h)
   ·exact Or.inr (Or.inl h)
   ·exact Or.inl h
   ·exact Or.inr (Or.inr h)
  ·rintro (h | h | h)
   ·exact Or.inl (Or.inr h)
   ·exact Or.inl (Or.inl h)
   ·exact Or.inr h
theorem bj (t l:List α):(EM lt t l).length≤t.length+l.length:=by
 induction l generalizing t with
 | nil=>exact zAD _
 | cons x l ih=>
  have h1:=ih (BL lt x t);have h2:=RX (lt:=lt) x t
  show (EM lt (BL lt x t) l).length≤_
  rw [zAH];omega
theorem X4 (t l:List α) (x:α):EM lt t (l++[x])=BL lt x (EM lt t l):=by rw [EM,zDL];rfl
theorem Gw (h:MH lt) (l:List α):AN lt (Kh lt l):=bi h [] l List.Pairwise.nil
theorem Ly (h:MH lt) (l:List α) (z:α):z∈Kh lt l↔z∈l:=by rw [Kh,bl h];simp
theorem TG (l:List α):(Kh lt l).length≤l.length:=by have:=bj (lt:=lt) [] l;rw [zBG] at this;rw [Kh];omega
theorem Wi (l:List α) (x:α):Kh lt (l++[x])=BL lt x (Kh lt l):=X4 [] l x
theorem Gl (h:LtPre lt) (a b:List α) (ha:AN lt a) (hb:AN lt b) (hm:∀x,x∈a↔x∈b):a=b:=by
 induction a generalizing b with
 | nil=>
  cases b with
  | nil=>rfl
  | cons y l=>exact absurd ((hm y).2 (zDD ..)) zCX
 | cons x a ih=>
  cases b with
  | nil=>exact absurd ((hm x).1 (zDD ..)) zCX
  | cons y b=>
   obtain ⟨a1,a2⟩:=zAU.1 ha
   obtain ⟨b1,b2⟩:=zAU.1 hb
   have KH:x=y:=by
    rcases zAS.1 ((hm x).1 (zDD ..)) with e | e
    ·exact e
    ·rcases zAS.1 ((hm y).2 (zDD ..)) with f | f
     ·exact f.symm
     ·have p:=b1 x e;have q:=a1 y f
      rw [h.uk p] at q;cases q
   subst KH
   rw [ih b a2 b2 (fun z=>?_)]
   constructor
   ·intro hz
    rcases zAS.1 ((hm z).1 (zCS _ hz)) with e | e
    ·subst e;exact absurd rfl (h.ne (a1 z hz))
    ·exact e
   ·intro hz
    rcases zAS.1 ((hm z).2 (zCS _ hz)) with e | e
    ·subst e;exact absurd rfl (h.ne (b1 z hz))
    ·exact e
theorem iz (h:LtPre lt) {l:List α} {x:α}:AN lt (l++[x])↔AN lt l∧(∀y,l.getLast? = some y→lt y x=true):=by
 constructor
 ·intro ha
  obtain ⟨h1,_,h3⟩:=zEP.1 ha
  exact ⟨h1,fun y hy=>h3 y (List.mem_of_getLast? hy) x (by simp)⟩
 ·rintro ⟨h1,h2⟩
  refine zEP.2 ⟨h1,zCY _ _,fun a ha b hb=>?_⟩
  simp only [zCF] at hb
  subst hb
  rcases List.eq_nil_or_concat l with e | ⟨p,y,e⟩
  ·subst e;cases ha
  ·have hy:lt y b=true:=h2 y (by rw [e];simp)
   rw [List.concat_eq_append] at e
   subst e
   rcases zBJ.1 ha with e | e
   ·exact h.tr _ _ _ ((zEP.1 h1).2.2 a e y (by simp)) hy
   ·simp only [zCF] at e;subst e;exact hy
theorem YT {l:List α} (h:AN lt l) {i j:Nat} (C3:i<j) (hj:j<l.length):lt (l[i]'(by omega)) l[j]=true:=zBW.1 h i j (by omega) hj C3
end
end
end Go.Proofs.YtdcgbgecbeegmaaGreatDoor
end
