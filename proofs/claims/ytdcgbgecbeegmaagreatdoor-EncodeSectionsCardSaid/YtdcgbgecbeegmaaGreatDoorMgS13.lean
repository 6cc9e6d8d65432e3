/- Texts 13. -/
import Derived.Test.YtdcgbgecbeegmaaGreatDoorMgSA
import Derived.Test.YtdcgbgecbeegmaaGreatDoorMgS12
set_option linter.unusedVariables false
set_option linter.unusedSimpArgs false
set_option maxHeartbeats 400000000
set_option maxRecDepth 100000
section
namespace Go.Proofs.YtdcgbgecbeegmaaGreatDoor
section
theorem Lv {α:Type} {p:List α→Prop} (h0:p []) (h1:∀l x,p l→p (l++[x])) (l:List α):p l:=by
 have h:∀l:List α,p l.reverse:=fun l=>by
  induction l with
  | nil=>exact h0
  | cons x l ih=>rw [List.reverse_cons];exact h1 _ _ ih
 have:=h l.reverse
 rwa [List.reverse_reverse] at this
section
variable {α:Type}
structure b8 (lt:α→α→Bool):Prop extends LtPre lt where
 co:∀a b c,lt a c=true→lt a b=true∨lt b c=true
variable {lt:α→α→Bool}
def Mg (lt:α→α→Bool) (x:α) (d:List α):Nat:=d.length-(d.reverse.takeWhile (fun y=>lt x y)).length
def jF (lt:α→α→Bool) (x:α) (d:List α):List α:=d.take (Mg lt x d)++x::d.drop (Mg lt x d)
def CW (lt:α→α→Bool) (l:List α):List α:=l.foldl (fun d x=>jF lt x d) []
theorem XH {x:α} {d:List α} {k:Nat} (hk:k≤d.length) (h1:∀y∈d.drop k,lt x y=true) (h2:∀y,0<k→d[k-1]? = some y→lt x y=false):Mg lt x d=k:=by
 have hs:d.reverse=(d.drop k).reverse++(d.take k).reverse:=by rw [← List.reverse_append,zBD]
 have ht:d.reverse.takeWhile (fun y=>lt x y)=(d.drop k).reverse:=by
  rw [hs,List.takeWhile_append_of_pos (fun y hy=>h1 y (List.mem_reverse.1 hy))]
  have:(d.take k).reverse.takeWhile (fun y=>lt x y)=[]:=by
   rcases zDE k with rfl | hp
   ·simp
   ·have Aq:k-1<d.length:=by omega
    have hl:d.take k=d.take (k-1)++[d[k-1]]:=by
     conv=>lhs;rw [show k=(k-1)+1 by omega]
     rw [zAL,zAC Aq];rfl
    rw [hl,List.reverse_append,List.reverse_singleton,List.singleton_append,List.takeWhile_cons,h2 _ hp (zAC Aq)]
    rfl
  rw [this,zBR]
 rw [Mg,ht,List.length_reverse,zCN];omega
theorem j4 (x:α) (d:List α):Mg lt x d≤d.length∧(∀y∈d.drop (Mg lt x d),lt x y=true)∧(∀y,0<Mg lt x d→d[Mg lt x d-1]? = some y→lt x y=false):=by
 induction d using Lv with
 | h0=>exact ⟨zAD _,fun y hy=>by simp at hy,fun y h _=>by simp [Mg] at h⟩
 | h1 d z ih=>
  by_cases hz:lt x z=true
  ·have hp:Mg lt x (d++[z])=Mg lt x d:=by
    refine XH (by rw [zAB];have:=ih.1;omega) (fun y hy=>?_) (fun y h0 hy=>?_)
    ·rw [zDA ih.1] at hy
     rcases zBJ.1 hy with e | e
     ·exact ih.2.1 y e
     ·rw [zCF.1 e];exact hz
    ·rw [zCE (by have:=ih.1;omega)] at hy
     exact ih.2.2 y h0 hy
   rw [hp]
   refine ⟨by rw [zAB];have:=ih.1;omega,fun y hy=>?_,fun y h0 hy=>?_⟩
   ·rw [zDA ih.1] at hy
    rcases zBJ.1 hy with e | e
    ·exact ih.2.1 y e
    ·rw [zCF.1 e];exact hz
   ·rw [zCE (by have:=ih.1;omega)] at hy
    exact ih.2.2 y h0 hy
  ·have hp:Mg lt x (d++[z])=d.length+1:=by
    refine XH (by simp) (fun y hy=>?_) (fun y h0 hy=>?_)
    ·rw [zBF (by simp)] at hy;cases hy
    ·rw [zDK,zBS (zAD _),zFD] at hy
     simp at hy;subst hy;simpa using hz
   rw [hp]
   refine ⟨by simp,fun y hy=>?_,fun y h0 hy=>?_⟩
   ·rw [zBF (by simp)] at hy;cases hy
   ·rw [zDK,zBS (zAD _),zFD] at hy
    simp at hy;subst hy;simpa using hz
theorem jG (x:α) (d:List α):(jF lt x d).Perm (x::d):=by
 unfold jF
 refine (List.perm_middle).trans ?_
 rw [zBD]
def PJ (lt:α→α→Bool) (d:List α):Prop:=d.Pairwise (fun a b=>lt b a=false)
theorem nU (h : b8 lt) (x : α) (d : List α) (hd : PJ lt d) : PJ lt (jF lt x d) := by
  obtain ⟨h1, h2, h3⟩ := j4 (lt := lt) x d
  generalize Mg lt x d = k at *
  have hk : jF lt x d = d.take (Mg lt x d) ++ x :: d.drop (Mg lt x d) := rfl
  have hp : Mg lt x d = k := XH h1 h2 h3
  rw [hk, hp]
  have hsp : PJ lt (d.take k ++ d.drop k) := by rw [zBD]; exact hd
  obtain ⟨a1, a2, a3⟩ := zEP.1 hsp
  refine zEP.2 ⟨a1, zAU.2 ⟨fun b hb => h.uk (h2 b hb), a2⟩, fun a ha b hb => ?_⟩
  rcases zAS.1 hb with rfl | hb
  · have hp : 0 < k := by rcases zDE k with rfl | hp; · simp at ha
                          · exact hp
    have Aq : k - 1 < d.length := by omega
    have hy := h3 d[k - 1] hp (zAC Aq)
    obtain ⟨i, hi, rfl⟩ := zEH ha
    rw [zAR] at hi
    rw [zGA]
    rcases zBH (lt b d[i]) with e | e
    · rcases h.co b d[k - 1] d[i] e with f | f
      · rw [hy] at f; cases f
      · rcases Nat.lt_or_eq_of_le (show i ≤ k - 1 by omega) with g | g
        · have := zBW.1 hd i (k - 1) (by omega) Aq g
          rw [this] at f; cases f
        · simp only [g] at f; rw [h.SP] at f; cases f
    · exact e
  · exact a3 a ha b hb
theorem Tz (l:List α) (x:α):CW lt (l++[x])=jF lt x (CW lt l):=by rw [CW,zDL];rfl
theorem CR (l:List α):(CW lt l).Perm l:=by
 induction l using Lv with
 | h0=>exact zGZ _
 | h1 l x ih=>
  rw [Tz]
  exact (jG x _).trans ((List.Perm.cons x ih).trans (List.perm_append_singleton x l).symm)
theorem Qk (h:b8 lt) (l:List α):PJ lt (CW lt l):=by
 induction l using Lv with
 | h0=>exact List.Pairwise.nil
 | h1 l x ih=>rw [Tz];exact nU h x _ ih
theorem Wd (l:List α):(CW lt l).length=l.length:=(CR l).length_eq
def KR (lt:α→α→Bool) (l:List α):Prop:=l.Pairwise (fun a b=>lt a b=true∨lt b a=true)
theorem KR.perm {l m:List α} (h:l.Perm m):KR lt l↔KR lt m:=h.pairwise_iff (fun {_ _} e=>e.symm)
theorem ML {d:List α} (h:PJ lt d) (hk:KR lt d):AN lt d:=by
 refine (List.pairwise_and_iff.2 ⟨h,hk⟩).imp (fun {_ _} e=>?_)
 rcases e.2 with f | f
 ·exact f
 ·rw [e.1] at f;cases f
theorem DC {d:List α} (h:AN lt d):KR lt d:=h.imp (fun {_ _} e=>Or.inl e)
theorem Jz (h:b8 lt) {l:List α} (hk:KR lt l):AN lt (CW lt l):=ML (Qk h l) ((KR.perm (CR l)).2 hk)
theorem Wc (h:b8 lt) {l m:List α} (hk:KR lt l) (hp:l.Perm m):CW lt l=CW lt m:=
 Gl h.toLtPre _ _ (Jz h hk) (Jz h ((KR.perm hp).1 hk)) (fun x=>by rw [(CR l).mem_iff,(CR m).mem_iff,hp.mem_iff])
theorem Pi (h:b8 lt) {l:List α} (ha:AN lt l):CW lt l=l:=
 Gl h.toLtPre _ _ (Jz h (DC ha)) ha (fun _=>(CR l).mem_iff)
end
end
end Go.Proofs.YtdcgbgecbeegmaaGreatDoor
end
section
namespace Go.Proofs.YtdcgbgecbeegmaaGreatDoor
open Go Go.RowKit
abbrev Dt:=Int × Nat
abbrev AJ:=List AC × List Dt
def Aw (b:List AJ):Nat:=(b.map fun s=>s.2.length).sum
theorem Fn (s:AJ) (b:List AJ):Aw (s::b)=s.2.length+Aw b:=by simp [Aw]
theorem Eh (a b:List AJ):Aw (a++b)=Aw a+Aw b:=by simp [Aw]
theorem CY (b:List AJ) (i:Nat):Aw (b.take i)≤Aw b:=by
 have:Aw b=Aw (b.take i)+Aw (b.drop i):=by rw [← Eh,zBD]
 omega
theorem Pf {b:List AJ} {s:AJ} (h:s∈b):s.2.length≤Aw b:=by
 induction b with
 | nil=>cases h
 | cons x b ih=>
  rw [Fn]
  rcases zAS.1 h with rfl | h
  ·omega
  ·have:=ih h;omega
def BO:Int→List Dt→Nat
 | _,[]=>0
 | t,s::l=>if s.1=t then 20 else if s.1<t then 16 else BO s.1 l
def Bj:List Dt→Nat
 | []=>0
 | s::l=>BO s.1 l
def Cr (s:AJ):Nat:=if BZ s.1≠0 then BZ s.1 else if s.2=[] then 21 else Bj s.2
def Bb:Option (List AC)→List AJ→Nat
 | _,[]=>0
 | p,s::l=>if Cr s≠0 then Cr s else match p with
  | none=>Bb (some s.1) l
  | some q=>if Az q s.1=0 then 19 else if 0<Az q s.1 then 16 else Bb (some s.1) l
def A0 (b:List AJ):Nat:=Bb none b
def N1 (a b:Dt):Bool:=decide (a.1<b.1)
def P9 (a b:AJ):Bool:=decide (Az a.1 b.1 = -1)
def KI (s:AJ):AJ:=((BD s.1).2,CW N1 s.2)
def Fa (s:AJ):Nat:=if (BD s.1).1≠0 then (BD s.1).1 else if s.2=[] then 21 else Bj (CW N1 s.2)
def Dj:List AJ→Nat
 | []=>0
 | s::l=>if Fa s≠0 then Fa s else Dj l
def L9:List AJ→Bool
 | a::b::l=>decide (Az a.1 b.1=0) || L9 (b::l)
 | _=>false
def D5 (l:List AJ):Nat × List AJ:=
 if Dj l≠0 then (Dj l,[]) else if L9 (CW P9 (l.map KI))=true then (19,[]) else (0,CW P9 (l.map KI))
theorem M0:b8 N1:=⟨⟨fun a=>by simp [N1],fun a b c h1 h2=>by simp [N1] at *;omega⟩,fun a b c h=>by simp [N1] at *;omega⟩
theorem J4:b8 P9:=by
 refine ⟨⟨fun a=>by simp [P9,BJ.refl],fun a b c h1 h2=>?_⟩,fun a b c h=>?_⟩
 ·simp only [P9,zCH] at *;exact BJ.tr _ _ _ h1 h2
 ·simp only [P9,zCH] at *
  rcases BJ.Yo a.1 b.1 with e | e | e
  ·exact Or.inl e
  ·right;rw [← (BJ.eq _ _).1 e];exact h
  ·right
   have h1:Az b.1 a.1 = -1:=by rw [BJ.flip a.1 b.1,e]
   exact BJ.tr _ _ _ h1 h
theorem TI (l:List Dt):∀(a:Dt),BO a.1 l=0↔AN N1 (a::l):=by
 induction l with
 | nil=>intro a;exact ⟨fun _=>zCY _ _,fun _=>rfl⟩
 | cons s l ih=>
  intro a
  rw [BO]
  constructor
  ·intro h
   split at h
   ·cases h
   ·next h1=>
    split at h
    ·cases h
    ·next h2=>
     have h3:=(ih s).1 h
     have Gz:N1 a s=true:=by simp [N1];omega
     refine zAU.2 ⟨fun y hy=>?_,h3⟩
     rcases zAS.1 hy with rfl | hy
     ·exact Gz
     ·exact M0.tr _ _ _ Gz ((zAU.1 h3).1 y hy)
  ·intro h
   obtain ⟨h1,h2⟩:=zAU.1 h
   have Gz:=h1 s (by simp)
   simp [N1] at Gz
   rw [if_neg (by omega),if_neg (by omega)]
   exact (ih s).2 h2
theorem GV (l:List Dt):Bj l=0↔AN N1 l:=by
 cases l with
 | nil=>exact ⟨fun _=>List.Pairwise.nil,fun _=>rfl⟩
 | cons s l=>exact TI l s
theorem fx (l:List Dt):Bj (CW N1 l)=0↔KR N1 l:=by
 rw [GV]
 exact ⟨fun h=>(KR.perm (CR l)).1 (DC h),fun h=>Jz M0 h⟩
theorem Sw (l:List AJ):Dj l=0↔∀s∈l,Fa s=0:=by
 induction l with
 | nil=>simp [Dj]
 | cons s l ih=>
  rw [Dj]
  split
  ·next h=>exact ⟨fun e=>absurd e h,fun e=>absurd (e s (by simp)) h⟩
  ·next h=>rw [ih];simp only [zAS,forall_eq_or_imp];exact ⟨fun e=>⟨zGW.1 h,e⟩,fun e=>e.2⟩
theorem MK {d:List AJ} (h:PJ P9 d):L9 d=false↔AN P9 d:=by
 induction d with
 | nil=>exact ⟨fun _=>List.Pairwise.nil,fun _=>rfl⟩
 | cons a l ih=>
  obtain ⟨h1,h2⟩:=zAU.1 h
  cases l with
  | nil=>exact ⟨fun _=>zCY _ _,fun _=>rfl⟩
  | cons b l=>
   rw [L9,Bool.or_eq_false_iff,ih h2]
   have gk:=h1 b (by simp)
   constructor
   ·rintro ⟨e1,e2⟩
    have Gz:P9 a b=true:=by
     simp only [P9,zCH,zDF] at *
     rw [BJ.flip a.1 b.1] at gk
     rcases BJ.Yo a.1 b.1 with e | e | e
     ·exact e
     ·exact absurd e e1
     ·exact absurd (by rw [e]) gk
    refine zAU.2 ⟨fun y hy=>?_,e2⟩
    rcases zAS.1 hy with rfl | hy
    ·exact Gz
    ·exact J4.tr _ _ _ Gz ((zAU.1 e2).1 y hy)
   ·intro e
    obtain ⟨f1,f2⟩:=zAU.1 e
    have:=f1 b (by simp)
    simp only [P9,zCH] at this
    exact ⟨by rw [this];rfl,f2⟩
theorem mj (l:List AJ):L9 (CW P9 l)=false↔KR P9 l:=by
 rw [MK (Qk J4 l)]
 exact ⟨fun h=>(KR.perm (CR l)).1 (DC h),fun h=>Jz J4 h⟩
structure Mj (b:List AJ):Prop where
 NV:∀s∈b,AN My s.1∧∀x∈s.1,B4 x=0
 ne:∀s∈b,s.2≠[]
 asc:∀s∈b,AN N1 s.2
 T6:AN P9 b
end Go.Proofs.YtdcgbgecbeegmaaGreatDoor
end
