/- Texts 17. -/
import Derived.Test.YtdcgbgecbeegmaaGreatDoorMgSA
import Derived.Test.YtdcgbgecbeegmaaGreatDoorMgS16
set_option linter.unusedVariables false
set_option linter.unusedSimpArgs false
set_option maxHeartbeats 400000000
set_option maxRecDepth 100000
section
namespace Go.Proofs.YtdcgbgecbeegmaaGreatDoor
section
theorem Es {B:List Nat} (hB:∀c∈B,c<256) {a m x:Nat} {to:Int} (ham:a≤m) (hm:m≤B.length) (h:G8 B (a:Int)=(x,to,0)) :
  ∃b:Nat,to=(b:Int)∧a<b∧b≤B.length∧B.drop a=Ab x++B.drop b∧b=a+(Ab x).length∧x<18446744073709551616∧G8 (B.take m) (a:Int)=if b≤m then (x,(b:Int),0) else (0,0,3):=by
 rcases Cq hB (zAW ham hm) with ⟨e,he,hr⟩ | ⟨y,n,hr,hn,Ct,hg,hy⟩
 ·rw [h] at hr;simp only [zHD] at hr;exact absurd hr.2.2.symm he
 ·rw [h] at hr
  simp only [zHD] at hr
  obtain ⟨rfl,rfl,_⟩:=hr
  have hl:(Ab x).length=n:=by rw [← hg,zCN,zAR];omega
  have hd:B.drop a=Ab x++B.drop (a+n):=by
   have:B.drop a=(B.take (a+n)++B.drop (a+n)).drop a:=by rw [zBD]
   rw [this,zDA (by rw [zAR];omega),hg]
  have nL:(B.take a).length=a:=by rw [zAR];omega
  have hBs:B=B.take a++(Ab x++B.drop (a+n)):=by rw [← hd,zBD]
  have htm:B.take m=B.take a++(Ab x++B.drop (a+n)).take (m-a):=by
   have h0:B.take m=(B.take a++(Ab x++B.drop (a+n))).take m:=by rw [← hBs]
   rw [h0,List.take_append,nL,zAF (l:=B.take a) (by omega)]
  refine ⟨a+n,rfl,by omega,Ct,hd,by rw [hl],hy,?_⟩
  by_cases NQ:a+n≤m
  ·rw [if_pos NQ,htm]
   have h1:(Ab x++B.drop (a+n)).take (m-a)=Ab x++(B.drop (a+n)).take (m-a-n):=by
    rw [List.take_append,hl,zAF (l:=Ab x) (by omega)]
   rw [h1,← zAK]
   have:=Fm (B.take a) ((B.drop (a+n)).take (m-a-n)) hy
   rw [nL,hl] at this
   exact this
  ·rw [if_neg NQ,htm]
   have h1:(Ab x++B.drop (a+n)).take (m-a)=(Ab x).take (m-a):=by
    rw [List.take_append_of_le_length (by omega)]
   rw [h1]
   have hp:=RJ x 0 0 (m-a) (by decide) (by simpa using hy) (by omega)
   have h2:AX ((B.take a++(Ab x).take (m-a)).drop a) 0 0=(0,0,3):=by
    rw [zDA (by omega),zBF (by omega),zBK];exact hp
   rw [LW (by rw [zAB];omega) h2];rfl
structure Cs {α:Type} (p:List Nat→Nat→Mm α) (f:α→List Nat) (ok:α→Prop):Prop where
 back:∀(pre rest:List Nat) (x:α),ok x→p (pre++f x++rest) pre.length = .ok x (pre.length+(f x).length)
 inv:∀{B:List Nat} {a:Nat} {x:α} {b:Nat},(∀c∈B,c<256)→a≤B.length→p B a = .ok x b→ok x∧B.drop a=f x++B.drop b∧a<b∧b≤B.length
 bad:∀{B:List Nat} {a e:Nat},(∀c∈B,c<256)→a≤B.length→p B a = .bad e→e≠0
 cut:∀{B:List Nat} {a:Nat} {x:α} {b m:Nat},(∀c∈B,c<256)→a≤m→m≤B.length→p B a = .ok x b→p (B.take m) a = .bad 3∨(b≤m∧p (B.take m) a = .ok x b)
 pos:∀x,ok x→0<(f x).length
 lt:∀x,ok x→∀c∈f x,c<256
def S9 {α:Type} (g:Nat→Option α) (z:Nat) (B:List Nat) (a:Nat):Mm α:=match G8 B (a:Int) with
 | (n,to,0)=>match g n with
  | some x=>.ok x to.toNat
  | none=>.bad z
 | (_,_,e+1)=>.bad (e+1)
theorem Qf {α:Type} {g:Nat→Option α} {h:α→Nat} {ok:α→Prop} {z:Nat} (hz:z≠0) (h1:∀x,ok x→g (h x)=some x∧h x<18446744073709551616) (h2:∀n x,g n=some x→ok x∧h x=n):Cs (S9 g z) (fun x=>Ab (h x)) ok where
 back:=fun pre rest x hx=>by
  obtain ⟨e1,e2⟩:=h1 x hx
  rw [S9,Fm pre rest e2]
  simp only [e1,zCA]
 inv:=fun {B a x b} hB ha hp=>by
  rcases Cq hB ha with ⟨e,he,hr⟩ | ⟨y,n,hr,hn,Ct,hg,hy⟩
  ·obtain ⟨k,rfl⟩:∃k,e=k+1:=⟨e-1,by omega⟩
   rw [S9,hr] at hp;cases hp
  ·obtain ⟨b',hb,h3,h4,h5,h6,h7,_⟩:=Es hB (zAD a) ha hr
   rw [S9,hr] at hp
   simp only at hp
   split at hp
   ·next x' hx'=>
    cases hp
    obtain ⟨k1,k2⟩:=h2 _ _ hx'
    rw [zCA]
    have:b'=a+n:=by omega
    subst this
    exact ⟨k1,by rw [k2];exact h5,by omega,h4⟩
   ·cases hp
 bad:=fun {B a e} hB ha hp=>by
  rw [S9] at hp
  split at hp
  ·split at hp
   ·cases hp
   ·cases hp;exact hz
  ·cases hp;omega
 cut:=fun {B a x b m} hB ha hm hp=>by
  rcases Cq hB (zAW ha hm) with ⟨e,he,hr⟩ | ⟨y,n,hr,hn,Ct,hg,hy⟩
  ·obtain ⟨k,rfl⟩:∃k,e=k+1:=⟨e-1,by omega⟩
   rw [S9,hr] at hp;cases hp
  ·obtain ⟨b',hb,h3,h4,h5,h6,h7,h8⟩:=Es hB ha hm hr
   rw [S9,hr] at hp
   simp only at hp
   split at hp
   ·next x' hx'=>
    cases hp
    have e:b'=a+n:=by omega
    rw [S9,h8]
    by_cases NQ:b'≤m
    ·rw [if_pos NQ]
     refine Or.inr ⟨by rw [zCA];omega,?_⟩
     simp only [hx']
     rw [← hb]
    ·rw [if_neg NQ];exact Or.inl rfl
   ·cases hp
 pos:=fun x _=>MU _
 lt:=fun x _=>Gf _
def Lp {α β:Type} (p:List Nat→Nat→Mm α) (q:List Nat→Nat→Mm β) (B:List Nat) (a:Nat):Mm (α × β):=match p B a with
 | .bad e=>.bad e
 | .ok x b=>match q B b with
  | .bad e=>.bad e
  | .ok y c=>.ok (x,y) c
theorem Nb {α β:Type} {p:List Nat→Nat→Mm α} {q:List Nat→Nat→Mm β} {f:α→List Nat} {g:β→List Nat} {ok1:α→Prop} {ok2:β→Prop} (hp:Cs p f ok1) (hq:Cs q g ok2) :
  Cs (Lp p q) (fun x=>f x.1++g x.2) (fun x=>ok1 x.1∧ok2 x.2) where
 back:=fun pre rest x hx=>by
  have e1:=hp.back pre (g x.2++rest) x.1 hx.1
  have e2:=hq.back (pre++f x.1) rest x.2 hx.2
  have e0:pre++(f x.1++g x.2)++rest=pre++f x.1++(g x.2++rest):=by simp
  have e3:pre++(f x.1++g x.2)++rest=pre++f x.1++g x.2++rest:=by simp
  rw [Lp,e0,e1]
  simp only
  rw [← e0,e3,← zAB,e2]
  simp only [zAB,zDH]
 inv:=fun {B a x c} hB ha h=>by
  rw [Lp] at h
  split at h
  ·cases h
  ·next y b h1=>
   split at h
   ·cases h
   ·next z c' h2=>
    cases h
    obtain ⟨a1,a2,a3,a4⟩:=hp.inv hB ha h1
    obtain ⟨b1,b2,b3,b4⟩:=hq.inv hB a4 h2
    exact ⟨⟨a1,b1⟩,by rw [a2,b2,zAK],by omega,b4⟩
 bad:=fun {B a e} hB ha h=>by
  rw [Lp] at h
  split at h
  ·next e' h1=>cases h;exact hp.bad hB ha h1
  ·next y b h1=>
   split at h
   ·next e' h2=>cases h;exact hq.bad hB (hp.inv hB ha h1).2.2.2 h2
   ·cases h
 cut:=fun {B a x c m} hB ha hm h=>by
  rw [Lp] at h
  split at h
  ·cases h
  ·next y b h1=>
   split at h
   ·cases h
   ·next z c' h2=>
    cases h
    rcases hp.cut hB ha hm h1 with e1 | ⟨hb,e1⟩
    ·rw [Lp,e1];exact Or.inl rfl
    ·rcases hq.cut hB hb hm h2 with e2 | ⟨hc,e2⟩
     ·exact Or.inl (by rw [Lp,e1];simp only [e2])
     ·exact Or.inr ⟨hc,by rw [Lp,e1];simp only [e2]⟩
 pos:=fun x hx=>by rw [zAB];have:=hp.pos _ hx.1;omega
 lt:=fun x hx c hc=>by
  rcases zBJ.1 hc with h | h
  ·exact hp.lt _ hx.1 c h
  ·exact hq.lt _ hx.2 c h
def EW {α:Type} (p:List Nat→Nat→Mm α) (B:List Nat):Nat→Nat→List α→Mm (List α)
 | 0,a,acc=>.ok acc a
 | k+1,a,acc=>match p B a with
  | .bad e=>.bad e
  | .ok x b=>EW p B k b (acc++[x])
def Ky {α:Type} (z:Nat) (p:List Nat→Nat→Mm α) (B:List Nat) (a:Nat):Mm (List α):=match G8 B (a:Int) with
 | (n,to,0)=>if B.length-to.toNat<n then .bad 3 else if z≠0∧n=0 then .bad z else EW p B n to.toNat []
 | (_,_,e+1)=>.bad (e+1)
section
variable {α:Type} {p:List Nat→Nat→Mm α} {f:α→List Nat} {ok:α→Prop}
theorem jN (h:Cs p f ok) (rest:List Nat) (l:List α):∀(pre:List Nat) (acc:List α),(∀x∈l,ok x)→EW p (pre++l.flatMap f++rest) l.length pre.length acc = .ok (acc++l) (pre.length+(l.flatMap f).length):=by
 induction l with
 | nil=>intro pre acc _;simp [EW]
 | cons x l ih=>
  intro pre acc ho
  have e0:pre++(x::l).flatMap f++rest=pre++f x++(l.flatMap f++rest):=by simp
  have e1:=h.back pre (l.flatMap f++rest) x (ho x (by simp))
  have e2:=ih (pre++f x) (acc++[x]) (fun y hy=>ho y (by simp [hy]))
  rw [zAH,EW,e0,e1]
  simp only
  rw [← zAK,← zAB,e2]
  simp [zDH]
theorem pp (h:Cs p f ok) {B:List Nat} (hB:∀c∈B,c<256):∀(k a:Nat) (acc u:List α) (b:Nat),a≤B.length→EW p B k a acc = .ok u b→∃l,u=acc++l∧l.length=k∧(∀x∈l,ok x)∧B.drop a=l.flatMap f++B.drop b∧a≤b∧b≤B.length:=by
 intro k
 induction k with
 | zero=>intro a acc u b ha hp;rw [EW] at hp;cases hp;exact ⟨[],by simp,rfl,(fun _ h=>by cases h),rfl,zAD _,ha⟩
 | succ k ih=>
  intro a acc u b ha hp
  rw [EW] at hp
  split at hp
  ·cases hp
  ·next x b1 h1=>
   obtain ⟨a1,a2,a3,a4⟩:=h.inv hB ha h1
   obtain ⟨l,e1,e2,e3,e4,e5,e6⟩:=ih b1 (acc++[x]) u b a4 hp
   refine ⟨x::l,by rw [e1];simp,by simp [e2],?_,by rw [a2,e4];simp,by omega,e6⟩
   intro y hy
   rcases zAS.1 hy with rfl | hy
   ·exact a1
   ·exact e3 y hy
theorem pk (h:Cs p f ok) {B:List Nat} (hB:∀c∈B,c<256):∀(k a:Nat) (acc:List α) (e:Nat),a≤B.length→EW p B k a acc = .bad e→e≠0:=by
 intro k
 induction k with
 | zero=>intro a acc e _ hp;rw [EW] at hp;cases hp
 | succ k ih=>
  intro a acc e ha hp
  rw [EW] at hp
  split at hp
  ·next e' h1=>cases hp;exact h.bad hB ha h1
  ·next x b1 h1=>exact ih b1 _ e (h.inv hB ha h1).2.2.2 hp
theorem po (h:Cs p f ok) {B:List Nat} (hB:∀c∈B,c<256) {m:Nat} (hm:m≤B.length):∀(k a:Nat) (acc u:List α) (b:Nat),a≤m→EW p B k a acc = .ok u b→EW p (B.take m) k a acc = .bad 3∨(b≤m∧EW p (B.take m) k a acc = .ok u b):=by
 intro k
 induction k with
 | zero=>intro a acc u b ha hp;rw [EW] at hp;cases hp;exact Or.inr ⟨ha,rfl⟩
 | succ k ih=>
  intro a acc u b ha hp
  rw [EW] at hp
  split at hp
  ·cases hp
  ·next x b1 h1=>
   rcases h.cut hB ha hm h1 with e1 | ⟨hb,e1⟩
   ·rw [EW,e1];exact Or.inl rfl
   ·rw [EW,e1];exact ih b1 _ u b hb hp
theorem sm (h:Cs p f ok) (l:List α) (ho:∀x∈l,ok x):l.length≤(l.flatMap f).length:=by
 induction l with
 | nil=>exact zAD _
 | cons x l ih=>rw [zBN,zAB,zAH];have:=h.pos x (ho x (by simp));have:=ih (fun y hy=>ho y (by simp [hy]));omega
theorem Na {z:Nat} (h:Cs p f ok):Cs (Ky z p) (fun l=>Ab l.length++l.flatMap f) (fun l=>(∀x∈l,ok x)∧l.length<18446744073709551616∧(z≠0→l≠[])) where
 back:=fun pre rest l hl=>by
  have e0:pre++(Ab l.length++l.flatMap f)++rest=pre++Ab l.length++(l.flatMap f++rest):=by simp
  have e3:pre++(Ab l.length++l.flatMap f)++rest=pre++Ab l.length++l.flatMap f++rest:=by simp
  have hr:=Fm pre (l.flatMap f++rest) hl.2.1
  rw [Ky,e0,hr]
  simp only [zCA]
  have hf:=sm h l hl.1
  rw [if_neg (by simp only [zAB];omega),if_neg (fun e=>hl.2.2 e.1 (zAI e.2)),← e0,e3,← zAB,jN h rest l _ _ hl.1]
  simp [zDH]
 inv:=fun {B a u b} hB ha hp=>by
  rcases Cq hB ha with ⟨e,he,hr⟩ | ⟨y,n,hr,hn,Ct,hg,hy⟩
  ·obtain ⟨k,rfl⟩:∃k,e=k+1:=⟨e-1,by omega⟩
   rw [Ky,hr] at hp;cases hp
  ·obtain ⟨b',hb,h3,h4,h5,h6,h7,_⟩:=Es hB (zAD a) ha hr
   have e:b'=a+n:=by omega
   rw [Ky,hr] at hp
   simp only [zCA] at hp
   split at hp
   ·cases hp
   ·split at hp
    ·cases hp
    ·next hz=>
     rw [← e] at hp
     obtain ⟨l,e1,e2,e3,e4,e5,e6⟩:=pp h hB y b' [] u b h4 hp
     rw [zBK] at e1
     subst e1
     refine ⟨⟨e3,by rw [e2];exact h7,fun By Lf=>hz ⟨By,by rw [← e2,Lf];rfl⟩⟩,by rw [h5,e4,e2,zAK],by omega,e6⟩
 bad:=fun {B a e} hB ha hp=>by
  rcases Cq hB ha with ⟨e1,he,hr⟩ | ⟨y,n,hr,hn,Ct,hg,hy⟩
  ·obtain ⟨k,rfl⟩:∃k,e1=k+1:=⟨e1-1,by omega⟩
   rw [Ky,hr] at hp;cases hp;omega
  ·rw [Ky,hr] at hp
   simp only [zCA] at hp
   split at hp
   ·cases hp;decide
   ·split at hp
    ·next hz=>cases hp;exact hz.1
    ·exact pk h hB _ _ _ _ Ct hp
 cut:=fun {B a u b m} hB ha hm hp=>by
  rcases Cq hB (zAW ha hm) with ⟨e1,he,hr⟩ | ⟨y,n,hr,hn,Ct,hg,hy⟩
  ·obtain ⟨k,rfl⟩:∃k,e1=k+1:=⟨e1-1,by omega⟩
   rw [Ky,hr] at hp;cases hp
  ·obtain ⟨b',hb,h3,h4,h5,h6,h7,h8⟩:=Es hB ha hm hr
   have e:b'=a+n:=by omega
   rw [Ky,hr] at hp
   simp only [zCA] at hp
   rw [Ky,h8]
   by_cases NQ:b'≤m
   ·rw [if_pos NQ]
    simp only [zCA]
    split
    ·exact Or.inl rfl
    ·split at hp
     ·cases hp
     ·split at hp
      ·cases hp
      ·next hz=>
       rw [if_neg hz]
       rw [← e] at hp
       exact po h hB hm _ _ _ _ _ NQ hp
   ·rw [if_neg NQ];exact Or.inl rfl
 pos:=fun l _=>by rw [zAB];have:=MU l.length;omega
 lt:=fun l hl c hc=>by
  rcases zBJ.1 hc with e | e
  ·exact Gf _ c e
  ·obtain ⟨x,hx,e⟩:=zBZ.1 e
   exact h.lt x (hl.1 x hx) c e
end
section
variable {α:Type} {p:List Nat→Nat→Mm α} {f:α→List Nat} {ok:α→Prop} {z:α}
end
end
end Go.Proofs.YtdcgbgecbeegmaaGreatDoor
end
section
namespace Go.Proofs.YtdcgbgecbeegmaaGreatDoor
open Go Go.RowKit
section
abbrev DT:=List AC × List Int
def Df (t:List ByteArray) (s:ByteArray):Nat:=(Dx t s).toNat
def ED (t:List ByteArray) (x:AC):List Nat:=Ab (Df t x.1)++Ab (Df t x.2)
def DQ (n:Int):Prop:=1≤n∧n≤2147483647
instance (n:Int):Decidable (DQ n):=inferInstanceAs (Decidable (1≤n∧n≤2147483647))
def P7 (t:List ByteArray) (l:List AC):List Nat:=Ab l.length++l.flatMap (ED t)
def P8 (l:List Int):List Nat:=Ab l.length++l.flatMap (fun n=>Ab n.toNat)
def D6 (t:List ByteArray) (r:DT):List Nat:=P7 t r.1++P8 r.2
def Gp (t:List ByteArray) (l:List DT):List Nat:=Ab l.length++l.flatMap (D6 t)
def xV (t:List ByteArray):List Nat→Nat→Mm ByteArray:=S9 (fun n=>t[n]?) 14
def pLen:List Nat→Nat→Mm Int:=S9 (fun n=>if 1≤n∧n≤2147483647 then some (n:Int) else none) 23
def xU (t:List ByteArray):List Nat→Nat→Mm AC:=Lp (xV t) (xV t)
def uW (t:List ByteArray):List Nat→Nat→Mm (List AC):=Ky 0 (xU t)
def uX:List Nat→Nat→Mm (List Int):=Ky 23 pLen
def pRec (t:List ByteArray):List Nat→Nat→Mm DT:=Lp (uW t) uX
def pRecs (t:List ByteArray):List Nat→Nat→Mm (List DT):=Ky 0 (pRec t)
def CV (t:List ByteArray) (x:AC):Prop:=x.1∈t∧x.2∈t
instance memDec (t:List ByteArray) (s:ByteArray):Decidable (s∈t):=decidable_of_iff (∃y∈t,y=s) ⟨fun ⟨y,hy,e⟩=>e ▸ hy,fun h=>⟨s,h,rfl⟩⟩
instance (t:List ByteArray) (x:AC):Decidable (CV t x):=inferInstanceAs (Decidable (x.1∈t∧x.2∈t))
def CI (t:List ByteArray) (r:DT):Nat:=if ∀x∈r.1,CV t x then (if r.2=[] then 23 else if ∀n∈r.2,DQ n then 0 else 23) else 14
def Bu (t:List ByteArray):List DT→Nat
 | []=>0
 | r::l=>if CI t r=0 then Bu t l else CI t r
def BQ (t:List ByteArray) (l:List DT):Nat × List Nat:=if Bu t l=0 then (0,Gp t l) else (Bu t l,[])
theorem Vi {t:List ByteArray} (h:AN CB t):t.Nodup:=
 zFX (fun Gz e=>by rw [e,Bz.SP] at Gz;cases Gz) h
section
variable {t:List ByteArray} (ht:t.Nodup) (hl:t.length<18446744073709551616)
include ht hl
theorem V3:Cs (xV t) (fun s=>Ab (Df t s)) (fun s=>s∈t):=
 Qf (by decide) (fun s hs=>by
  obtain ⟨j,h1,h2⟩:=Ey hs
  have hj:=(zAE.1 h2).1
  rw [Df,h1]
  exact ⟨h2,by simp only [zCA];omega⟩) (fun n s h=>⟨zAG h,by rw [Df,mL ht h];rfl⟩)
omit ht hl in
theorem j8:Cs pLen (fun n=>Ab n.toNat) DQ:=
 Qf (by decide) (fun n hn=>by
  obtain ⟨h1,h2⟩:=hn
  refine ⟨?_,by omega⟩
  rw [if_pos (by omega)]
  congr 1
  omega) (fun n x h=>by
  split at h
  ·next hn=>cases h;exact ⟨⟨by omega,by omega⟩,by simp⟩
  ·cases h)
theorem V2:Cs (xU t) (ED t) (fun x=>x.1∈t∧x.2∈t):=Nb (V3 ht hl) (V3 ht hl)
theorem eH:Cs (uW t) (P7 t) (fun l=>(∀x∈l,x.1∈t∧x.2∈t)∧l.length<18446744073709551616∧((0:Nat)≠0→l≠[])):=Na (V2 ht hl)
omit ht hl in
theorem eI:Cs uX P8 (fun l=>(∀n∈l,DQ n)∧l.length<18446744073709551616∧((23:Nat)≠0→l≠[])):=Na j8
def uV (t:List ByteArray) (r:DT):Prop:=((∀x∈r.1,x.1∈t∧x.2∈t)∧r.1.length<18446744073709551616∧((0:Nat)≠0→r.1≠[]))∧((∀n∈r.2,DQ n)∧r.2.length<18446744073709551616∧((23:Nat)≠0→r.2≠[]))
theorem j9:Cs (pRec t) (D6 t) (uV t):=Nb (eH ht hl) eI
def pC (t:List ByteArray) (l:List DT):Prop:=(∀r∈l,uV t r)∧l.length<18446744073709551616∧((0:Nat)≠0→l≠[])
theorem eK:Cs (pRecs t) (Gp t) (pC t):=Na (j9 ht hl)
end
theorem GT {t:List ByteArray} {r:DT}:CI t r=0↔(∀x∈r.1,CV t x)∧r.2≠[]∧∀n∈r.2,DQ n:=by
 unfold CI
 constructor
 ·intro h
  split at h
  ·next h1=>
   split at h
   ·cases h
   ·next h2=>
    split at h
    ·next h3=>exact ⟨h1,h2,h3⟩
    ·cases h
  ·cases h
 ·rintro ⟨h1,h2,h3⟩
  rw [if_pos h1,if_neg h2,if_pos h3]
theorem Pb {t:List ByteArray} {l:List DT}:Bu t l=0↔∀r∈l,CI t r=0:=by
 induction l with
 | nil=>simp [Bu]
 | cons r l ih=>
  rw [Bu]
  by_cases h:CI t r=0
  ·rw [if_pos h,ih];simp [h]
  ·rw [if_neg h];simp [h]
def XL (l:List DT):Prop:=l.length<18446744073709551616∧∀r∈l,r.1.length<18446744073709551616∧r.2.length<18446744073709551616
theorem jX {t:List ByteArray} {l:List DT} (h:Bu t l=0) (hl:XL l):pC t l:=
 ⟨fun r hr=>by
  obtain ⟨h1,h2,h3⟩:=GT.1 (Pb.1 h r hr)
  exact ⟨⟨h1,(hl.2 r hr).1,fun e=>absurd rfl e⟩,h3,(hl.2 r hr).2,fun _=>h2⟩,hl.1,fun e=>absurd rfl e⟩
section
variable {t:List ByteArray} (ht:AN CB t) (hl:t.length<18446744073709551616)
include ht hl
theorem mF {l:List DT} (h:Bu t l=0) (hl':XL l):∀c∈Gp t l,c<256:=(eK (Vi ht) hl).lt _ (jX h hl')
end
end
end Go.Proofs.YtdcgbgecbeegmaaGreatDoor
end
section
namespace Go.Proofs.YtdcgbgecbeegmaaGreatDoor
section
def QY {α:Type} (p:List Nat→Nat→Mm α) (q:α→Bool) (z:Nat) (B:List Nat) (a:Nat):Mm α:=match p B a with
 | .bad e=>.bad e
 | .ok x b=>if q x=true then .ok x b else .bad z
theorem eJ {α:Type} {p:List Nat→Nat→Mm α} {f:α→List Nat} {ok:α→Prop} {q:α→Bool} {z:Nat} (hz:z≠0) (h:Cs p f ok):Cs (QY p q z) f (fun x=>ok x∧q x=true) where
 back:=fun pre rest x hx=>by rw [QY,h.back pre rest x hx.1];simp only [hx.2,zHC]
 inv:=fun {B a x b} hB ha hp=>by
  rw [QY] at hp
  split at hp
  ·cases hp
  ·next y b' h1=>
   split at hp
   ·next hq=>
    cases hp
    obtain ⟨a1,a2,a3,a4⟩:=h.inv hB ha h1
    exact ⟨⟨a1,hq⟩,a2,a3,a4⟩
   ·cases hp
 bad:=fun {B a e} hB ha hp=>by
  rw [QY] at hp
  split at hp
  ·next e' h1=>cases hp;exact h.bad hB ha h1
  ·split at hp
   ·cases hp
   ·cases hp;exact hz
 cut:=fun {B a x b m} hB ha hm hp=>by
  rw [QY] at hp
  split at hp
  ·cases hp
  ·next y b' h1=>
   split at hp
   ·next hq=>
    cases hp
    rcases h.cut hB ha hm h1 with e1 | ⟨hb,e1⟩
    ·exact Or.inl (by rw [QY,e1])
    ·exact Or.inr ⟨hb,by rw [QY,e1];simp only [hq,zHC]⟩
   ·cases hp
 pos:=fun x hx=>h.pos x hx.1
 lt:=fun x hx=>h.lt x hx.1
section
variable {α σ:Type} (p:σ→List Nat→Nat→Mm α) (f:σ→α→List Nat) (ok:σ→α→Prop) (nx:σ→α→σ)
def Dp (B:List Nat):Nat→Nat→σ→List α→Mm (List α)
 | 0,a,_,acc=>.ok acc a
 | k+1,a,s,acc=>match p s B a with
  | .bad e=>.bad e
  | .ok x b=>Dp B k b (nx s x) (acc++[x])
def Bc:σ→List α→List Nat
 | _,[]=>[]
 | s,x::l=>f s x++Bc (nx s x) l
def gP:σ→List α→Prop
 | _,[]=>True
 | s,x::l=>ok s x∧gP (nx s x) l
def Gs (z:Nat) (s0:σ) (B:List Nat) (a:Nat):Mm (List α):=match G8 B (a:Int) with
 | (n,to,0)=>if B.length-to.toNat<n then .bad 3 else if z≠0∧n=0 then .bad z else Dp p nx B n to.toNat s0 []
 | (_,_,e+1)=>.bad (e+1)
end
section
variable {α σ:Type} {p:σ→List Nat→Nat→Mm α} {f:σ→α→List Nat} {ok:σ→α→Prop} {nx:σ→α→σ}
theorem dS (h:∀s,Cs (p s) (f s) (ok s)) (rest:List Nat) (l:List α):∀(s:σ) (pre:List Nat) (acc:List α),gP ok nx s l→Dp p nx (pre++Bc f nx s l++rest) l.length pre.length s acc = .ok (acc++l) (pre.length+(Bc f nx s l).length):=by
 induction l with
 | nil=>intro s pre acc _;simp [Dp,Bc]
 | cons x l ih=>
  intro s pre acc ho
  have e0:pre++Bc f nx s (x::l)++rest=pre++f s x++(Bc f nx (nx s x) l++rest):=by simp [Bc]
  have e1:=(h s).back pre (Bc f nx (nx s x) l++rest) x ho.1
  have e2:=ih (nx s x) (pre++f s x) (acc++[x]) ho.2
  rw [zAH,Dp,e0,e1]
  simp only
  rw [← zAK,← zAB,e2]
  simp [Bc,zDH]
theorem jM (h:∀s,Cs (p s) (f s) (ok s)) {B:List Nat} (hB:∀c∈B,c<256):∀(k a:Nat) (s:σ) (acc u:List α) (b:Nat),a≤B.length→Dp p nx B k a s acc = .ok u b→∃l,u=acc++l∧l.length=k∧gP ok nx s l∧B.drop a=Bc f nx s l++B.drop b∧a≤b∧b≤B.length:=by
 intro k
 induction k with
 | zero=>intro a s acc u b ha hp;rw [Dp] at hp;cases hp;exact ⟨[],by simp,rfl,trivial,rfl,zAD _,ha⟩
 | succ k ih=>
  intro a s acc u b ha hp
  rw [Dp] at hp
  split at hp
  ·cases hp
  ·next x b1 h1=>
   obtain ⟨a1,a2,a3,a4⟩:=(h s).inv hB ha h1
   obtain ⟨l,e1,e2,e3,e4,e5,e6⟩:=ih b1 (nx s x) (acc++[x]) u b a4 hp
   exact ⟨x::l,by rw [e1];simp,by simp [e2],⟨a1,e3⟩,by rw [a2,e4,Bc,zAK],by omega,e6⟩
theorem jK (h:∀s,Cs (p s) (f s) (ok s)) {B:List Nat} (hB:∀c∈B,c<256):∀(k a:Nat) (s:σ) (acc:List α) (e:Nat),a≤B.length→Dp p nx B k a s acc = .bad e→e≠0:=by
 intro k
 induction k with
 | zero=>intro a s acc e _ hp;rw [Dp] at hp;cases hp
 | succ k ih=>
  intro a s acc e ha hp
  rw [Dp] at hp
  split at hp
  ·next e' h1=>cases hp;exact (h s).bad hB ha h1
  ·next x b1 h1=>exact ih b1 _ _ e ((h s).inv hB ha h1).2.2.2 hp
theorem jL (h:∀s,Cs (p s) (f s) (ok s)) {B:List Nat} (hB:∀c∈B,c<256) {m:Nat} (hm:m≤B.length):∀(k a:Nat) (s:σ) (acc u:List α) (b:Nat),a≤m→Dp p nx B k a s acc = .ok u b→Dp p nx (B.take m) k a s acc = .bad 3∨(b≤m∧Dp p nx (B.take m) k a s acc = .ok u b):=by
 intro k
 induction k with
 | zero=>intro a s acc u b ha hp;rw [Dp] at hp;cases hp;exact Or.inr ⟨ha,rfl⟩
 | succ k ih=>
  intro a s acc u b ha hp
  rw [Dp] at hp
  split at hp
  ·cases hp
  ·next x b1 h1=>
   rcases (h s).cut hB ha hm h1 with e1 | ⟨hb,e1⟩
   ·rw [Dp,e1];exact Or.inl rfl
   ·rw [Dp,e1];exact ih b1 _ _ u b hb hp
theorem mP (h:∀s,Cs (p s) (f s) (ok s)) (l:List α):∀s,gP ok nx s l→l.length≤(Bc f nx s l).length:=by
 induction l with
 | nil=>intro s _;exact zAD _
 | cons x l ih=>intro s ho;rw [Bc,zAB,zAH];have:=(h s).pos x ho.1;have:=ih _ ho.2;omega
theorem mQ (h:∀s,Cs (p s) (f s) (ok s)) (l:List α):∀s,gP ok nx s l→∀c∈Bc f nx s l,c<256:=by
 induction l with
 | nil=>intro s _ c hc;cases hc
 | cons x l ih=>
  intro s ho c hc
  rw [Bc] at hc
  rcases zBJ.1 hc with e | e
  ·exact (h s).lt x ho.1 c e
  ·exact ih _ ho.2 c e
theorem Q0 {z:Nat} (h:∀s,Cs (p s) (f s) (ok s)) (s0:σ):Cs (Gs p nx z s0) (fun l=>Ab l.length++Bc f nx s0 l) (fun l=>gP ok nx s0 l∧l.length<18446744073709551616∧(z≠0→l≠[])) where
 back:=fun pre rest l hl=>by
  have e0:pre++(Ab l.length++Bc f nx s0 l)++rest=pre++Ab l.length++(Bc f nx s0 l++rest):=by simp
  have e3:pre++(Ab l.length++Bc f nx s0 l)++rest=pre++Ab l.length++Bc f nx s0 l++rest:=by simp
  have hr:=Fm pre (Bc f nx s0 l++rest) hl.2.1
  rw [Gs,e0,hr]
  simp only [zCA]
  have hf:=mP h l s0 hl.1
  rw [if_neg (by simp only [zAB];omega),if_neg (fun e=>hl.2.2 e.1 (zAI e.2)),← e0,e3,← zAB,dS h rest l _ _ _ hl.1]
  simp [zDH]
 inv:=fun {B a u b} hB ha hp=>by
  rcases Cq hB ha with ⟨e,he,hr⟩ | ⟨y,n,hr,hn,Ct,hg,hy⟩
  ·obtain ⟨k,rfl⟩:∃k,e=k+1:=⟨e-1,by omega⟩
   rw [Gs,hr] at hp;cases hp
  ·obtain ⟨b',hb,h3,h4,h5,h6,h7,_⟩:=Es hB (zAD a) ha hr
   have e:b'=a+n:=by omega
   rw [Gs,hr] at hp
   simp only [zCA] at hp
   split at hp
   ·cases hp
   ·split at hp
    ·cases hp
    ·next hz=>
     rw [← e] at hp
     obtain ⟨l,e1,e2,e3,e4,e5,e6⟩:=jM h hB y b' s0 [] u b h4 hp
     rw [zBK] at e1
     subst e1
     refine ⟨⟨e3,by rw [e2];exact h7,fun By Lf=>hz ⟨By,by rw [← e2,Lf];rfl⟩⟩,by rw [h5,e4,e2,zAK],by omega,e6⟩
 bad:=fun {B a e} hB ha hp=>by
  rcases Cq hB ha with ⟨e1,he,hr⟩ | ⟨y,n,hr,hn,Ct,hg,hy⟩
  ·obtain ⟨k,rfl⟩:∃k,e1=k+1:=⟨e1-1,by omega⟩
   rw [Gs,hr] at hp;cases hp;omega
  ·rw [Gs,hr] at hp
   simp only [zCA] at hp
   split at hp
   ·cases hp;decide
   ·split at hp
    ·next hz=>cases hp;exact hz.1
    ·exact jK h hB _ _ _ _ _ Ct hp
 cut:=fun {B a u b m} hB ha hm hp=>by
  rcases Cq hB (zAW ha hm) with ⟨e1,he,hr⟩ | ⟨y,n,hr,hn,Ct,hg,hy⟩
  ·obtain ⟨k,rfl⟩:∃k,e1=k+1:=⟨e1-1,by omega⟩
   rw [Gs,hr] at hp;cases hp
  ·obtain ⟨b',hb,h3,h4,h5,h6,h7,h8⟩:=Es hB ha hm hr
   have e:b'=a+n:=by omega
   rw [Gs,hr] at hp
   simp only [zCA] at hp
   rw [Gs,h8]
   by_cases NQ:b'≤m
   ·rw [if_pos NQ]
    simp only [zCA]
    split
    ·exact Or.inl rfl
    ·split at hp
     ·cases hp
     ·split at hp
      ·cases hp
      ·next hz=>
       rw [if_neg hz]
       rw [← e] at hp
       exact jL h hB hm _ _ _ _ _ _ NQ hp
   ·rw [if_neg NQ];exact Or.inl rfl
 pos:=fun l _=>by rw [zAB];have:=MU l.length;omega
 lt:=fun l hl c hc=>by
  rcases zBJ.1 hc with e | e
  ·exact Gf _ c e
  ·exact mQ h l s0 hl.1 c e
end
end
end Go.Proofs.YtdcgbgecbeegmaaGreatDoor
end
section
namespace Go.Proofs.YtdcgbgecbeegmaaGreatDoor
open Go Go.RowKit
def FV (w:World) (h:Value × Value) (s:DT):Prop:=Rd w 2 h.1 s.1.length (Am s.1)∧Rd w 1 h.2 s.2.length (A1 s.2)
theorem FV.below {w w':World} {h:Value × Value} {s:DT} (k:FV w h s) (hb:Below w.heap.size w w'):FV w' h s:=⟨k.1.below hb,k.2.below hb⟩
structure bO (w:World) (v:Value) (b:List DT):Prop where
 ex:∃hs:List (Value × Value),Rd w 2 v hs.length (two Prod.fst Prod.snd hs)∧hs.length=b.length∧∀(i:Nat) (h:Value × Value) (s:DT),hs[i]? = some h→b[i]? = some s→FV w h s
theorem bO.below {w w':World} {v:Value} {b:List DT} (k:bO w v b) (hb:Below w.heap.size w w'):bO w' v b:=by
 obtain ⟨hs,h1,h2,h3⟩:=k.ex
 exact ⟨hs,h1.below hb,h2,fun i h s hi hj=>(h3 i h s hi hj).below hb⟩
theorem bO.shape {w:World} {v:Value} {b:List DT} (k:bO w v b):∃p c,v = .slice p b.length c:=by
 obtain ⟨hs,h1,h2,_⟩:=k.ex
 rw [← h2]
 exact h1.shape
theorem bO.at {w:World} {p:Option Addr} {n c:Nat} {b:List DT} (k:bO w (.slice p n c) b) {i:Nat} {s:DT} (hi:b[i]? = some s) :
  ∃AM off h1 h2,p=some ⟨AM,off,none⟩∧w.cell? ⟨AM,off+i*2,none⟩=some h1∧w.cell? ⟨AM,off+i*2+1,none⟩=some h2∧FV w (h1,h2) s:=by
 obtain ⟨hs,h1,h2,h3⟩:=k.ex
 have Aq:=(zAE.1 hi).1
 obtain ⟨h,hh⟩:∃h,hs[i]? = some h:=⟨_,zAC (by omega)⟩
 obtain ⟨p',c',e⟩:=h1.shape
 simp only [zAN] at e
 obtain ⟨rfl,rfl,rfl⟩:=e
 obtain ⟨AM,off,rfl⟩:=EG h1 hh
 obtain ⟨c1,c2⟩:=Bm h1 hh
 exact ⟨AM,off,h.1,h.2,rfl,c1,c2,h3 i h s hh hi⟩
theorem bO.always {w:World} {p:Option Addr} {n c:Nat} {b:List DT} (k:bO w (.slice p n c) b) {i:Nat} {s:DT} (hi:b[i]? = some s) :
  ∃AM off h1 h2,p=some ⟨AM,off,none⟩∧(∃p1 c1,h1 = .slice p1 s.1.length c1)∧(∃p2 c2,h2 = .slice p2 s.2.length c2)∧
   ∀w',Below w.heap.size w w'→w'.cell? ⟨AM,off+i*2,none⟩=some h1∧w'.cell? ⟨AM,off+i*2+1,none⟩=some h2∧FV w' (h1,h2) s:=by
 obtain ⟨AM,off,h1,h2,e,c1,c2,hs⟩:=k.at hi
 exact ⟨AM,off,h1,h2,e,hs.1.shape,hs.2.shape,fun w' hb=>⟨(hb.cell (zAP w _ c1)).trans c1,(hb.cell (zAP w _ c2)).trans c2,hs.below hb⟩⟩
end Go.Proofs.YtdcgbgecbeegmaaGreatDoor
end
