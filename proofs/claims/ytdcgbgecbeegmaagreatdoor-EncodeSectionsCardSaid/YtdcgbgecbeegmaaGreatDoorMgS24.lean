/- Texts 24. -/
import Derived.Test.YtdcgbgecbeegmaaGreatDoorMgSA
import Derived.Test.YtdcgbgecbeegmaaGreatDoorMgS23
set_option linter.unusedVariables false
set_option linter.unusedSimpArgs false
set_option maxHeartbeats 400000000
set_option maxRecDepth 100000
section
namespace Go.Proofs.YtdcgbgecbeegmaaGreatDoor
def ET (a b:Int):Bool:=decide (a<b)
theorem MZ:MH ET:=⟨⟨fun a=>by simp [ET],fun a b c h k=>by simp only [ET,zCH] at *;omega⟩,fun a b h k=>by simp only [ET,zDF] at *;omega⟩
instance decAscI (l:List Int):Decidable (AN ET l):=inferInstanceAs (Decidable (List.Pairwise _ _))
theorem sj {a b:List Int} (ha:AN ET a) (hb:AN ET b) (h:∀x,x∈a↔x∈b):a=b:=Gl MZ.toLtPre a b ha hb h
end Go.Proofs.YtdcgbgecbeegmaaGreatDoor
end
section
namespace Go.Proofs.YtdcgbgecbeegmaaGreatDoor
open Go Go.RowKit
instance labMemDec (l:List AC) (x:AC):Decidable (x∈l):=decidable_of_iff (∃y∈l,y=x) ⟨fun ⟨y,hy,e⟩=>e ▸ hy,fun h=>⟨x,h,rfl⟩⟩
abbrev zFSA:=AC × List Int
def FO (a b:AC):Bool:=decide (AW a b = -1)
theorem CA:MH FO:=CL.lt
theorem Xz (a b:AC):FO b a=true↔0<AW a b:=by
 unfold FO
 rw [zCH,CL.flip a b]
 rcases CL.Yo a b with e | e | e<;>rw [e]<;>decide
def B8 (x:AC) (n:Int) (s:List zFSA × Bool) (e:zFSA):List zFSA × Bool:=
 let s1:=if 0<AW e.1 x∧s.2=false then (s.1++[(x,[n])],true) else s
 if AW e.1 x=0 then (s1.1++[(x,BL ET n e.2)],true) else (s1.1++[e],s1.2)
def ZT (x:AC) (n:Int) (l:List zFSA):List zFSA:=
 let s:=l.foldl (B8 x n) ([],false)
 if s.2=true then s.1 else s.1++[(x,[n])]
def NS (x:AC) (n:Int):List zFSA→List zFSA
 | []=>[(x,[n])]
 | e::l=>if AW e.1 x=0 then (x,BL ET n e.2)::l else if 0<AW e.1 x then (x,[n])::e::l else e::NS x n l
theorem Vv {x:AC} {n:Int} (l:List zFSA) (h:∀e∈l,0<AW e.1 x):∀acc,l.foldl (B8 x n) (acc,true)=(acc++l,true):=by
 induction l with
 | nil=>intro acc;simp
 | cons e l ih=>
  intro acc
  have h0:=h e (by simp)
  have hs:B8 x n (acc,true) e=(acc++[e],true):=by
   unfold B8
   simp only [Bool.true_eq_false,and_false,zFK]
   rw [if_neg (by omega)]
  rw [zDP,hs,ih (fun y hy=>h y (by simp [hy]))]
  simp
theorem mU {x:AC} {n:Int} (l:List zFSA) (ha:AN FO (l.map Prod.fst)):∀acc,(if (l.foldl (B8 x n) (acc,false)).2=true then (l.foldl (B8 x n) (acc,false)).1 else (l.foldl (B8 x n) (acc,false)).1++[(x,[n])])=acc++NS x n l:=by
 induction l with
 | nil=>intro acc;simp [NS]
 | cons e l ih=>
  intro acc
  obtain ⟨h1,h2⟩:=zAU.1 ha
  have NO:0≤AW e.1 x→∀d∈l,0<AW d.1 x:=fun h0 d hd=>by
   rw [← Xz]
   have h3:=h1 d.1 (zBU.2 ⟨d,hd,rfl⟩)
   rcases CL.Yo e.1 x with f | f | f
   ·omega
   ·rw [← (CL.eq _ _).1 f];exact h3
   ·exact CA.tr _ _ _ ((Xz e.1 x).2 (by omega)) h3
  rw [zDP,NS]
  by_cases h0:AW e.1 x=0
  ·have hs:B8 x n (acc,false) e=(acc++[(x,BL ET n e.2)],true):=by
    simp [B8,h0]
   rw [hs,Vv l (NO (by omega)),if_pos h0]
   simp
  ·by_cases hp:0<AW e.1 x
   ·have hs:B8 x n (acc,false) e=(acc++[(x,[n])]++[e],true):=by
     simp [B8,h0,hp]
    rw [hs,Vv l (NO (by omega)),if_neg h0,if_pos hp]
    simp
   ·have hs:B8 x n (acc,false) e=(acc++[e],false):=by
     simp [B8,h0,hp]
    rw [hs,ih h2,if_neg h0,if_neg hp]
    simp
theorem ZU {x:AC} {n:Int} {l:List zFSA} (ha:AN FO (l.map Prod.fst)):ZT x n l=NS x n l:=by
 have h:=mU (x:=x) (n:=n) l ha []
 rw [zBK] at h
 exact h
theorem nX {y:AC} {i:Int} (F:AC→List Int) (T:List AC) (ha:AN FO T) :
  NS y i (T.map fun x=>(x,F x))=(BL FO y T).map fun x=>(x,if x=y then (if y∈T then BL ET i (F y) else [i]) else F x):=by
 induction T with
 | nil=>simp [NS,BL]
 | cons t T ih=>
  obtain ⟨h1,h2⟩:=zAU.1 ha
  rw [zBC,NS]
  simp only
  rcases CL.Yo t y with e | e | e
  ·have Aq:FO t y=true:=by unfold FO;rw [e];rfl
   have BC:t≠y:=CA.toLtPre.ne Aq
   have hi:BL FO y (t::T)=t::BL FO y T:=by rw [BL,if_pos Aq]
   rw [if_neg (by omega),if_neg (by omega),hi,zBC,if_neg BC,ih h2]
   congr 1
   refine zCR fun x _=>?_
   have:y∈t::T↔y∈T:=⟨fun h=>(zAS.1 h).resolve_left (fun e=>BC e.symm),fun h=>zCS _ h⟩
   simp only [this]
  ·obtain rfl:t=y:=(CL.eq _ _).1 e
   have yP:FO t t=false:=CA.SP t
   have hi:BL FO t (t::T)=t::T:=by rw [BL,if_neg (by rw [yP];decide),if_neg (by rw [yP];decide)]
   rw [if_pos e,hi,zBC,if_pos rfl,if_pos (by simp)]
   congr 1
   refine zCR fun x hx=>?_
   rw [if_neg (fun e:x=t=>by subst e;have:=h1 x hx;rw [yP] at this;cases this)]
  ·have Aq:FO y t=true:=(Xz t y).2 (by omega)
   have xx:FO t y=false:=CA.toLtPre.uk Aq
   have hnm:y∉t::T:=fun hm=>by
    rcases zAS.1 hm with f | f
    ·subst f;rw [CA.SP] at Aq;cases Aq
    ·have:=h1 y f;rw [xx] at this;cases this
   have hi:BL FO y (t::T)=y::t::T:=by rw [BL,if_neg (by rw [xx];decide),if_pos Aq]
   rw [if_neg (by omega),if_pos (by omega),hi,zBC,if_pos rfl,if_neg hnm]
   congr 1
   rw [zBC,if_neg (fun e:t=y=>hnm (by rw [e];simp))]
   congr 1
   refine zCR fun x hx=>?_
   rw [if_neg (fun e:x=y=>hnm (by rw [← e];simp [hx]))]
def Rk (i:Int) (l:List zFSA) (s:List AC):List zFSA:=s.foldl (fun l x=>ZT x i l) l
theorem PK (i:Int) (l:List zFSA) (s:List AC) (x:AC):Rk i l (s++[x])=ZT x i (Rk i l s):=by rw [Rk,zDL];rfl
def DL (l:List (List AC)) (k:Nat):List zFSA:=(List.range k).foldl (fun acc (i:Nat)=>Rk (i:Int) acc (l.getD i [])) []
theorem JT (l:List (List AC)) (k:Nat):DL l (k+1)=Rk (k:Int) (DL l k) (l.getD k []):=by
 rw [DL,zEU,zDL];rfl
def Bk (l:List (List AC)):List zFSA:=DL l l.length
def BX (l:List (List AC)) (k:Nat) (x:AC):List Int:=((List.range k).filter fun i=>decide (x∈l.getD i [])).map fun i:Nat=>(i:Int)
theorem M9 (l:List (List AC)) (k:Nat) (x:AC):BX l (k+1) x=BX l k x++if x∈l.getD k [] then [(k:Int)] else []:=by
 rw [BX,zEU,List.filter_append,zCD]
 by_cases h:x∈l.getD k []
 ·rw [if_pos h,List.filter_cons_of_pos (by simpa using h)];rfl
 ·rw [if_neg h,List.filter_cons_of_neg (by simpa using h)];rfl
theorem N8 (l:List (List AC)) (k:Nat) (x:AC):∀y∈BX l k x,0≤y∧y<(k:Int):=by
 intro y hy
 obtain ⟨i,hi,rfl⟩:=zBU.1 hy
 have:=zFN.1 (List.mem_filter.1 hi).1
 omega
theorem VV (l:List (List AC)) (k:Nat) (x:AC):AN ET (BX l k x):=by
 unfold BX AN
 rw [zER]
 refine zFX (fun h=>?_) (List.Pairwise.filter _ List.pairwise_lt_range)
 simp only [ET,zCH];omega
theorem VW (l:List (List AC)) (k:Nat) (x:AC) (i:Int):i∈BX l k x↔∃j:Nat,i=(j:Int)∧j<k∧x∈l.getD j []:=by
 simp only [BX,zBU,List.mem_filter,zFN,zCH]
 constructor
 ·rintro ⟨j,⟨h1,h2⟩,rfl⟩;exact ⟨j,rfl,h1,h2⟩
 ·rintro ⟨j,rfl,h1,h2⟩;exact ⟨j,⟨h1,h2⟩,rfl⟩
def A4 (l:List (List AC)) (k:Nat):List AC:=(l.take k).flatten
theorem GL {l:List (List AC)} {k:Nat} (h:k<l.length):A4 l (k+1)=A4 l k++l.getD k []:=by
 rw [A4,zAL,zAC h,zFE,zBP,zAC h]
 simp [A4]
def Mu (l:List (List AC)) (k:Nat):List zFSA:=(Kh FO (A4 l k)).map fun x=>(x,BX l k x)
def SN (l:List (List AC)):List zFSA:=Mu l l.length
theorem Te {l:List (List AC)} {k:Nat} {x:AC} (h:x∉A4 l k):BX l k x=[]:=by
 rw [BX,List.filter_eq_nil_iff.2]
 ·rfl
 ·intro i hi
  simp only [zCH]
  intro hx
  apply h
  rw [A4,zFM]
  have PC:=zFN.1 hi
  by_cases hl:i<l.length
  ·refine ⟨l[i],?_,by rwa [zBP,zAC hl] at hx⟩
   exact zAG (i:=i) (by rw [zFR,if_pos PC,zAC hl])
  ·rw [zBP,zCJ (by omega)] at hx
   cases hx
theorem mi {l:List (List AC)} {k:Nat} (h:k<l.length) (s:List AC):Rk (k:Int) (Mu l k) s=(Kh FO (A4 l k++s)).map fun x=>(x,BX l k x++if x∈s then [(k:Int)] else []):=by
 induction s using Lv with
 | h0=>simp [Rk,Mu]
 | h1 s y ih=>
  rw [PK,ih]
  have hT:AN FO (Kh FO (A4 l k++s)):=Gw CA _
  have hfst:((Kh FO (A4 l k++s)).map fun x=>(x,BX l k x++if x∈s then [(k:Int)] else [])).map Prod.fst=Kh FO (A4 l k++s):=by
   rw [zEK]
   exact (zCR (fun x _=>rfl)).trans (List.map_id _)
  rw [ZU (by rw [hfst];exact hT),nX (fun x=>BX l k x++if x∈s then [(k:Int)] else []) _ hT,← zAK,Wi]
  refine zCR fun x _=>?_
  by_cases e:x=y
  ·subst e
   have hy:x∈s++[x]:=by simp
   rw [if_pos rfl,if_pos hy]
   by_cases hm:x∈Kh FO (A4 l k++s)
   ·rw [if_pos hm]
    by_cases hs:x∈s
    ·rw [if_pos hs,gH MZ.toLtPre _ _ [] (fun z hz=>by have:=N8 l k x z hz;simp only [ET,zCH];omega)]
    ·rw [if_neg hs,zBR,jE MZ.toLtPre _ _ (fun z hz=>by have:=N8 l k x z hz;simp only [ET,zCH];omega)]
   ·rw [if_neg hm,Te (fun h=>hm ((Ly CA _ _).2 (by simp [h])))]
    rfl
  ·rw [if_neg e]
   have:x∈s++[y]↔x∈s:=by simp [e]
   simp only [this]
theorem YY (l:List (List AC)) (k:Nat) (h:k≤l.length):DL l k=Mu l k:=by
 induction k with
 | zero=>simp [DL,Mu,A4,Kh,EM]
 | succ k ih=>
  rw [JT,ih (by omega),mi (by omega),Mu,GL (by omega)]
  refine zCR fun x _=>?_
  rw [M9]
theorem LL (l:List (List AC)):Bk l=SN l:=YY l _ (zAD _)
theorem sR (l:List (List AC)):AN FO ((SN l).map Prod.fst):=by
 have:(SN l).map Prod.fst=Kh FO (A4 l l.length):=by
  rw [SN,Mu,zEK]
  exact (zCR (fun x _=>rfl)).trans (List.map_id _)
 rw [this]
 exact Gw CA _
theorem Xp {l:List (List AC)} {e:zFSA} (h:e∈SN l):e.1∈l.flatten∧e.2=BX l l.length e.1:=by
 obtain ⟨x,hx,rfl⟩:=zBU.1 h
 refine ⟨?_,rfl⟩
 have:=(Ly CA _ _).1 hx
 rwa [A4,zCT] at this
section
def U3 (s:Option Int) (x:Int):List Nat:=Ab (x-s.getD 0).toNat
def Ph (l:List Int):List Nat:=Ab l.length++Bc U3 (fun _ x=>some x) none l
def Dw (t:List ByteArray) (e:zFSA):List Nat:=ED t e.1++Ph e.2
def Bt (t:List ByteArray) (l:List zFSA):List Nat:=Ab l.length++l.flatMap (Dw t)
def uT (s:Option AC) (x:AC):Bool:=match s with
 | none=>true
 | some y=>FO y x
def pLabO (t:List ByteArray) (s:Option AC):List Nat→Nat→Mm AC:=QY (xU t) (uT s) 16
def pSer (n:Int) (s:Option Int):List Nat→Nat→Mm Int:=S9 (fun d=>if 0≤s.getD 0∧s.getD 0+(d:Int)<n∧(s=none∨d≠0) then some (s.getD 0+(d:Int)) else none) 22
def uY (n:Int):List Nat→Nat→Mm (List Int):=Gs (pSer n) (fun _ x=>some x) 22 none
def xT (t:List ByteArray) (n:Int) (s:Option AC):List Nat→Nat→Mm zFSA:=Lp (pLabO t s) (uY n)
def pEnts (t:List ByteArray) (n:Int):List Nat→Nat→Mm (List zFSA):=Gs (xT t n) (fun _ e=>some e.1) 0 none
def Cl (t:List ByteArray) (l:List zFSA):Nat × List Nat:=if ∀e∈l,CV t e.1 then (0,Bt t l) else (14,[])
def pE (n:Int) (s:Option Int) (x:Int):Prop:=0≤s.getD 0∧x<n∧(s=none→0≤x)∧∀y,s=some y→y<x
theorem ka {n : Int} (hn : n < 9223372036854775808) (s : Option Int) : Cs (pSer n s) (U3 s) (pE n s) :=
  Qf (by decide) (fun x hx => by
    obtain ⟨h1, h2, h3, h4⟩ := hx
    cases s with
    | none =>
      have h5 := h3 rfl
      simp only [Option.getD_none] at *
      refine ⟨?_, by omega⟩
      rw [if_pos ⟨by omega, by omega, Or.inl trivial⟩]
      congr 1
      omega
    | some y =>
      have h5 := h4 y rfl
      simp only [zBM] at *
      refine ⟨?_, by omega⟩
      rw [if_pos ⟨by omega, by omega, Or.inr (by omega)⟩]
      congr 1
      omega) (fun d x h => by
    split at h
    · next hd =>
      cases h
      obtain ⟨h1, h2, h3⟩ := hd
      cases s with
      | none =>
        simp only [Option.getD_none] at *
        exact ⟨⟨by simp, by omega, fun _ => by omega, fun y hy => by cases hy⟩, by omega⟩
      | some y =>
        simp only [zBM] at *
        have h4 : d ≠ 0 := by rcases h3 with e | e; · cases e
                              · exact e
        exact ⟨⟨by simpa using h1, by omega, (fun hy => by cases hy), fun z hz => by cases hz; omega⟩, by omega⟩
    · cases h)
def S5 (n:Int) (l:List Int):Prop:=gP (pE n) (fun _ x=>some x) none l∧l.length<18446744073709551616∧((22:Nat)≠0→l≠[])
theorem eM {n:Int} (hn:n<9223372036854775808):Cs (uY n) Ph (S5 n):=Q0 (fun s=>ka hn s) none
def gO (t:List ByteArray) (n:Int) (s:Option AC) (e:zFSA):Prop:=((e.1.1∈t∧e.1.2∈t)∧uT s e.1=true)∧S5 n e.2
def S4 (t:List ByteArray) (n:Int) (l:List zFSA):Prop:=gP (gO t n) (fun _ e=>some e.1) none l∧l.length<18446744073709551616∧((0:Nat)≠0→l≠[])
theorem Zq {α σ:Type} (f:α→List Nat) (nx:σ→α→σ) (l:List α):∀s,Bc (fun _=>f) nx s l=l.flatMap f:=by
 induction l with
 | nil=>intro s;rfl
 | cons x l ih=>intro s;rw [Bc,ih,zBN]
section
variable {t:List ByteArray} (ht:t.Nodup) (hl:t.length<18446744073709551616) {n:Int} (hn:n<9223372036854775808)
include ht hl hn
theorem j7 (s:Option AC):Cs (xT t n s) (Dw t) (gO t n s):=Nb (eJ (by decide) (V2 ht hl)) (eM hn)
theorem eG:Cs (pEnts t n) (Bt t) (S4 t n):=by
 have h:=Q0 (p:=xT t n) (f:=fun _=>Dw t) (ok:=gO t n) (nx:=fun _ e=>some e.1) (z:=0) (fun s=>j7 ht hl hn s) none
 have e:(fun l=>Ab l.length++Bc (fun (_:Option AC)=>Dw t) (fun _ (e:zFSA)=>some e.1) none l)=Bt t:=by
  funext l
  rw [Zq,Bt]
 rw [e] at h
 exact h
end
theorem tI {n:Int} (l:List Int):∀s,gP (pE n) (fun _ x=>some x) s l↔(∀x∈l,x<n)∧AN ET l∧(s=none→∀x∈l,0≤x)∧(l≠[]→0≤s.getD 0)∧∀y,s=some y→∀x∈l,y<x:=by
 induction l with
 | nil=>intro s;simp [gP,AN]
 | cons x l ih=>
  intro s
  rw [gP,ih (some x)]
  constructor
  ·rintro ⟨⟨h1,h2,h3,h4⟩,k1,k2,_,k4,k5⟩
   have hx:∀z∈l,x<z:=k5 x rfl
   refine ⟨fun z hz=>?_,zAU.2 ⟨fun z hz=>by simpa [ET] using hx z hz,k2⟩,fun e z hz=>?_,fun _=>h1,fun y hy z hz=>?_⟩
   ·rcases zAS.1 hz with rfl | hz
    ·exact h2
    ·exact k1 z hz
   ·rcases zAS.1 hz with rfl | hz
    ·exact h3 e
    ·have:=h3 e;have:=hx z hz;omega
   ·rcases zAS.1 hz with rfl | hz
    ·exact h4 y hy
    ·have:=h4 y hy;have:=hx z hz;omega
  ·rintro ⟨k1,k2,k3,k4,k5⟩
   obtain ⟨h1,h2⟩:=zAU.1 k2
   refine ⟨⟨k4 (by simp),k1 x (by simp),fun e=>k3 e x (by simp),fun y hy=>k5 y hy x (by simp)⟩,fun z hz=>k1 z (by simp [hz]),h2,(fun e=>by cases e),fun _=>?_,fun y hy z hz=>?_⟩
   ·show 0≤x
    cases s with
    | none=>exact k3 rfl x (by simp)
    | some y=>have h5:=k4 (by simp);have h6:=k5 y rfl x (by simp);simp only [zBM] at h5;omega
   ·cases hy
    simpa [ET] using h1 z hz
theorem Tx {n:Int} {l:List Int}:S5 n l↔(AN ET l∧(∀x∈l,0≤x∧x<n)∧l≠[])∧l.length<18446744073709551616:=by
 rw [S5,tI]
 constructor
 ·rintro ⟨⟨h1,h2,h3,_,_⟩,h5,h6⟩
  exact ⟨⟨h2,fun x hx=>⟨h3 rfl x hx,h1 x hx⟩,h6 (by decide)⟩,h5⟩
 ·rintro ⟨⟨h1,h2,h3⟩,h4⟩
  exact ⟨⟨fun x hx=>(h2 x hx).2,h1,fun _ x hx=>(h2 x hx).1,fun _=>by simp,fun y hy=>by cases hy⟩,h4,fun _=>h3⟩
theorem si {t:List ByteArray} {n:Int} (l:List zFSA):∀s,gP (gO t n) (fun _ e=>some e.1) s l↔(∀e∈l,(e.1.1∈t∧e.1.2∈t)∧S5 n e.2)∧AN FO (l.map Prod.fst)∧∀y,s=some y→∀e∈l,FO y e.1=true:=by
 induction l with
 | nil=>intro s;simp [gP,AN]
 | cons x l ih=>
  intro s
  rw [gP,ih (some x.1)]
  constructor
  ·rintro ⟨⟨⟨h1,h2⟩,h3⟩,k1,k2,k3⟩
   have hx:∀e∈l,FO x.1 e.1=true:=k3 x.1 rfl
   refine ⟨fun e he=>?_,?_,fun y hy e he=>?_⟩
   ·rcases zAS.1 he with rfl | he
    ·exact ⟨h1,h3⟩
    ·exact k1 e he
   ·refine zAU.2 ⟨fun y hy=>?_,k2⟩
    obtain ⟨e,he,rfl⟩:=zBU.1 hy
    exact hx e he
   ·subst hy
    rcases zAS.1 he with rfl | he
    ·exact h2
    ·exact CA.tr _ _ _ h2 (hx e he)
  ·rintro ⟨k1,k2,k3⟩
   obtain ⟨h1,h2⟩:=zAU.1 k2
   refine ⟨⟨⟨(k1 x (by simp)).1,?_⟩,(k1 x (by simp)).2⟩,fun e he=>k1 e (by simp [he]),h2,fun y hy e he=>?_⟩
   ·cases s with
    | none=>rfl
    | some y=>exact k3 y rfl x (by simp)
   ·cases hy
    exact h1 e.1 (zBU.2 ⟨e,he,rfl⟩)
def uh (n:Int) (l:List zFSA):Prop:=AN FO (l.map Prod.fst)∧∀e∈l,AN ET e.2∧(∀x∈e.2,0≤x∧x<n)∧e.2≠[]
theorem ee {t:List ByteArray} {n:Int} {l:List zFSA}:S4 t n l↔uh n l∧(∀e∈l,CV t e.1)∧l.length<18446744073709551616∧∀e∈l,e.2.length<18446744073709551616:=by
 rw [S4,si]
 constructor
 ·rintro ⟨⟨h1,h2,_⟩,h3,_⟩
  exact ⟨⟨h2,fun e he=>(Tx.1 (h1 e he).2).1⟩,fun e he=>(h1 e he).1,h3,fun e he=>(Tx.1 (h1 e he).2).2⟩
 ·rintro ⟨⟨h1,h2⟩,h3,h4,h5⟩
  exact ⟨⟨fun e he=>⟨h3 e he,Tx.2 ⟨h2 e he,h5 e he⟩⟩,h1,fun y hy=>by cases hy⟩,h4,fun e=>absurd rfl e⟩
section
variable {t:List ByteArray} (ht:AN CB t) (hl:t.length<18446744073709551616) {n:Int} (hn:n<9223372036854775808) (h0:0≤n)
include ht hl hn h0
omit h0 in
omit h0 in
theorem mD {l:List zFSA} (h:S4 t n l):∀c∈Bt t l,c<256:=(eG (Vi ht) hl hn).lt _ h
end
theorem xP (l:List (List AC)):uh (l.length:Int) (SN l):=by
 refine ⟨sR l,fun e he=>?_⟩
 obtain ⟨h1,h2⟩:=Xp he
 rw [h2]
 refine ⟨VV _ _ _,N8 _ _ _,fun EB=>?_⟩
 obtain ⟨s,hs,hx⟩:=zFM.1 h1
 obtain ⟨j,hj,rfl⟩:=zEH hs
 have:(j:Int)∈BX l l.length e.1:=(VW _ _ _ _).2 ⟨j,rfl,hj,by rwa [zBP,zAC hj]⟩
 rw [EB] at this
 cases this
end
theorem Mr {α σ:Type} (f:σ→α→List Nat) (nx:σ→α→σ) (a b:List α):∀s,Bc f nx s (a++b)=Bc f nx s a++Bc f nx (a.foldl nx s) b:=by
 induction a with
 | nil=>intro s;rfl
 | cons x a ih=>intro s;rw [zBX,Bc,Bc,ih,zAK];rfl
def BF (l:List Int) (k:Nat):List Nat:=Bc U3 (fun _ x=>some x) none (l.take k)
def Kw (l:List Int):Nat→Int
 | 0=>0
 | k+1=>l.getD k 0
theorem J3 {l:List Int} {k:Nat} {x:Int} (h:l[k]? = some x):Kw l (k+1)=x:=by rw [Kw,zBP,h];rfl
theorem lastO (l:List Int) (k:Nat) (h:k≤l.length):((l.take k).foldl (fun (_:Option Int) x=>some x) none).getD 0=Kw l k:=by
 cases k with
 | zero=>rfl
 | succ k=>
  obtain ⟨x,hx⟩:∃x,l[k]? = some x:=⟨_,zAC (by omega)⟩
  rw [zAL,hx,zDL,J3 hx]
  rfl
theorem Tw {l:List Int} {k:Nat} {x:Int} (h:l[k]? = some x):BF l (k+1)=BF l k++Ab (x-Kw l k).toNat:=by
 rw [BF,zAL,h,Mr]
 simp only [zEY,Bc,zBR,U3]
 rw [lastO l k (zEQ (zAE.1 h).1)]
 rfl
theorem pV (l:List Int) (k:Nat):(BF l k).length≤(Bc U3 (fun _ x=>some x) none l).length:=by
 have h:Bc U3 (fun (_:Option Int) x=>some x) none l=BF l k++Bc U3 (fun _ x=>some x) ((l.take k).foldl (fun (_:Option Int) x=>some x) none) (l.drop k):=by
  rw [BF,← Mr,zBD]
 rw [h,zAB];omega
theorem V9 (l:List Int) (k:Nat):(BF l k).length≤(BF l l.length).length:=by
 have h:=pV l k
 rwa [show Bc U3 (fun (_:Option Int) x=>some x) none l=BF l l.length by rw [BF,zCT]] at h
theorem a6 (l:List Int):Ph l=Ab l.length++BF l l.length:=by rw [BF,zCT];rfl
theorem ZX {l:List Int} {k:Nat} {x:Int} (h:l[k]? = some x) (ha:AN ET l) (h0:∀y∈l,0≤y):0≤Kw l k∧Kw l k≤x:=by
 have hx:=h0 x (zAG h)
 cases k with
 | zero=>exact ⟨Int.le_refl _,hx⟩
 | succ k=>
  obtain ⟨hl,e⟩:=zAE.1 h
  obtain ⟨y,hy⟩:∃y,l[k]? = some y:=⟨_,zAC (by omega)⟩
  rw [J3 hy]
  refine ⟨h0 y (zAG hy),?_⟩
  unfold AN at ha
  rw [zBW] at ha
  obtain ⟨dB,e2⟩:=zAE.1 hy
  have:=ha k (k+1) dB hl (by omega)
  rw [e,e2] at this
  simp only [ET,zCH] at this
  omega
def E8 (t:List ByteArray) (l:List zFSA) (i:Nat):List Nat:=Ab l.length++(l.take i).flatMap (Dw t)
theorem PX {t:List ByteArray} {l:List zFSA} {i:Nat} {n v:ByteArray} {s:List Int} (h:l[i]? = some ((n,v),s)):E8 t l (i+1)=E8 t l i++Ab (Df t n)++Ab (Df t v)++Ab s.length++BF s s.length:=by
 rw [E8,zAL,h,zBO,E8]
 simp [Dw,ED,a6]
theorem Zi (t:List ByteArray) (l:List zFSA) (i:Nat) (h:l.length≤i):E8 t l i=Bt t l:=by rw [E8,zAF h];rfl
theorem r5 (t:List ByteArray) (l:List zFSA) (i:Nat):(E8 t l i).length≤(Bt t l).length:=by
 have:Bt t l=E8 t l i++(l.drop i).flatMap (Dw t):=by
  rw [E8,zAK,← zBO,zBD];rfl
 rw [this,zAB];omega
theorem Vl {t:List ByteArray} {l:List zFSA} {i:Nat} {n v:ByteArray} {s:List Int} (h:l[i]? = some ((n,v),s)):(E8 t l i).length+(Ab (Df t n)).length+(Ab (Df t v)).length+(Ab s.length).length+(BF s s.length).length≤(Bt t l).length:=by
 have h1:=r5 t l (i+1)
 rw [PX h] at h1
 simp only [zAB] at h1
 omega
theorem Vm {t:List ByteArray} {l:List zFSA} {e:zFSA} (he:e∈l) (h:¬CV t e.1):Cl t l=(14,[]):=by rw [Cl,if_neg (fun k=>h (k e he))]
theorem So {t:List ByteArray} {l:List zFSA} (h:∀e∈l,CV t e.1):Cl t l=(0,Bt t l):=by rw [Cl,if_pos h]
structure JJ (c:Nat) (l:List zFSA):Prop where
 asc:AN FO (l.map Prod.fst)
 len:l.length≤c
 KO:∀e∈l,AN ET e.2∧e.2.length≤c
theorem JJ.nil (c:Nat):JJ c []:=⟨List.Pairwise.nil,zAJ _,fun e h=>by cases h⟩
theorem JJ.mono {c d:Nat} {l:List zFSA} (h:JJ c l) (hcd:c≤d):JJ d l:=⟨h.asc,zAW h.len hcd,fun e he=>⟨(h.KO e he).1,zAW (h.KO e he).2 hcd⟩⟩
theorem nW (x:AC) (n:Int) (l:List zFSA) (ha:AN FO (l.map Prod.fst)):(NS x n l).map Prod.fst=BL FO x (l.map Prod.fst):=by
 induction l with
 | nil=>rfl
 | cons e l ih=>
  obtain ⟨h1,h2⟩:=zAU.1 ha
  rw [NS,zBC,BL]
  rcases CL.Yo e.1 x with f | f | f
  ·have Aq:FO e.1 x=true:=by unfold FO;rw [f];rfl
   rw [if_neg (by omega),if_neg (by omega),if_pos Aq,zBC,ih h2]
  ·have hx:e.1=x:=(CL.eq _ _).1 f
   have yP:FO x x=false:=CA.SP x
   rw [if_pos f,hx,if_neg (by rw [yP];decide),if_neg (by rw [yP];decide),zBC]
  ·have Aq:FO x e.1=true:=(Xz e.1 x).2 (by omega)
   have xx:FO e.1 x=false:=CA.toLtPre.uk Aq
   rw [if_neg (by omega),if_pos (by omega),if_neg (by rw [xx];decide),if_pos Aq]
   rfl
theorem nY (x:AC) (n:Int) {c:Nat} (l:List zFSA) (h:∀e∈l,AN ET e.2∧e.2.length≤c):∀e∈NS x n l,AN ET e.2∧e.2.length≤c+1:=by
 have h1:AN ET [n]:=zCY _ _
 induction l with
 | nil=>
  intro e he
  rw [NS,zCF] at he
  subst he
  exact ⟨h1,by simp⟩
 | cons a l ih=>
  have h0:=h a (by simp)
  have hl:∀e∈l,AN ET e.2∧e.2.length≤c:=fun e he=>h e (by simp [he])
  have up:∀e∈a::l,AN ET e.2∧e.2.length≤c+1:=fun e he=>⟨(h e he).1,by have:=(h e he).2;omega⟩
  intro e he
  rw [NS] at he
  split at he
  ·rcases zAS.1 he with f | f
   ·subst f
    exact ⟨NR MZ _ _ h0.1,by have:=RX (lt:=ET) n a.2;have:=h0.2;simp only;omega⟩
   ·exact up e (by simp [f])
  ·split at he
   ·rcases zAS.1 he with f | f
    ·subst f;exact ⟨h1,by simp⟩
    ·exact up e f
   ·rcases zAS.1 he with f | f
    ·subst f;exact up e (by simp)
    ·exact ih hl e f
theorem JJ.ins {c:Nat} {l:List zFSA} (h:JJ c l) (x:AC) (n:Int):JJ (c+1) (ZT x n l):=by
 rw [ZU h.asc]
 have hf:=nW x n l h.asc
 refine ⟨by rw [hf];exact NR CA _ _ h.asc,?_,nY x n l h.KO⟩
 have h1:(NS x n l).length=(BL FO x (l.map Prod.fst)).length:=by rw [← hf,zAT]
 have h2:=RX (lt:=FO) x (l.map Prod.fst)
 rw [zAT] at h2
 have:=h.len
 omega
theorem JJ.adds {c:Nat} {l:List zFSA} (h:JJ c l) (i:Int) (s:List AC):JJ (c+s.length) (Rk i l s):=by
 induction s using Lv with
 | h0=>exact h
 | h1 s y ih=>
  rw [PK,zAB]
  exact ih.ins y i
theorem JJ.built (l:List (List AC)) (k:Nat) (hk:k≤l.length):JJ (l.take k).flatten.length (DL l k):=by
 induction k with
 | zero=>exact JJ.nil _
 | succ k ih=>
  rw [JT]
  refine (JJ.adds (ih (by omega)) (k:Int) (l.getD k [])).mono ?_
  have:=GL (l:=l) (k:=k) (by omega)
  unfold A4 at this
  rw [this,zAB]
  exact zAD _
theorem Mn {l:List (List AC)} {i:Nat} {s:List AC} (h:l[i]? = some s):(l.take i).flatten.length+s.length≤l.flatten.length:=by
 obtain ⟨Aq,e⟩:=zAE.1 h
 have e2:l.flatten=(l.take i).flatten++(l.drop i).flatten:=by rw [← zFE,zBD]
 have e3:l.drop i=s::l.drop (i+1):=by rw [← e,zEG]
 rw [e2,e3,zAB,zFZ,zAB];omega
theorem tH (l:List Int) (h:∀x∈l,0≤x∧x<1000000000):∀s:Option Int,0≤s.getD 0→(Bc U3 (fun _ x=>some x) s l).length≤10*l.length:=by
 induction l with
 | nil=>intro s _;simp [Bc]
 | cons x l ih=>
  intro s hs
  have hx:=h x (by simp)
  rw [Bc,zAB,zAH]
  have h1:=ih (fun y hy=>h y (by simp [hy])) (some x) hx.1
  have h2:(U3 s x).length≤10:=AE (by omega)
  omega
theorem NG {α:Type} (f:α→List Nat) (k:Nat) (l:List α) (h:∀x∈l,(f x).length≤k):(l.flatMap f).length≤l.length*k:=by
 induction l with
 | nil=>simp
 | cons x l ih=>
  rw [zBN,zAB,zAH,zEO,Nat.one_mul]
  have h1:=ih (fun y hy=>h y (by simp [hy]))
  have h2:=h x (by simp)
  omega
theorem mM (t:List ByteArray) (s:ByteArray):(Dx t s).toNat≤t.length:=by
 by_cases h:s∈t
 ·obtain ⟨j,hj,xp⟩:=Ey h
  have:=(zAE.1 xp).1
  omega
 ·rw [E9 h];simp
theorem Mw (m:List (List AC)):∀e∈Bk m,CV (Bp (m.flatMap An)) e.1:=by
 intro e he
 rw [LL] at he
 obtain ⟨y,hy,hx⟩:=zFM.1 (Xp he).1
 have h1:e.1.1∈An y:=zBZ.2 ⟨e.1,hx,by simp⟩
 have h2:e.1.2∈An y:=zBZ.2 ⟨e.1,hx,by simp⟩
 exact ⟨(LA _ _).2 (zBZ.2 ⟨y,hy,h1⟩),(LA _ _).2 (zBZ.2 ⟨y,hy,h2⟩)⟩
theorem Y6 (x y:AC):Az [x] [y]=AW x y:=by
 show (if AW x y=0 then 0 else AW x y)=AW x y
 split
 ·next h=>exact h.symm
 ·rfl
theorem lp.yG {w w':World} (h:lp w w'):Ck w w':=by
 obtain ⟨n,rfl⟩:=h
 exact (Ck.refl w).drewN n
theorem VH {w:World} {b:Nat} {x:AC} (h:Ao w b [.string x.1,.string x.2]):Rd w 2 (.slice (some ⟨b,0,none⟩) 1 1) 1 (Am [x]):=Rd.FQ (n:=1) h rfl (by simp [maxLen])
theorem UR (x y:AC) (w:World) :
  Calls Tryz.prog 116 #[.agg #[.string x.1,.string x.2],.agg #[.string y.1,.string y.2]] w fun e w'=>e = .returned (.int .i64 (AW x y))∧Ck w w':=by
 obtain ⟨xn,xv⟩:=x
 obtain ⟨yn,yv⟩:=y
 show Calls Tryz.prog 116 #[.agg #[.string xn,.string xv],.agg #[.string yn,.string yv]] w fun e w'=>e = .returned (.int .i64 (AW (xn,xv) (yn,yv)))∧Ck w w'
 obtain ⟨w1,Cg⟩:∃w1,w1=w.alloc (.cells #[.string xn,.string xv] 108):=⟨_,rfl⟩
 obtain ⟨w2,EC⟩:∃w2,w2=w1.alloc (.cells #[.string yn,.string yv] 108):=⟨_,rfl⟩
 obtain ⟨w3,SL⟩:∃w3,w3=w2.alloc (.cells #[.string xn,.string xv] 108):=⟨_,rfl⟩
 obtain ⟨w4,uR⟩:∃w4,w4=w3.alloc (.cells #[.string yn,.string yv] 108):=⟨_,rfl⟩
 have HG:Hid (Ck w w4):=by show Ck _ _;rw [uR,SL,EC,Cg];exact ((((Ck.refl w).alloc _).alloc _).alloc _).alloc _
 have KN:w2.heap.size=w.heap.size+2:=by rw [EC,Cg];simp
 have qX:w3.heap.size=w.heap.size+3:=by rw [SL,EC,Cg];simp
 have k3:Ao w4 (w.heap.size+2) [.string xn,.string xv]:=by
  rw [uR,← KN,SL];exact (Ao.new w2 _ _).alloc _
 have k4:Ao w4 (w.heap.size+3) [.string yn,.string yv]:=by
  rw [uR,← qX];exact Ao.new w3 _ _
 have HC:=zAA (Pd _ _ [(xn,xv)] [(yn,yv)] w4 (VH (x:=(xn,xv)) k3) (VH (x:=(yn,yv)) k4) (by simp) (by simp))
 rw [Y6] at HC
 have HW:Hid (w4=(((w.alloc (.cells #[.string xn,.string xv] 108)).alloc (.cells #[.string yn,.string yv] 108)).alloc (.cells #[.string xn,.string xv] 108)).alloc (.cells #[.string yn,.string yv] 108)):=by show _=_;rw [uR,SL,EC,Cg]
 clear Cg EC SL uR KN qX k3 k4
 generalize AW (xn,xv) (yn,yv)=o at *
 go_enter Tryz.func116,Tryz.ntmps116
 go_wp2_with fail
 rw [← HW.out]
 refine HC.out.mono ?_
 rintro e w5 ⟨rfl,hG⟩
 have bG:=zAA (HG.out.trans hG.yG)
 clear hG HC HG HW
 go_wp2_with fail
 go_ret
 exact ⟨rfl,bG.out⟩
abbrev Jk:=(AC × List Int) × Value
def sh (p:Jk):List Value:=[.string p.1.1.1,.string p.1.1.2,p.2]
def Bx (M:List Jk):List Value:=M.flatMap sh
theorem Ru (a b:List Jk):Bx (a++b)=Bx a++Bx b:=by simp [Bx,zBO]
theorem WT (M:List Jk) (j:Nat) (p:Jk) (h:M[j]? = some p):(Bx M)[j*3]? = some (.string p.1.1.1)∧(Bx M)[j*3+1]? = some (.string p.1.1.2)∧(Bx M)[j*3+2]? = some p.2:=by
 induction M generalizing j with
 | nil=>simp at h
 | cons r M ih=>
  have e:Bx (r::M) = .string r.1.1.1 :: .string r.1.1.2::r.2::Bx M:=rfl
  cases j with
  | zero=>
   simp at h
   subst h
   rw [e]
   exact ⟨rfl,rfl,rfl⟩
  | succ j=>
   obtain ⟨h1,h2,h3⟩:=ih j (by simpa using h)
   rw [e,show (j+1)*3=j*3+3 by omega]
   exact ⟨by simpa using h1,by simpa using h2,by simpa using h3⟩
structure mg (w:World) (v:Value) (l:List (AC × List Int)):Prop where
 ex:∃M:List Jk,M.map Prod.fst=l∧Rd w 3 v M.length (Bx M)∧∀p∈M,Rd w 1 p.2 p.1.2.length (A1 p.1.2)
theorem mg.shape {w:World} {v:Value} {l:List (AC × List Int)} (k:mg w v l):∃p c,v = .slice p l.length c:=by
 obtain ⟨M,h1,h2,_⟩:=k.ex
 have:l.length=M.length:=by rw [← h1,zAT]
 rw [this]
 exact h2.shape
theorem mg.always {w:World} {p:Option Addr} {n c:Nat} {l:List (AC × List Int)} (k:mg w (.slice p n c) l) {i:Nat} {e:AC × List Int} (hi:l[i]? = some e) :
  ∃b off q d,p=some ⟨b,off,none⟩∧∀w',Below w.heap.size w w'→(w'.cell? ⟨b,off+i*3,none⟩=some (.string e.1.1)∧w'.cell? ⟨b,off+i*3+1,none⟩=some (.string e.1.2)∧w'.cell? ⟨b,off+i*3+2,none⟩=some (.slice q e.2.length d))∧Rd w' 1 (.slice q e.2.length d) e.2.length (A1 e.2):=by
 obtain ⟨M,h1,h2,h3⟩:=k.ex
 subst h1
 rw [zBQ] at hi
 obtain ⟨x,hx,rfl⟩:=zDN.1 hi
 obtain ⟨g1,g2,g3⟩:=WT M i x hx
 have hr:=h3 x (zAG hx)
 obtain ⟨q,d,hq⟩:=hr.shape
 obtain ⟨b,off,c',e,_,_,hc⟩:=h2.at (fun e=>by rw [e] at g1;cases g1)
 simp only [zAN] at e
 have c1:=hc _ _ g1
 have c2:=hc _ _ g2
 have c3:=hc _ _ g3
 rw [← zDH] at c2 c3
 rw [hq] at hr c3
 exact ⟨b,off,q,d,e.1,fun w' hb=>⟨⟨(hb.cell (zAP w _ c1)).trans c1,(hb.cell (zAP w _ c2)).trans c2,(hb.cell (zAP w _ c3)).trans c3⟩,hr.below hb⟩⟩
def JO (S:Nat→Prop) (h:Value) (s:List Int):Prop:=s≠[]→∀k,h.ownBlock=some k→¬S k
theorem P6 {l:List Int} (h:A1 l≠[]):l≠[]:=fun e=>h (by subst e;rfl)
theorem SM {l:List Int} (h:l≠[]):A1 l≠[]:=fun e=>h (zAI (by have:=congrArg List.length e;simpa [A1] using this))
structure C6 (t:TypeId) (w wr:World) (M:List Jk) (v:Value):Prop where
 row:wr.ownsRow w.heap.size t 3 v M.length (Bx M)
 AA:Below w.heap.size w wr
 KO:∀p∈M,Rd wr 1 p.2 p.1.2.length (A1 p.1.2)∧JO (fun k=>v.ownBlock=some k) p.2 p.1.2
theorem C6.nil {t:TypeId} (w:World):C6 t w w [] (.slice none 0 0):=⟨zBI _ _ _ _,zAM _ _,fun p hp=>by cases hp⟩
theorem C6.below {t:TypeId} {w wr w1:World} {M:List Jk} {v:Value} (k:C6 t w wr M v) (hb:Below wr.heap.size wr w1):C6 t w w1 M v:=
 ⟨(Ac.Ah hb (fun _=>False)).owns k.row (fun _ _ e=>e),k.AA.trans (hb.mono k.AA.size),fun p hp=>⟨(k.KO p hp).1.below hb,(k.KO p hp).2⟩⟩
theorem C6.rd {t:TypeId} {w wr:World} {M:List Jk} {v:Value} (k:C6 t w wr M v):mg wr v (M.map Prod.fst):=⟨M,rfl,Rd.Ad k.row,fun p hp=>(k.KO p hp).1⟩
theorem C6.shape {t:TypeId} {w wr:World} {M:List Jk} {v:Value} (k:C6 t w wr M v):∃p c,v = .slice p M.length c:=(Rd.Ad k.row).shape
theorem C6.Cz {t:TypeId} {w wr:World} {M:List Jk} {v:Value} (k:C6 t w wr M v):wr.ownsRow 0 t 3 v M.length (Bx M):=Af k.row (fun _ _=>zAJ _)
theorem C6.B5 {t:TypeId} {w wr w1:World} {M:List Jk} {v v1:Value} {p:Jk} (k:C6 t w wr M v) (Jw:Rd wr 1 p.2 p.1.2.length (A1 p.1.2)) (ho:JO (fun j=>v.ownBlock=some j) p.2 p.1.2)
  (k1:w1.ownsRow 0 t 3 v1 (M.length+1) (Bx M++sh p)) (m:Ac (fun j=>v.ownBlock=some j) wr w1) (hf:AG wr.heap.size v v1):C6 t w w1 (M++[p]) v1:=by
 have ZJ:∀(h:Value) (s:List Int),Rd wr 1 h s.length (A1 s)→JO (fun j=>v.ownBlock=some j) h s→Rd w1 1 h s.length (A1 s)∧JO (fun j=>v1.ownBlock=some j) h s:=fun h s a b=>by
  refine ⟨a.FZ m (fun e=>b (P6 e)),fun e j hj hv=>?_⟩
  rcases hf j hv with f | f
  ·exact b e j hj f
  ·have:=a.lt (SM e) j hj;omega
 refine ⟨?_,k.AA.trans (m.below k.AA.size (fun j hj e=>by have:=(k.row.lt j e).1;omega)),fun q hq=>?_⟩
 ·rw [zAB,Ru]
  refine Af (by simpa [Bx] using k1) (fun j hj=>?_)
  rcases hf j hj with e | e
  ·exact (k.row.lt j e).1
  ·have:=k.AA.size;omega
 ·rcases zBJ.1 hq with f | f
  ·exact ZJ _ _ (k.KO q f).1 (k.KO q f).2
  ·rw [zCF.1 f]
   exact ZJ _ _ Jw ho
theorem Jr:Cd Tryz.prog 59 3 1 8:=Cd.mk' (z:=.int .i64 0) Tryz.underlying59 (by kernel_rfl) rfl (by decide)
abbrev mc:=Cp 3 (fun x:Int=>Value.int .i64 x)
theorem Th {w:World} {p:Option Addr} {n c:Nat} {l:List Int} (h:Rd w 1 (.slice p n c) l.length (A1 l)) {i:Nat} {x:Int} (hx:l[i]? = some x):∃b off,p=some ⟨b,off,none⟩∧∀w',Below w.heap.size w w'→w'.cell? ⟨b,off+i,none⟩=some (.int .i64 x):=by
 have Aq:=(zAE.1 hx).1
 obtain ⟨b,off,c',e,_,_,hc⟩:=h.at (fun e=>by have:=congrArg List.length e;rw [Ce] at this;rw [this] at Aq;simp at Aq)
 simp only [zAN] at e
 have Aj:=hc i _ (by rw [A1,zBQ,hx];rfl)
 exact ⟨b,off,e.1,fun w' hb=>(hb.cell (zAP w _ Aj)).trans Aj⟩
theorem kf (lv:Value) (l:List Int) (x:Int) (w:World) (hl:Rd w 1 lv l.length (A1 l)) :
  Calls Tryz.prog 156 #[lv,.int .i64 x] w fun e w'=>e = .returned (.bool (decide (x∈l)))∧w'=w:=by
 have HL:=zAA hl
 obtain ⟨pl,cl,hv⟩:=hl.shape
 subst hv
 have Xk:(l.length:Int)≤9223372036854775807:=by have:=hl.le;unfold maxLen at this;omega
 clear hl
 go_enter Tryz.func156,Tryz.ntmps156
 go_wp2_with fail
 go_loopw [5] (fun iv wr=>∃(i:Nat),i≤l.length∧iv = .int .i64 (i:Int)∧Hid (x∉l.take i)∧wr=w) (fun iv _=>l.length-(intOf iv).toNat)
 case atStart=>exact ⟨0,zAJ _,rfl,(by show x∉_;simp),rfl⟩
 case round=>
  obtain ⟨i,hi,rfl,HF,rfl⟩:=hrel
  have KM:(i:Int)≤9223372036854775807:=by omega
  by_cases Aq:i<l.length
  ·have AF:(i:Int)<(l.length:Int):=by omega
   obtain ⟨y,hy⟩:∃y,l[i]? = some y:=⟨_,zAC Aq⟩
   obtain ⟨b,off,e,Aj⟩:=Th HL.out hy
   subst e
   have c0:=Aj wr (zAM _ _)
   have Pw:Hid (l.take (i+1)=l.take i++[y]):=by show _=_;rw [zAL,hy];rfl
   have HMy:Hid (y∈l):=zAG hy
   clear hy Aj
   by_cases KH:y=x
   ·have HD:Hid (decide (x∈l)=true):=zBA (KH ▸ HMy.out)
    subst KH
    go_wp2_with fail
    go_ret
    exact ⟨by rw [HD.out];rfl,rfl⟩
   ·have xM:(y == x)=false:=by rw [zAQ];exact KH
    have ii:Hid (x∉l.take (i+1)):=by
     show x∉_
     rw [Pw.out]
     intro h
     rcases zBJ.1 h with e | e
     ·exact HF.out e
     ·simp only [zCF] at e;exact KH e.symm
    clear Aq
    go_wp2_with fail
    go_round
    case rel=>exact ⟨i+1,by omega,by go_num,ii.out,trivial⟩
    case measure=>simp [intOf];omega
  ·have AF:¬(i:Int)<(l.length:Int):=by omega
   have HD:Hid (decide (x∈l)=false):=zAV (by have h:=HF.out;rwa [zAF (by omega)] at h)
   go_wp2_with fail
   go_ret
   exact ⟨by rw [HD.out];rfl,rfl⟩
theorem jH {l:List Int} {x:Int} (ha:AN ET l) (hx:x∈l):BL ET x l=l:=
 sj (NR MZ x l ha) ha (fun z=>by rw [SO MZ];exact ⟨fun h=>h.elim (fun e=>e ▸ hx) id,Or.inr⟩)
theorem nZ {l:List Int} {x:Int} {i:Nat} (hi:i≤l.length) (dC:∀z∈l.take i,ET z x=true) (hx:x∉l) (yN:∀y,l[i]? = some y→¬y<x):BL ET x l=l.take i++x::l.drop i:=by
 have e:=J1 MZ.toLtPre x (l.take i) (l.drop i) dC (fun z hz=>by
  rw [List.head?_drop] at hz
  have h1:=yN z hz
  have h2:z≠x:=fun e=>hx (e ▸ zAG hz)
  simp only [ET,zCH];omega)
 rwa [zBD] at e
theorem jA (l:List Int) (i:Nat):(A1 l).drop (i*1)=A1 (l.drop i):=by rw [zFI,A1,A1,List.map_drop]
theorem XQ (lv : Value) (l : List Int) (x : Int) (w : World) (hl : Rd w 1 lv l.length (A1 l)) (ha : AN ET l) (hn : l.length ≤ 1000000) :
    Calls Tryz.prog 117 #[lv, .int .i64 x] w fun e w' => (e = .returned lv ∧ BL ET x l = l ∧ w' = w) ∨ ∃ v, e = .returned v ∧ mc w w' (BL ET x l) v := by
  have HL := zAA hl
  have HA := zAA ha
  have lc := zAA hn
  have HC := zAA (kf lv l x w hl)
  obtain ⟨pl, cl, hv⟩ := hl.shape
  subst hv
  clear hl ha hn
  by_cases Ct : x ∈ l
  · rw [zBA Ct] at HC
    have HS := zAA (jH HA.out Ct)
    clear Ct
    go_enter Tryz.func117, Tryz.ntmps117
    go_wp2_with fail
    refine HC.out.mono ?_
    rintro en w1 ⟨rfl, Cg⟩
    have HW : Hid (w1 = w) := Cg
    clear HC Cg
    go_wp2_with fail
    go_ret
    exact Or.inl ⟨rfl, HS.out, HW.out⟩
  · rw [zAV Ct] at HC
    have HX := zAA Ct
    clear Ct
    go_enter Tryz.func117, Tryz.ntmps117
    go_wp2_with fail
    refine HC.out.mono ?_
    rintro en w1 ⟨rfl, Cg⟩
    have HW : Hid (w1 = w) := Cg
    clear HC Cg
    go_wp2_with fail
    go_loopw [5, 6] (fun vv iv wr => ∃ (i : Nat), i ≤ l.length ∧ iv = .int .i64 (i : Int) ∧ Hid (∀ z ∈ l.take i, ET z x = true) ∧ Hid (mc w wr (l.take i) vv)) (fun _ iv _ => l.length - (intOf iv).toNat)
    case atStart => exact ⟨0, zAJ _, rfl, (by intro z hz; simp at hz), by rw [HW.out]; exact Cp.nil w⟩
    case round =>
      obtain ⟨i, hi, rfl, Vf, HO⟩ := hrel
      have KM : (i : Int) ≤ 1000000 := by have := lc.out; omega
      have Bg : (l.take i).length = i := by rw [zAR]; omega
      have Ei := zAA Bg
      obtain ⟨pv, cv, DB⟩ := HO.out.shape
      rw [Bg] at DB
      subst DB
      have HT : Hid (l.take i ++ l.drop i = l) := zBD i l
      clear Bg
      by_cases hgo : ∃ y, l[i]? = some y ∧ y < x
      · obtain ⟨y, hy, Xm⟩ := hgo
        have Aq := (zAE.1 hy).1
        have AF : (i : Int) < (l.length : Int) := by omega
        obtain ⟨b0, off, e, Aj⟩ := Th HL.out hy
        subst e
        have Pw : Hid (l.take (i + 1) = l.take i ++ [y]) := by show _ = _; rw [zAL, hy]; rfl
        have vE : Hid (∀ z ∈ l.take (i + 1), ET z x = true) := by
          show ∀ z ∈ _, _
          rw [Pw.out]
          intro z hz
          rcases zBJ.1 hz with e | e
          · exact Vf.out z e
          · simp only [zCF] at e; subst e; simpa [ET] using Xm
        have c0 := Aj wr HO.out.AA
        clear hy Aj HT
        generalize l.take i = d at *
        have FT : Hid (wr.ownsRow 0 3 1 (.slice pv i cv) i (A1 d)) := by
          have h := HO.out.Cz
          rw [Ei.out] at h
          exact h
        have C0 : Hid ((i + 1) * 8 ≤ 140737488355328 ∧ i + 1 ≤ maxLen) := by show _ ∧ _; unfold maxLen; omega
        go_wp2_with (at_builtin; refine AD Jr _ #[.int .i64 y] _ _ _ FT.out rfl (by simp [Value.oneCell']) C0.out rfl _ _ rfl rfl rfl ?_)
        intro v1 w2 k1 m1 f1
        have Ew : Hid (mc w w2 (d ++ [y]) v1) := HO.out.B5 (by rw [Ei.out]; exact k1) m1 f1
        clear k1 m1 f1 FT HO c0
        go_wp2_with fail
        go_round
        case rel => exact ⟨i + 1, by omega, by go_num, vE.out, by rw [Pw.out]; exact Ew.out⟩
        case measure => simp [intOf]; omega
      · have HE : Hid (BL ET x l = l.take i ++ x :: l.drop i) := nZ hi Vf.out HX.out (fun y hy h => hgo ⟨y, hy, h⟩)
        have HLd : Hid ((l.drop i).length = l.length - i) := zCN
        have QL : (l.length : Int) ≤ 1000000 := by have := lc.out; omega
        have HP : Hid (l.length ≤ i ∨ ∃ y, l[i]? = some y ∧ x ≤ y) := by
          by_cases Aq : i < l.length
          · exact Or.inr ⟨l[i], zAC Aq, by
              have h1 : ¬ l[i] < x := fun h => hgo ⟨l[i], zAC Aq, h⟩
              omega⟩
          · exact Or.inl (by omega)
        clear hgo HT
        have Jf := zAA (HL.out.below HO.out.AA)
        have FT : Hid (wr.ownsRow 0 3 1 (.slice pv i cv) i (A1 (l.take i))) := by
          have h := HO.out.Cz
          rw [Ei.out] at h
          exact h
        have C0 : Hid ((i + 1) * 8 ≤ 140737488355328 ∧ i + 1 ≤ maxLen) := by show _ ∧ _; unfold maxLen; omega
        have HLc : Hid ((i + 1 + (l.length - i)) * 8 ≤ 140737488355328 ∧ i + 1 + (l.length - i) ≤ maxLen) := by show _ ∧ _; have := lc.out; unfold maxLen; omega
        rcases HP.out with T0 | ⟨y, hy, KH⟩
        have xx : ¬ (i : Int) < (l.length : Int) := by omega
        rotate_left
        have Aq := (zAE.1 hy).1
        have AF : (i : Int) < (l.length : Int) := by omega
        obtain ⟨b0, off, e, Aj⟩ := Th HL.out hy
        subst e
        have c0 := Aj wr HO.out.AA
        have hnx : ¬ y < x := by omega
        clear hy Aj
        rotate_left
        all_goals
          generalize l.take i = d at *
          go_wp2_with (at_builtin; refine AD Jr _ #[.int .i64 x] _ _ _ FT.out rfl (by simp [Value.oneCell']) C0.out rfl _ _ rfl rfl rfl ?_)
          intro v1 w2 k1 m1 f1
          have Ew : Hid (mc w w2 (d ++ [x]) v1) := HO.out.B5 (by rw [Ei.out]; exact k1) m1 f1
          have il : Hid ((d ++ [x]).length = i + 1) := by show _ = _; rw [zAB, Ei.out]; rfl
          obtain ⟨p1, c1, DA⟩ := Ew.out.shape
          rw [il.out] at DA
          subst DA
          have Np := zAA (HL.out.below Ew.out.AA)
          have HOx : Hid (w2.ownsRow 0 3 1 (.slice p1 (i + 1) c1) (i + 1) (A1 (d ++ [x]))) := by
            have h := Ew.out.Cz
            rw [il.out] at h
            exact h
          clear k1 m1 f1 FT HO
          go_wp2_with (refine bB Jr _ _ _ i _ Np.out hi rfl _ _ rfl rfl rfl ?_; intro p2 c2 h2; refine At Jr _ _ _ _ _ _ (A1 (l.drop i)) HOx.out (by rw [← jA]; exact h2) (nQ (l.drop i)) HLc.out rfl _ _ rfl rfl rfl ?_)
          intro v3 w3 k1 m1 f1
          have hk : w3.ownsRow 0 3 1 v3 ((d ++ [x]).length + (l.drop i).length) (A1 (d ++ [x]) ++ A1 (l.drop i)) := by
            rw [il.out, HLd.out]
            first
              | exact k1
              | (have h0 : l.length - i = 0 := by omega
                 rw [h0]
                 exact k1)
          have GG : Hid (mc w w3 (d ++ [x] ++ l.drop i) v3) := Ew.out.extended hk m1 f1
          clear hk k1 m1 f1 HOx Ew
          go_wp2_with fail
          go_ret
          exact Or.inr ⟨_, rfl, by rw [HE.out]; simpa using GG.out⟩
theorem LO:Cd Tryz.prog 66 127 3 56:=Cd.mk' (z:=.agg #[.string ⟨#[]⟩,.string ⟨#[]⟩,.slice none 0 0]) Tryz.underlying66 (by kernel_rfl) rfl (by decide)
theorem C6.lower {t:TypeId} {w w1 wr:World} {M:List Jk} {v:Value} (h:C6 t w1 wr M v) (hb:Below w.heap.size w w1):C6 t w wr M v:=
 ⟨Af h.row (fun k hk=>zAW hb.size (h.row.lt k hk).1),hb.trans (h.AA.mono hb.size),h.KO⟩
theorem iY {x:AC} {n:Int} {l:List zFSA} {i:Nat} {e:zFSA} (h:l[i]? = some e):(l.take (i+1)).foldl (B8 x n) ([],false)=B8 x n ((l.take i).foldl (B8 x n) ([],false)) e:=by
 rw [zAL,h,zDL];rfl
theorem ins14 (lv:Value) (l:List Int) (x:Int) (w:World) (hl:Rd w 1 lv l.length (A1 l)) (ha:AN ET l) (hn:l.length≤1000000) :
  Calls Tryz.prog 117 #[lv,.int .i64 x] w fun e w'=>∃v,e = .returned v∧Rd w' 1 v (BL ET x l).length (A1 (BL ET x l))∧Below w.heap.size w w'∧((v=lv∧BL ET x l=l)∨∀k,v.ownBlock=some k→w.heap.size≤k):=
 (XQ lv l x w hl ha hn).mono fun e w' h=>by
  rcases h with ⟨he,h1,rfl⟩ | ⟨v,he,hO⟩
  ·exact ⟨lv,he,by rw [h1];exact hl,zAM _ _,Or.inl ⟨rfl,h1⟩⟩
  ·exact ⟨v,he,hO.rd,hO.AA,Or.inr fun k hk=>(hO.row.lt k hk).1⟩
theorem XR (lv:Value) (l:List zFSA) (x:AC) (n:Int) (w:World) (h:mg w lv l) (hn:l.length≤100000) (hs:∀e∈l,AN ET e.2∧e.2.length≤1000000) :
  Calls Tryz.prog 80 #[lv,.agg #[.string x.1,.string x.2],.int .i64 n] w fun e w'=>∃v,e = .returned v∧∃M,C6 127 w w' M v∧M.map Prod.fst=ZT x n l:=by
 obtain ⟨x1,x2⟩:=x
 have H:=zAA h;have HS:=zAA hs
 obtain ⟨p,c,hv⟩:=h.shape
 subst hv
 have Xk:(l.length:Int)≤100000:=by omega
 have HN:Hid (l.length≤100000):=hn
 obtain ⟨w1,Cg⟩:∃w1,w1=w.alloc (.cells #[.string x1,.string x2] 108):=⟨_,rfl⟩
 have HW:Hid (w.alloc (.cells #[.string x1,.string x2] 108)=w1):=Cg.symm
 have A6:Hid (Below w.heap.size w w1):=by show Below _ _ _;rw [Cg];exact (zAM _ w).alloc (zAD _) _
 have TY:Hid (Ao w1 w.heap.size [.string x1,.string x2]):=by show Ao _ _ _;rw [Cg];exact Ao.new w _ _
 have HS1:Hid (w1.heap.size=w.heap.size+1):=by show _=_;rw [Cg];simp
 obtain ⟨bx,yK⟩:∃bx,w.heap.size=bx:=⟨_,rfl⟩
 have HBx:=zAA yK
 rw [yK] at TY HS1
 clear h hn hs Cg yK
 go_enter Tryz.func80,Tryz.ntmps80
 go_wp2_with fail
 rw [HW.out,HBx.out]
 clear HW
 go_loopw [7,8,9] (fun vv dv iv wr=>∃(i:Nat) (M:List Jk) (d:Bool),i≤l.length∧iv = .int .i64 (i:Int)∧dv = .bool d∧M.length≤2*i∧Hid (C6 127 w1 wr M vv)∧Hid ((l.take i).foldl (B8 (x1,x2) n) ([],false)=(M.map Prod.fst,d))) (fun _ _ iv _=>l.length-(intOf iv).toNat)
 case atStart=>exact ⟨0,[],false,zAJ _,rfl,rfl,by simp,C6.nil w1,rfl⟩
 case round=>
  obtain ⟨i,M,d,hi,rfl,rfl,hML,HA,HF⟩:=hrel
  have KM:(i:Int)≤100000:=by omega
  have HM:Hid (M.length≤2*i):=hML
  clear hML
  obtain ⟨pv,cv,DB⟩:=HA.out.shape
  subst DB
  obtain ⟨m,hm⟩:∃m,M.length=m:=⟨_,rfl⟩
  have fN:=zAA hm
  rw [hm] at HA HM ⊢
  clear hm
  by_cases Aq:i<l.length
  ·have AF:(i:Int)<(l.length:Int):=by omega
   obtain ⟨⟨⟨e1,e2⟩,es⟩,hx⟩:∃s,l[i]? = some s:=⟨_,zAC Aq⟩
   obtain ⟨b,off,q,d',e,Ex⟩:=H.out.always hx
   subst e
   have Fi:=zAA Ex
   have HEs:Hid (AN ET es∧es.length≤1000000):=HS.out _ (zAG hx)
   have BH:=zAA (iY (x:=(x1,x2)) (n:=n) hx)
   have HQ:Hid (es≠[]→∀k,(Value.slice q es.length d').ownBlock=some k→k<w.heap.size):=fun e k hk=>(Ex w (zAM _ _)).2.lt (SM e) k hk
   simp only at Fi
   clear hx Ex
   have HG:Hid (∀n os,Below w.heap.size w (Go.Sort.grow (wr.drewN n) os)∧Ao (Go.Sort.grow (wr.drewN n) os) bx [.string x1,.string x2]):=fun n os=>by
    have hg:Ck wr (Go.Sort.grow (wr.drewN n) os):=(Ck.refl wr).grow n os
    exact ⟨(A6.out.trans (HA.out.AA.mono A6.out.size)).trans (hg.below.mono (A6.out.trans (HA.out.AA.mono A6.out.size)).size),hg.AM (TY.out.of_same (HA.out.AA.block _ TY.out.lt))⟩
   have y0:∀n os,(Go.Sort.grow (wr.drewN n) os).cell? ⟨b,off+i*3,none⟩=some (.string e1):=fun n os=>(Fi.out _ (HG.out n os).1).1.1
   have y1:∀n os,(Go.Sort.grow (wr.drewN n) os).cell? ⟨b,off+i*3+1,none⟩=some (.string e2):=fun n os=>(Fi.out _ (HG.out n os).1).1.2.1
   have x0:∀n os,(Go.Sort.grow (wr.drewN n) os).cell? ⟨bx,0,none⟩=some (.string x1):=fun n os=>by rw [(HG.out n os).2.cell];rfl
   have x1':∀n os,(Go.Sort.grow (wr.drewN n) os).cell? ⟨bx,1,none⟩=some (.string x2):=fun n os=>by rw [(HG.out n os).2.cell];rfl
   have ma:Hid (∀n os,Calls Tryz.prog 116 #[.agg #[.string e1,.string e2],.agg #[.string x1,.string x2]] (Go.Sort.grow (wr.drewN n) os) fun e w'=>e = .returned (.int .i64 (AW (e1,e2) (x1,x2)))∧∃q os',w'=Go.Sort.grow ((Go.Sort.grow (wr.drewN n) os).drewN q) os'):=fun n os=>UR (e1,e2) (x1,x2) _
   have nj:=CL.Yo (e1,e2) (x1,x2)
   have Fw:Hid ((l.take (i+1)).foldl (B8 (x1,x2) n) ([],false)=if AW (e1,e2) (x1,x2)=0 then ((if 0<AW (e1,e2) (x1,x2)∧d=false then (M.map Prod.fst++[((x1,x2),[n])],true) else (M.map Prod.fst,d)).1++[((x1,x2),BL ET n es)],true) else ((if 0<AW (e1,e2) (x1,x2)∧d=false then (M.map Prod.fst++[((x1,x2),[n])],true) else (M.map Prod.fst,d)).1++[((e1,e2),es)],(if 0<AW (e1,e2) (x1,x2)∧d=false then (M.map Prod.fst++[((x1,x2),[n])],true) else (M.map Prod.fst,d)).2)):=by
    show _=_
    rw [BH.out,HF.out];rfl
   generalize AW (e1,e2) (x1,x2)=cv2 at *
   clear BH
   go_wp2_with fail
   have mixed : Tryz.prog.follows .mixedOrders=true:=by kernel_rfl
   go_quiet_grown (first | (go_at_call 116;exact Calls.grown_of (ma.out _ _)))
   have Yu:Ck wr (Go.Sort.grow (wr.drewN nq) osq):=(Ck.refl wr).grow nq osq
   have G0:=zAA (HA.out.below Yu.below)
   clear y0 y1 x0 x1' ma HG mixed Yu HA
   show Exit.then _ _ _ _ (Go.Sort.grow (wr.drewN nq) osq)
   generalize Go.Sort.grow (wr.drewN nq) osq=w2 at *
   have AP:Hid (Below w.heap.size w w2):=A6.out.trans (G0.out.AA.mono A6.out.size)
   have C1:Hid (Ao w2 bx [.string x1,.string x2]):=TY.out.of_same (G0.out.AA.block _ TY.out.lt)
   rcases nj with rfl | rfl | rfl
   ·have HE:Hid ((l.take (i+1)).foldl (B8 (x1,x2) n) ([],false)=(M.map Prod.fst++[((e1,e2),es)],d)):=by show _=_;have:=Fw.out;simpa using this
    clear Fw
    obtain ⟨⟨c0,c1,c2⟩,_⟩:=Fi.out w2 AP.out
    have bP:Below w2.heap.size w2 (w2.alloc (.cells #[.string e1,.string e2,.slice q es.length d'] 127)):=(zAM _ _).alloc (zAD _) _
    have qE:Hid (Below w.heap.size w (w2.alloc (.cells #[.string e1,.string e2,.slice q es.length d'] 127))):=AP.out.trans (bP.mono AP.out.size)
    have bF:=zAA (G0.out.below bP)
    have FT:Hid ((w2.alloc (.cells #[.string e1,.string e2,.slice q es.length d'] 127)).ownsRow 0 127 3 (.slice pv m cv) m (Bx M)):=by
     show World.ownsRow _ _ _ _ _ _ _
     have h:=bF.out.Cz
     rw [fN.out] at h
     exact h
    have EQ:Hid ((w2.alloc (.cells #[.string e1,.string e2,.slice q es.length d'] 127)).heap.size=w2.heap.size+1):=by show _=_;simp
    have C0:Hid ((m+1)*56≤140737488355328∧m+1≤maxLen):=by show _∧_;have:=HM.out;have:=HN.out;unfold maxLen;omega
    clear bP
    go_wp2_with (at_builtin;refine AD LO (w2.alloc (.cells #[.string e1,.string e2,.slice q es.length d'] 127)) #[.string e1,.string e2,.slice q es.length d'] _ _ _ FT.out rfl (by simp [Value.oneCell']) C0.out rfl _ _ rfl rfl ?hxx1 ?_)
    try (case hxx1=>(rw [EQ.out];rfl))
    intro v9 w9 r1 r2 r3
    rw [← EQ.out] at r3
    clear EQ
    have lw:Hid (C6 127 w1 w9 (M++[(((e1,e2),es),.slice q es.length d')]) v9):=by
     refine bF.out.B5 (p:=(((e1,e2),es),.slice q es.length d')) (Fi.out _ qE.out).2 (fun he j hj hv=>?_) (by rw [fN.out];exact r1) r2 r3
     have h1:=HQ.out he j hj
     have h2:=(bF.out.row.lt j hv).1
     have h3:=A6.out.size
     omega
    obtain ⟨pv9,cv9,hv⟩:=lw.out.shape
    subst hv
    clear r1 r2 r3 FT C0 bF qE c0 c1 c2
    go_wp2_with fail
    go_round
    case rel=>exact ⟨i+1,_,d,by omega,by go_num,rfl,by simp only [zAB,zAH,zBG,fN.out];have:=HM.out;omega,lw.out,by show _=_;rw [HE.out,zCD];try rfl;try simp⟩
    case measure=>simp [intOf];omega
   ·have HE:Hid ((l.take (i+1)).foldl (B8 (x1,x2) n) ([],false)=(M.map Prod.fst++[((x1,x2),BL ET n es)],true)):=by show _=_;have:=Fw.out;simpa using this
    clear Fw
    obtain ⟨⟨c0,c1,c2⟩,_⟩:=Fi.out w2 AP.out
    have bP:Below w2.heap.size w2 (w2.alloc (.cells #[.string e1,.string e2,.slice q es.length d'] 127)):=(zAM _ _).alloc (zAD _) _
    have qE:Hid (Below w.heap.size w (w2.alloc (.cells #[.string e1,.string e2,.slice q es.length d'] 127))):=AP.out.trans (bP.mono AP.out.size)
    have bF:=zAA (G0.out.below bP)
    obtain ⟨W3,Xb⟩:∃W3,W3=w2.alloc (.cells #[.string e1,.string e2,.slice q es.length d'] 127):=⟨_,rfl⟩
    have fQ:Hid (w2.alloc (.cells #[.string e1,.string e2,.slice q es.length d'] 127)=W3):=Xb.symm
    have GF:Hid (Ao W3 w2.heap.size [.string e1,.string e2,.slice q es.length d']):=by show Ao _ _ _;rw [Xb];exact Ao.new _ _ _
    have Jh:Hid (Ao W3 bx [.string x1,.string x2]):=by show Ao _ _ _;rw [Xb];exact C1.out.alloc _
    have lx:Hid (Below w2.heap.size w2 W3):=by show Below _ _ _;rw [Xb];exact bP
    have HRl:Hid (∀k,(Value.slice pv m cv).ownBlock=some k→k<w2.heap.size):=fun k hk=>(G0.out.row.lt k hk).2
    have Yl:Hid (bx<w2.heap.size):=C1.out.lt
    clear Xb bP qE bF
    go_wp2_with fail
    rw [fQ.out]
    clear c0 c1 c2 fQ
    try go_wp2_with fail
    have vl:Hid (Below w.heap.size w W3):=AP.out.trans (lx.out.mono AP.out.size)
    have kX:=zAA (G0.out.below lx.out)
    obtain ⟨ex,hex⟩:∃ex,w2.heap.size=ex:=⟨_,rfl⟩
    have vw:Hid (ex<W3.heap.size∧bx<ex∧∀k,(Value.slice pv m cv).ownBlock=some k→k<ex):=by rw [← hex];exact ⟨GF.out.lt,Yl.out,HRl.out⟩
    rw [hex] at GF lx ⊢
    have HEw:Hid (w2.heap.size=ex):=hex
    clear hex HRl Yl
    have HS:Hid (∀w':World,(w'.cell? ⟨bx,0,none⟩=some (.string x1)∧w'.cell? ⟨bx,1,none⟩=some (.string x2)∧True)→(w'.cell? ⟨bx,0,none⟩=some (.string x1)∧w'.cell? ⟨bx,1,none⟩=some (.string x2)∧True)):=fun _ h=>h
    refine Gh ?_
    refine AI (fun w':World=>w'.cell? ⟨bx,0,none⟩=some (.string x1)∧w'.cell? ⟨bx,1,none⟩=some (.string x2)∧True) [2,4,6] [0,1,3,2,4,5,6] (by kernel_rfl) (by kernel_rfl) (by kernel_rfl) ?_ ?_ ?_
    ·intro c a a' w hd h;cases h.1
    ·exact ⟨by rw [Jh.out.drew.cell];rfl,by rw [Jh.out.drew.cell];rfl,trivial⟩
    simp only [Cj,zBC,zCP,zBE,zAY,zBM]
    have hbd:Below W3.heap.size W3 W3.drew:=(Ac.drew (fun _=>False) W3).below (zAD _) (fun _ _ e=>e)
    have zj:Hid (Below ex w2 W3.drew):=lx.out.trans (hbd.mono (by have:=vw.out.1;omega))
    have rf:Hid (Below w.heap.size w W3.drew):=vl.out.trans (hbd.mono vl.out.size)
    have KP:Hid (Ao W3.drew ex [.string e1,.string e2,.slice q es.length d']):=GF.out.drew
    have fR:Hid (Ao W3.drew bx [.string x1,.string x2]):=Jh.out.drew
    have yl:Hid (ex<W3.drew.heap.size):=by show _<_;have:=hbd.size;have:=vw.out.1;omega
    clear hbd lx vl GF Jh kX
    generalize W3.drew=W4 at *
    repeat (first
        | (refine takeH_skip rfl ?_; simp only [Act.put, List.setIfInBounds_toArray, List.set_cons_succ, List.set_cons_zero])
        | (refine takeH_blind rfl rfl ?_; apply Exists.intro; refine ⟨fun w => ?_, ?_⟩; (go_simp; try with_reducible rfl); simp only [Act.put, List.setIfInBounds_toArray, List.set_cons_succ, List.set_cons_zero])
        | (refine takeH_reads rfl rfl ?_; apply Exists.intro; refine ⟨fun w' hS => ?_, ?_⟩; (obtain ⟨d0, d1, d2⟩ := HS.out w' hS; go_simp; try with_reducible rfl); simp only [Act.put, List.setIfInBounds_toArray, List.set_cons_succ, List.set_cons_zero]))
    have g2:W4.cell? ⟨ex,2,none⟩=some (.slice q es.length d'):=by rw [KP.out.cell];rfl
    refine AY rfl rfl (fun K' hK=>?_)
    go_wp2_with fail
    refine hK _ _ ⟨by rw [fR.out.cell];rfl,by rw [fR.out.cell];rfl,trivial⟩ ?_
    clear hK K' g2
    repeat (first
        | (refine takeH_skip rfl ?_; simp only [Act.put, List.setIfInBounds_toArray, List.set_cons_succ, List.set_cons_zero])
        | (refine takeH_blind rfl rfl ?_; apply Exists.intro; refine ⟨fun w => ?_, ?_⟩; (go_simp; try with_reducible rfl); simp only [Act.put, List.setIfInBounds_toArray, List.set_cons_succ, List.set_cons_zero])
        | (refine takeH_reads rfl rfl ?_; apply Exists.intro; refine ⟨fun w' hS => ?_, ?_⟩; (obtain ⟨d0, d1, d2⟩ := HS.out w' hS; go_simp; try with_reducible rfl); simp only [Act.put, List.setIfInBounds_toArray, List.set_cons_succ, List.set_cons_zero]))
    refine AY rfl rfl (fun K' hK=>?_)
    go_wp2_with fail
    refine (ins14 _ es n W4 (Fi.out _ rf.out).2 HEs.out.1 HEs.out.2).mono ?_
    rintro e W5 ⟨vn,rfl,hR,hB,y5⟩
    have t8:=zAA hR
    have vi:Hid (Below ex w2 W5):=zj.out.trans (hB.mono (by have:=yl.out;omega))
    have HBx5:Hid (Below w.heap.size w W5):=rf.out.trans (hB.mono rf.out.size)
    have Ve:Hid (Ao W5 ex [.string e1,.string e2,.slice q es.length d']):=KP.out.of_same (hB.block _ KP.out.lt)
    have HX5:Hid (Ao W5 bx [.string x1,.string x2]):=fR.out.of_same (hB.block _ fR.out.lt)
    have HVn:Hid (BL ET n es≠[]→∀k,vn.ownBlock=some k→k<w.heap.size∨ex<k):=fun BC k hk=>by
     rcases y5 with ⟨rfl,hes⟩ | hf
     ·exact Or.inl (HQ.out (by rw [← hes];exact BC) k hk)
     ·have:=hf k hk
      have:=yl.out
      exact Or.inr (by omega)
    obtain ⟨pn,cn,hv⟩:=hR.shape
    subst hv
    refine hK _ _ ⟨by rw [HX5.out.cell];rfl,by rw [HX5.out.cell];rfl,trivial⟩ ?_
    clear hK K' hR hB y5 KP fR zj rf yl
    generalize BL ET n es=ns at *
    repeat (first
        | (refine takeH_skip rfl ?_; simp only [Act.put, List.setIfInBounds_toArray, List.set_cons_succ, List.set_cons_zero])
        | (refine takeH_blind rfl rfl ?_; apply Exists.intro; refine ⟨fun w => ?_, ?_⟩; (go_simp; try with_reducible rfl); simp only [Act.put, List.setIfInBounds_toArray, List.set_cons_succ, List.set_cons_zero])
        | (refine takeH_reads rfl rfl ?_; apply Exists.intro; refine ⟨fun w' hS => ?_, ?_⟩; (obtain ⟨d0, d1, d2⟩ := HS.out w' hS; go_simp; try with_reducible rfl); simp only [Act.put, List.setIfInBounds_toArray, List.set_cons_succ, List.set_cons_zero]))
    obtain ⟨⟨g0,g1,g2⟩,f0,f1,f2⟩:=Ve.out.three
    refine AY rfl rfl (fun K' hK=>?_)
    go_wp2_with fail
    obtain ⟨W6,qS⟩:∃W6,W6=((W5.setCell ⟨ex,0,none⟩ (.string x1)).setCell ⟨ex,1,none⟩ (.string x2)).setCell ⟨ex,2,none⟩ (.slice pn ns.length cn):=⟨_,rfl⟩
    have hm:Ac (fun k=>k=ex) W5 W6:=by rw [qS];exact Er W5 ex _ _ _
    have HB26:Hid (Below ex w2 W6):=vi.out.trans (hm.below (by have:=vi.out.size;have:=HEw.out;omega) (fun k _ e=>by have:k=ex:=e;omega))
    have Yf:Hid (Ao W6 ex [.string x1,.string x2,.slice pn ns.length cn]):=by show Ao _ _ _;rw [qS];exact Ve.out.fi _ _ _
    have ue:Hid (Ao W6 bx [.string x1,.string x2]):=hm.AM HX5.out (fun e=>by have:=vw.out.2.1;omega)
    have rD:Hid (Rd W6 1 (.slice pn ns.length cn) ns.length (A1 ns)):=t8.out.FZ hm (fun BC k hk e=>by
     have h1:=HVn.out (P6 BC) k hk
     have h2:k=ex:=e
     have h3:=vw.out.2.1
     have h4:=HBx.out
     omega)
    have ra:=zAA (G0.out.below (by rw [HEw.out];exact HB26.out))
    rw [← qS]
    refine hK _ _ ⟨by rw [ue.out.cell];rfl,by rw [ue.out.cell];rfl,trivial⟩ ?_
    clear hK K' qS hm g0 g1 g2 f0 f1 f2 vi HBx5 Ve HX5 t8
    repeat (first
        | (refine takeH_skip rfl ?_; simp only [Act.put, List.setIfInBounds_toArray, List.set_cons_succ, List.set_cons_zero])
        | (refine takeH_blind rfl rfl ?_; apply Exists.intro; refine ⟨fun w => ?_, ?_⟩; (go_simp; try with_reducible rfl); simp only [Act.put, List.setIfInBounds_toArray, List.set_cons_succ, List.set_cons_zero])
        | (refine takeH_reads rfl rfl ?_; apply Exists.intro; refine ⟨fun w' hS => ?_, ?_⟩; (obtain ⟨d0, d1, d2⟩ := HS.out w' hS; go_simp; try with_reducible rfl); simp only [Act.put, List.setIfInBounds_toArray, List.set_cons_succ, List.set_cons_zero]))
    refine Bv ⟨rfl,?_⟩
    clear HS
    obtain ⟨⟨g0,g1,g2⟩,_⟩:=Yf.out.three
    have FT:Hid (W6.ownsRow 0 127 3 (.slice pv m cv) m (Bx M)):=by
     show World.ownsRow _ _ _ _ _ _ _
     have h:=ra.out.Cz
     rw [fN.out] at h
     exact h
    have C0:Hid ((m+1)*56≤140737488355328∧m+1≤maxLen):=by show _∧_;have:=HM.out;have:=HN.out;unfold maxLen;omega
    go_wp2_with (at_builtin;refine AD LO W6 #[.string x1,.string x2,.slice pn ns.length cn] _ _ _ FT.out rfl (by simp [Value.oneCell']) C0.out rfl _ _ rfl rfl rfl ?_)
    intro v9 w9 r1 r2 r3
    have lw:Hid (C6 127 w1 w9 (M++[(((x1,x2),ns),.slice pn ns.length cn)]) v9):=by
     refine ra.out.B5 (p:=(((x1,x2),ns),.slice pn ns.length cn)) rD.out (fun he j hj hv=>?_) (by rw [fN.out];exact r1) r2 r3
     have h1:=HVn.out he j hj
     have h2:=(ra.out.row.lt j hv).1
     have h3:=A6.out.size
     have h4:=vw.out.2.2 j hv
     omega
    obtain ⟨pv9,cv9,hv⟩:=lw.out.shape
    subst hv
    clear r1 r2 r3 FT C0 g0 g1 g2 Yf ue rD ra
    go_wp2_with fail
    go_round
    case rel=>exact ⟨i+1,_,true,by omega,by go_num,rfl,by simp only [zAB,zAH,zBG,fN.out];have:=HM.out;omega,lw.out,by show _=_;rw [HE.out,zCD];rfl⟩
    case measure=>simp [intOf];omega
   ·cases d with
    | true=>
     have HE:Hid ((l.take (i+1)).foldl (B8 (x1,x2) n) ([],false)=(M.map Prod.fst++[((e1,e2),es)],true)):=by show _=_;have:=Fw.out;simpa using this
     clear Fw
     obtain ⟨⟨c0,c1,c2⟩,_⟩:=Fi.out w2 AP.out
     have bP:Below w2.heap.size w2 (w2.alloc (.cells #[.string e1,.string e2,.slice q es.length d'] 127)):=(zAM _ _).alloc (zAD _) _
     have qE:Hid (Below w.heap.size w (w2.alloc (.cells #[.string e1,.string e2,.slice q es.length d'] 127))):=AP.out.trans (bP.mono AP.out.size)
     have bF:=zAA (G0.out.below bP)
     have FT:Hid ((w2.alloc (.cells #[.string e1,.string e2,.slice q es.length d'] 127)).ownsRow 0 127 3 (.slice pv m cv) m (Bx M)):=by
      show World.ownsRow _ _ _ _ _ _ _
      have h:=bF.out.Cz
      rw [fN.out] at h
      exact h
     have EQ:Hid ((w2.alloc (.cells #[.string e1,.string e2,.slice q es.length d'] 127)).heap.size=w2.heap.size+1):=by show _=_;simp
     have C0:Hid ((m+1)*56≤140737488355328∧m+1≤maxLen):=by show _∧_;have:=HM.out;have:=HN.out;unfold maxLen;omega
     clear bP
     go_wp2_with (at_builtin;refine AD LO (w2.alloc (.cells #[.string e1,.string e2,.slice q es.length d'] 127)) #[.string e1,.string e2,.slice q es.length d'] _ _ _ FT.out rfl (by simp [Value.oneCell']) C0.out rfl _ _ rfl rfl ?hxx2 ?_)
     try (case hxx2=>(rw [EQ.out];rfl))
     intro v9 w9 r1 r2 r3
     rw [← EQ.out] at r3
     clear EQ
     have lw:Hid (C6 127 w1 w9 (M++[(((e1,e2),es),.slice q es.length d')]) v9):=by
      refine bF.out.B5 (p:=(((e1,e2),es),.slice q es.length d')) (Fi.out _ qE.out).2 (fun he j hj hv=>?_) (by rw [fN.out];exact r1) r2 r3
      have h1:=HQ.out he j hj
      have h2:=(bF.out.row.lt j hv).1
      have h3:=A6.out.size
      omega
     obtain ⟨pv9,cv9,hv⟩:=lw.out.shape
     subst hv
     clear r1 r2 r3 FT C0 bF qE c0 c1 c2
     go_wp2_with fail
     go_round
     case rel=>exact ⟨i+1,_,true,by omega,by go_num,rfl,by simp only [zAB,zAH,zBG,fN.out];have:=HM.out;omega,lw.out,by show _=_;rw [HE.out,zCD];try rfl;try simp⟩
     case measure=>simp [intOf];omega
    | false=>
     have HE:Hid ((l.take (i+1)).foldl (B8 (x1,x2) n) ([],false)=((M.map Prod.fst++[((x1,x2),[n])])++[((e1,e2),es)],true)):=by show _=_;have:=Fw.out;simpa using this
     clear Fw
     obtain ⟨wa,jy⟩:∃wa,wa=w2.alloc (.cells #[.int .i64 n] 3):=⟨_,rfl⟩
     have SD:Below w2.heap.size w2 wa:=by rw [jy];exact (zAM _ _).alloc (zAD _) _
     have hkA:Ao wa w2.heap.size [.int .i64 n]:=by rw [jy];exact Ao.new _ _ _
     have HRn:Hid (Rd wa 1 (.slice (some ⟨w2.heap.size,0,none⟩) 1 1) 1 (A1 [n])):=Rd.FQ (n:=1) hkA rfl (by simp [maxLen])
     have vf:=zAA (G0.out.below SD)
     have FT:Hid ((w2.alloc (.cells #[.int .i64 n] 3)).ownsRow 0 127 3 (.slice pv m cv) m (Bx M)):=by
      show World.ownsRow _ _ _ _ _ _ _
      have h:=vf.out.Cz
      rw [fN.out] at h
      rw [← jy]
      exact h
     have qH:Hid (∀k,(Value.slice pv m cv).ownBlock=some k→k<w2.heap.size):=fun k hk=>(G0.out.row.lt k hk).2
     have Wx:Hid (wa=w2.alloc (.cells #[.int .i64 n] 3)):=jy
     have EQ:Hid ((w2.alloc (.cells #[.int .i64 n] 3)).heap.size=w2.heap.size+1):=by show _=_;simp
     have z0:w2.cell? ⟨bx,0,none⟩=some (.string x1):=by rw [C1.out.cell];rfl
     have z1:w2.cell? ⟨bx,1,none⟩=some (.string x2):=by rw [C1.out.cell];rfl
     clear jy SD hkA
     have C0:Hid ((m+1)*56≤140737488355328∧m+1≤maxLen):=by show _∧_;have:=HM.out;have:=HN.out;unfold maxLen;omega
     go_wp2_with (at_builtin;refine AD LO (w2.alloc (.cells #[.int .i64 n] 3)) #[.string x1,.string x2,.slice (some ⟨w2.heap.size,0,none⟩) 1 1] _ _ _ FT.out rfl (by simp [Value.oneCell']) C0.out rfl _ _ rfl rfl ?hxx3 ?_)
     try (case hxx3=>(rw [EQ.out];rfl))
     intro v4 w4 r1 r2 r3
     rw [← EQ.out] at r3
     clear EQ
     rw [← Wx.out] at r2 r3
     have L5:Hid (C6 127 w1 w4 (M++[(((x1,x2),[n]),.slice (some ⟨w2.heap.size,0,none⟩) 1 1)]) v4):=by
      refine vf.out.B5 (p:=(((x1,x2),[n]),.slice (some ⟨w2.heap.size,0,none⟩) 1 1)) HRn.out (fun _ j hj hv=>?_) (by rw [fN.out];exact r1) r2 r3
      have h1:w2.heap.size=j:=by simpa [Value.ownBlock] using hj
      have h2:=qH.out j hv
      omega
     obtain ⟨pv4,cv4,hv⟩:=L5.out.shape
     subst hv
     have CF:Hid (Below w.heap.size w w4):=A6.out.trans (L5.out.AA.mono A6.out.size)
     have fR:Hid (Ao w4 bx [.string x1,.string x2]):=TY.out.of_same (L5.out.AA.block _ TY.out.lt)
     clear r1 r2 r3 FT HRn qH vf Wx z0 z1 C0
     obtain ⟨M4,ut⟩:∃M4,M++[(((x1,x2),[n]),.slice (some ⟨w2.heap.size,0,none⟩) 1 1)]=M4:=⟨_,rfl⟩
     have z6:Hid (M4.map Prod.fst=M.map Prod.fst++[((x1,x2),[n])]):=by show _=_;rw [← ut,zCD];rfl
     have HM4l:Hid (M4.length=m+1):=by show _=_;rw [← ut,zAB,fN.out];rfl
     rw [ut] at L5 ⊢
     clear ut
     obtain ⟨m4,hm4⟩:∃m4,M4.length=m4:=⟨_,rfl⟩
     have tZ:=zAA hm4
     have Ni:Hid (m4≤2*i+1):=by show _≤_;rw [← hm4,HM4l.out];have:=HM.out;omega
     rw [hm4] at L5 ⊢
     clear hm4
     rw [← z6.out] at HE
     obtain ⟨⟨c0,c1,c2⟩,_⟩:=Fi.out w4 CF.out
     have bP:Below w4.heap.size w4 (w4.alloc (.cells #[.string e1,.string e2,.slice q es.length d'] 127)):=(zAM _ _).alloc (zAD _) _
     have qE:Hid (Below w.heap.size w (w4.alloc (.cells #[.string e1,.string e2,.slice q es.length d'] 127))):=CF.out.trans (bP.mono CF.out.size)
     have bF:=zAA (L5.out.below bP)
     have FT:Hid ((w4.alloc (.cells #[.string e1,.string e2,.slice q es.length d'] 127)).ownsRow 0 127 3 (.slice pv4 m4 cv4) m4 (Bx M4)):=by
      show World.ownsRow _ _ _ _ _ _ _
      have h:=bF.out.Cz
      rw [tZ.out] at h
      exact h
     have EQ:Hid ((w4.alloc (.cells #[.string e1,.string e2,.slice q es.length d'] 127)).heap.size=w4.heap.size+1):=by show _=_;simp
     have C0:Hid ((m4+1)*56≤140737488355328∧m4+1≤maxLen):=by show _∧_;have:=Ni.out;have:=HN.out;unfold maxLen;omega
     clear bP
     go_wp2_with (at_builtin;refine AD LO (w4.alloc (.cells #[.string e1,.string e2,.slice q es.length d'] 127)) #[.string e1,.string e2,.slice q es.length d'] _ _ _ FT.out rfl (by simp [Value.oneCell']) C0.out rfl _ _ rfl rfl ?hxx4 ?_)
     try (case hxx4=>(rw [EQ.out];rfl))
     intro v9 w9 r1 r2 r3
     rw [← EQ.out] at r3
     clear EQ
     have lw:Hid (C6 127 w1 w9 (M4++[(((e1,e2),es),.slice q es.length d')]) v9):=by
      refine bF.out.B5 (p:=(((e1,e2),es),.slice q es.length d')) (Fi.out _ qE.out).2 (fun he j hj hv=>?_) (by rw [tZ.out];exact r1) r2 r3
      have h1:=HQ.out he j hj
      have h2:=(bF.out.row.lt j hv).1
      have h3:=A6.out.size
      omega
     obtain ⟨pv9,cv9,hv⟩:=lw.out.shape
     subst hv
     clear r1 r2 r3 FT C0 bF qE c0 c1 c2
     go_wp2_with fail
     go_round
     case rel=>exact ⟨i+1,_,true,by omega,by go_num,rfl,by simp only [zAB,zAH,zBG,tZ.out];have:=Ni.out;omega,lw.out,by show _=_;rw [HE.out,zCD];try rfl;try simp⟩
     case measure=>simp [intOf];omega
  ·have AF:¬(i:Int)<(l.length:Int):=by omega
   have HE:Hid (l.take i=l):=zAF (by omega)
   rw [HE.out] at HF
   have AP:Hid (Below w.heap.size w wr):=A6.out.trans (HA.out.AA.mono A6.out.size)
   have C1:Hid (Ao wr bx [.string x1,.string x2]):=TY.out.of_same (HA.out.AA.block _ TY.out.lt)
   cases d with
   | true=>
    go_wp2_with fail
    go_ret
    exact ⟨_,rfl,M,HA.out.lower A6.out,by rw [ZT,HF.out];rfl⟩
   | false=>
    obtain ⟨wa,jy⟩:∃wa,wa=wr.alloc (.cells #[.int .i64 n] 3):=⟨_,rfl⟩
    have SD:Below wr.heap.size wr wa:=by rw [jy];exact (zAM _ _).alloc (zAD _) _
    have hkA:Ao wa wr.heap.size [.int .i64 n]:=by rw [jy];exact Ao.new _ _ _
    have HRn:Hid (Rd wa 1 (.slice (some ⟨wr.heap.size,0,none⟩) 1 1) 1 (A1 [n])):=Rd.FQ (n:=1) hkA rfl (by simp [maxLen])
    have vf:=zAA (HA.out.below SD)
    have FT:Hid ((wr.alloc (.cells #[.int .i64 n] 3)).ownsRow 0 127 3 (.slice pv m cv) m (Bx M)):=by
     show World.ownsRow _ _ _ _ _ _ _
     have h:=vf.out.Cz
     rw [fN.out] at h
     rw [← jy]
     exact h
    have qH:Hid (∀k,(Value.slice pv m cv).ownBlock=some k→k<wr.heap.size):=fun k hk=>(HA.out.row.lt k hk).2
    have Wx:Hid (wa=wr.alloc (.cells #[.int .i64 n] 3)):=jy
    have EQ:Hid ((wr.alloc (.cells #[.int .i64 n] 3)).heap.size=wr.heap.size+1):=by show _=_;simp
    have z0:wr.cell? ⟨bx,0,none⟩=some (.string x1):=by rw [C1.out.cell];rfl
    have z1:wr.cell? ⟨bx,1,none⟩=some (.string x2):=by rw [C1.out.cell];rfl
    clear jy SD hkA
    have C0:Hid ((m+1)*56≤140737488355328∧m+1≤maxLen):=by show _∧_;have:=HM.out;have:=HN.out;unfold maxLen;omega
    go_wp2_with (at_builtin;refine AD LO (wr.alloc (.cells #[.int .i64 n] 3)) #[.string x1,.string x2,.slice (some ⟨wr.heap.size,0,none⟩) 1 1] _ _ _ FT.out rfl (by simp [Value.oneCell']) C0.out rfl _ _ rfl rfl ?hxx5 ?_)
    try (case hxx5=>(rw [EQ.out];rfl))
    intro v4 w4 r1 r2 r3
    rw [← EQ.out] at r3
    clear EQ
    rw [← Wx.out] at r2 r3
    have L5:Hid (C6 127 w1 w4 (M++[(((x1,x2),[n]),.slice (some ⟨wr.heap.size,0,none⟩) 1 1)]) v4):=by
     refine vf.out.B5 (p:=(((x1,x2),[n]),.slice (some ⟨wr.heap.size,0,none⟩) 1 1)) HRn.out (fun _ j hj hv=>?_) (by rw [fN.out];exact r1) r2 r3
     have h1:wr.heap.size=j:=by simpa [Value.ownBlock] using hj
     have h2:=qH.out j hv
     omega
    obtain ⟨pv4,cv4,hv⟩:=L5.out.shape
    subst hv
    have CF:Hid (Below w.heap.size w w4):=A6.out.trans (L5.out.AA.mono A6.out.size)
    have fR:Hid (Ao w4 bx [.string x1,.string x2]):=TY.out.of_same (L5.out.AA.block _ TY.out.lt)
    clear r1 r2 r3 FT HRn qH vf Wx z0 z1 C0
    go_wp2_with fail
    go_ret
    exact ⟨_,rfl,_,L5.out.lower A6.out,by rw [ZT,HF.out,zCD];rfl⟩
theorem aJ (mv:Value) (m:List (List AC)) (w:World) (hm:ci w mv m) (hn:m.flatten.length≤100000) (hk:m.length≤100000) :
  Calls Tryz.prog 37 #[mv] w fun e w'=>∃v,e = .returned v∧∃M,C6 127 w w' M v∧M.map Prod.fst=Bk m:=by
 have HM:=zAA hm
 have Mk:=zAA hn
 have HK:=zAA hk
 obtain ⟨pm,cm,hv⟩:=hm.shape
 subst hv
 clear hm hn hk
 go_enter Tryz.func37,Tryz.ntmps37
 go_wp2_with fail
 go_loopw [3,4] (fun vv iv wr=>∃(i:Nat),i≤m.length∧iv = .int .i64 (i:Int)∧Hid (∃M,C6 127 w wr M vv∧M.map Prod.fst=DL m i)) (fun _ iv _=>m.length-(intOf iv).toNat)
 case atStart=>exact ⟨0,zAJ _,rfl,[],C6.nil w,rfl⟩
 case round=>
  obtain ⟨i,hi,rfl,HO⟩:=hrel
  have KM:(i:Int)≤100000:=by have:=HK.out;omega
  by_cases Aq:i<m.length
  ·have AF:(i:Int)<(m.length:Int):=by omega
   obtain ⟨l,hl⟩:∃l,m[i]? = some l:=⟨_,zAC Aq⟩
   obtain ⟨AM,off,p1,c1,e,Ex⟩:=HM.out.always hl
   subst e
   have Fi:=zAA Ex
   have HU:Hid (DL m (i+1)=Rk (i:Int) (DL m i) l):=by show _=_;rw [JT,zBP,hl];rfl
   have HB:Hid (∃c,JJ c (DL m i)∧c+l.length≤100000):=⟨_,JJ.built m i (by omega),by have:=Mn hl;have:=Mk.out;omega⟩
   have rl:Hid (l.length≤100000):=by show _≤_;have:=Mn hl;have:=Mk.out;omega
   clear hl Ex
   generalize DL m i=D at *
   go_wp2_with fail
   go_loopw [3,5] (fun vv kv wr2=>∃(k:Nat),k≤l.length∧kv = .int .i64 (k:Int)∧Hid (∃M,C6 127 w wr2 M vv∧M.map Prod.fst=Rk (i:Int) D (l.take k))) (fun _ kv _=>l.length-(intOf kv).toNat)
   case atStart=>exact ⟨0,zAJ _,rfl,HO.out⟩
   case round=>
    obtain ⟨k,Fl,rfl,BG⟩:=hrel
    have Xg:(k:Int)≤100000:=by have:=rl.out;omega
    obtain ⟨M,hA,hMf⟩:=BG.out
    have HA:=zAA hA;have tZ:=zAA hMf
    clear hA hMf BG
    obtain ⟨x0,hR⟩:=Fi.out wr HA.out.AA
    by_cases Yv:k<l.length
    ·have hlk':(k:Int)<(l.length:Int):=by omega
     obtain ⟨⟨y1,y2⟩,hx⟩:∃x,l[k]? = some x:=⟨_,zAC Yv⟩
     obtain ⟨b2,o2,e,Aj⟩:=aG hR hx
     subst e
     obtain ⟨c0,c1'⟩:=Aj wr (zAM _ _)
     simp only at c0 c1'
     have BH:Hid (Rk (i:Int) D (l.take (k+1))=ZT (y1,y2) (i:Int) (M.map Prod.fst)):=by
      show _=_
      rw [zAL,hx,zEY,PK,tZ.out]
     have HEk:Hid (JJ 100000 (M.map Prod.fst)):=by
      show JJ _ _
      obtain ⟨c,h1,h2⟩:=HB.out
      rw [tZ.out]
      exact (h1.adds (i:Int) (l.take k)).mono (by rw [zAR];omega)
     clear hx Aj hR
     have HC:=zAA (XR _ (M.map Prod.fst) (y1,y2) (i:Int) wr HA.out.rd HEk.out.len (fun e he=>⟨(HEk.out.KO e he).1,by have:=(HEk.out.KO e he).2;omega⟩))
     obtain ⟨pv,cv,DB⟩:=HA.out.shape
     subst DB
     go_wp2_with fail
     refine HC.out.mono ?_
     rintro en w1 ⟨v1,rfl,M1,hA1,uq⟩
     have Rg:=zAA (hA1.lower HA.out.AA)
     have lO:Hid (M1.map Prod.fst=Rk (i:Int) D (l.take (k+1))):=uq.trans BH.out.symm
     clear hA1 uq HC HA tZ BH HEk c0 c1' x0
     go_wp2_with fail
     go_round
     case rel=>exact ⟨k+1,by omega,by go_num,M1,Rg.out,lO.out⟩
     case measure=>simp [intOf];omega
    ·have hlk':¬(k:Int)<(l.length:Int):=by omega
     have HE:Hid (M.map Prod.fst=DL m (i+1)):=by show _=_;rw [HU.out,tZ.out,zAF (by omega)]
     clear hR
     go_wp2_with fail
     go_round
     case rel=>exact ⟨i+1,by omega,by go_num,M,HA.out,HE.out⟩
     case measure=>simp [intOf];omega
  ·have AF:¬(i:Int)<(m.length:Int):=by omega
   have HE:Hid (i=m.length):=by show _=_;omega
   go_wp2_with fail
   go_ret
   obtain ⟨M,hA,hMf⟩:=HO.out
   exact ⟨_,rfl,M,hA,by rw [hMf,HE.out];rfl⟩
end Go.Proofs.YtdcgbgecbeegmaaGreatDoor
end
