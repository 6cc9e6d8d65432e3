/- Texts 11. -/
import Derived.Test.YtdcgbgecbeegmaaGreatDoorMgSA
import Derived.Test.YtdcgbgecbeegmaaGreatDoorMgS6
import Derived.Test.YtdcgbgecbeegmaaGreatDoorMgS7
import Derived.Test.YtdcgbgecbeegmaaGreatDoorMgS8
import Derived.Test.YtdcgbgecbeegmaaGreatDoorMgS9
import Derived.Test.YtdcgbgecbeegmaaGreatDoorMgS10
set_option linter.unusedVariables false
set_option linter.unusedSimpArgs false
set_option maxHeartbeats 400000000
set_option maxRecDepth 100000
section
namespace Go.Proofs.YtdcgbgecbeegmaaGreatDoor
def EK (s:Int × Nat):Prop:=(-9223372036854775808≤s.1∧s.1<9223372036854775808)∧s.2<18446744073709551616
def Fz (tag:Nat) (l:List Nat):List Bool:=if tag=1 then G1 l else if tag=2 then PY l else Lt l
def q7 (tag:Nat) (l:List Nat):Bool:=if tag=1 then true else if tag=2 then true else RZ l
def AO (tag:Nat) (l:List Nat):Int:=if q7 tag l=true then ((Fz tag l).length:Int) else -1
def Bl (l:List Nat):Nat:=
 if AO 2 l<AO 1 l then (if 0≤AO 3 l∧AO 3 l<AO 2 l then 3 else 2) else (if 0≤AO 3 l∧AO 3 l<AO 1 l then 3 else 1)
def BN (l:List (Int × Nat)):List Int:=l.map (·.1)
def AQ (l:List (Int × Nat)):List Nat:=l.map (·.2)
def B0 (l:List (Int × Nat)):List Nat × Nat:=
 if l=[] then ([],21) else if 120<l.length then ([],7) else
 (Bl (AQ l)::(l.length-1)::Bi (FL (BN l)++Fz (Bl (AQ l)) (AQ l)),0)
theorem iI (l:List Nat):q7 (Bl l) l=true:=by
 rw [Bl]
 split
 ·split
  ·next h=>
   rw [AO] at h
   by_cases hk:q7 3 l=true
   ·exact hk
   ·rw [if_neg hk] at h;omega
  ·rfl
 ·split
  ·next h=>
   rw [AO] at h
   by_cases hk:q7 3 l=true
   ·exact hk
   ·rw [if_neg hk] at h;omega
  ·rfl
theorem MQ (l:List Nat):Bl l=1∨Bl l=2∨Bl l=3:=by
 rw [Bl]
 split
 ·split
  ·exact Or.inr (Or.inr rfl)
  ·exact Or.inr (Or.inl rfl)
 ·split
  ·exact Or.inr (Or.inr rfl)
  ·exact Or.inl rfl
theorem S2 {b:Nat} (h:b<256):MA (Aa b 8)=b:=by
 have h1:=dp b 8 [] (by simpa using h)
 rw [zBR,field,if_neg (by simp [Ae])] at h1
 have h2:=congrArg Res.x h1
 simp only at h2
 rwa [zAF (by simp [Ae])] at h2
theorem TL:∀{a b:List Nat},(∀x∈a,x<256)→(∀x∈b,x<256)→LC a=LC b→a=b
 | [],[],_,_,_=>rfl
 | [],y::b,_,_,h=>by have:=congrArg List.length h;rw [D9,D9] at this;simp at this
 | x::a,[],_,_,h=>by have:=congrArg List.length h;rw [D9,D9] at this;simp at this
 | x::a,y::b,ha,hb,h=>by
  rw [GW,GW] at h
  obtain ⟨h1,h2⟩:=List.append_inj h (by rw [Ae,Ae])
  have h3:=congrArg MA h1
  rw [S2 (ha x (zDD ..)),S2 (hb y (zDD ..))] at h3
  rw [h3,TL (fun z hz=>ha z (zCS _ hz)) (fun z hz=>hb z (zCS _ hz)) h2]
theorem LK (tag:Nat) (l:List Nat):(Fz tag l).length≤8199+78*l.length:=by
 rw [Fz]
 split
 ·have:=NC l;omega
 ·split
  ·have:=mE l;omega
  ·rw [Lt]
   split
   ·next h=>
    have hk:(A2 l).length≤128:=zGY h
    rw [Zh]
    split
    ·simp
    ·rw [zAB,zAB,Ae,Dl,F7,zAT]
     have:=zGG l.length (Po hk)
     omega
   ·simp
end Go.Proofs.YtdcgbgecbeegmaaGreatDoor
end
section
namespace Go.Proofs.YtdcgbgecbeegmaaGreatDoor
open Go Go.RowKit
def Al (l:List (Int × Nat)):List Value:=l.flatMap fun r=>[.int .i64 r.1,.int .u64 (r.2:Int)]
theorem RU:Cd Tryz.prog 49 110 2 16:=Cd.mk' (z:=.agg #[.int .i64 0,.int .u64 0]) Tryz.underlying49 (by kernel_rfl) rfl (by decide)
theorem XU (l:List (Int × Nat)):∀u∈Al l,u.oneCell'=true:=by
 intro u hu
 simp only [Al,zBZ] at hu
 obtain ⟨r,_,hu⟩:=hu
 simp only [zAS,zCX,zGU] at hu
 rcases hu with rfl | rfl<;>rfl
theorem Eg (rs:List (Int × Nat)):(Al rs).length=rs.length*2:=by
 induction rs with
 | nil=>rfl
 | cons r rs ih=>rw [Al,zBN,zAB,← Al,ih,zAH];simp;omega
theorem Kz (a b:List (Int × Nat)):Al (a++b)=Al a++Al b:=by simp [Al,zBO]
theorem Pe (rs:List (Int × Nat)) (j:Nat) (x:Int) (c:Nat) (h:rs[j]? = some (x,c)):(Al rs)[j*2]? = some (.int .i64 x)∧(Al rs)[j*2+1]? = some (.int .u64 (c:Int)):=by
 induction rs generalizing j with
 | nil=>simp at h
 | cons r rs ih=>
  have e:Al (r::rs)=[.int .i64 r.1,.int .u64 (r.2:Int)]++Al rs:=by simp [Al]
  cases j with
  | zero=>
   simp at h
   subst h
   rw [e]
   exact ⟨rfl,rfl⟩
  | succ j=>
   obtain ⟨h1,h2⟩:=ih j (by simpa using h)
   rw [e,show (j+1)*2=j*2+2 by omega]
   exact ⟨by simpa using h1,by simpa using h2⟩
end Go.Proofs.YtdcgbgecbeegmaaGreatDoor
end
