/- Texts 19. -/
import Derived.Test.YtdcgbgecbeegmaaGreatDoorMgSA
import Derived.Test.YtdcgbgecbeegmaaGreatDoorMgS18
import Derived.Laws.BitsAllLaws
set_option linter.unusedVariables false
set_option linter.unusedSimpArgs false
set_option maxHeartbeats 400000000
set_option maxRecDepth 100000
section
namespace Go.Proofs.YtdcgbgecbeegmaaGreatDoor
def QJ:List Nat:=[84,83,66,75,1]
def qp:List Nat:=[75,66,83,84]
def Eu:Nat→List (List Nat)→List Nat
 | _,[]=>[]
 | id,d::S=>AH id d++Eu (id+1) S
def EU:Nat→Nat→List (List Nat)→List Nat
 | _,_,[]=>[]
 | id,a,d::S=>a::EU (id+1) (a+(AH id d).length) S
def Bf (ats:List Nat):List Nat:=ats.flatMap Ab
def Kr (S:List (List Nat)):List Nat:=QJ++Eu 1 S++AH 5 (Bf (EU 1 5 S))
def FJ (S:List (List Nat)):List Nat:=Db (Kr S)++qp
def pD (S:List (List Nat)):Prop:=∀d∈S,(∀c∈d,c<256)∧d.length<18446744073709551616
theorem GP:∀(id a:Nat) (S:List (List Nat)),(EU id a S).length=S.length
 | _,_,[]=>rfl
 | id,a,d::S=>by rw [EU,zAH,GP,zAH]
theorem gU:∀(id:Nat) (S:List (List Nat)),id+S.length≤256→pD S→∀c∈Eu id S,c<256
 | _,[],_,_,c,hc=>by cases hc
 | id,d::S,hi,h,c,hc=>by
  rw [Eu] at hc
  rw [zAH] at hi
  rcases zBJ.1 hc with e | e
  ·exact Sy (by omega) (h d (by simp)).1 c e
  ·exact gU (id+1) S (by omega) (fun d hd=>h d (by simp [hd])) c e
theorem QD (l:List Nat):∀c∈Bf l,c<256:=fun c hc=>by
 obtain ⟨x,_,h⟩:=zBZ.1 hc
 exact Gf x c h
theorem mr {S:List (List Nat)} (h4:S.length=4) (h:pD S):∀c∈Kr S,c<256:=fun c hc=>by
 unfold Kr at hc
 rcases zBJ.1 hc with hc | hc
 ·rcases zBJ.1 hc with hc | hc
  ·simp [QJ] at hc;omega
  ·exact gU 1 S (by omega) h c hc
 ·exact Sy (by decide) (QD _) c hc
theorem Rr {l:List Nat} (h:∀x∈l,x<18446744073709551616):(Bf l).length≤10*l.length:=by
 induction l with
 | nil=>simp [Bf]
 | cons x l ih=>
  have h1:=AE (h x (by simp))
  have h2:=ih (fun y hy=>h y (by simp [hy]))
  rw [Bf,zBN,zAB,zAH,← Bf]
  omega
end Go.Proofs.YtdcgbgecbeegmaaGreatDoor
end
section
namespace Go.Proofs.YtdcgbgecbeegmaaGreatDoor
open Go Go.RowKit
def SZ (l:List Nat):List Value:=l.map fun n:Nat=>.int .i64 (n:Int)
theorem QX (l:List Nat):(SZ l).length=l.length:=by simp [SZ]
theorem ag {l:List Nat} {i x:Nat} (h:l[i]? = some x):(SZ l)[i]? = some (.int .i64 (x:Int)):=by simp [SZ,h]
structure cj (w:World) (vs:List Value) (S:List (List Nat)):Prop where
 len:vs.length=S.length
 at_:∀(i:Nat) (v:Value) (d:List Nat),vs[i]? = some v→S[i]? = some d→Rd w 1 v d.length (B9 d)
theorem cj.below {w w':World} {vs:List Value} {S:List (List Nat)} (h:cj w vs S) (hb:Below w.heap.size w w'):cj w' vs S:=⟨h.len,fun i v d h1 h2=>(h.at_ i v d h1 h2).below hb⟩
theorem cj.get {w:World} {vs:List Value} {S:List (List Nat)} (h:cj w vs S) {i:Nat} {d:List Nat} (hd:S[i]? = some d):∃p c,vs[i]? = some (.slice p d.length c)∧Rd w 1 (.slice p d.length c) d.length (B9 d):=by
 have hi:=(zAE.1 hd).1
 obtain ⟨v,hv⟩:∃v,vs[i]? = some v:=⟨_,zAC (by rw [h.len];exact hi)⟩
 have hr:=h.at_ i v d hv hd
 obtain ⟨p,c,rfl⟩:=hr.shape
 exact ⟨p,c,hv,hr⟩
theorem Z2 {α:Type} {l:List α} (h:l.length=4):∃a b c d,l=[a,b,c,d]:=by
 match l,h with
 | [a,b,c,d],_=>exact ⟨a,b,c,d,rfl⟩
theorem Uq {l:List Nat} {i x:Nat} (h:l[i]? = some x):Bf (l.take (i+1))=Bf (l.take i)++Ab x:=by
 rw [zAL,h];simp [Bf]
theorem tQ (S:Nat) (h:S<4294967296):B9 (s5 S)=[.int .u8 ((S:Int) % 256),.int .u8 ((S:Int) / 256 % 256),.int .u8 ((S:Int) / 65536 % 256),.int .u8 ((S:Int) / 16777216)]:=by
 have e:S / 16777216 % 256=S / 16777216:=by omega
 simp [B9,s5,e]
theorem dO (S:Nat):(s5 S).length=4:=rfl
theorem U6 (s:Nat) (l:List Nat) (k:Nat) (h:k<l.length):Jd s (l.take (k+1))=Ra (Jd s (l.take k)) l[k]:=by
 rw [zAL,zAC h,zEY,fE];rfl
theorem X7 (s:Nat) (l:List Nat):Jd s (l.take l.length)=Jd s l:=by rw [zCT]
end Go.Proofs.YtdcgbgecbeegmaaGreatDoor
end
