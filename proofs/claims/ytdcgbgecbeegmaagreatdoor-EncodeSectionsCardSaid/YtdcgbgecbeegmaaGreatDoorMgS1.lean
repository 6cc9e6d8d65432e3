/- Texts 1. -/
import Derived.Test.YtdcgbgecbeegmaaGreatDoorMgSA
import Derived.Laws.BitsLemmas
import Derived.Laws.Bits64
import Derived.Laws.Bits64b
set_option linter.unusedVariables false
set_option linter.unusedSimpArgs false
set_option maxHeartbeats 400000000
set_option maxRecDepth 100000
section
namespace Go.Proofs.YtdcgbgecbeegmaaGreatDoor
def BV (l:List Bool) (j:Nat):Nat:=(List.range 8).foldl (fun c k=>c*2+(l.getD (8*j+k) false).toNat) 0
def Bi (l:List Bool):List Nat:=(List.range ((l.length+7) / 8)).map (BV l)
def Aa (x:Nat):Nat→List Bool
 | 0=>[]
 | n+1=>x.testBit n::Aa x n
def MA (l:List Bool):Nat:=l.foldl (fun c b=>c*2+b.toNat) 0
def LC (bs:List Nat):List Bool:=bs.flatMap (fun b=>Aa b 8)
theorem E5 (l:List Bool) (j:Nat):BV l j=(l.getD (8*j) false).toNat*128+(l.getD (8*j+1) false).toNat*64+(l.getD (8*j+2) false).toNat*32+(l.getD (8*j+3) false).toNat*16
  + (l.getD (8*j+4) false).toNat*8+(l.getD (8*j+5) false).toNat*4+(l.getD (8*j+6) false).toNat*2+(l.getD (8*j+7) false).toNat:=by
 simp only [BV,List.range,List.range.loop,List.foldl,Nat.add_zero]
 omega
theorem LM (l:List Bool) (j:Nat):BV l j<256:=by
 have h:∀b:Bool,b.toNat≤1:=fun b=>by cases b<;>simp
 rw [E5]
 have:=h (l.getD (8*j) false);have:=h (l.getD (8*j+1) false);have:=h (l.getD (8*j+2) false);have:=h (l.getD (8*j+3) false)
 have:=h (l.getD (8*j+4) false);have:=h (l.getD (8*j+5) false);have:=h (l.getD (8*j+6) false);have:=h (l.getD (8*j+7) false)
 omega
theorem A9 (l:List Bool):(Bi l).length=(l.length+7) / 8:=by simp [Bi]
theorem Ta (l:List Bool) (j:Nat) (h:j<(l.length+7) / 8):(Bi l)[j]? = some (BV l j):=by simp [Bi,h]
theorem XF (l:List Bool):∀x∈Bi l,x<256:=by
 intro x hx
 simp only [Bi,zBU] at hx
 obtain ⟨j,_,rfl⟩:=hx
 exact LM l j
theorem BY (l:List Bool) (b:Bool) (i:Nat):(l++[b]).getD i false=if i=l.length then b else l.getD i false:=by
 rcases Nat.lt_trichotomy i l.length with h | h | h
 ·rw [if_neg (by omega)];simp [List.getD,zCE h]
 ·subst h;simp [List.getD]
 ·rw [if_neg (by omega)];simp [List.getD,zCJ (show l.length≤i by omega),zBS (show l.length≤i by omega),zCJ (show [b].length≤i-l.length by simp;omega)]
theorem As (l:List Bool) (i:Nat) (h:l.length≤i):l.getD i false=false:=by simp [List.getD,zCJ h]
theorem GH (l:List Bool) (b:Bool) (j:Nat) (h:j≠l.length / 8):BV (l++[b]) j=BV l j:=by
 rw [E5,E5]
 rw [BY,BY,BY,BY,BY,BY,BY,BY]
 rw [if_neg (by omega),if_neg (by omega),if_neg (by omega),if_neg (by omega),if_neg (by omega),if_neg (by omega),if_neg (by omega),if_neg (by omega)]
theorem Qx (l:List Bool) (b:Bool):BV (l++[b]) (l.length / 8)=BV l (l.length / 8)+b.toNat*2 ^ (7-l.length % 8)∧BV l (l.length / 8) % 2 ^ (8-l.length % 8)=0:=by
 have hq:l.length=8*(l.length / 8)+l.length % 8:=by omega
 generalize hj:l.length / 8=j at hq
 have hr:l.length % 8<8:=by omega
 generalize l.length % 8=r at hq hr
 rw [E5,E5]
 rw [BY,BY,BY,BY,BY,BY,BY,BY]
 match r,hr with
 | 0,_=>
  rw [As l (8*j) (by omega),As l (8*j+1) (by omega),As l (8*j+2) (by omega),As l (8*j+3) (by omega),As l (8*j+4) (by omega),As l (8*j+5) (by omega),As l (8*j+6) (by omega),As l (8*j+7) (by omega)]
  simp [hq]
 | 1,_=>
  rw [As l (8*j+1) (by omega),As l (8*j+2) (by omega),As l (8*j+3) (by omega),As l (8*j+4) (by omega),As l (8*j+5) (by omega),As l (8*j+6) (by omega),As l (8*j+7) (by omega)]
  simp [hq]
 | 2,_=>
  rw [As l (8*j+2) (by omega),As l (8*j+3) (by omega),As l (8*j+4) (by omega),As l (8*j+5) (by omega),As l (8*j+6) (by omega),As l (8*j+7) (by omega)]
  simp [hq];omega
 | 3,_=>
  rw [As l (8*j+3) (by omega),As l (8*j+4) (by omega),As l (8*j+5) (by omega),As l (8*j+6) (by omega),As l (8*j+7) (by omega)]
  simp [hq];omega
 | 4,_=>
  rw [As l (8*j+4) (by omega),As l (8*j+5) (by omega),As l (8*j+6) (by omega),As l (8*j+7) (by omega)]
  simp [hq];omega
 | 5,_=>
  rw [As l (8*j+5) (by omega),As l (8*j+6) (by omega),As l (8*j+7) (by omega)]
  simp [hq];omega
 | 6,_=>
  rw [As l (8*j+6) (by omega),As l (8*j+7) (by omega)]
  simp [hq];omega
 | 7,_=>
  rw [As l (8*j+7) (by omega)]
  simp [hq];omega
theorem UM (l:List Bool) (b:Bool) (h:l.length % 8=0):Bi (l++[b])=Bi l++[b.toNat*128]:=by
 have e:BV (l++[b]) (l.length / 8)=b.toNat*128:=by
  obtain ⟨h1,_⟩:=Qx l b
  have h0:BV l (l.length / 8)=0:=by
   rw [E5,As l _ (by omega),As l _ (by omega),As l _ (by omega),As l _ (by omega),As l _ (by omega),As l _ (by omega),As l _ (by omega),As l _ (by omega)];rfl
  rw [h1,h0,h];simp
 simp only [Bi,zAB,zDY]
 rw [show (l.length+1+7) / 8=(l.length+7) / 8+1 from by omega,zEU,zCD]
 congr 1
 ·apply zCR
  intro j hj
  rw [zFN] at hj
  exact GH l b j (by omega)
 ·simp only [zBC,zCP]
  rw [show (l.length+7) / 8=l.length / 8 from by omega,e]
theorem UN (l:List Bool) (b:Bool) (h:l.length % 8≠0):Bi (l++[b])=(Bi l).set (l.length / 8) (BV (l++[b]) (l.length / 8)):=by
 apply zFY
 intro i
 rw [zDB]
 simp only [Bi,zAB,zDY,zAT,zEI]
 rw [show (l.length+1+7) / 8=(l.length+7) / 8 from by omega]
 by_cases hi:i<(l.length+7) / 8
 ·by_cases hq:l.length / 8=i
  ·subst hq;simp [hi]
  ·simp [hi,hq,GH l b i (Ne.symm hq)]
 ·rw [if_neg (by omega)]
  simp [hi]
theorem xS (l:List Bool) (b:Bool) (c y:Int) (hc:c=(BV l (l.length / 8):Int)) (hy:y=((b.toNat*2 ^ (7-l.length % 8):Nat):Int)) :
  bits BinOp.or IntKind.u8 c y=((BV (l++[b]) (l.length / 8):Nat):Int):=by
 obtain ⟨h1,h2⟩:=Qx l b
 have Aq:=LM l (l.length / 8)
 have AF:=LM (l++[b]) (l.length / 8)
 have hb:b.toNat*2 ^ (7-l.length % 8)<2 ^ (8-l.length % 8):=by
  have e:2 ^ (8-l.length % 8)=2*2 ^ (7-l.length % 8):=by rw [show 8-l.length % 8=(7-l.length % 8)+1 from by omega,zDS];omega
  have:=zEL (7-l.length % 8)
  cases b<;>simp<;>omega
 subst hc hy
 rw [h1] at AF ⊢
 rw [Int.natCast_add]
 exact bits_join .u8 8 (by decide) wraps_u8 (8-l.length % 8) _ _ (zFP _) (by exact_mod_cast h2) (by simpa using (show (BV l (l.length / 8):Int)<256 by omega)) (zFP _) (by exact_mod_cast hb) (by simpa using (show ((b.toNat*2 ^ (7-l.length % 8):Nat):Int)<256 by omega))
theorem Ae (x n:Nat):(Aa x n).length=n:=by induction n with
 | zero=>rfl
 | succ n ih=>simp [Aa,ih]
theorem G3 (x n i:Nat) (h:i<n):(Aa x n)[i]? = some (x.testBit (n-1-i)):=by
 induction n generalizing i with
 | zero=>omega
 | succ n ih=>
  cases i with
  | zero=>simp [Aa]
  | succ i=>simp only [Aa,zBE];rw [ih i (by omega)];congr 2;omega
theorem FX (x n i:Nat) (h:i<n):(Aa x n).take (i+1)=(Aa x n).take i++[x.testBit (n-1-i)]:=by
 rw [zAL,G3 x n i h];rfl
theorem XD (a b:List Bool):MA (a++b)=MA a*2 ^ b.length+MA b:=by
 have key:∀(b:List Bool) (c:Nat),b.foldl (fun c b=>c*2+b.toNat) c=c*2 ^ b.length+b.foldl (fun c b=>c*2+b.toNat) 0:=by
  intro b
  induction b with
  | nil=>intro c;simp
  | cons x b ih=>intro c;simp only [List.foldl,zAH];rw [ih (c*2+x.toNat),ih (0*2+x.toNat),zDS];simp [zEO];rw [zFH,zGP 2,zDH]
 simp only [MA,zDL]
 exact key b _
def YX (bs:List Nat) (j:Nat):Bool:=(bs.getD (j / 8) 0).testBit (7-j % 8)
theorem D9 (bs:List Nat):(LC bs).length=8*bs.length:=by
 induction bs with
 | nil=>rfl
 | cons b bs ih=>simp only [LC,zBN,zAB,Ae,zAH] at ih ⊢;omega
theorem GW (b:Nat) (bs:List Nat):LC (b::bs)=Aa b 8++LC bs:=rfl
theorem fD (bs:List Nat) (j:Nat) (h:j<8*bs.length):(LC bs)[j]? = some (YX bs j):=by
 induction bs generalizing j with
 | nil=>simp at h
 | cons b bs ih=>
  rw [GW]
  by_cases hj:j<8
  ·rw [zCE (by rw [Ae];exact hj),G3 b 8 j hj]
   simp only [YX]
   rw [show j / 8=0 from by omega,show 8-1-j=7-j % 8 from by omega]
   simp
  ·rw [zBS (by rw [Ae];omega),Ae,ih (j-8) (by simp at h;omega)]
   simp only [YX]
   rw [show j / 8=(j-8) / 8+1 from by omega,show j % 8=(j-8) % 8 from by omega]
   simp
theorem Jc (x k:Nat):(x.testBit k).toNat=x / 2 ^ k % 2:=by
 rw [zDO]
 by_cases h:x / 2 ^ k % 2=1
 ·simp [h]
 ·have:x / 2 ^ k % 2=0:=by omega
  simp [this]
theorem Qs (n:Int) (h₀:0≤n) (h₁:n<2 ^ 64):IntKind.u64.wrap n=n:=by rw [zBB];omega
theorem cR (l:List Bool) (j r:Nat) (hr:r<8):(BV l j).testBit (7-r)=l.getD (8*j+r) false:=by
 have key:((BV l j).testBit (7-r)).toNat=(l.getD (8*j+r) false).toNat:=by
  rw [Jc,E5]
  have h:∀i,(l.getD i false).toNat≤1:=fun i=>by cases l.getD i false<;>simp
  have:=h (8*j);have:=h (8*j+1);have:=h (8*j+2);have:=h (8*j+3);have:=h (8*j+4);have:=h (8*j+5);have:=h (8*j+6);have:=h (8*j+7)
  match r,hr with
  | 0,_=>simp only [Nat.add_zero,Nat.sub_zero];omega
  | 1,_=>simp only [Nat.reduceSub];omega
  | 2,_=>simp only [Nat.reduceSub];omega
  | 3,_=>simp only [Nat.reduceSub];omega
  | 4,_=>simp only [Nat.reduceSub];omega
  | 5,_=>simp only [Nat.reduceSub];omega
  | 6,_=>simp only [Nat.reduceSub];omega
  | 7,_=>simp only [Nat.reduceSub];omega
 revert key
 cases (BV l j).testBit (7-r)<;>cases l.getD (8*j+r) false<;>simp
theorem cN (l:List Bool) (i:Nat) (h:i<8*((l.length+7) / 8)):YX (Bi l) i=l.getD i false:=by
 simp only [YX]
 rw [List.getD,Ta l (i / 8) (by omega)]
 simp only [zBM]
 rw [cR l (i / 8) (i % 8) (zFO _ (by omega))]
 congr 1;omega
theorem Rc (l:List Bool):LC (Bi l)=l++List.replicate (8*((l.length+7) / 8)-l.length) false:=by
 apply zFY
 intro i
 by_cases hi:i<8*((l.length+7) / 8)
 ·rw [fD _ _ (by rw [A9];exact hi),cN l i hi]
  by_cases hl:i<l.length
  ·rw [zCE hl,zAC hl];simp [List.getD,hl]
  ·rw [zBS (by omega),zEB,if_pos (by omega),As l i (by omega)]
 ·rw [zCJ (by rw [D9,A9];omega),zCJ (by simp;omega)]
theorem RG (x n:Nat):MA (Aa x n)=x % 2 ^ n:=by
 induction n with
 | zero=>simp [Aa,MA,Nat.mod_one]
 | succ n ih=>
  rw [show Aa x (n+1)=[x.testBit n]++Aa x n from rfl,XD,ih,Ae,Nat.mod_pow_succ,← Jc]
  simp only [MA,List.foldl,Nat.zero_mul,zEF]
  rw [zGP,Nat.add_comm]
theorem pw (x n:Nat) (hx:x<18446744073709551616) (hn:n<64):bits BinOp.and IntKind.u64 (x:Int) (2 ^ n-1)=((x % 2 ^ n:Nat):Int):=by
 have:=bits_mask .u64 64 (by decide) Qs n (by omega) (x:Int) (zFP _) (by omega)
 rw [this];simp
theorem jP (x n:Nat) (hx:x<18446744073709551616) (hn:n<64):bits BinOp.and IntKind.u64 (x:Int) (IntKind.u64.wrap (IntKind.u64.wrap (2 ^ n)-1))=((x % 2 ^ n:Nat):Int):=by
 have h1:(2:Int) ^ n≤2 ^ 63:=by
  have:2 ^ n≤2 ^ 63:=zDV (by omega) (by omega)
  exact_mod_cast this
 have h2:(0:Int)<2 ^ n:=by
  have:0<2 ^ n:=zEL n
  exact_mod_cast this
 have e1:IntKind.u64.wrap (2 ^ n)=2 ^ n:=Qs _ (by omega) (by omega)
 have e2:IntKind.u64.wrap (2 ^ n-1)=2 ^ n-1:=Qs _ (by omega) (by omega)
 rw [e1,e2,pw x n hx hn]
structure Res (α:Type) where
 e:Nat
 x:α
 r:List Bool
def field (n:Nat) (bs:List Bool):Res Nat:=if bs.length<n then ⟨3,0,bs⟩ else ⟨0,MA (bs.take n),bs.drop n⟩
theorem dp (x n:Nat) (rest:List Bool) (hx:x<2 ^ n):field n (Aa x n++rest)=⟨0,x,rest⟩:=by
 have hl:=Ae x n
 have ht:(Aa x n++rest).take n=Aa x n:=by rw [List.take_append_of_le_length (by omega),zAF (by omega)]
 have hd:(Aa x n++rest).drop n=rest:=by rw [zDA (by omega),zBF (by omega),zBK]
 rw [field,if_neg (by rw [zAB,hl];omega),ht,hd,RG,Nat.mod_eq_of_lt hx]
def Nj (x:Int):Nat:=(x % 18446744073709551616).toNat
theorem ed (x:Int):Nj x<18446744073709551616:=by unfold Nj;omega
theorem LI (x:Int):IntKind.u64.wrap x=(Nj x:Int):=by rw [zBB];unfold Nj;omega
def C4 (x:Nat):Prop:=x<18446744073709551616
end Go.Proofs.YtdcgbgecbeegmaaGreatDoor
end
