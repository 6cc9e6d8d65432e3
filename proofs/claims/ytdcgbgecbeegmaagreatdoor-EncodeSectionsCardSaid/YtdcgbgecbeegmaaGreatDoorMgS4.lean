/- Texts 4. -/
import Derived.Test.YtdcgbgecbeegmaaGreatDoorMgSA
import Derived.Laws.BitsLemmas
import Derived.Laws.Bits64
import Derived.Laws.Bits64b
set_option linter.unusedVariables false
set_option linter.unusedSimpArgs false
set_option maxHeartbeats 400000000
set_option maxRecDepth 100000
section
namespace Go.Proofs.YtdcgbgecbeegmaaGreatDoor
def XW (s:Nat):Nat:=if s % 2=1 then s / 2 ^^^ 3988292384 else s / 2
def GE:Nat→Nat→Nat
 | 0,s=>s
 | n+1,s=>GE n (XW s)
theorem qC (a b c d:Nat):(a ^^^ b) ^^^ (c ^^^ d)=(a ^^^ c) ^^^ (b ^^^ d):=by
 rw [zFJ,zFJ,← zFJ b c d,Nat.xor_comm b c,zFJ c b d]
theorem TS {a b:Nat} (ha:a<4294967296) (hb:b<4294967296):a ^^^ b<4294967296:=Nat.xor_lt_two_pow (n:=32) ha hb
theorem qA (a b:Nat):(a ^^^ b) % 2=(a+b) % 2:=by
 have h:=Nat.xor_mod_two_pow (a:=a) (b:=b) (n:=1)
 rw [Nat.pow_one] at h
 rw [h]
 rcases zGE a with ha | ha<;>rcases zGE b with hb | hb<;>rw [ha,hb]<;>simp<;>omega
theorem pX (a b:Nat):XW (a ^^^ b)=XW a ^^^ XW b:=by
 have hd:(a ^^^ b) / 2=a / 2 ^^^ b / 2:=Nat.xor_div_two
 have hm:(a ^^^ b) % 2=(a+b) % 2:=qA _ _
 unfold XW
 rw [hd,hm]
 by_cases ha:a % 2=1
 ·by_cases hb:b % 2=1
  ·rw [if_neg (by omega),if_pos ha,if_pos hb,qC,Nat.xor_self,Nat.xor_zero]
  ·rw [if_pos (by omega),if_pos ha,if_neg hb,zFJ,Nat.xor_comm (b / 2),← zFJ]
 ·by_cases hb:b % 2=1
  ·rw [if_pos (by omega),if_neg ha,if_pos hb,zFJ]
  ·rw [if_neg (by omega),if_neg ha,if_neg hb]
theorem kw (y:Nat):XW (2*y)=y:=by unfold XW;rw [if_neg (by omega)];omega
theorem tK {s:Nat} (h:s<4294967296):XW s<4294967296:=by
 unfold XW
 split
 ·exact TS (by omega) (by decide)
 ·omega
theorem pY (m n s:Nat):GE (m+n) s=GE n (GE m s):=by
 induction m generalizing s with
 | zero=>rw [zEF];rfl
 | succ m ih=>rw [Nat.succ_add,GE,ih,GE]
theorem pZ (n a b:Nat):GE n (a ^^^ b)=GE n a ^^^ GE n b:=by
 induction n generalizing a b with
 | zero=>rfl
 | succ n ih=>rw [GE,GE,GE,pX,ih]
theorem XX {n s:Nat} (h:s<4294967296):GE n s<4294967296:=by
 induction n generalizing s with
 | zero=>exact h
 | succ n ih=>exact ih (tK h)
def Ra (s c:Nat):Nat:=GE 8 (s ^^^ c)
def Jd (s:Nat) (bs:List Nat):Nat:=bs.foldl Ra s
theorem qv (s c:Nat) (bs:List Nat):Jd s (c::bs)=Jd (Ra s c) bs:=rfl
theorem fE (s:Nat) (a b:List Nat):Jd s (a++b)=Jd (Jd s a) b:=by simp [Jd]
theorem fF {s:Nat} (hs:s<4294967296) (bs:List Nat) (h:∀c∈bs,c<256):Jd s bs<4294967296:=by
 induction bs generalizing s with
 | nil=>exact hs
 | cons c bs ih=>
  rw [qv]
  exact ih (XX (TS hs (by have:=h c (by simp);omega))) (fun c hc=>h c (by simp [hc]))
def s5 (t:Nat):List Nat:=[t % 256,t / 256 % 256,t / 65536 % 256,t / 16777216 % 256]
theorem xQ (t:Nat):∀c∈s5 t,c<256:=by intro c hc;simp [s5] at hc;omega
theorem ta (x:Nat) (h:x<4294967296):4294967295 ^^^ x=4294967295-x:=by
 apply Nat.eq_of_testBit_eq
 intro i
 have h1:=Nat.testBit_two_pow_sub_succ (n:=32) (x:=x) h i
 have h2:=Nat.testBit_two_pow_sub_one 32 i
 rw [show (2:Nat) ^ 32-1=4294967295 from rfl] at h2
 rw [show (2:Nat) ^ 32-(x+1)=4294967295-x from by omega] at h1
 rw [Nat.testBit_xor,h1,h2]
 by_cases hi:i<32
 ·simp [hi]
 ·have:x.testBit i=false:=Nat.testBit_lt_two_pow (zAO h (zDV (n:=2) (i:=32) (by decide) (by omega)))
  simp [hi,this]
def Nz (b:List Nat):Nat:=4294967295-Jd 4294967295 b
theorem iP (b:List Nat) (h:∀c∈b,c<256):Nz b=4294967295 ^^^ Jd 4294967295 b:=(ta _ (fF (by decide) b h)).symm
theorem mz (b:List Nat):Nz b<4294967296:=by unfold Nz;omega
def Db (b:List Nat):List Nat:=b++s5 (Nz b)
theorem fH {b:List Nat} (h:∀c∈b,c<256):∀c∈Db b,c<256:=fun c hc=>by
 rcases zBJ.1 hc with h1 | h1
 ·exact h c h1
 ·exact xQ _ c h1
theorem Cf (b:List Nat):(Db b).length=b.length+4:=by simp [Db,s5]
def Ms:List Nat:=[0,498536548,997073096,651767980,1994146192,1802195444,1303535960,1342533948,3988292384,4027552580,3604390888,3412177804,2607071920,2262029012,2685067896,3183342108]
theorem Zy:∀i,i<16→Ms.getD i 0=GE 4 i:=by decide
theorem kx (y:Nat):GE 4 (16*y)=y:=by
 rw [show 16*y=2*(2*(2*(2*y))) by omega]
 simp only [GE,kw]
theorem shr4 (s:Nat):GE 4 s=s / 16 ^^^ GE 4 (s % 16):=by
 have e:s=16*(s / 16) ^^^ s % 16:=by
  apply Nat.eq_of_testBit_eq
  intro i
  have h1:16*(s / 16)=2 ^ 4*(s / 16):=rfl
  have h2:s % 16=s % 2 ^ 4:=rfl
  rw [Nat.testBit_xor,h1,h2,Nat.testBit_two_pow_mul,Nat.testBit_mod_two_pow,show (16:Nat)=2 ^ 4 from rfl,Nat.testBit_div_two_pow]
  by_cases hi:i<4
  ·simp [hi,show ¬4≤i by omega]
  ·simp [hi,show 4≤i by omega]
 conv=>lhs;rw [e]
 rw [pZ,kx]
theorem bg (s c:Nat):Ra s c=GE 4 (GE 4 (s ^^^ c)):=by rw [Ra,← pY]
end Go.Proofs.YtdcgbgecbeegmaaGreatDoor
end
