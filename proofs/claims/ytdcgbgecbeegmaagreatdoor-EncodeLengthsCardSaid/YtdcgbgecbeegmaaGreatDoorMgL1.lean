/- Texts 1. -/
import Derived.Laws.BitsLemmas
import Derived.Laws.Bits64
import Derived.Laws.Bits64b
import Derived.RowKit
import Derived.WalkKit
import Derived.BigFrame
import Derived.OneCell
import Derived.Laws.OwnMore
import Derived.Deep.Draws
import Derived.Laws.BytesArg
import Derived.Laws.Strings
import Derived.Lib.Bytes
import Derived.Deep.Quiet
import Derived.Test.YtdcgbgecbeegmaaGreatDoorProg
import Derived.WalkSpells
import Derived.WalkLawsBesides
import Derived.Outline
import Derived.Lib.Hide
import Derived.Deep.QuietTactic
import Derived.BigQuiet
import Derived.Laws.CopyRow
set_option linter.unusedVariables false
set_option linter.unusedSimpArgs false
section
namespace Go.Proofs.YtdcgbgecbeegmaaGreatDoor
def byteOf (l:List Bool) (j:Nat):Nat:=(List.range 8).foldl (fun c k=>c*2+(l.getD (8*j+k) false).toNat) 0
def pack (l:List Bool):List Nat:=(List.range ((l.length+7) / 8)).map (byteOf l)
def fieldBits (x:Nat):Nat→List Bool
 | 0=>[]
 | n+1=>x.testBit n::fieldBits x n
def numOf (l:List Bool):Nat:=l.foldl (fun c b=>c*2+b.toNat) 0
def unpack (bs:List Nat):List Bool:=bs.flatMap (fun b=>fieldBits b 8)
theorem byteOf_eq (l:List Bool) (j:Nat):byteOf l j=(l.getD (8*j) false).toNat*128+(l.getD (8*j+1) false).toNat*64+(l.getD (8*j+2) false).toNat*32+(l.getD (8*j+3) false).toNat*16
  + (l.getD (8*j+4) false).toNat*8+(l.getD (8*j+5) false).toNat*4+(l.getD (8*j+6) false).toNat*2+(l.getD (8*j+7) false).toNat:=by
 simp only [byteOf,List.range,List.range.loop,List.foldl,Nat.add_zero]
 omega
theorem byteOf_lt (l:List Bool) (j:Nat):byteOf l j<256:=by
 have h:∀b:Bool,b.toNat≤1:=fun b=>by cases b<;>simp
 rw [byteOf_eq]
 have:=h (l.getD (8*j) false);have:=h (l.getD (8*j+1) false);have:=h (l.getD (8*j+2) false);have:=h (l.getD (8*j+3) false)
 have:=h (l.getD (8*j+4) false);have:=h (l.getD (8*j+5) false);have:=h (l.getD (8*j+6) false);have:=h (l.getD (8*j+7) false)
 omega
theorem pack_length (l:List Bool):(pack l).length=(l.length+7) / 8:=by simp [pack]
theorem pack_get (l:List Bool) (j:Nat) (h:j<(l.length+7) / 8):(pack l)[j]? = some (byteOf l j):=by simp [pack,h]
theorem pack_lt (l:List Bool):∀x∈pack l,x<256:=by
 intro x hx
 simp only [pack,List.mem_map] at hx
 obtain ⟨j,_,rfl⟩:=hx
 exact byteOf_lt l j
theorem getD_push (l:List Bool) (b:Bool) (i:Nat):(l++[b]).getD i false=if i=l.length then b else l.getD i false:=by
 rcases Nat.lt_trichotomy i l.length with h | h | h
 ·rw [if_neg (by omega)];simp [List.getD,List.getElem?_append_left h]
 ·subst h;simp [List.getD]
 ·rw [if_neg (by omega)];simp [List.getD,List.getElem?_eq_none (show l.length≤i by omega),List.getElem?_append_right (show l.length≤i by omega),List.getElem?_eq_none (show [b].length≤i-l.length by simp;omega)]
theorem getD_past (l:List Bool) (i:Nat) (h:l.length≤i):l.getD i false=false:=by simp [List.getD,List.getElem?_eq_none h]
theorem byteOf_push_other (l:List Bool) (b:Bool) (j:Nat) (h:j≠l.length / 8):byteOf (l++[b]) j=byteOf l j:=by
 rw [byteOf_eq,byteOf_eq]
 rw [getD_push,getD_push,getD_push,getD_push,getD_push,getD_push,getD_push,getD_push]
 rw [if_neg (by omega),if_neg (by omega),if_neg (by omega),if_neg (by omega),if_neg (by omega),if_neg (by omega),if_neg (by omega),if_neg (by omega)]
theorem byteOf_push (l:List Bool) (b:Bool):byteOf (l++[b]) (l.length / 8)=byteOf l (l.length / 8)+b.toNat*2 ^ (7-l.length % 8)∧byteOf l (l.length / 8) % 2 ^ (8-l.length % 8)=0:=by
 have hq:l.length=8*(l.length / 8)+l.length % 8:=by omega
 generalize hj:l.length / 8=j at hq
 have hr:l.length % 8<8:=by omega
 generalize l.length % 8=r at hq hr
 rw [byteOf_eq,byteOf_eq]
 rw [getD_push,getD_push,getD_push,getD_push,getD_push,getD_push,getD_push,getD_push]
 match r,hr with
 | 0,_=>
  rw [getD_past l (8*j) (by omega),getD_past l (8*j+1) (by omega),getD_past l (8*j+2) (by omega),getD_past l (8*j+3) (by omega),getD_past l (8*j+4) (by omega),getD_past l (8*j+5) (by omega),getD_past l (8*j+6) (by omega),getD_past l (8*j+7) (by omega)]
  simp [hq]
 | 1,_=>
  rw [getD_past l (8*j+1) (by omega),getD_past l (8*j+2) (by omega),getD_past l (8*j+3) (by omega),getD_past l (8*j+4) (by omega),getD_past l (8*j+5) (by omega),getD_past l (8*j+6) (by omega),getD_past l (8*j+7) (by omega)]
  simp [hq]
 | 2,_=>
  rw [getD_past l (8*j+2) (by omega),getD_past l (8*j+3) (by omega),getD_past l (8*j+4) (by omega),getD_past l (8*j+5) (by omega),getD_past l (8*j+6) (by omega),getD_past l (8*j+7) (by omega)]
  simp [hq];omega
 | 3,_=>
  rw [getD_past l (8*j+3) (by omega),getD_past l (8*j+4) (by omega),getD_past l (8*j+5) (by omega),getD_past l (8*j+6) (by omega),getD_past l (8*j+7) (by omega)]
  simp [hq];omega
 | 4,_=>
  rw [getD_past l (8*j+4) (by omega),getD_past l (8*j+5) (by omega),getD_past l (8*j+6) (by omega),getD_past l (8*j+7) (by omega)]
  simp [hq];omega
 | 5,_=>
  rw [getD_past l (8*j+5) (by omega),getD_past l (8*j+6) (by omega),getD_past l (8*j+7) (by omega)]
  simp [hq];omega
 | 6,_=>
  rw [getD_past l (8*j+6) (by omega),getD_past l (8*j+7) (by omega)]
  simp [hq];omega
 | 7,_=>
  rw [getD_past l (8*j+7) (by omega)]
  simp [hq];omega
theorem pack_push_new (l:List Bool) (b:Bool) (h:l.length % 8=0):pack (l++[b])=pack l++[b.toNat*128]:=by
 have e:byteOf (l++[b]) (l.length / 8)=b.toNat*128:=by
  obtain ⟨h1,_⟩:=byteOf_push l b
  have h0:byteOf l (l.length / 8)=0:=by
   rw [byteOf_eq,getD_past l _ (by omega),getD_past l _ (by omega),getD_past l _ (by omega),getD_past l _ (by omega),getD_past l _ (by omega),getD_past l _ (by omega),getD_past l _ (by omega),getD_past l _ (by omega)];rfl
  rw [h1,h0,h];simp
 simp only [pack,List.length_append,List.length_singleton]
 rw [show (l.length+1+7) / 8=(l.length+7) / 8+1 from by omega,List.range_succ,List.map_append]
 congr 1
 ·apply List.map_congr_left
  intro j hj
  rw [List.mem_range] at hj
  exact byteOf_push_other l b j (by omega)
 ·simp only [List.map_cons,List.map_nil]
  rw [show (l.length+7) / 8=l.length / 8 from by omega,e]
theorem pack_push_old (l:List Bool) (b:Bool) (h:l.length % 8≠0):pack (l++[b])=(pack l).set (l.length / 8) (byteOf (l++[b]) (l.length / 8)):=by
 apply List.ext_getElem?
 intro i
 rw [List.getElem?_set]
 simp only [pack,List.length_append,List.length_singleton,List.length_map,List.length_range]
 rw [show (l.length+1+7) / 8=(l.length+7) / 8 from by omega]
 by_cases hi:i<(l.length+7) / 8
 ·by_cases hq:l.length / 8=i
  ·subst hq;simp [hi]
  ·simp [hi,hq,byteOf_push_other l b i (Ne.symm hq)]
 ·rw [if_neg (by omega)]
  simp [hi]
theorem or_bit (l:List Bool) (b:Bool) (c y:Int) (hc:c=(byteOf l (l.length / 8):Int)) (hy:y=((b.toNat*2 ^ (7-l.length % 8):Nat):Int)) :
  bits BinOp.or IntKind.u8 c y=((byteOf (l++[b]) (l.length / 8):Nat):Int):=by
 obtain ⟨h1,h2⟩:=byteOf_push l b
 have hlt:=byteOf_lt l (l.length / 8)
 have hlt':=byteOf_lt (l++[b]) (l.length / 8)
 have hb:b.toNat*2 ^ (7-l.length % 8)<2 ^ (8-l.length % 8):=by
  have e:2 ^ (8-l.length % 8)=2*2 ^ (7-l.length % 8):=by rw [show 8-l.length % 8=(7-l.length % 8)+1 from by omega,Nat.pow_succ];omega
  have:=Nat.two_pow_pos (7-l.length % 8)
  cases b<;>simp<;>omega
 subst hc hy
 rw [h1] at hlt' ⊢
 rw [Int.natCast_add]
 exact bits_join .u8 8 (by decide) wraps_u8 (8-l.length % 8) _ _ (Int.natCast_nonneg _) (by exact_mod_cast h2) (by simpa using (show (byteOf l (l.length / 8):Int)<256 by omega)) (Int.natCast_nonneg _) (by exact_mod_cast hb) (by simpa using (show ((b.toNat*2 ^ (7-l.length % 8):Nat):Int)<256 by omega))
theorem fieldBits_length (x n:Nat):(fieldBits x n).length=n:=by induction n with
 | zero=>rfl
 | succ n ih=>simp [fieldBits,ih]
theorem fieldBits_get (x n i:Nat) (h:i<n):(fieldBits x n)[i]? = some (x.testBit (n-1-i)):=by
 induction n generalizing i with
 | zero=>omega
 | succ n ih=>
  cases i with
  | zero=>simp [fieldBits]
  | succ i=>simp only [fieldBits,List.getElem?_cons_succ];rw [ih i (by omega)];congr 2;omega
theorem fieldBits_take_succ (x n i:Nat) (h:i<n):(fieldBits x n).take (i+1)=(fieldBits x n).take i++[x.testBit (n-1-i)]:=by
 rw [List.take_add_one,fieldBits_get x n i h];rfl
theorem numOf_append (a b:List Bool):numOf (a++b)=numOf a*2 ^ b.length+numOf b:=by
 have key:∀(b:List Bool) (c:Nat),b.foldl (fun c b=>c*2+b.toNat) c=c*2 ^ b.length+b.foldl (fun c b=>c*2+b.toNat) 0:=by
  intro b
  induction b with
  | nil=>intro c;simp
  | cons x b ih=>intro c;simp only [List.foldl,List.length_cons];rw [ih (c*2+x.toNat),ih (0*2+x.toNat),Nat.pow_succ];simp [Nat.add_mul];rw [Nat.mul_assoc,Nat.mul_comm 2,Nat.add_assoc]
 simp only [numOf,List.foldl_append]
 exact key b _
def bitAt (bs:List Nat) (j:Nat):Bool:=(bs.getD (j / 8) 0).testBit (7-j % 8)
theorem unpack_length (bs:List Nat):(unpack bs).length=8*bs.length:=by
 induction bs with
 | nil=>rfl
 | cons b bs ih=>simp only [unpack,List.flatMap_cons,List.length_append,fieldBits_length,List.length_cons] at ih ⊢;omega
theorem unpack_cons (b:Nat) (bs:List Nat):unpack (b::bs)=fieldBits b 8++unpack bs:=rfl
theorem unpack_get (bs:List Nat) (j:Nat) (h:j<8*bs.length):(unpack bs)[j]? = some (bitAt bs j):=by
 induction bs generalizing j with
 | nil=>simp at h
 | cons b bs ih=>
  rw [unpack_cons]
  by_cases hj:j<8
  ·rw [List.getElem?_append_left (by rw [fieldBits_length];exact hj),fieldBits_get b 8 j hj]
   simp only [bitAt]
   rw [show j / 8=0 from by omega,show 8-1-j=7-j % 8 from by omega]
   simp
  ·rw [List.getElem?_append_right (by rw [fieldBits_length];omega),fieldBits_length,ih (j-8) (by simp at h;omega)]
   simp only [bitAt]
   rw [show j / 8=(j-8) / 8+1 from by omega,show j % 8=(j-8) % 8 from by omega]
   simp
theorem testBit_toNat (x k:Nat):(x.testBit k).toNat=x / 2 ^ k % 2:=by
 rw [Nat.testBit_eq_decide_div_mod_eq]
 by_cases h:x / 2 ^ k % 2=1
 ·simp [h]
 ·have:x / 2 ^ k % 2=0:=by omega
  simp [this]
theorem wraps_u64 (n:Int) (h₀:0≤n) (h₁:n<2 ^ 64):IntKind.u64.wrap n=n:=by rw [IntKind.wrap_u64];omega
theorem byteOf_bit (l:List Bool) (j r:Nat) (hr:r<8):(byteOf l j).testBit (7-r)=l.getD (8*j+r) false:=by
 have key:((byteOf l j).testBit (7-r)).toNat=(l.getD (8*j+r) false).toNat:=by
  rw [testBit_toNat,byteOf_eq]
  have h:∀i,(l.getD i false).toNat≤1:=fun i=>by cases l.getD i false<;>simp
  have:=h (8*j);have:=h (8*j+1);have:=h (8*j+2);have:=h (8*j+3);have:=h (8*j+4);have:=h (8*j+5);have:=h (8*j+6);have:=h (8*j+7)
  match r,hr with
  | 0,_=>simp only [Nat.add_zero,Nat.sub_zero];omega
  | 1,_=>simp only [Nat.reduceSub];omega
  | 2,_=>simp only [Nat.reduceSub];omega
  | 3,_=>simp only [Nat.reduceSub];omega
  | 4,_=>simp only [Nat.reduceSub];omega
  | 5,_=>simp only [Nat.reduceSub];omega
  | 6,_=>simp only [Nat.reduceSub];omega
  | 7,_=>simp only [Nat.reduceSub];omega
 revert key
 cases (byteOf l j).testBit (7-r)<;>cases l.getD (8*j+r) false<;>simp
theorem bitAt_pack (l:List Bool) (i:Nat) (h:i<8*((l.length+7) / 8)):bitAt (pack l) i=l.getD i false:=by
 simp only [bitAt]
 rw [List.getD,pack_get l (i / 8) (by omega)]
 simp only [Option.getD_some]
 rw [byteOf_bit l (i / 8) (i % 8) (Nat.mod_lt _ (by omega))]
 congr 1;omega
theorem unpack_pack (l:List Bool):unpack (pack l)=l++List.replicate (8*((l.length+7) / 8)-l.length) false:=by
 apply List.ext_getElem?
 intro i
 by_cases hi:i<8*((l.length+7) / 8)
 ·rw [unpack_get _ _ (by rw [pack_length];exact hi),bitAt_pack l i hi]
  by_cases hl:i<l.length
  ·rw [List.getElem?_append_left hl,List.getElem?_eq_getElem hl];simp [List.getD,hl]
  ·rw [List.getElem?_append_right (by omega),List.getElem?_replicate,if_pos (by omega),getD_past l i (by omega)]
 ·rw [List.getElem?_eq_none (by rw [unpack_length,pack_length];omega),List.getElem?_eq_none (by simp;omega)]
theorem numOf_fieldBits (x n:Nat):numOf (fieldBits x n)=x % 2 ^ n:=by
 induction n with
 | zero=>simp [fieldBits,numOf,Nat.mod_one]
 | succ n ih=>
  rw [show fieldBits x (n+1)=[x.testBit n]++fieldBits x n from rfl,numOf_append,ih,fieldBits_length,Nat.mod_pow_succ,← testBit_toNat]
  simp only [numOf,List.foldl,Nat.zero_mul,Nat.zero_add]
  rw [Nat.mul_comm,Nat.add_comm]
theorem mask_u64 (x n:Nat) (hx:x<18446744073709551616) (hn:n<64):bits BinOp.and IntKind.u64 (x:Int) (2 ^ n-1)=((x % 2 ^ n:Nat):Int):=by
 have:=bits_mask .u64 64 (by decide) wraps_u64 n (by omega) (x:Int) (Int.natCast_nonneg _) (by omega)
 rw [this];simp
theorem mask_u64' (x n:Nat) (hx:x<18446744073709551616) (hn:n<64):bits BinOp.and IntKind.u64 (x:Int) (IntKind.u64.wrap (IntKind.u64.wrap (2 ^ n)-1))=((x % 2 ^ n:Nat):Int):=by
 have h1:(2:Int) ^ n≤2 ^ 63:=by
  have:2 ^ n≤2 ^ 63:=Nat.pow_le_pow_right (by omega) (by omega)
  exact_mod_cast this
 have h2:(0:Int)<2 ^ n:=by
  have:0<2 ^ n:=Nat.two_pow_pos n
  exact_mod_cast this
 have e1:IntKind.u64.wrap (2 ^ n)=2 ^ n:=wraps_u64 _ (by omega) (by omega)
 have e2:IntKind.u64.wrap (2 ^ n-1)=2 ^ n-1:=wraps_u64 _ (by omega) (by omega)
 rw [e1,e2,mask_u64 x n hx hn]
structure Res (α:Type) where
 e:Nat
 x:α
 r:List Bool
def field (n:Nat) (bs:List Bool):Res Nat:=if bs.length<n then ⟨3,0,bs⟩ else ⟨0,numOf (bs.take n),bs.drop n⟩
theorem field_back (x n:Nat) (rest:List Bool) (hx:x<2 ^ n):field n (fieldBits x n++rest)=⟨0,x,rest⟩:=by
 have hl:=fieldBits_length x n
 have ht:(fieldBits x n++rest).take n=fieldBits x n:=by rw [List.take_append_of_le_length (by omega),List.take_of_length_le (by omega)]
 have hd:(fieldBits x n++rest).drop n=rest:=by rw [List.drop_append_of_le_length (by omega),List.drop_of_length_le (by omega),List.nil_append]
 rw [field,if_neg (by rw [List.length_append,hl];omega),ht,hd,numOf_fieldBits,Nat.mod_eq_of_lt hx]
def ofI (x:Int):Nat:=(x % 18446744073709551616).toNat
theorem ofI_lt (x:Int):ofI x<18446744073709551616:=by unfold ofI;omega
theorem wrap_ofI (x:Int):IntKind.u64.wrap x=(ofI x:Int):=by rw [IntKind.wrap_u64];unfold ofI;omega
def in64u (x:Nat):Prop:=x<18446744073709551616
end Go.Proofs.YtdcgbgecbeegmaaGreatDoor
end
section
namespace Go.Proofs.YtdcgbgecbeegmaaGreatDoor
open Go.RowKit
theorem w64_eq (x:Int):wrap64 x=(x+9223372036854775808) % 18446744073709551616-9223372036854775808:=by rw [wrap64]
def in64 (x:Int):Prop:=-9223372036854775808≤x∧x<9223372036854775808
def formT (x:Int):Nat:=if x=0 then 0 else if -64≤x∧x≤63 then 1 else if -2048≤x∧x≤2047 then 2 else if -2147483648≤x∧x≤2147483647 then 3 else 4
def widthT:Nat→Nat
 | 0=>0
 | 1=>7
 | 2=>12
 | 3=>32
 | _=>64
def headT:Nat→List Bool
 | 0=>[false]
 | 1=>[true,false]
 | 2=>[true,true,false]
 | 3=>[true,true,true,false]
 | _=>[true,true,true,true]
theorem formT_le (x:Int):formT x≤4:=by unfold formT;split<;>(try split)<;>(try split)<;>(try split)<;>omega
theorem widthT_le (k:Nat):widthT k≤64:=by unfold widthT;split<;>omega
def signT (u w:Nat):Int:=if 2 ^ (w-1)≤u then (u:Int)-2 ^ w else (u:Int)
def encX (x:Int):List Bool:=headT (formT x)++fieldBits (ofI x) (widthT (formT x))
def encFrom (last d:Int):List Int→List Bool
 | []=>[]
 | t::l=>encX (wrap64 (wrap64 (t-last)-d))++encFrom t (wrap64 (t-last)) l
def encT:List Int→List Bool
 | []=>[]
 | t::l=>fieldBits (ofI t) 64++encFrom t 0 l
theorem headT_len (k:Nat):(headT k).length≤4:=by unfold headT;split<;>decide
theorem encX_len (x:Int):(encX x).length≤68:=by
 rw [encX,List.length_append,fieldBits_length]
 have:=headT_len (formT x);have:=widthT_le (formT x);omega
theorem encFrom_len (last d:Int) (l:List Int):(encFrom last d l).length≤68*l.length:=by
 induction l generalizing last d with
 | nil=>exact Nat.le_refl _
 | cons t l ih=>
  rw [encFrom,List.length_append,List.length_cons]
  have:=encX_len (wrap64 (wrap64 (t-last)-d));have:=ih t (wrap64 (t-last));omega
theorem encT_len (l:List Int):(encT l).length≤68*l.length:=by
 match l with
 | []=>exact Nat.le_refl _
 | t::l=>
  rw [encT,List.length_append,fieldBits_length,List.length_cons]
  have:=encFrom_len t 0 l;omega
end Go.Proofs.YtdcgbgecbeegmaaGreatDoor
end
section
namespace Go.Proofs.YtdcgbgecbeegmaaGreatDoor
def leadV (x:Nat):Nat:=63-Nat.log2 x
def tz:Nat→Nat→Nat
 | 0,_=>0
 | f+1,x=>if x % 2=0 then 1+tz f (x / 2) else 0
def trailV (x:Nat):Nat:=tz 64 x
theorem tz_dvd (f x:Nat):2 ^ tz f x∣x:=by
 induction f generalizing x with
 | zero=>exact Nat.one_dvd x
 | succ f ih=>
  rw [tz]
  split
  ·next h=>
   obtain ⟨c,hc⟩:=ih (x / 2)
   refine ⟨c,?_⟩
   rw [Nat.add_comm,Nat.pow_succ]
   generalize 2 ^ tz f (x / 2)=P at *
   have:x=2*(x / 2):=by omega
   rw [this,hc,Nat.mul_comm P 2,Nat.mul_assoc]
  ·exact Nat.one_dvd x
theorem window {x:Nat} (hx:x<18446744073709551616) (h0:x≠0):leadV x+trailV x≤63:=by
 have h1:Nat.log2 x<64:=(Nat.log2_lt h0).2 (by simpa using hx)
 have h2:2 ^ trailV x≤x:=Nat.le_of_dvd (by omega) (tz_dvd 64 x)
 have h3:trailV x≤Nat.log2 x:=(Nat.le_log2 h0).2 h2
 rw [leadV];omega
def fits (win:Option (Nat × Nat)) (x:Nat):Bool:=match win with
 | none=>false
 | some (L,t)=>decide (L≤leadV x)&&decide (t≤trailV x)
def freshW (x:Nat):List Bool:=[true,true]++(fieldBits (leadV x) 6++(fieldBits (63-leadV x-trailV x) 6++fieldBits (x / 2 ^ trailV x) (64-leadV x-trailV x)))
def encW (win:Option (Nat × Nat)) (x:Nat):List Bool:=if x=0 then [false] else
 match win with
 | some (L,t)=>if fits win x then [true,false]++fieldBits (x / 2 ^ t) (64-L-t) else freshW x
 | none=>freshW x
def nextW (win:Option (Nat × Nat)) (x:Nat):Option (Nat × Nat):=if x=0 then win else if fits win x then win else some (leadV x,trailV x)
def okW (win:Option (Nat × Nat)):Prop:=∀L t,win=some (L,t)→L+t≤63
theorem okW_next {win:Option (Nat × Nat)} (h:okW win) {x:Nat} (hx:x<18446744073709551616):okW (nextW win x):=by
 intro L t e
 rw [nextW] at e
 split at e
 ·exact h L t e
 ·next h0=>
  split at e
  ·exact h L t e
  ·cases e;exact window hx h0
def encFromV (win:Option (Nat × Nat)) (last:Nat):List Nat→List Bool
 | []=>[]
 | v::l=>encW win (v ^^^ last)++encFromV (nextW win (v ^^^ last)) v l
def encV:List Nat→List Bool
 | []=>[]
 | v::l=>fieldBits v 64++encFromV none v l
theorem xor_lt64 {a b:Nat} (ha:a<18446744073709551616) (hb:b<18446744073709551616):a ^^^ b<18446744073709551616:=Nat.xor_lt_two_pow (n:=64) ha hb
theorem freshW_len (x:Nat):(freshW x).length≤78:=by
 rw [freshW];simp only [List.length_append,fieldBits_length,List.length_cons,List.length_nil];omega
theorem encW_len (win:Option (Nat × Nat)) (x:Nat):(encW win x).length≤78:=by
 unfold encW
 split
 ·simp
 ·split
  ·split
   ·simp only [List.length_append,fieldBits_length,List.length_cons,List.length_nil];omega
   ·exact freshW_len x
  ·exact freshW_len x
theorem encFromV_len (win:Option (Nat × Nat)) (last:Nat) (l:List Nat):(encFromV win last l).length≤78*l.length:=by
 induction l generalizing win last with
 | nil=>exact Nat.le_refl _
 | cons v l ih=>
  rw [encFromV,List.length_append,List.length_cons]
  have:=encW_len win (v ^^^ last);have:=ih (nextW win (v ^^^ last)) v;omega
theorem encV_len (l:List Nat):(encV l).length≤78*l.length:=by
 match l with
 | []=>exact Nat.le_refl _
 | v::l=>
  rw [encV,List.length_append,fieldBits_length,List.length_cons]
  have:=encFromV_len none v l;omega
def addR (rs:List (Nat × Nat)) (x:Nat):List (Nat × Nat):=match rs.getLast? with
 | some (v,c)=>if v=x∧c<128 then rs.dropLast++[(v,c+1)] else rs++[(x,1)]
 | none=>rs++[(x,1)]
def splitFrom (rs:List (Nat × Nat)) (l:List Nat):List (Nat × Nat):=l.foldl addR rs
def splitR (l:List Nat):List (Nat × Nat):=splitFrom [] l
def encRun (r:Nat × Nat):List Bool:=fieldBits r.1 64++fieldBits (r.2-1) 7
def encR (l:List Nat):List Bool:=(splitR l).flatMap encRun
theorem splitFrom_append (rs:List (Nat × Nat)) (a b:List Nat):splitFrom rs (a++b)=splitFrom (splitFrom rs a) b:=by simp [splitFrom,List.foldl_append]
theorem addR_nil (x:Nat):addR [] x=[(x,1)]:=rfl
theorem addR_last (p:List (Nat × Nat)) (v c x:Nat):addR (p++[(v,c)]) x=if v=x∧c<128 then p++[(v,c+1)] else p++[(v,c)]++[(x,1)]:=by
 simp [addR]
theorem cases_last (rs:List (Nat × Nat)):rs=[]∨∃p v c,rs=p++[(v,c)]:=by
 rcases List.eq_nil_or_concat rs with h | ⟨p,⟨v,c⟩,h⟩
 ·exact Or.inl h
 ·exact Or.inr ⟨p,v,c,by simpa using h⟩
def okR (p:Option (Nat × Nat)) (v:Nat):Prop:=∀pv pc,p=some (pv,pc)→¬(pv=v∧pc<128)
def runOk (r:Nat × Nat):Prop:=1≤r.2∧r.2≤128∧r.1<18446744073709551616
def lastR (p:Option (Nat × Nat)) (rs:List (Nat × Nat)):Option (Nat × Nat):=match rs.getLast? with
 | some r=>some r
 | none=>p
theorem lastR_snoc (p:Option (Nat × Nat)) (rs:List (Nat × Nat)) (r:Nat × Nat):lastR p (rs++[r])=some r:=by simp [lastR]
theorem split_run (rs:List (Nat × Nat)) (x k:Nat) (hk:k<128) (h:okR (lastR none rs) x):splitFrom rs (List.replicate (k+1) x)=rs++[(x,k+1)]:=by
 induction k with
 | zero=>
  show addR rs x=_
  rcases cases_last rs with rfl | ⟨p,v,c,rfl⟩
  ·rfl
  ·rw [addR_last,if_neg]
   intro hh
   exact h v c (lastR_snoc _ _ _) hh
 | succ k ih=>
  rw [List.replicate_succ',splitFrom_append,ih (by omega)]
  show addR (rs++[(x,k+1)]) x=_
  rw [addR_last,if_pos ⟨rfl,by omega⟩]
theorem encRun_len (r:Nat × Nat):(encRun r).length=71:=by simp [encRun,fieldBits_length]
theorem encRuns_len (rs:List (Nat × Nat)):(rs.flatMap encRun).length=71*rs.length:=by
 induction rs with
 | nil=>rfl
 | cons r rs ih=>rw [List.flatMap_cons,List.length_append,encRun_len,ih,List.length_cons];omega
theorem addR_len (rs:List (Nat × Nat)) (x:Nat):(addR rs x).length≤rs.length+1:=by
 rcases cases_last rs with rfl | ⟨p,v,c,rfl⟩
 ·simp [addR_nil]
 ·rw [addR_last];split<;>simp
theorem splitFrom_len (rs:List (Nat × Nat)) (l:List Nat):(splitFrom rs l).length≤rs.length+l.length:=by
 induction l generalizing rs with
 | nil=>simp [splitFrom]
 | cons x l ih=>
  have h:=ih (addR rs x)
  have h2:=addR_len rs x
  show (splitFrom (addR rs x) l).length≤_
  rw [List.length_cons];omega
theorem splitR_len (l:List Nat):(splitR l).length≤l.length:=by have:=splitFrom_len [] l;simpa [splitR] using this
theorem encR_length (l:List Nat):(encR l).length=71*(splitR l).length:=encRuns_len _
theorem encR_len (l:List Nat):(encR l).length≤71*l.length:=by rw [encR_length];have:=splitR_len l;omega
def insD (x:Nat):List Nat→List Nat
 | []=>[x]
 | y::l=>if y=x then y::l else if x<y then x::y::l else y::insD x l
def dictFrom (d l:List Nat):List Nat:=l.foldl (fun d x=>insD x d) d
def dictD (l:List Nat):List Nat:=dictFrom [] l
def Asc (d:List Nat):Prop:=d.Pairwise (· < ·)
def widthD (k:Nat):Nat:=if k≤1 then 0 else Nat.log2 (k-1)+1
theorem insD_mem (x z:Nat) (d:List Nat):z∈insD x d↔z=x∨z∈d:=by
 induction d with
 | nil=>simp [insD]
 | cons y l ih=>
  rw [insD]
  split
  ·next h=>subst h;simp
  ·split
   ·simp
   ·rw [List.mem_cons,ih,List.mem_cons]
    constructor
    ·rintro (h | h | h)
     ·exact Or.inr (Or.inl h)
     ·exact Or.inl h
     ·exact Or.inr (Or.inr h)
    ·rintro (h | h | h)
     ·exact Or.inr (Or.inl h)
     ·exact Or.inl h
     ·exact Or.inr (Or.inr h)
theorem insD_asc (x:Nat) (d:List Nat) (h:Asc d):Asc (insD x d):=by
 induction d with
 | nil=>exact List.pairwise_singleton _ _
 | cons y l ih=>
  obtain ⟨h1,h2⟩:=List.pairwise_cons.1 h
  rw [insD]
  split
  ·exact h
  ·next hne=>
   split
   ·next hlt=>
    exact List.pairwise_cons.2 ⟨fun z hz=>by
     rcases List.mem_cons.1 hz with e | e
     ·omega
     ·have:=h1 z e;omega,h⟩
   ·next hge=>
    exact List.pairwise_cons.2 ⟨fun z hz=>by
     rcases (insD_mem x z l).1 hz with e | e
     ·omega
     ·exact h1 z e,ih h2⟩
theorem insD_in (x:Nat) (d:List Nat) (ha:Asc d) (h:x∈d):insD x d=d:=by
 induction d with
 | nil=>cases h
 | cons y l ih=>
  obtain ⟨h1,h2⟩:=List.pairwise_cons.1 ha
  rw [insD]
  split
  ·rfl
  ·next hne=>
   rcases List.mem_cons.1 h with e | e
   ·exact absurd e.symm hne
   ·rw [if_neg (by have:=h1 x e;omega),ih h2 e]
theorem insD_le (x:Nat) (d:List Nat):(insD x d).length≤d.length+1:=by
 induction d with
 | nil=>exact Nat.le_refl _
 | cons y l ih=>
  rw [insD]
  split
  ·exact Nat.le_succ _
  ·split
   ·exact Nat.le_refl _
   ·rw [List.length_cons,List.length_cons];omega
theorem dictFrom_asc (d l:List Nat) (h:Asc d):Asc (dictFrom d l):=by
 induction l generalizing d with
 | nil=>exact h
 | cons x l ih=>exact ih (insD x d) (insD_asc x d h)
theorem dictFrom_mem (d l:List Nat) (z:Nat):z∈dictFrom d l↔z∈d∨z∈l:=by
 induction l generalizing d with
 | nil=>simp [dictFrom]
 | cons x l ih=>
  have:=ih (insD x d)
  show z∈dictFrom (insD x d) l↔_
  rw [this,insD_mem,List.mem_cons]
  constructor
  ·rintro ((h | h) | h)
   ·exact Or.inr (Or.inl h)
   ·exact Or.inl h
   ·exact Or.inr (Or.inr h)
  ·rintro (h | h | h)
   ·exact Or.inl (Or.inr h)
   ·exact Or.inl (Or.inl h)
   ·exact Or.inr h
theorem dictFrom_len (d l:List Nat):(dictFrom d l).length≤d.length+l.length:=by
 induction l generalizing d with
 | nil=>exact Nat.le_refl _
 | cons x l ih=>
  have h1:=ih (insD x d);have h2:=insD_le x d
  show (dictFrom (insD x d) l).length≤_
  rw [List.length_cons];omega
theorem dictD_asc (l:List Nat):Asc (dictD l):=dictFrom_asc [] l List.Pairwise.nil
theorem dictD_mem (l:List Nat) (z:Nat):z∈dictD l↔z∈l:=by rw [dictD,dictFrom_mem];simp
theorem dictD_len (l:List Nat):(dictD l).length≤l.length:=by have:=dictFrom_len [] l;rw [List.length_nil] at this;rw [dictD];omega
theorem asc_ext (a b:List Nat) (ha:Asc a) (hb:Asc b) (h:∀x,x∈a↔x∈b):a=b:=by
 induction a generalizing b with
 | nil=>
  cases b with
  | nil=>rfl
  | cons y l=>exact absurd ((h y).2 (List.mem_cons_self ..)) List.not_mem_nil
 | cons x a ih=>
  cases b with
  | nil=>exact absurd ((h x).1 (List.mem_cons_self ..)) List.not_mem_nil
  | cons y b=>
   obtain ⟨a1,a2⟩:=List.pairwise_cons.1 ha
   obtain ⟨b1,b2⟩:=List.pairwise_cons.1 hb
   have hxy:x=y:=by
    rcases List.mem_cons.1 ((h x).1 (List.mem_cons_self ..)) with e | e
    ·exact e
    ·rcases List.mem_cons.1 ((h y).2 (List.mem_cons_self ..)) with f | f
     ·exact f.symm
     ·have:=b1 x e;have:=a1 y f;omega
   subst hxy
   rw [ih b a2 b2 (fun z=>by
    constructor
    ·intro hz
     rcases List.mem_cons.1 ((h z).1 (List.mem_cons_of_mem _ hz)) with e | e
     ·have:=a1 z hz;omega
     ·exact e
    ·intro hz
     rcases List.mem_cons.1 ((h z).2 (List.mem_cons_of_mem _ hz)) with e | e
     ·have:=b1 z hz;omega
     ·exact e)]
theorem dictD_unique (l d:List Nat) (hd:Asc d) (h:∀x,x∈d↔x∈l):dictD l=d:=
 asc_ext _ _ (dictD_asc l) hd (fun x=>by rw [dictD_mem,h])
theorem width_le {k:Nat} (h:k≤128):widthD k≤7:=by
 rw [widthD]
 split
 ·omega
 ·have:Nat.log2 (k-1)<7:=(Nat.log2_lt (by omega)).2 (by omega)
  omega
def wordsBits (d:List Nat):List Bool:=d.flatMap fun x=>fieldBits x 64
def indsBits (k:Nat) (is:List Nat):List Bool:=is.flatMap fun i=>fieldBits i (widthD k)
def encD (l:List Nat):List Bool:=if l=[] then [] else fieldBits ((dictD l).length-1) 7++(wordsBits (dictD l)++indsBits (dictD l).length (l.map fun x=>(dictD l).idxOf x))
theorem getD_idxOf {d:List Nat} {x:Nat} (h:x∈d):d.getD (d.idxOf x) 0=x:=by
 have hl:=List.idxOf_lt_length_of_mem h
 rw [List.getD_eq_getElem?_getD,List.getElem?_eq_getElem hl,Option.getD_some]
 exact List.getElem_idxOf hl
end Go.Proofs.YtdcgbgecbeegmaaGreatDoor
end
section
namespace Go.Proofs.YtdcgbgecbeegmaaGreatDoor
open Go
def okD (l:List Nat):Bool:=decide ((dictD l).length≤128)
def putD (l:List Nat):List Bool:=if okD l then encD l else []
theorem wordsBits_len (d:List Nat):(wordsBits d).length=64*d.length:=by
 induction d with
 | nil=>rfl
 | cons x d ih=>rw [wordsBits,List.flatMap_cons,List.length_append,fieldBits_length];rw [wordsBits] at ih;rw [ih,List.length_cons];omega
theorem indsBits_len (k:Nat) (is:List Nat):(indsBits k is).length=widthD k*is.length:=by
 induction is with
 | nil=>rfl
 | cons x d ih=>rw [indsBits,List.flatMap_cons,List.length_append,fieldBits_length];rw [indsBits] at ih;rw [ih,List.length_cons,Nat.mul_add];omega
theorem wordsBits_take (d:List Nat) (i:Nat) (h:i<d.length) (x:Nat) (hx:d[i]=x):wordsBits (d.take (i+1))=wordsBits (d.take i)++fieldBits x 64:=by
 rw [List.take_add_one,List.getElem?_eq_getElem h,hx,wordsBits,List.flatMap_append];simp [wordsBits]
theorem indsBits_take (k:Nat) (is:List Nat) (i:Nat) (h:i<is.length) (x:Nat) (hx:is[i]=x):indsBits k (is.take (i+1))=indsBits k (is.take i)++fieldBits x (widthD k):=by
 rw [List.take_add_one,List.getElem?_eq_getElem h,hx,indsBits,List.flatMap_append];simp [indsBits]
def widthI (c:Int):Int:=(widthD c.toNat:Int)
end Go.Proofs.YtdcgbgecbeegmaaGreatDoor
end
section
namespace Go.Proofs.YtdcgbgecbeegmaaGreatDoor
open Go Go.RowKit
theorem ret_int {k:IntKind} {a b:Int} (h:a=b):Ending.returned (.int k a) = .returned (.int k b):=by rw [h]
theorem ret_bool {a b:Bool} (h:a=b):Ending.returned (.bool a) = .returned (.bool b):=by rw [h]
def Blk (w:World) (b:Nat) (cs:List Value):Prop:=∃t,w.heap[b]? = some (.cells cs.toArray t (0,0))
theorem Blk.lt {w:World} {b:Nat} {cs:List Value} (h:Blk w b cs):b<w.heap.size:=by obtain ⟨t,h⟩:=h;exact lt_of_block h
theorem Blk.cell {w:World} {b:Nat} {cs:List Value} (h:Blk w b cs) (i:Nat):w.cell? ⟨b,i,none⟩=cs[i]?:=by
 obtain ⟨t,h⟩:=h;rw [cell_of_row w b i _ t (0,0) h];simp
theorem Blk.free {w:World} {b:Nat} {cs:List Value} (h:Blk w b cs) (i:Nat):w.frozen? ⟨b,i,none⟩=false:=by obtain ⟨t,h⟩:=h;exact frozen_of_row w b i _ t h
theorem Blk.set {w:World} {b:Nat} {cs:List Value} (h:Blk w b cs) (i:Nat) (u:Value):Blk (w.setCell ⟨b,i,none⟩ u) b (cs.set i u):=by
 obtain ⟨t,h⟩:=h;exact ⟨t,by rw [heap_setCell_same w b i _ t u h];simp⟩
theorem Blk.of_same {w w':World} {b:Nat} {cs:List Value} (h:Blk w b cs) (e:w'.heap[b]? = w.heap[b]?):Blk w' b cs:=by obtain ⟨t,h⟩:=h;exact ⟨t,e.trans h⟩
theorem Blk.set_other {w:World} {b:Nat} {cs:List Value} (h:Blk w b cs) {a:Addr} (ha:b≠a.block) (u:Value):Blk (w.setCell a u) b cs:=h.of_same (heap_setCell_other w a b u ha)
theorem Blk.alloc {w:World} {b:Nat} {cs:List Value} (h:Blk w b cs) (o:Obj):Blk (w.alloc o) b cs:=h.of_same (Below.heap_alloc w o b h.lt)
theorem Blk.drew {w:World} {b:Nat} {cs:List Value} (h:Blk w b cs):Blk w.drew b cs:=h
theorem Blk.new (w:World) (cs:Array Value) (t:TypeId):Blk (w.alloc (.cells cs t)) w.heap.size cs.toList:=⟨t,by simpa using heap_alloc_new w (.cells cs t)⟩
structure Mods (S:Nat→Prop) (w w':World):Prop where
 os:w'.os=w.os
 tape:w'.tape=w.tape
 output:w'.output=w.output
 size:w.heap.size≤w'.heap.size
 block:∀k,k<w.heap.size→¬S k→w'.heap[k]? = w.heap[k]?
theorem Mods.refl (S:Nat→Prop) (w:World):Mods S w w:=⟨rfl,rfl,rfl,Nat.le_refl _,fun _ _ _=>rfl⟩
theorem Mods.trans {S T:Nat→Prop} {a b c:World} (h:Mods S a b) (k:Mods T b c) (ht:∀j,j<a.heap.size→T j→S j):Mods S a c:=
 ⟨k.os.trans h.os,k.tape.trans h.tape,k.output.trans h.output,Nat.le_trans h.size k.size,
  fun j hj hs=>(k.block j (Nat.lt_of_lt_of_le hj h.size) (fun e=>hs (ht j hj e))).trans (h.block j hj hs)⟩
theorem Mods.mono {S T:Nat→Prop} {a b:World} (h:Mods S a b) (hs:∀j,j<a.heap.size→S j→T j):Mods T a b:=
 ⟨h.os,h.tape,h.output,h.size,fun j hj ht=>h.block j hj (fun e=>ht (hs j hj e))⟩
theorem Mods.alloc (S:Nat→Prop) (w:World) (o:Obj):Mods S w (w.alloc o):=⟨rfl,rfl,rfl,by simp,fun k hk _=>Below.heap_alloc w o k hk⟩
theorem Mods.drew (S:Nat→Prop) (w:World):Mods S w w.drew:=⟨rfl,rfl,rfl,Nat.le_refl _,fun _ _ _=>rfl⟩
theorem Mods.drewN (S:Nat→Prop) (w:World) (n:Nat):Mods S w (w.drewN n):=⟨rfl,rfl,rfl,Nat.le_refl _,fun _ _ _=>rfl⟩
theorem Mods.set (S:Nat→Prop) (w:World) (a:Addr) (u:Value) (h:a.block<w.heap.size→S a.block):Mods S w (w.setCell a u):=
 ⟨rfl,rfl,rfl,by simp,fun k hk hs=>heap_setCell_other w a k u (fun e=>hs (e ▸ h (e ▸ hk)))⟩
theorem Mods.blk {S:Nat→Prop} {w w':World} {b:Nat} {cs:List Value} (h:Mods S w w') (hb:Blk w b cs) (hs:¬S b):Blk w' b cs:=hb.of_same (h.block b hb.lt hs)
theorem Mods.below {S:Nat→Prop} {w w':World} {B:Nat} (h:Mods S w w') (hB:B≤w.heap.size) (hs:∀k,k<B→¬S k):Below B w w':=⟨h.os,h.tape,h.output,h.size,fun k hk=>h.block k (by omega) (hs k hk)⟩
theorem Mods.of_below {w w':World} (h:Below w.heap.size w w') (S:Nat→Prop):Mods S w w':=⟨h.os,h.tape,h.output,h.size,fun k hk _=>h.block k hk⟩
theorem Mods.of_grown {w w':World} {row:Option Nat} (h:w.grownBy w' row):Mods (fun k=>row=some k) w w':=⟨h.os,h.tape,h.output,h.size,fun k hk hs=>h.block k hk (fun e=>hs e.symm)⟩
theorem Mods.cell {S:Nat→Prop} {w w':World} (h:Mods S w w') {a:Addr} {u:Value} (hc:w.cell? a=some u) (hs:¬S a.block):w'.cell? a=some u:=
 (World.cell?_of_block (h.block a.block (World.block_lt_of_cell? w a hc) hs)).trans hc
theorem Mods.owns {S:Nat→Prop} {w w':World} (h:Mods S w w') {base:Nat} {e:TypeId} {size:Nat} {v:Value} {n:Nat} {xs:List Value} (ho:w.ownsRow base e size v n xs) (hs:∀k,v.ownBlock=some k→¬S k):w'.ownsRow base e size v n xs:=by
 refine ⟨ho.1,?_⟩
 rcases ho.2 with hn | ⟨g,cap,cur,rfl,hb,hg,r⟩
 ·exact Or.inl hn
 ·exact Or.inr ⟨g,cap,cur,rfl,hb,by rw [h.block g (Array.getElem?_eq_some_iff.1 hg).1 (hs g rfl)];exact hg,r⟩
theorem owns_cases {w:World} {base:Nat} {e:TypeId} {size:Nat} {v:Value} {n:Nat} {xs:List Value} (h:w.ownsRow base e size v n xs) :
  (v = .slice none 0 0∧n=0∧xs=[])∨∃g cap,v = .slice (some ⟨g,0,none⟩) n cap∧g<w.heap.size∧n≤cap∧cap≤maxLen:=by
 rcases h.2 with ⟨rfl,rfl⟩ | ⟨g,cap,cur,rfl,hb,hg,hn,hm,_⟩
 ·exact Or.inl ⟨rfl,rfl,List.eq_nil_of_length_eq_zero (by simpa using h.1)⟩
 ·exact Or.inr ⟨g,cap,rfl,lt_of_block hg,hn,hm⟩
theorem owns_lt {w:World} {base:Nat} {e:TypeId} {size:Nat} {v:Value} {n:Nat} {xs:List Value} (h:w.ownsRow base e size v n xs):∀k,v.ownBlock=some k→k<w.heap.size:=
 fun k hk=>(h.lt k hk).2
theorem owns_rebase {w:World} {base base':Nat} {e:TypeId} {size:Nat} {v:Value} {n:Nat} {xs:List Value} (h:w.ownsRow base e size v n xs) (hb:∀k,v.ownBlock=some k→base'≤k):w.ownsRow base' e size v n xs:=by
 refine ⟨h.1,?_⟩
 rcases h.2 with hn | ⟨g,cap,cur,rfl,_,r⟩
 ·exact Or.inl hn
 ·exact Or.inr ⟨g,cap,cur,rfl,hb g rfl,r⟩
def Fresh (B:Nat) (v v':Value):Prop:=∀k,v'.ownBlock=some k→v.ownBlock=some k∨B≤k
theorem Fresh.refl (B:Nat) (v:Value):Fresh B v v:=fun _ h=>Or.inl h
theorem Fresh.trans {B C:Nat} {u v x:Value} (h:Fresh B u v) (k:Fresh C v x) (hBC:B≤C):Fresh B u x:=fun j hj=>by
 rcases k j hj with h1 | h1
 ·exact h j h1
 ·exact Or.inr (by omega)
section
variable {P:Program} (w:World)
theorem run_app (t ty e:TypeId) (i:TypeInfo) (z:Value) (size bytes:Nat) (ht:P.underlying t=some (.slice e)) (hi:P.info? e=some i) (hz:i.zero=some z)
  (hsize:i.size=size) (hby:i.bytes=bytes) (hzs:z.cells.size=size) (hsz:0<size)
  (v:Value) (n:Nat) (xs:List Value) (hown:w.ownsRow 0 e size v n xs)
  (a:Addr) (m c:Nat) (news:List Value) (hl:news.length=m*size) (hnews:∀j u,news[j]? = some u→w.cell? (a.add j)=some u) (h1:∀u∈news,u.oneCell'=true)
  (h63:n+m≤maxLen) (hbytes:(n+m)*bytes≤140737488355328) :
  ∃v' w',(Builtin.append_ #[t,t] ty #[v,.slice (some a) m c]).run P w = .ok v' w'∧w'.ownsRow 0 e size v' (n+m) (xs++news)∧Mods (fun k=>v.ownBlock=some k) w w'∧Fresh w.heap.size v v':=by
 have hsmall:n+m≤9223372036854775807:=by simp only [maxLen] at h63;omega
 rcases owns_cases hown with ⟨rfl,rfl,rfl⟩ | ⟨g,cap,rfl,hg,hnc,hcm⟩
 ·obtain ⟨v',w',hr,h2,h3,_⟩:=run_append_own (P:=P) w w.heap.size t ty e i z size bytes ht hi hz hsize hby hzs hsz _ 0 [] (World.ownsRow_nil _ _ _ _) a m c news hl hnews h1 h63 hbytes (Nat.le_refl _)
  exact ⟨v',w',hr,owns_rebase h2 (fun _ _=>Nat.zero_le _),Mods.of_grown h3,fun k hk=>Or.inr (h2.lt k hk).1⟩
 ·by_cases hroom:n+m≤cap
  ·obtain ⟨w',hr,h2,h3⟩:=run_append_fits (P:=P) w 0 t ty e i size ht hi hsize g n cap xs hown a m c news hl hnews h1 hroom
   exact ⟨_,w',hr,h2,Mods.of_grown h3,fun k hk=>Or.inl hk⟩
  ·subst hsize
   subst hby
   have holds:∀j u,xs[j]? = some u→w.cell? ((⟨g,0,none⟩:Addr).add j)=some u:=hown.cells (g:=g) rfl
   have hr:=run_append_grow (P:=P) w t ty e i z ht hi hz ⟨g,0,none⟩ n cap xs hown.1 holds a m c news hl hnews (by omega) (by omega) (growslice_fits (by omega) hbytes)
   have hge:=grownCap_ge w (n+m) cap e
   have hlen:(xs++news).length=(n+m)*i.size:=by rw [List.length_append,hown.1,hl,Nat.add_mul]
   refine ⟨_,_,hr,⟨hlen,.inr ⟨w.heap.size,_,_,rfl,Nat.zero_le _,heap_alloc_new w.drew _,hge,grownCap_le_maxLen w (n+m) cap e h63,?_,?_⟩⟩,⟨rfl,rfl,rfl,by simp,fun k hk _=>Below.heap_alloc w.drew _ k hk⟩,?_⟩
   ·simp only [Array.size_append,List.size_toArray,size_zeroCells,hzs,hown.1,hl,← Nat.add_mul]
    congr 1
    omega
   ·simp only [Array.toList_append,List.append_assoc]
    rw [← List.append_assoc,← hlen]
    exact List.take_left
   ·intro k hk
    simp only [Value.ownBlock,Option.some.injEq] at hk
    exact Or.inr (by omega)
theorem wpList_app {ops:Array Oper} {rest:List Oper} {o:Oper} {a:Act} {Q:Exit→Act→World→Prop} (hgd:Region.wanted o (yielded ops a.tmps)=true) (s x:Operand) (t:TypeId)
  (ho:o.op = .call { callee:=.builtin .append,args:=#[s,x],argTypes:=#[t,t] })
  (e:TypeId) (i:TypeInfo) (z:Value) (size bytes:Nat) (ht:P.underlying t=some (.slice e)) (hi:P.info? e=some i) (hz:i.zero=some z)
  (hsize:i.size=size) (hby:i.bytes=bytes) (hzs:z.cells.size=size) (hsz:0<size)
  (v:Value) (n:Nat) (xs:List Value) (hs:a.eval s=v) (hown:w.ownsRow 0 e size v n xs)
  (ad:Addr) (m c:Nat) (news:List Value) (hx:a.eval x = .slice (some ad) m c) (hl:news.length=m*size) (hnews:∀j u,news[j]? = some u→w.cell? (ad.add j)=some u) (h1:∀u∈news,u.oneCell'=true)
  (h63:n+m≤maxLen) (hbytes:(n+m)*bytes≤140737488355328)
  (h:∀v' w',w'.ownsRow 0 e size v' (n+m) (xs++news)→Mods (fun k=>v.ownBlock=some k) w w'→Fresh w.heap.size v v'→wpList P ops Q rest (a.put o.dst v') w'):wpList P ops Q (o::rest) a w:=by
 refine BigFrame.wpList_want hgd fun K hK=>?_
 obtain ⟨v',w',hr,h2,h3,h4⟩:=run_app (P:=P) w t o.type e i z size bytes ht hi hz hsize hby hzs hsz v n xs hown ad m c news hl hnews h1 h63 hbytes
 unfold Oper.wp execOp
 simp only [ho,resolve,invoke,builtin,Sem.run_bind,Sem.run_pure,Result.andThen_ok,List.map_toArray,List.map_cons,List.map_nil,hs,hx,hr]
 exact hK _ _ (h v' w' h2 h3 h4)
theorem news_one (x:Value) (t:TypeId):∀(j:Nat) (u:Value),[x][j]? = some u→(w.alloc (.cells #[x] t)).cell? ((⟨w.heap.size,0,none⟩:Addr).add j)=some u:=by
 intro j u hj
 match j,hj with
 | 0,hj=>simp at hj;subst hj;simp [Addr.add]
end
end Go.Proofs.YtdcgbgecbeegmaaGreatDoor
end
section
namespace Go.Proofs.YtdcgbgecbeegmaaGreatDoor
open Go Go.RowKit
def Rd (w:World) (sz:Nat) (v:Value) (n:Nat) (vs:List Value):Prop:=
 ∃p c,v = .slice p n c∧vs.length=n*sz∧n≤c∧c≤maxLen∧(p=none→n=0∧c=0)∧∀ad,p=some ad→∀j u,vs[j]? = some u→w.cell? (ad.add j)=some u
theorem Rd.nil (w:World) (sz:Nat):Rd w sz (.slice none 0 0) 0 []:=⟨none,0,rfl,by simp,Nat.le_refl _,by simp [maxLen],fun _=>⟨rfl,rfl⟩,fun ad h=>by cases h⟩
theorem Rd.of_owns {w:World} {base:Nat} {e:TypeId} {sz:Nat} {v:Value} {n:Nat} {vs:List Value} (h:w.ownsRow base e sz v n vs):Rd w sz v n vs:=by
 rcases owns_cases h with ⟨rfl,rfl,rfl⟩ | ⟨g,cap,rfl,_,h1,h2⟩
 ·exact Rd.nil w sz
 ·exact ⟨_,_,rfl,h.1,h1,h2,(fun e=>by cases e),fun ad e=>by cases e;exact h.cells rfl⟩
theorem Rd.of_cells {w w':World} {sz:Nat} {v:Value} {n:Nat} {vs:List Value} (h:Rd w sz v n vs) (hc:∀(a:Addr) (u:Value),w.cell? a=some u→(∃p,v = .slice (some p) n (match v with | .slice _ _ c=>c | _=>0)∧a.block=p.block)→w'.cell? a=some u):Rd w' sz v n vs:=by
 obtain ⟨p,c,rfl,h1,h2,h3,h4,h5⟩:=h
 refine ⟨p,c,rfl,h1,h2,h3,h4,fun ad e j u hu=>?_⟩
 subst e
 refine hc _ _ (h5 ad rfl j u hu) ⟨ad,rfl,?_⟩
 unfold Addr.add;split<;>rfl
theorem Rd.below {w w':World} {sz:Nat} {v:Value} {n:Nat} {vs:List Value} (h:Rd w sz v n vs) (hb:Below w.heap.size w w'):Rd w' sz v n vs:=
 h.of_cells fun a _ hc _=>(hb.cell (World.block_lt_of_cell? w a hc)).trans hc
theorem Rd.mods {S:Nat→Prop} {w w':World} {sz:Nat} {v:Value} {n:Nat} {vs:List Value} (h:Rd w sz v n vs) (hm:Mods S w w') (hs:∀k,v.ownBlock=some k→¬S k):Rd w' sz v n vs:=
 h.of_cells fun a _ hc ⟨p,hp,ha⟩=>hm.cell hc (hs _ (by rw [hp,ha];rfl))
theorem Rd.mods' {S:Nat→Prop} {w w':World} {sz:Nat} {v:Value} {n:Nat} {vs:List Value} (h:Rd w sz v n vs) (hm:Mods S w w') (hs:vs≠[]→∀k,v.ownBlock=some k→¬S k):Rd w' sz v n vs:=by
 by_cases e:vs=[]
 ·subst e
  obtain ⟨p,c,rfl,h1,h2,h3,h4,_⟩:=h
  exact ⟨p,c,rfl,h1,h2,h3,h4,fun ad _ j u hu=>by simp at hu⟩
 ·exact h.mods hm (hs e)
theorem Rd.len {w:World} {sz:Nat} {v:Value} {n:Nat} {vs:List Value} (h:Rd w sz v n vs):vs.length=n*sz:=by obtain ⟨_,_,_,h1,_⟩:=h;exact h1
theorem Rd.le {w:World} {sz:Nat} {v:Value} {n:Nat} {vs:List Value} (h:Rd w sz v n vs):n≤maxLen:=by obtain ⟨_,_,_,_,h1,h2,_⟩:=h;omega
theorem Rd.at {w:World} {sz:Nat} {v:Value} {n:Nat} {vs:List Value} (h:Rd w sz v n vs) (hne:vs≠[]) :
  ∃b off c,v = .slice (some ⟨b,off,none⟩) n c∧n≤c∧c≤maxLen∧∀(j:Nat) (u:Value),vs[j]? = some u→w.cell? ⟨b,off+j,none⟩=some u:=by
 obtain ⟨p,c,rfl,h1,h2,h3,h4,h5⟩:=h
 cases p with
 | none=>
  obtain ⟨rfl,_⟩:=h4 rfl
  exact absurd (List.eq_nil_of_length_eq_zero (by simpa using h1)) hne
 | some ad=>
  obtain ⟨b,off,spot⟩:=ad
  obtain ⟨x,hx⟩:∃x,vs[0]? = some x:=by
   cases vs with
   | nil=>exact absurd rfl hne
   | cons x _=>exact ⟨x,rfl⟩
  have hspot:spot=none:=by simpa [Addr.add] using World.cell?_spot (h5 _ rfl 0 x hx)
  subst hspot
  refine ⟨b,off,c,rfl,h2,h3,fun j u hu=>?_⟩
  have:=h5 _ rfl j u hu
  simp only [Addr.add] at this
  split at this
  ·next h0=>subst h0;simpa using this
  ·exact this
theorem Rd.lt {w:World} {sz:Nat} {v:Value} {n:Nat} {vs:List Value} (h:Rd w sz v n vs) (hne:vs≠[]):∀k,v.ownBlock=some k→k<w.heap.size:=by
 intro k hk
 obtain ⟨b,off,c,rfl,_,_,hc⟩:=h.at hne
 obtain ⟨x,hx⟩:∃x,vs[0]? = some x:=by
  cases vs with
  | nil=>exact absurd rfl hne
  | cons x _=>exact ⟨x,rfl⟩
 simp only [Value.ownBlock,Option.some.injEq] at hk
 subst hk
 exact World.block_lt_of_cell? w _ (hc 0 x hx)
theorem Rd.shape {w:World} {sz:Nat} {v:Value} {n:Nat} {vs:List Value} (h:Rd w sz v n vs):∃p c,v = .slice p n c:=by obtain ⟨p,c,h,_⟩:=h;exact ⟨p,c,h⟩
structure Elem (P:Program) (t e:TypeId) (sz bytes:Nat):Prop where
 ht:P.underlying t=some (.slice e)
 hi:∃i z,P.info? e=some i∧i.zero=some z∧i.size=sz∧i.bytes=bytes∧z.cells.size=sz
 pos:0<sz
theorem Elem.mk' {P:Program} {t e:TypeId} {z:Value} {sz bytes:Nat} (ht:P.underlying t=some (.slice e)) (h:(P.info? e).map (fun i=>(i.zero,i.size,i.bytes))=some (some z,sz,bytes)) (hz:z.cells.size=sz) (hp:0<sz):Elem P t e sz bytes:=by
 obtain ⟨i,h1,h2,h3,h4⟩:=info_parts h
 exact ⟨ht,⟨i,z,h1,h2,h3,h4,hz⟩,hp⟩
section
variable {P:Program}
theorem wpList_push {t e:TypeId} {sz bytes:Nat} (hE:Elem P t e sz bytes) (w:World) (us:Array Value) (v:Value) (n:Nat) (xs:List Value) (hown:w.ownsRow 0 e sz v n xs) (hus:us.size=sz) (h1:∀u∈us.toList,u.oneCell'=true) (hb:(n+1)*bytes≤140737488355328∧n+1≤maxLen)
  {ops:Array Oper} {rest:List Oper} {o:Oper} {a:Act} {Q:Exit→Act→World→Prop} (hgd:Region.wanted o (yielded ops a.tmps)=true) (s x:Operand) (ho:o.op = .call { callee:=.builtin .append,args:=#[s,x],argTypes:=#[t,t] })
  (hs:a.eval s=v) (hx:a.eval x = .slice (some ⟨w.heap.size,0,none⟩) 1 1)
  (h:∀v' w',w'.ownsRow 0 e sz v' (n+1) (xs++us.toList)→Mods (fun k=>v.ownBlock=some k) w w'→Fresh w.heap.size v v'→wpList P ops Q rest (a.put o.dst v') w'):wpList P ops Q (o::rest) a (w.alloc (.cells us e)):=by
 obtain ⟨i,z,hi,hz,hsize,hby,hzs⟩:=hE.hi
 refine wpList_app (w.alloc (.cells us e)) hgd s x t ho e i z sz bytes hE.ht hi hz hsize hby hzs hE.pos v n xs hs (hown.alloc _) ⟨w.heap.size,0,none⟩ 1 1 us.toList hx (by simp [hus]) ?_ h1 hb.2 hb.1 ?_
 ·intro j u hj
  have e1:(⟨w.heap.size,0,none⟩:Addr).add j=⟨w.heap.size,j,none⟩:=by unfold Addr.add;split<;>simp_all
  rw [e1,(Blk.new w us e).cell]
  exact hj
 ·intro v' w' a1 a2 a3
  refine h v' w' a1 ((Mods.alloc _ _ _).trans a2 (fun _ _ e=>e)) (fun k hk=>?_)
  rcases a3 k hk with e | e
  ·exact Or.inl e
  ·exact Or.inr (by simp at e;omega)
theorem wpList_extend {t e:TypeId} {sz bytes:Nat} (hE:Elem P t e sz bytes) (w:World) (v v2:Value) (n m:Nat) (xs news:List Value) (hown:w.ownsRow 0 e sz v n xs) (hr:Rd w sz v2 m news) (h1:∀u∈news,u.oneCell'=true) (hb:(n+m)*bytes≤140737488355328∧n+m≤maxLen)
  {ops:Array Oper} {rest:List Oper} {o:Oper} {a:Act} {Q:Exit→Act→World→Prop} (hgd:Region.wanted o (yielded ops a.tmps)=true) (s x:Operand) (ho:o.op = .call { callee:=.builtin .append,args:=#[s,x],argTypes:=#[t,t] })
  (hs:a.eval s=v) (hx:a.eval x=v2)
  (h:∀v' w',w'.ownsRow 0 e sz v' (n+m) (xs++news)→Mods (fun k=>v.ownBlock=some k) w w'→Fresh w.heap.size v v'→wpList P ops Q rest (a.put o.dst v') w'):wpList P ops Q (o::rest) a w:=by
 obtain ⟨i,z,hi,hz,hsize,hby,hzs⟩:=hE.hi
 obtain ⟨p,c,rfl,hl,hc1,hc2,hnil,hcell⟩:=hr
 cases p with
 | none=>
  obtain ⟨rfl,rfl⟩:=hnil rfl
  obtain rfl:news=[]:=List.eq_nil_of_length_eq_zero (by simpa using hl)
  refine BigFrame.wpList_want hgd fun K hK=>?_
  have hr:=run_append_owned_none (P:=P) w 0 t o.type e i sz hE.ht hi v n xs hown
  unfold Oper.wp execOp
  simp only [ho,resolve,invoke,builtin,Sem.run_bind,Sem.run_pure,Result.andThen_ok,List.map_toArray,List.map_cons,List.map_nil,hs,hx,hr]
  exact hK _ _ (h v w (by simpa using hown) (Mods.refl _ _) (Fresh.refl _ _))
 | some ad=>exact wpList_app w hgd s x t ho e i z sz bytes hE.ht hi hz hsize hby hzs hE.pos v n xs hs hown ad m c news hx hl (hcell ad rfl) h1 hb.2 hb.1 h
end
theorem one_cell (u:Value) (h:u.oneCell'=true):∀x∈(#[u]:Array Value).toList,x.oneCell'=true:=by
 intro x hx;simp at hx;subst hx;exact h
def u8s (l:List Nat):List Value:=l.map (fun n:Nat=>Value.int .u8 (n:Int))
theorem u8s_length (l:List Nat):(u8s l).length=l.length:=by simp [u8s]
theorem u8s_append (a b:List Nat):u8s (a++b)=u8s a++u8s b:=by simp [u8s]
theorem u8s_set (l:List Nat) (i n:Nat):(u8s l).set i (.int .u8 n)=u8s (l.set i n):=by simp [u8s,List.map_set]
theorem u8s_get (l:List Nat) (i:Nat) (h:i<l.length):(u8s l)[i]? = some (.int .u8 (l[i]:Nat)):=by simp [u8s,h]
theorem u8s_oneCell (l:List Nat):∀u∈u8s l,u.oneCell'=true:=by
 intro u hu
 simp only [u8s,List.mem_map] at hu
 obtain ⟨n,_,rfl⟩:=hu
 rfl
def strOf (l:List Nat):ByteArray:=strOfNums (l.map fun n:Nat=>(n:Int))
theorem strOf_inj {l k:List Nat} (hl:∀x∈l,x<256) (hk:∀x∈k,x<256):((strOf l).toList == (strOf k).toList)=decide (l=k):=by
 have e:∀l:List Nat,(strOf l).toList=l.map (fun n=>UInt8.ofNat n):=fun l=>by
  rw [strOf,Lib.strOfNums_toList];simp [Lib.bytesOf,List.map_map,Function.comp_def]
 rw [e,e]
 by_cases h:l=k
 ·simp [h]
 ·have:¬(l.map (fun n=>UInt8.ofNat n)=k.map (fun n=>UInt8.ofNat n)):=fun hm=>h (by
   have hm':=congrArg (List.map UInt8.toNat) hm
   rw [List.map_map,List.map_map] at hm'
   have key:∀l:List Nat,(∀x∈l,x<256)→l.map (UInt8.toNat∘fun n=>UInt8.ofNat n)=l:=by
    intro l hl
    conv=>rhs;rw [← List.map_id l]
    apply List.map_congr_left
    intro x hx
    simp [Nat.mod_eq_of_lt (hl x hx)]
   rw [key l hl,key k hk] at hm'
   exact hm')
  simp [h,this]
theorem Rd.conv {P:Program} {w:World} {v:Value} {n:Nat} {l:List Nat} (h:Rd w 1 v n (u8s l)) (src e dst:TypeId) (hs:P.underlying src=some (.slice e)) (he:P.underlying e=some (.int .u8)) (hd:P.underlying dst=some .string) :
  (convert src dst v).run P w = .ok (.string (strOf l)) w:=by
 obtain ⟨p,c,rfl,h1,h2,h3,h4,h5⟩:=h
 rw [u8s_length] at h1
 cases p with
 | none=>
  obtain ⟨rfl,rfl⟩:=h4 rfl
  obtain rfl:l=[]:=List.eq_nil_of_length_eq_zero (by simpa using h1)
  exact run_convert_bytes_nil w src e hs he 0 0 dst hd
 | some ad=>
  by_cases hn:n=0
  ·subst hn
   obtain rfl:l=[]:=List.eq_nil_of_length_eq_zero (by simpa using h1)
   rw [run_convert_bytes_string w src dst e _ 0 c hs he hd]
   simp [Conv.bytesToString,loadCells,loadCellsFrom,strOf,strOfNums];rfl
  ·obtain ⟨b,off,spot⟩:=ad
   have hcell:∀i,i<n→w.cell? ((⟨b,off,spot⟩:Addr).add i)=some (.int .u8 ((l.map fun n:Nat=>(n:Int)).getD i 0)):=fun i hi=>by
    rw [h5 _ rfl i _ (u8s_get l i (by omega))];simp [List.getD,show i<l.length by omega]
   have hspot:spot=none:=by simpa [Addr.add] using World.cell?_spot (hcell 0 (by omega))
   subst hspot
   exact run_convert_bytes_arg w src e hs he b off n c _ (by simp;omega) (fun i hi=>by
    have:=hcell i hi
    simp only [Addr.add] at this
    split at this
    ·next h0=>subst h0;simpa using this
    ·exact this) dst hd
end Go.Proofs.YtdcgbgecbeegmaaGreatDoor
end
section
namespace Go.Proofs.YtdcgbgecbeegmaaGreatDoor
open Go Go.RowKit
def u64s (l:List Nat):List Value:=l.map fun x:Nat=>.int .u64 (x:Int)
theorem u64s_length (l:List Nat):(u64s l).length=l.length:=by simp [u64s]
theorem u64s_get (l:List Nat) (i:Nat) (h:i<l.length):(u64s l)[i]? = some (.int .u64 (l[i]:Int)):=by simp [u64s,h]
theorem Tryz.infoU64:(Tryz.prog.info? 81).map (fun i=>(i.zero,i.size,i.bytes))=some (some (.int .u64 0),1,8):=by kernel_rfl
theorem Tryz.elemU64:Elem Tryz.prog 113 81 1 8:=Elem.mk' Tryz.underlying113 Tryz.infoU64 rfl (by decide)
end Go.Proofs.YtdcgbgecbeegmaaGreatDoor
end
section
namespace Go.Proofs.YtdcgbgecbeegmaaGreatDoor
def sampleOk (s:Int × Nat):Prop:=(-9223372036854775808≤s.1∧s.1<9223372036854775808)∧s.2<18446744073709551616
def bitsC (tag:Nat) (l:List Nat):List Bool:=if tag=1 then encV l else if tag=2 then encR l else putD l
def okC (tag:Nat) (l:List Nat):Bool:=if tag=1 then true else if tag=2 then true else okD l
def sizeC (tag:Nat) (l:List Nat):Int:=if okC tag l=true then ((bitsC tag l).length:Int) else -1
def chooseC (l:List Nat):Nat:=
 if sizeC 2 l<sizeC 1 l then (if 0≤sizeC 3 l∧sizeC 3 l<sizeC 2 l then 3 else 2) else (if 0≤sizeC 3 l∧sizeC 3 l<sizeC 1 l then 3 else 1)
def timesC (l:List (Int × Nat)):List Int:=l.map (·.1)
def valuesC (l:List (Int × Nat)):List Nat:=l.map (·.2)
def encC (l:List (Int × Nat)):List Nat × Nat:=
 if l=[] then ([],21) else if 120<l.length then ([],7) else
 (chooseC (valuesC l)::(l.length-1)::pack (encT (timesC l)++bitsC (chooseC (valuesC l)) (valuesC l)),0)
theorem choose_ok (l:List Nat):okC (chooseC l) l=true:=by
 rw [chooseC]
 split
 ·split
  ·next h=>
   rw [sizeC] at h
   by_cases hk:okC 3 l=true
   ·exact hk
   ·rw [if_neg hk] at h;omega
  ·rfl
 ·split
  ·next h=>
   rw [sizeC] at h
   by_cases hk:okC 3 l=true
   ·exact hk
   ·rw [if_neg hk] at h;omega
  ·rfl
theorem choose_tag (l:List Nat):chooseC l=1∨chooseC l=2∨chooseC l=3:=by
 rw [chooseC]
 split
 ·split
  ·exact Or.inr (Or.inr rfl)
  ·exact Or.inr (Or.inl rfl)
 ·split
  ·exact Or.inr (Or.inr rfl)
  ·exact Or.inl rfl
theorem numOf_byte {b:Nat} (h:b<256):numOf (fieldBits b 8)=b:=by
 have h1:=field_back b 8 [] (by simpa using h)
 rw [List.append_nil,field,if_neg (by simp [fieldBits_length])] at h1
 have h2:=congrArg Res.x h1
 simp only at h2
 rwa [List.take_of_length_le (by simp [fieldBits_length])] at h2
theorem unpack_inj:∀{a b:List Nat},(∀x∈a,x<256)→(∀x∈b,x<256)→unpack a=unpack b→a=b
 | [],[],_,_,_=>rfl
 | [],y::b,_,_,h=>by have:=congrArg List.length h;rw [unpack_length,unpack_length] at this;simp at this
 | x::a,[],_,_,h=>by have:=congrArg List.length h;rw [unpack_length,unpack_length] at this;simp at this
 | x::a,y::b,ha,hb,h=>by
  rw [unpack_cons,unpack_cons] at h
  obtain ⟨h1,h2⟩:=List.append_inj h (by rw [fieldBits_length,fieldBits_length])
  have h3:=congrArg numOf h1
  rw [numOf_byte (ha x (List.mem_cons_self ..)),numOf_byte (hb y (List.mem_cons_self ..))] at h3
  rw [h3,unpack_inj (fun z hz=>ha z (List.mem_cons_of_mem _ hz)) (fun z hz=>hb z (List.mem_cons_of_mem _ hz)) h2]
theorem bitsC_len (tag:Nat) (l:List Nat):(bitsC tag l).length≤8199+78*l.length:=by
 rw [bitsC]
 split
 ·have:=encV_len l;omega
 ·split
  ·have:=encR_len l;omega
  ·rw [putD]
   split
   ·next h=>
    have hk:(dictD l).length≤128:=of_decide_eq_true h
    rw [encD]
    split
    ·simp
    ·rw [List.length_append,List.length_append,fieldBits_length,wordsBits_len,indsBits_len,List.length_map]
     have:=Nat.mul_le_mul_right l.length (width_le hk)
     omega
   ·simp
end Go.Proofs.YtdcgbgecbeegmaaGreatDoor
end
section
namespace Go.Proofs.YtdcgbgecbeegmaaGreatDoor
open Go Go.RowKit
def numsOf (s:ByteArray):List Nat:=s.data.toList.map fun b=>b.toNat
theorem numsOf_length (s:ByteArray):(numsOf s).length=s.size:=by rw [numsOf,List.length_map,Array.length_toList];rfl
theorem numsOf_lt (s:ByteArray):∀c∈numsOf s,c<256:=by
 intro c hc
 simp only [numsOf,List.mem_map] at hc
 obtain ⟨b,_,rfl⟩:=hc
 exact b.toNat_lt
theorem u8s_numsOf (s:ByteArray):u8s (numsOf s)=s.data.toList.map fun b=>Value.int .u8 (b.toNat:Int):=by rw [u8s,numsOf,List.map_map];rfl
section
variable {P:Program} (w:World)
theorem run_firstCells_str (s:ByteArray) (n:Nat) (hn:s.size=n) (size:Nat):(Builtin.firstCells size n (.string s)).run P w = .ok (u8s (numsOf s)).toArray w:=by
 subst hn
 rw [u8s_numsOf]
 have hx:(s.extract 0 s.size).data=s.data:=by
  rw [ByteArray.data_extract]
  exact Array.extract_size
 simp only [Builtin.firstCells,hx,Sem.run_pure]
 congr 1
 apply Array.ext'
 simp
theorem run_app_str (t u ty e:TypeId) (i:TypeInfo) (z:Value) (ht:P.underlying t=some (.slice e)) (hu:P.underlying u=some .string) (hi:P.info? e=some i) (hz:i.zero=some z)
  (hsize:i.size=1) (hby:i.bytes=1) (hzs:z.cells.size=1) (v:Value) (n:Nat) (xs:List Value) (hown:w.ownsRow 0 e 1 v n xs) (s:ByteArray) (h63:n+s.size≤maxLen) (hbytes:(n+s.size)*1≤140737488355328) :
  ∃v' w',(Builtin.append_ #[t,u] ty #[v,.string s]).run P w = .ok v' w'∧w'.ownsRow 0 e 1 v' (n+s.size) (xs++u8s (numsOf s))∧Mods (fun k=>v.ownBlock=some k) w w'∧Fresh w.heap.size v v':=by
 have hf:=fun w:World=>run_firstCells_str (P:=P) w s s.size rfl 1
 have hl:(u8s (numsOf s)).length=s.size:=by rw [u8s_length,numsOf_length]
 have h1:∀u∈u8s (numsOf s),u.oneCell'=true:=u8s_oneCell _
 have hlen0:Builtin.lenOf (.string s)=pure s.size:=rfl
 generalize u8s (numsOf s)=news at *
 generalize s.size=M at *
 have hlen:(xs++news).length=(n+M)*1:=by rw [List.length_append,hown.1,hl,Nat.add_mul,Nat.mul_one,Nat.mul_one]
 have h63':((n+M:Nat):Int)≤9223372036854775807:=by unfold maxLen at h63;omega
 rcases hown.2 with ⟨rfl,rfl⟩ | ⟨g,cap,cur,rfl,hb,hg,hnc,hcm,hcs,htake⟩
 ·obtain rfl:xs=[]:=List.eq_nil_of_length_eq_zero (by simpa using hown.1)
  by_cases h0:M=0
  ·subst h0
   obtain rfl:news=[]:=List.eq_nil_of_length_eq_zero hl
   refine ⟨.slice none 0 0,w,?_,hown,Mods.refl _ _,Fresh.refl _ _⟩
   simp [Builtin.append_,run_underlying ht,run_underlying hu,sizeOf,typeInfo,hi,hsize,hlen0,hf w]
  ·have hn:¬M=0:=h0
   have h63'':¬(9223372036854775807<(M:Int)):=by omega
   have h48:¬(281474976710656<Builtin.nextslicecap M 0):=by rw [nextslicecap_zero (by omega)];omega
   have hge:=grownCap_ge w M 0 e
   refine ⟨.slice (some ⟨w.heap.size,0,none⟩) M (grownCap w M 0 e),w.drew.alloc (.cells (news.toArray++Builtin.zeroCells z.cells (grownCap w M 0 e-M)) e),?_,⟨by simpa using hl,.inr ⟨w.heap.size,_,_,by rw [Nat.zero_add],Nat.zero_le _,heap_alloc_new w.drew _,by rw [Nat.zero_add];exact hge,grownCap_le_maxLen w M 0 e (by omega),?_,?_⟩⟩,⟨rfl,rfl,rfl,by simp,fun k hk _=>Below.heap_alloc w.drew _ k hk⟩,?_⟩
   ·simp [Builtin.append_,run_underlying ht,run_underlying hu,sizeOf,typeInfo,zeroValue,hi,hz,hsize,hby,hlen0,hn,h63'',h48,Question.forced,hf w.drew,newRow,grownCap,run_firstCells_none]
   ·simp only [Array.size_append,List.size_toArray,size_zeroCells,hzs,hl]
    omega
   ·simp [← hl]
   ·intro k hk
    simp only [Value.ownBlock,Option.some.injEq] at hk
    exact Or.inr (by omega)
 ·by_cases hroom:n+M≤cap
  ·have hfit:0+n+news.length≤cur.size:=by rw [hl,hcs];omega
   have hst:=run_storeCells_at P g n e news 0 cur w hg (by omega) h1
   refine ⟨.slice (some ⟨g,0,none⟩) (n+M) cap,w.setRow g (cur.toList.take (n+0)++news++cur.toList.drop (n+0+news.length)).toArray,?_,⟨hlen,.inr ⟨g,cap,_,rfl,Nat.zero_le _,setRow_heap w g cur _ e _ hg,hroom,hcm,?_,?_⟩⟩,⟨rfl,rfl,rfl,by simp,fun k _ hk=>setRow_other w g k _ (fun e=>hk (by simp [Value.ownBlock,e]))⟩,fun k hk=>Or.inl hk⟩
   ·have ha:(⟨g,0,none⟩:Addr).add n=⟨g,n,none⟩:=by unfold Addr.add;split<;>simp_all
    simp [Builtin.append_,run_underlying ht,run_underlying hu,sizeOf,typeInfo,hi,hsize,hlen0,hroom,hf w,ha,hst]
   ·simp only [List.size_toArray,List.length_append,List.length_take,List.length_drop,Array.length_toList,Nat.add_zero]
    omega
   ·have hx:cur.toList.take n=xs:=by rw [← htake,Nat.mul_one]
    simp only [Nat.add_zero,hx]
    rw [← hlen]
    exact List.take_left
  ·have holds:∀j u,xs[j]? = some u→w.cell? ((⟨g,0,none⟩:Addr).add j)=some u:=hown.cells (g:=g) rfl
   have hge:=grownCap_ge w (n+M) cap e
   have hxl:xs.length=n*1:=hown.1
   have hfo:=run_firstCells_some (P:=P) w.drew 1 n ⟨g,0,none⟩ n cap xs hxl (by simpa using holds)
   have h63'':¬(9223372036854775807<((n:Int)+(M:Int))):=by omega
   have h48:¬(281474976710656<Builtin.nextslicecap (n+M) cap):=by have:=growslice_fits (need:=n+M) (old:=cap) (bytes:=1) (by omega) hbytes;omega
   refine ⟨.slice (some ⟨w.heap.size,0,none⟩) (n+M) (grownCap w (n+M) cap e),w.drew.alloc (.cells (xs.toArray++news.toArray++Builtin.zeroCells z.cells (grownCap w (n+M) cap e-(n+M))) e),?_,⟨hlen,.inr ⟨w.heap.size,_,_,rfl,Nat.zero_le _,heap_alloc_new w.drew _,hge,grownCap_le_maxLen w (n+M) cap e h63,?_,?_⟩⟩,⟨rfl,rfl,rfl,by simp,fun k hk _=>Below.heap_alloc w.drew _ k hk⟩,?_⟩
   ·simp [Builtin.append_,run_underlying ht,run_underlying hu,sizeOf,typeInfo,zeroValue,hi,hz,hsize,hby,hlen0,hroom,h63'',h48,Question.forced,hf w.drew,hfo,newRow,grownCap]
    congr 2
    apply Array.ext'
    simp [List.append_assoc]
   ·simp only [Array.size_append,List.size_toArray,size_zeroCells,hzs,hl,hxl]
    omega
   ·simp only [Array.toList_append,List.append_assoc]
    rw [← List.append_assoc,← hlen]
    exact List.take_left
   ·intro k hk
    simp only [Value.ownBlock,Option.some.injEq] at hk
    exact Or.inr (by omega)
theorem wpList_extendStr {t u e:TypeId} (hE:Elem P t e 1 1) (hu:P.underlying u=some .string) (w:World) (v:Value) (n:Nat) (xs:List Value) (hown:w.ownsRow 0 e 1 v n xs) (str:ByteArray) (hb:(n+str.size)*1≤140737488355328∧n+str.size≤maxLen)
  {ops:Array Oper} {rest:List Oper} {o:Oper} {a:Act} {Q:Exit→Act→World→Prop} (hgd:Region.wanted o (yielded ops a.tmps)=true) (s x:Operand) (ho:o.op = .call { callee:=.builtin .append,args:=#[s,x],argTypes:=#[t,u] })
  (hs:a.eval s=v) (hx:a.eval x = .string str)
  (h:∀v' w',w'.ownsRow 0 e 1 v' (n+str.size) (xs++u8s (numsOf str))→Mods (fun k=>v.ownBlock=some k) w w'→Fresh w.heap.size v v'→wpList P ops Q rest (a.put o.dst v') w'):wpList P ops Q (o::rest) a w:=by
 obtain ⟨i,z,hi,hz,hsize,hby,hzs⟩:=hE.hi
 refine BigFrame.wpList_want hgd fun K hK=>?_
 obtain ⟨v',w',hr,h2,h3,h4⟩:=run_app_str (P:=P) w t u o.type e i z hE.ht hu hi hz hsize hby hzs v n xs hown str hb.2 hb.1
 unfold Oper.wp execOp
 simp only [ho,resolve,invoke,builtin,Sem.run_bind,Sem.run_pure,Result.andThen_ok,List.map_toArray,List.map_cons,List.map_nil,hs,hx,hr]
 exact hK _ _ (h v' w' h2 h3 h4)
end
end Go.Proofs.YtdcgbgecbeegmaaGreatDoor
end
