/- Texts 7. -/
import Derived.Test.YtdcgbgecbeegmaaGreatDoorMgSA
import Derived.Test.YtdcgbgecbeegmaaGreatDoorMgS5
set_option linter.unusedVariables false
set_option linter.unusedSimpArgs false
set_option maxHeartbeats 400000000
set_option maxRecDepth 100000
section
namespace Go.Proofs.YtdcgbgecbeegmaaGreatDoor
def AV (x:Nat):Nat:=63-Nat.log2 x
def tz:Nat→Nat→Nat
 | 0,_=>0
 | f+1,x=>if x % 2=0 then 1+tz f (x / 2) else 0
def Av (x:Nat):Nat:=tz 64 x
theorem fB (f x:Nat):2 ^ tz f x∣x:=by
 induction f generalizing x with
 | zero=>exact Nat.one_dvd x
 | succ f ih=>
  rw [tz]
  split
  ·next h=>
   obtain ⟨c,hc⟩:=ih (x / 2)
   refine ⟨c,?_⟩
   rw [Nat.add_comm,zDS]
   generalize 2 ^ tz f (x / 2)=P at *
   have:x=2*(x / 2):=by omega
   rw [this,hc,zGP P 2,zFH]
  ·exact Nat.one_dvd x
theorem le_tz (f k x:Nat) (hk:k≤f) (h:2 ^ k∣x):k≤tz f x:=by
 induction k generalizing f x with
 | zero=>exact zAJ _
 | succ k ih=>
  obtain ⟨f,rfl⟩:∃g,f=g+1:=⟨f-1,by omega⟩
  obtain ⟨c,hc⟩:=h
  have he:x=2*(2 ^ k*c):=by rw [hc,zDS,zGP (2 ^ k) 2,zFH]
  rw [tz,if_pos (by omega)]
  have:=ih f (x / 2) (by omega) ⟨c,by rw [he];omega⟩
  omega
theorem s6 {x:Nat} (hx:x<18446744073709551616) (h0:x≠0):x<2 ^ (64-AV x):=by
 have h1:Nat.log2 x<64:=(zHE h0).2 (by simpa using hx)
 have h2:=@Nat.lt_log2_self x
 rw [AV,show 64-(63-Nat.log2 x)=Nat.log2 x+1 by omega]
 exact h2
theorem LE {x:Nat} (hx:x<18446744073709551616) (h0:x≠0):AV x+Av x≤63:=by
 have h1:Nat.log2 x<64:=(zHE h0).2 (by simpa using hx)
 have h2:2 ^ Av x≤x:=Nat.le_of_dvd (by omega) (fB 64 x)
 have h3:Av x≤Nat.log2 x:=(Nat.le_log2 h0).2 h2
 rw [AV];omega
def Js (win:Option (Nat × Nat)) (x:Nat):Bool:=match win with
 | none=>false
 | some (L,t)=>decide (L≤AV x)&&decide (t≤Av x)
def DV (x:Nat):List Bool:=[true,true]++(Aa (AV x) 6++(Aa (63-AV x-Av x) 6++Aa (x / 2 ^ Av x) (64-AV x-Av x)))
def GC (win:Option (Nat × Nat)) (x:Nat):List Bool:=if x=0 then [false] else
 match win with
 | some (L,t)=>if Js win x then [true,false]++Aa (x / 2 ^ t) (64-L-t) else DV x
 | none=>DV x
def Dg (win:Option (Nat × Nat)) (x:Nat):Option (Nat × Nat):=if x=0 then win else if Js win x then win else some (AV x,Av x)
def pG (win:Option (Nat × Nat)):Prop:=∀L t,win=some (L,t)→L+t≤63
theorem S6 {win:Option (Nat × Nat)} (h:pG win) {x:Nat} (hx:x<18446744073709551616):pG (Dg win x):=by
 intro L t e
 rw [Dg] at e
 split at e
 ·exact h L t e
 ·next h0=>
  split at e
  ·exact h L t e
  ·cases e;exact LE hx h0
def Cm (win:Option (Nat × Nat)) (last:Nat):List Nat→List Bool
 | []=>[]
 | v::l=>GC win (v ^^^ last)++Cm (Dg win (v ^^^ last)) v l
def G1:List Nat→List Bool
 | []=>[]
 | v::l=>Aa v 64++Cm none v l
theorem TT {a b:Nat} (ha:a<18446744073709551616) (hb:b<18446744073709551616):a ^^^ b<18446744073709551616:=Nat.xor_lt_two_pow (n:=64) ha hb
theorem Sz (x:Nat):(DV x).length≤78:=by
 rw [DV];simp only [zAB,Ae,zAH,zBG];omega
theorem mI (win:Option (Nat × Nat)) (x:Nat):(GC win x).length≤78:=by
 unfold GC
 split
 ·simp
 ·split
  ·split
   ·simp only [zAB,Ae,zAH,zBG];omega
   ·exact Sz x
  ·exact Sz x
theorem WQ (win:Option (Nat × Nat)) (last:Nat) (l:List Nat):(Cm win last l).length≤78*l.length:=by
 induction l generalizing win last with
 | nil=>exact zAD _
 | cons v l ih=>
  rw [Cm,zAB,zAH]
  have:=mI win (v ^^^ last);have:=ih (Dg win (v ^^^ last)) v;omega
theorem NC (l:List Nat):(G1 l).length≤78*l.length:=by
 match l with
 | []=>exact zAD _
 | v::l=>
  rw [G1,zAB,Ae,zAH]
  have:=WQ none v l;omega
end Go.Proofs.YtdcgbgecbeegmaaGreatDoor
end
section
namespace Go.Proofs.YtdcgbgecbeegmaaGreatDoor
open Go Go.RowKit
theorem pg {x:Nat} (hx:x<18446744073709551616) (h0:x≠0):x.testBit (63-AV x)=true:=by
 have h1:Nat.log2 x<64:=(zHE h0).2 (by simpa using hx)
 have h2:=@Nat.lt_log2_self x
 have h3:=Nat.log2_self_le h0
 rw [AV,show 63-(63-Nat.log2 x)=Nat.log2 x by omega,zDO,decide_eq_true_iff]
 have h4:x / 2 ^ Nat.log2 x=1:=by
  rw [zDS] at h2
  generalize 2 ^ Nat.log2 x=P at *
  have hP:0<P:=by omega
  exact Nat.div_eq_of_lt_le (by omega) (by omega)
 rw [h4]
theorem s7 {x i:Nat} (hx:x<18446744073709551616) (h0:x≠0) (hi:i<AV x):x.testBit (63-i)=false:=by
 apply Nat.testBit_lt_two_pow
 exact zAO (s6 hx h0) (zDV (by decide) (by omega))
theorem qs {x i:Nat} (hi:i<Av x):x.testBit i=false:=by
 obtain ⟨c,hc⟩:=fB 64 x
 rw [zDO,zDF]
 have e:x=2 ^ i*(2*(2 ^ (tz 64 x-i-1)*c)):=by
  rw [← zFH 2,← Nat.pow_succ',show (tz 64 x-i-1).succ=tz 64 x-i by have:i<tz 64 x:=hi;omega,← zFH,← zHF,show i+(tz 64 x-i)=tz 64 x by have:i<tz 64 x:=hi;omega]
  exact hc
 rw [e,Nat.mul_div_cancel_left _ (zEL i)]
 omega
theorem kR {x:Nat} (hx:x<18446744073709551616) (h0:x≠0):x.testBit (Av x)=true:=by
 obtain ⟨c,hc⟩:=fB 64 x
 have hw:=LE hx h0
 rw [zDO,decide_eq_true_iff]
 have hd:x / 2 ^ Av x=c:=by
  show x / 2 ^ tz 64 x=c
  exact Nat.div_eq_of_eq_mul_right (zEL _) hc
 rw [hd]
 by_cases ho:c % 2=1
 ·exact ho
 ·have h2:2 ^ (Av x+1)∣x:=by
   refine ⟨c / 2,?_⟩
   show x=2 ^ (tz 64 x+1)*(c / 2)
   rw [zDS,zFH,show 2*(c / 2)=c by omega]
   exact hc
  have h3:=le_tz 64 (Av x+1) x (by omega) h2
  have h4:Av x+1≤Av x:=h3
  omega
theorem Ke (x t:Nat) (hx:x<18446744073709551616) (ht:t≤64) (w:World):Calls Tryz.prog 151 #[.int .u64 (x:Int),.int .i64 (t:Int)] w fun e w'=>e = .returned (.int .u64 ((x / 2 ^ t:Nat):Int))∧w'=w:=by
 have HT:=zAA ht
 have HX:=zAA hx
 clear ht hx
 go_enter Tryz.func151,Tryz.ntmps151
 go_wp2
 go_loop [0,5] (fun v c=>∃k:Nat,k≤t∧c = .int .i64 (k:Int)∧v = .int .u64 ((x / 2 ^ k:Nat):Int)) (fun _ c=>t-(intOf c).toNat)
 case atStart=>exact ⟨0,zAJ _,rfl,by simp⟩
 case round=>
  obtain ⟨k,hk,rfl,rfl⟩:=hrel
  by_cases Aq:k<t
  ·have hk64:(k:Int)<64:=by have:=HT.out;omega
   have HV:Hid (x / 2 ^ (k+1)=x / 2 ^ k / 2):=by show _=_;rw [zDS,Nat.div_div_eq_div_mul]
   have hb:x / 2 ^ k≤x:=zFV _ _
   have LQ:((x / 2 ^ k:Nat):Int)≤18446744073709551615:=by have:=HX.out;omega
   clear hb
   generalize x / 2 ^ k=V at *
   go_wp2
   go_round
   case rel=>exact ⟨k+1,by omega,by go_num,by rw [HV.out];go_num⟩
   case measure=>simp [intOf];omega
  ·obtain rfl:k=t:=by omega
   go_wp2
   go_ret
   exact ⟨rfl,rfl⟩
theorem kn (x:Nat) (hx:x<18446744073709551616) (h0:x≠0) (w:World):Calls Tryz.prog 150 #[.int .u64 (x:Int)] w fun e w'=>e = .returned (.tuple #[.int .i64 (AV x:Int),.int .i64 (Av x:Int)])∧Below w.heap.size w w':=by
 have HW:=zAA (Bn (.slice none 0 0) [] x 64 w (zBI _ _ _ _) hx (by decide) (by simp))
 have DY:=zAA (LE hx h0)
 have zk:Hid (∀i (h:i<64),(Aa x 64)[i]? = some (x.testBit (63-i))):=fun i h=>G3 x 64 i h
 have HL:=zAA (pg hx h0)
 have DP:Hid (∀i,i<AV x→x.testBit (63-i)=false):=fun i h=>s7 hx h0 h
 have HTb:=zAA (kR hx h0)
 have KL:Hid (∀i,i<Av x→x.testBit i=false):=fun i h=>qs h
 have ij:Hid ((Aa x 64).length=64):=Ae x 64
 rw [zBK] at HW
 clear hx h0
 generalize Aa x 64=L at *
 generalize AV x=ld at *
 generalize Av x=tr at *
 go_enter Tryz.func150,Tryz.ntmps150
 go_wp2_with fail
 refine HW.out.mono ?_
 rintro e w1 ⟨v1,rfl,hR⟩
 have A6:Hid (Below w.heap.size w w1):=hR.Ai.below (zAD _) (fun k _ e=>by cases e)
 have TX:Hid (Rd w1 1 v1 64 (PM L)):=by
  show Rd _ _ _ _ _
  have h:=Rd.Ad hR.own
  rw [ij.out] at h
  exact h
 have Ej:Hid (PM L≠[]):=fun e=>by have:=congrArg List.length e;rw [Sf,ij.out] at this;simp at this
 obtain ⟨b,off,c,hv,G6,F6,Aj⟩:=TX.out.at Ej.out
 subst hv
 have HC:Hid (∀i,i<64→w1.cell? ⟨b,off+i,none⟩=some (.bool (x.testBit (63-i)))):=fun i h=>Aj i _ (by rw [PM,zBQ,zk.out i h];rfl)
 clear hR G6 F6 Aj HW zk
 go_wp2_with fail
 go_loop [5] (fun c=>∃k:Nat,k≤ld∧c = .int .i64 (k:Int)) (fun c=>ld-(intOf c).toNat)
 case atStart=>exact ⟨0,zAJ _,rfl⟩
 case round=>
  obtain ⟨k,hk,rfl⟩:=hrel
  have hk64:(k:Int)<64:=by have:=DY.out;omega
  have Aj:=HC.out k (by have:=DY.out;omega)
  by_cases Aq:k<ld
  ·rw [DP.out k Aq] at Aj
   go_wp2
   go_round
   case rel=>exact ⟨k+1,by omega,by go_num⟩
   case measure=>simp [intOf];omega
  ·obtain rfl:k=ld:=by omega
   rw [HL.out] at Aj
   go_wp2_with fail
   go_loop [6] (fun c=>∃j:Nat,j≤tr∧c = .int .i64 (j:Int)) (fun c=>tr-(intOf c).toNat)
   case atStart=>exact ⟨0,zAJ _,rfl⟩
   case round=>
    obtain ⟨j,hj,rfl⟩:=hrel
    have hj64:(j:Int)≤63:=by have:=DY.out;omega
    have SJ:(63:Int)-(j:Int)=((63-j:Nat):Int):=by omega
    have hs64:((63-j:Nat):Int)<64:=by omega
    have FY:=HC.out (63-j) (by omega)
    rw [show 63-(63-j)=j by have:=DY.out;omega] at FY
    have HJ:Hid (j≤63):=by have:=DY.out;show _≤_;omega
    by_cases Mc:j<tr
    ·rw [KL.out j Mc] at FY
     generalize 63-j=m at *
     go_wp2
     go_round
     case rel=>exact ⟨j+1,by omega,by go_num⟩
     case measure=>simp [intOf];omega
    ·obtain rfl:j=tr:=by omega
     rw [HTb.out] at FY
     generalize 63-j=m at *
     go_wp2
     go_ret2
     exact ⟨rfl,A6.out⟩
end Go.Proofs.YtdcgbgecbeegmaaGreatDoor
end
