/- Texts 3. -/
import Derived.Test.YtdcgbgecbeegmaaGreatDoorMgD2
import Derived.Laws.BitsLemmas
import Derived.Laws.Bits64
import Derived.Laws.Bits64b
set_option linter.unusedVariables false
set_option linter.unusedSimpArgs false
section
namespace Go.Proofs.YtdcgbgecbeegmaaGreatDoor
open Go Go.RowKit
abbrev Sam:=Int × Nat
abbrev Ser:=List Lab × List Sam
def samplesB (b:List Ser):Nat:=(b.map fun s=>s.2.length).sum
theorem samplesB_cons (s:Ser) (b:List Ser):samplesB (s::b)=s.2.length+samplesB b:=by simp [samplesB]
theorem samplesB_append (a b:List Ser):samplesB (a++b)=samplesB a+samplesB b:=by simp [samplesB]
theorem samplesB_take_le (b:List Ser) (i:Nat):samplesB (b.take i)≤samplesB b:=by
 have:samplesB b=samplesB (b.take i)+samplesB (b.drop i):=by rw [← samplesB_append,List.take_append_drop]
 omega
theorem samplesB_mem {b:List Ser} {s:Ser} (h:s∈b):s.2.length≤samplesB b:=by
 induction b with
 | nil=>cases h
 | cons x b ih=>
  rw [samplesB_cons]
  rcases List.mem_cons.1 h with rfl | h
  ·omega
  ·have:=ih h;omega
def timesFrom:Int→List Sam→Nat
 | _,[]=>0
 | t,s::l=>if s.1=t then 20 else if s.1<t then 16 else timesFrom s.1 l
def timesL:List Sam→Nat
 | []=>0
 | s::l=>timesFrom s.1 l
def serErr (s:Ser):Nat:=if checkL s.1≠0 then checkL s.1 else if s.2=[] then 21 else timesL s.2
def checkBFrom:Option (List Lab)→List Ser→Nat
 | _,[]=>0
 | p,s::l=>if serErr s≠0 then serErr s else match p with
  | none=>checkBFrom (some s.1) l
  | some q=>if cmpLabs q s.1=0 then 19 else if 0<cmpLabs q s.1 then 16 else checkBFrom (some s.1) l
def checkB (b:List Ser):Nat:=checkBFrom none b
def ltT (a b:Sam):Bool:=decide (a.1<b.1)
def ltB (a b:Ser):Bool:=decide (cmpLabs a.1 b.1 = -1)
def nSer (s:Ser):Ser:=((normL s.1).2,sortE ltT s.2)
def nErr (s:Ser):Nat:=if (normL s.1).1≠0 then (normL s.1).1 else if s.2=[] then 21 else timesL (sortE ltT s.2)
def firstErrB:List Ser→Nat
 | []=>0
 | s::l=>if nErr s≠0 then nErr s else firstErrB l
def adjB:List Ser→Bool
 | a::b::l=>decide (cmpLabs a.1 b.1=0) || adjB (b::l)
 | _=>false
def normB (l:List Ser):Nat × List Ser:=
 if firstErrB l≠0 then (firstErrB l,[]) else if adjB (sortE ltB (l.map nSer))=true then (19,[]) else (0,sortE ltB (l.map nSer))
theorem ltT_ok:LtWk ltT:=⟨⟨fun a=>by simp [ltT],fun a b c h1 h2=>by simp [ltT] at *;omega⟩,fun a b c h=>by simp [ltT] at *;omega⟩
theorem ltB_ok:LtWk ltB:=by
 refine ⟨⟨fun a=>by simp [ltB,cmpLabs_ok.refl],fun a b c h1 h2=>?_⟩,fun a b c h=>?_⟩
 ·simp only [ltB,decide_eq_true_eq] at *;exact cmpLabs_ok.tr _ _ _ h1 h2
 ·simp only [ltB,decide_eq_true_eq] at *
  rcases cmpLabs_ok.dom a.1 b.1 with e | e | e
  ·exact Or.inl e
  ·right;rw [← (cmpLabs_ok.eq _ _).1 e];exact h
  ·right
   have h1:cmpLabs b.1 a.1 = -1:=by rw [cmpLabs_ok.flip a.1 b.1,e]
   exact cmpLabs_ok.tr _ _ _ h1 h
theorem timesFrom_zero (l:List Sam):∀(a:Sam),timesFrom a.1 l=0↔AscB ltT (a::l):=by
 induction l with
 | nil=>intro a;exact ⟨fun _=>List.pairwise_singleton _ _,fun _=>rfl⟩
 | cons s l ih=>
  intro a
  rw [timesFrom]
  constructor
  ·intro h
   split at h
   ·cases h
   ·next h1=>
    split at h
    ·cases h
    ·next h2=>
     have h3:=(ih s).1 h
     have hab:ltT a s=true:=by simp [ltT];omega
     refine List.pairwise_cons.2 ⟨fun y hy=>?_,h3⟩
     rcases List.mem_cons.1 hy with rfl | hy
     ·exact hab
     ·exact ltT_ok.tr _ _ _ hab ((List.pairwise_cons.1 h3).1 y hy)
  ·intro h
   obtain ⟨h1,h2⟩:=List.pairwise_cons.1 h
   have hab:=h1 s (by simp)
   simp [ltT] at hab
   rw [if_neg (by omega),if_neg (by omega)]
   exact (ih s).2 h2
theorem timesL_zero (l:List Sam):timesL l=0↔AscB ltT l:=by
 cases l with
 | nil=>exact ⟨fun _=>List.Pairwise.nil,fun _=>rfl⟩
 | cons s l=>exact timesFrom_zero l s
theorem times_sort (l:List Sam):timesL (sortE ltT l)=0↔Keys ltT l:=by
 rw [timesL_zero]
 exact ⟨fun h=>(Keys.perm (sortE_perm l)).1 (keys_of_asc h),fun h=>sortE_asc ltT_ok h⟩
theorem firstErrB_zero (l:List Ser):firstErrB l=0↔∀s∈l,nErr s=0:=by
 induction l with
 | nil=>simp [firstErrB]
 | cons s l ih=>
  rw [firstErrB]
  split
  ·next h=>exact ⟨fun e=>absurd e h,fun e=>absurd (e s (by simp)) h⟩
  ·next h=>rw [ih];simp only [List.mem_cons,forall_eq_or_imp];exact ⟨fun e=>⟨Decidable.not_not.1 h,e⟩,fun e=>e.2⟩
theorem adjB_false {d:List Ser} (h:SrtE ltB d):adjB d=false↔AscB ltB d:=by
 induction d with
 | nil=>exact ⟨fun _=>List.Pairwise.nil,fun _=>rfl⟩
 | cons a l ih=>
  obtain ⟨h1,h2⟩:=List.pairwise_cons.1 h
  cases l with
  | nil=>exact ⟨fun _=>List.pairwise_singleton _ _,fun _=>rfl⟩
  | cons b l=>
   rw [adjB,Bool.or_eq_false_iff,ih h2]
   have hba:=h1 b (by simp)
   constructor
   ·rintro ⟨e1,e2⟩
    have hab:ltB a b=true:=by
     simp only [ltB,decide_eq_true_eq,decide_eq_false_iff_not] at *
     rw [cmpLabs_ok.flip a.1 b.1] at hba
     rcases cmpLabs_ok.dom a.1 b.1 with e | e | e
     ·exact e
     ·exact absurd e e1
     ·exact absurd (by rw [e]) hba
    refine List.pairwise_cons.2 ⟨fun y hy=>?_,e2⟩
    rcases List.mem_cons.1 hy with rfl | hy
    ·exact hab
    ·exact ltB_ok.tr _ _ _ hab ((List.pairwise_cons.1 e2).1 y hy)
   ·intro e
    obtain ⟨f1,f2⟩:=List.pairwise_cons.1 e
    have:=f1 b (by simp)
    simp only [ltB,decide_eq_true_eq] at this
    exact ⟨by rw [this];rfl,f2⟩
theorem adj_sort (l:List Ser):adjB (sortE ltB l)=false↔Keys ltB l:=by
 rw [adjB_false (sortE_srt ltB_ok l)]
 exact ⟨fun h=>(Keys.perm (sortE_perm l)).1 (keys_of_asc h),fun h=>sortE_asc ltB_ok h⟩
structure Block (b:List Ser):Prop where
 lab:∀s∈b,AscB ltN s.1∧∀x∈s.1,oneL x=0
 ne:∀s∈b,s.2≠[]
 asc:∀s∈b,AscB ltT s.2
 srt:AscB ltB b
end Go.Proofs.YtdcgbgecbeegmaaGreatDoor
end
section
namespace Go.Proofs.YtdcgbgecbeegmaaGreatDoor
def groups (x:Nat):List Nat:=if x<128 then [x] else (x % 128+128)::groups (x / 128)
termination_by x
decreasing_by omega
theorem groups_small {x:Nat} (h:x<128):groups x=[x]:=by rw [groups,if_pos h]
theorem groups_big {x:Nat} (h:¬x<128):groups x=(x % 128+128)::groups (x / 128):=by rw [groups,if_neg h]
theorem groups_ne (x:Nat):groups x≠[]:=by
 by_cases h:x<128
 ·rw [groups_small h];simp
 ·rw [groups_big h];simp
theorem groups_pos (x:Nat):0<(groups x).length:=List.length_pos_iff.2 (groups_ne x)
theorem groups_len (k x:Nat) (h:x<128 ^ (k+1)):(groups x).length≤k+1:=by
 induction k generalizing x with
 | zero=>rw [groups_small (by simpa using h)];simp
 | succ k ih=>
  by_cases hx:x<128
  ·rw [groups_small hx];simp
  ·rw [groups_big hx]
   have:=ih (x / 128) (by rw [Nat.div_lt_iff_lt_mul (by decide)];rwa [Nat.pow_succ] at h)
   simp;omega
theorem groups_ten {x:Nat} (h:x<18446744073709551616):(groups x).length≤10:=groups_len 9 x (Nat.lt_of_lt_of_le h (by decide))
theorem groups_lt (x:Nat):∀c∈groups x,c<256:=by
 induction x using Nat.strongRecOn with
 | _ x ih=>
  by_cases h:x<128
  ·rw [groups_small h];intro c hc;simp at hc;omega
  ·rw [groups_big h]
   intro c hc
   rcases List.mem_cons.1 hc with rfl | hc
   ·omega
   ·exact ih (x / 128) (by omega) c hc
def readFrom:List Nat→Nat→Nat→Nat × Nat × Nat
 | [],_,_=>(0,0,3)
 | c::cs,i,x=>
  if i=9∧1<c then (0,0,6)
  else if 128≤c then readFrom cs (i+1) (x+c % 128*2 ^ (7*i))
  else if c=0∧0<i then (0,0,5)
  else (x+c*2 ^ (7*i),i+1,0)
def readAt (b:List Nat) (o:Int):Nat × Int × Nat:=
 if o<0∨(b.length:Int)<o then (0,0,2)
 else ((readFrom (b.drop o.toNat) 0 0).1,(if (readFrom (b.drop o.toNat) 0 0).2.2=0 then o+(readFrom (b.drop o.toNat) 0 0).2.1 else 0),(readFrom (b.drop o.toNat) 0 0).2.2)
theorem readFrom_err {l:List Nat} {i x:Nat} (h:(readFrom l i x).2.2≠0):(readFrom l i x).1=0∧(readFrom l i x).2.1=0:=by
 induction l generalizing i x with
 | nil=>simp [readFrom]
 | cons c cs ih=>
  rw [readFrom] at h ⊢
  split
  ·exact ⟨rfl,rfl⟩
  ·next h1=>
   rw [if_neg h1] at h
   split
   ·next h2=>rw [if_pos h2] at h;exact ih h
   ·next h2=>
    rw [if_neg h2] at h
    split
    ·exact ⟨rfl,rfl⟩
    ·next h3=>rw [if_neg h3] at h;simp at h
theorem readFrom_groups (y i x:Nat) (rest:List Nat) (hi:i≤9) (hy:y<2 ^ (64-7*i)) (hp:0<i→0<y):readFrom (groups y++rest) i x=(x+y*2 ^ (7*i),i+(groups y).length,0):=by
 induction y using Nat.strongRecOn generalizing i x with
 | _ y ih=>
  have h9:i=9→y<2:=fun e=>by subst e;simpa using hy
  by_cases h:y<128
  ·rw [groups_small h]
   show readFrom (y::rest) i x=_
   rw [readFrom,if_neg (by rintro ⟨e,h1⟩;have:=h9 e;omega),if_neg (by omega),if_neg (by rintro ⟨e,h1⟩;have:=hp h1;omega)]
   simp
  ·rw [groups_big h]
   show readFrom ((y % 128+128)::(groups (y / 128)++rest)) i x=_
   have hne:i≠9:=fun e=>by have:=h9 e;omega
   rw [readFrom,if_neg (by rintro ⟨e,_⟩;exact hne e),if_pos (by omega)]
   have hpow:2 ^ (64-7*i)=2 ^ (64-7*(i+1))*128:=by
    rw [show 64-7*i=(64-7*(i+1))+7 from by omega,Nat.pow_add]
   rw [ih (y / 128) (by omega) (i+1) _ (by omega) (by rw [Nat.div_lt_iff_lt_mul (by decide),← hpow];exact hy) (fun _=>by omega)]
   have hm:2 ^ (7*(i+1))=128*2 ^ (7*i):=by rw [show 7*(i+1)=7+7*i from by omega,Nat.pow_add]
   have e1:(y % 128+128) % 128=y % 128:=by omega
   rw [e1,hm]
   have e2:y / 128*(128*2 ^ (7*i))=(y / 128*128)*2 ^ (7*i):=by rw [Nat.mul_assoc]
   rw [e2,Nat.add_assoc x,← Nat.add_mul,show y % 128+y / 128*128=y from by omega]
   simp only [List.length_cons]
   rw [show i+1+(groups (y / 128)).length=i+((groups (y / 128)).length+1) from by omega]
theorem readFrom_ok {l : List Nat} {i x : Nat} (hl : ∀ c ∈ l, c < 256) (hi : i ≤ 9) (h : (readFrom l i x).2.2 = 0) :
    ∃ y, l.take ((readFrom l i x).2.1 - i) = groups y ∧ (readFrom l i x).1 = x + y * 2 ^ (7 * i) ∧ (0 < i → 0 < y) ∧ y < 2 ^ (64 - 7 * i) ∧ i < (readFrom l i x).2.1 ∧ (readFrom l i x).2.1 - i ≤ l.length := by
  induction l generalizing i x with
  | nil => simp [readFrom] at h
  | cons c cs ih =>
    have hc : c < 256 := hl c (by simp)
    rw [readFrom] at h ⊢
    by_cases h1 : i = 9 ∧ 1 < c
    · rw [if_pos h1] at h; simp at h
    · rw [if_neg h1] at h ⊢
      by_cases h2 : 128 ≤ c
      · rw [if_pos h2] at h ⊢
        have hne : i ≠ 9 := fun e => h1 ⟨e, by omega⟩
        obtain ⟨y, hy, hx, hp, hlt, hgt, hle⟩ := ih (fun c h => hl c (by simp [h])) (by omega) h
        have hy0 := hp (by omega)
        have hpow : 2 ^ (64 - 7 * i) = 2 ^ (64 - 7 * (i + 1)) * 128 := by
          rw [show 64 - 7 * i = (64 - 7 * (i + 1)) + 7 from by omega, Nat.pow_add]
        have hm : 2 ^ (7 * (i + 1)) = 128 * 2 ^ (7 * i) := by rw [show 7 * (i + 1) = 7 + 7 * i from by omega, Nat.pow_add]
        refine ⟨c % 128 + y * 128, ?_, ?_, fun _ => by omega, by rw [hpow]; omega, by omega, by simp; omega⟩
        · rw [groups_big (by omega), show (c % 128 + y * 128) % 128 + 128 = c from by omega, show (c % 128 + y * 128) / 128 = y from by omega, ← hy]
          generalize (readFrom cs (i + 1) (x + c % 128 * 2 ^ (7 * i))).2.1 = m at *
          rw [show m - i = (m - (i + 1)) + 1 from by omega, List.take_succ_cons]
        · rw [hx, hm, Nat.add_mul, Nat.add_assoc, Nat.mul_assoc]
      · rw [if_neg h2] at h ⊢
        by_cases h3 : c = 0 ∧ 0 < i
        · rw [if_pos h3] at h; simp at h
        · rw [if_neg h3]
          refine ⟨c, ?_, rfl, fun hi0 => by by_cases e : c = 0
                                            · exact absurd ⟨e, hi0⟩ h3
                                            · omega, ?_, by simp, by simp⟩
          · rw [groups_small (by omega)]
            simp
          · by_cases e : i = 9
            · subst e
              have : ¬ 1 < c := fun h => h1 ⟨rfl, h⟩
              simp; omega
            · have : 2 ^ 8 ≤ 2 ^ (64 - 7 * i) := Nat.pow_le_pow_right (by omega) (by omega)
              omega
theorem readFrom_prefix (y i x k : Nat) (hi : i ≤ 9) (hy : y < 2 ^ (64 - 7 * i)) (hk : k < (groups y).length) : readFrom ((groups y).take k) i x = (0, 0, 3) := by
  induction y using Nat.strongRecOn generalizing i x k with
  | _ y ih =>
    cases k with
    | zero => rfl
    | succ k =>
      by_cases h : y < 128
      · rw [groups_small h] at hk; simp at hk
      · have h9 : i ≠ 9 := fun e => by subst e; have : y < 2 := by simpa using hy
                                       omega
        rw [groups_big h] at hk ⊢
        simp only [List.length_cons] at hk
        rw [List.take_succ_cons, readFrom, if_neg (by rintro ⟨e, _⟩; exact h9 e), if_pos (by omega)]
        have hpow : 2 ^ (64 - 7 * i) = 2 ^ (64 - 7 * (i + 1)) * 128 := by
          rw [show 64 - 7 * i = (64 - 7 * (i + 1)) + 7 from by omega, Nat.pow_add]
        exact ih (y / 128) (by omega) (i + 1) _ k (by omega) (by rw [Nat.div_lt_iff_lt_mul (by decide), ← hpow]; exact hy) (by omega)
def unfold (x:Nat):Int:=if x % 2=1 then -((x / 2:Nat):Int)-1 else ((x / 2:Nat):Int)
theorem readAt_in {l:List Nat} {o:Nat} (ho:o≤l.length) {a n e:Nat} (h:readFrom (l.drop o) 0 0=(a,n,e)):readAt l (o:Int)=(a,(if e=0 then (o:Int)+n else 0),e):=by
 rw [readAt,if_neg (by omega),Int.toNat_natCast,h]
theorem readAt_groups (before after:List Nat) {y:Nat} (hy:y<18446744073709551616):readAt (before++groups y++after) (before.length:Int)=(y,((before.length+(groups y).length:Nat):Int),0):=by
 have h:readFrom ((before++groups y++after).drop before.length) 0 0=(y,(groups y).length,0):=by
  rw [List.append_assoc,List.drop_left,readFrom_groups y 0 0 after (by omega) (by simpa using hy) (by omega)]
  simp
 rw [readAt_in (by simp) h]
 simp
theorem readAt_cases {l:List Nat} (hl:∀c∈l,c<256) {i:Nat} (hi:i≤l.length) :
  (∃e,e≠0∧readAt l (i:Int)=(0,0,e))∨
  (∃x n,readAt l (i:Int)=(x,((i+n:Nat):Int),0)∧0<n∧i+n≤l.length∧(l.take (i+n)).drop i=groups x∧x<18446744073709551616):=by
 obtain ⟨a,n,e,h⟩:∃a n e,readFrom (l.drop i) 0 0=(a,n,e):=⟨_,_,_,rfl⟩
 have hd:∀c∈l.drop i,c<256:=fun c hc=>hl c (List.mem_of_mem_drop hc)
 by_cases he:e=0
 ·subst he
  obtain ⟨y,h1,h2,_,h4,h5,h6⟩:=readFrom_ok hd (Nat.zero_le 9) (show (readFrom (l.drop i) 0 0).2.2=0 by rw [h])
  rw [h] at h1 h2 h5 h6
  simp only [Nat.sub_zero,Nat.mul_zero,Nat.pow_zero,Nat.mul_one,Nat.zero_add] at h1 h2 h4 h5 h6
  rw [List.length_drop] at h6
  refine .inr ⟨y,n,?_,h5,by omega,?_,by simpa using h4⟩
  ·rw [readAt_in hi h,h2];simp
  ·rw [List.drop_take,Nat.add_sub_cancel_left];exact h1
 ·obtain ⟨h1,h2⟩:=readFrom_err (show (readFrom (l.drop i) 0 0).2.2≠0 by rw [h];exact he)
  rw [h] at h1 h2
  refine .inl ⟨e,he,?_⟩
  rw [readAt_in hi h,if_neg he,show a=0 from h1]
def shr1 (s:Nat):Nat:=if s % 2=1 then s / 2 ^^^ 3988292384 else s / 2
def shrN:Nat→Nat→Nat
 | 0,s=>s
 | n+1,s=>shrN n (shr1 s)
theorem xor_swap (a b c d:Nat):(a ^^^ b) ^^^ (c ^^^ d)=(a ^^^ c) ^^^ (b ^^^ d):=by
 rw [Nat.xor_assoc,Nat.xor_assoc,← Nat.xor_assoc b c d,Nat.xor_comm b c,Nat.xor_assoc c b d]
theorem xor_lt32 {a b:Nat} (ha:a<4294967296) (hb:b<4294967296):a ^^^ b<4294967296:=Nat.xor_lt_two_pow (n:=32) ha hb
theorem xor_mod2 (a b:Nat):(a ^^^ b) % 2=(a+b) % 2:=by
 have h:=Nat.xor_mod_two_pow (a:=a) (b:=b) (n:=1)
 rw [Nat.pow_one] at h
 rw [h]
 rcases Nat.mod_two_eq_zero_or_one a with ha | ha<;>rcases Nat.mod_two_eq_zero_or_one b with hb | hb<;>rw [ha,hb]<;>simp<;>omega
theorem shr1_xor (a b:Nat):shr1 (a ^^^ b)=shr1 a ^^^ shr1 b:=by
 have hd:(a ^^^ b) / 2=a / 2 ^^^ b / 2:=Nat.xor_div_two
 have hm:(a ^^^ b) % 2=(a+b) % 2:=xor_mod2 _ _
 unfold shr1
 rw [hd,hm]
 by_cases ha:a % 2=1
 ·by_cases hb:b % 2=1
  ·rw [if_neg (by omega),if_pos ha,if_pos hb,xor_swap,Nat.xor_self,Nat.xor_zero]
  ·rw [if_pos (by omega),if_pos ha,if_neg hb,Nat.xor_assoc,Nat.xor_comm (b / 2),← Nat.xor_assoc]
 ·by_cases hb:b % 2=1
  ·rw [if_pos (by omega),if_neg ha,if_pos hb,Nat.xor_assoc]
  ·rw [if_neg (by omega),if_neg ha,if_neg hb]
theorem shr1_even (y:Nat):shr1 (2*y)=y:=by unfold shr1;rw [if_neg (by omega)];omega
theorem shr1_lt {s:Nat} (h:s<4294967296):shr1 s<4294967296:=by
 unfold shr1
 split
 ·exact xor_lt32 (by omega) (by decide)
 ·omega
theorem shrN_add (m n s:Nat):shrN (m+n) s=shrN n (shrN m s):=by
 induction m generalizing s with
 | zero=>rw [Nat.zero_add];rfl
 | succ m ih=>rw [Nat.succ_add,shrN,ih,shrN]
theorem shrN_xor (n a b:Nat):shrN n (a ^^^ b)=shrN n a ^^^ shrN n b:=by
 induction n generalizing a b with
 | zero=>rfl
 | succ n ih=>rw [shrN,shrN,shrN,shr1_xor,ih]
theorem shrN_lt {n s:Nat} (h:s<4294967296):shrN n s<4294967296:=by
 induction n generalizing s with
 | zero=>exact h
 | succ n ih=>exact ih (shr1_lt h)
def step8 (s c:Nat):Nat:=shrN 8 (s ^^^ c)
def upd (s:Nat) (bs:List Nat):Nat:=bs.foldl step8 s
theorem upd_cons (s c:Nat) (bs:List Nat):upd s (c::bs)=upd (step8 s c) bs:=rfl
theorem upd_append (s:Nat) (a b:List Nat):upd s (a++b)=upd (upd s a) b:=by simp [upd]
theorem upd_lt {s:Nat} (hs:s<4294967296) (bs:List Nat) (h:∀c∈bs,c<256):upd s bs<4294967296:=by
 induction bs generalizing s with
 | nil=>exact hs
 | cons c bs ih=>
  rw [upd_cons]
  exact ih (shrN_lt (xor_lt32 hs (by have:=h c (by simp);omega))) (fun c hc=>h c (by simp [hc]))
def le4 (t:Nat):List Nat:=[t % 256,t / 256 % 256,t / 65536 % 256,t / 16777216 % 256]
theorem le4_lt (t:Nat):∀c∈le4 t,c<256:=by intro c hc;simp [le4] at hc;omega
theorem max_xor (x:Nat) (h:x<4294967296):4294967295 ^^^ x=4294967295-x:=by
 apply Nat.eq_of_testBit_eq
 intro i
 have h1:=Nat.testBit_two_pow_sub_succ (n:=32) (x:=x) h i
 have h2:=Nat.testBit_two_pow_sub_one 32 i
 rw [show (2:Nat) ^ 32-1=4294967295 from rfl] at h2
 rw [show (2:Nat) ^ 32-(x+1)=4294967295-x from by omega] at h1
 rw [Nat.testBit_xor,h1,h2]
 by_cases hi:i<32
 ·simp [hi]
 ·have:x.testBit i=false:=Nat.testBit_lt_two_pow (Nat.lt_of_lt_of_le h (Nat.pow_le_pow_right (n:=2) (i:=32) (by decide) (by omega)))
  simp [hi,this]
def crcOf (b:List Nat):Nat:=4294967295-upd 4294967295 b
theorem crcOf_xor (b:List Nat) (h:∀c∈b,c<256):crcOf b=4294967295 ^^^ upd 4294967295 b:=(max_xor _ (upd_lt (by decide) b h)).symm
theorem crcOf_lt (b:List Nat):crcOf b<4294967296:=by unfold crcOf;omega
def withCrc (b:List Nat):List Nat:=b++le4 (crcOf b)
theorem withCrc_lt {b:List Nat} (h:∀c∈b,c<256):∀c∈withCrc b,c<256:=fun c hc=>by
 rcases List.mem_append.1 hc with h1 | h1
 ·exact h c h1
 ·exact le4_lt _ c h1
theorem withCrc_length (b:List Nat):(withCrc b).length=b.length+4:=by simp [withCrc,le4]
def isCrc (b:List Nat):Bool:=decide (4≤b.length∧withCrc (b.take (b.length-4))=b)
theorem isCrc_withCrc (b:List Nat):isCrc (withCrc b)=true:=by
 unfold isCrc
 rw [withCrc_length,decide_eq_true_eq]
 refine ⟨by omega,?_⟩
 have e:(withCrc b).take b.length=b:=List.take_left
 rw [Nat.add_sub_cancel,e]
def fours:List Nat:=[0,498536548,997073096,651767980,1994146192,1802195444,1303535960,1342533948,3988292384,4027552580,3604390888,3412177804,2607071920,2262029012,2685067896,3183342108]
theorem fours_eq:∀i,i<16→fours.getD i 0=shrN 4 i:=by decide
theorem shrN_four (y:Nat):shrN 4 (16*y)=y:=by
 rw [show 16*y=2*(2*(2*(2*y))) by omega]
 simp only [shrN,shr1_even]
theorem shr4 (s:Nat):shrN 4 s=s / 16 ^^^ shrN 4 (s % 16):=by
 have e:s=16*(s / 16) ^^^ s % 16:=by
  apply Nat.eq_of_testBit_eq
  intro i
  have h1:16*(s / 16)=2 ^ 4*(s / 16):=rfl
  have h2:s % 16=s % 2 ^ 4:=rfl
  rw [Nat.testBit_xor,h1,h2,Nat.testBit_two_pow_mul,Nat.testBit_mod_two_pow,show (16:Nat)=2 ^ 4 from rfl,Nat.testBit_div_two_pow]
  by_cases hi:i<4
  ·simp [hi,show ¬4≤i by omega]
  ·simp [hi,show 4≤i by omega]
 conv=>lhs;rw [e]
 rw [shrN_xor,shrN_four]
theorem step8_fours (s c:Nat):step8 s c=shrN 4 (shrN 4 (s ^^^ c)):=by rw [step8,← shrN_add]
inductive Out (α:Type) where
 | ok (x:α) (to:Nat)
 | bad (e:Nat)
def outUint (B:List Nat) (a most:Nat):Out Nat:=match readAt B (a:Int) with
 | (x,to,0)=>if most<x then .bad 7 else .ok x to.toNat
 | (_,_,e+1)=>.bad (e+1)
def outString (B:List Nat) (a:Nat) (most:Int):Out (List Nat):=match readAt B (a:Int) with
 | (x,to,0)=>if most<0∨most<(x:Int) then .bad 7 else if B.length-to.toNat<x then .bad 3 else .ok ((B.drop to.toNat).take x) (to.toNat+x)
 | (_,_,e+1)=>.bad (e+1)
def outSection (B:List Nat) (a id:Nat):Out (List Nat):=match B[a]? with
 | none=>.bad 3
 | some c=>if c≠id then .bad 11 else match readAt B ((a+1:Nat):Int) with
  | (x,to,0)=>if B.length-to.toNat<4∨B.length-to.toNat-4<x then .bad 3 else
    if isCrc ((B.take (to.toNat+x+4)).drop a) then .ok ((B.drop to.toNat).take x) (to.toNat+x+4) else .bad 12
  | (_,_,e+1)=>.bad (e+1)
def bytesOf (s:List Nat):List Nat:=groups s.length++s
def frameOf (id:Nat) (s:List Nat):List Nat:=withCrc (id::bytesOf s)
theorem bytesOf_lt {s:List Nat} (h:∀c∈s,c<256):∀c∈bytesOf s,c<256:=fun c hc=>by
 rcases List.mem_append.1 hc with h1 | h1
 ·exact groups_lt _ c h1
 ·exact h c h1
theorem frameOf_lt {id:Nat} {s:List Nat} (hi:id<256) (h:∀c∈s,c<256):∀c∈frameOf id s,c<256:=withCrc_lt (fun c hc=>by
 rcases List.mem_cons.1 hc with rfl | h1
 ·exact hi
 ·exact bytesOf_lt h c h1)
theorem bytesOf_length (s:List Nat):(bytesOf s).length=(groups s.length).length+s.length:=by simp [bytesOf]
theorem frameOf_length (id:Nat) (s:List Nat):(frameOf id s).length=1+(groups s.length).length+s.length+4:=by
 rw [frameOf,withCrc_length,List.length_cons,bytesOf_length];omega
theorem outString_back (pre s rest:List Nat) (hs:s.length<18446744073709551616) (most:Int) (hm:(s.length:Int)≤most) :
  outString (pre++bytesOf s++rest) pre.length most = .ok s (pre.length+(bytesOf s).length):=by
 have e:pre++bytesOf s++rest=pre++groups s.length++(s++rest):=by simp [bytesOf]
 have hd:(pre++groups s.length++(s++rest)).drop (pre.length+(groups s.length).length)=s++rest:=by rw [← List.length_append];exact List.drop_left
 rw [e,outString,readAt_groups pre (s++rest) hs]
 simp only [Int.toNat_natCast]
 rw [if_neg (by omega),if_neg (by simp;omega),hd,List.take_left,bytesOf_length,Nat.add_assoc]
theorem outSection_back (pre s rest:List Nat) (id:Nat) (hs:s.length<18446744073709551616) :
  outSection (pre++frameOf id s++rest) pre.length id = .ok s (pre.length+(frameOf id s).length):=by
 obtain ⟨t,ht⟩:∃t,le4 (crcOf (id::bytesOf s))=t:=⟨_,rfl⟩
 have ht4:t.length=4:=by rw [← ht];rfl
 have ef:frameOf id s=id::bytesOf s++t:=by rw [frameOf,withCrc,ht]
 have e:pre++frameOf id s++rest=(pre++[id])++groups s.length++(s++t++rest):=by rw [ef];simp [bytesOf]
 have h0:(pre++frameOf id s++rest)[pre.length]? = some id:=by rw [ef];simp
 have hr:=readAt_groups (pre++[id]) (s++t++rest) hs
 rw [← e] at hr
 have hpl:((pre++[id]).length:Int)=((pre.length+1:Nat):Int):=by simp
 rw [hpl] at hr
 have hd:(pre++frameOf id s++rest).drop (pre.length+1+(groups s.length).length)=s++t++rest:=by
  rw [e,show pre.length+1+(groups s.length).length=((pre++[id])++groups s.length).length by simp;omega];exact List.drop_left
 have hlen:(pre++frameOf id s++rest).length=pre.length+1+(groups s.length).length+s.length+4+rest.length:=by
  rw [List.length_append,List.length_append,frameOf_length];omega
 have hk:((pre++frameOf id s++rest).take (pre.length+1+(groups s.length).length+s.length+4)).drop pre.length=frameOf id s:=by
  have h1:pre.length+1+(groups s.length).length+s.length+4=(pre++frameOf id s).length:=by rw [List.length_append,frameOf_length];omega
  rw [h1,List.take_left,List.drop_left]
 have hpl2:(pre++[id]).length=pre.length+1:=by simp
 rw [hpl2] at hr
 rw [outSection,h0]
 simp only [hr,ne_eq,not_true_eq_false,if_false,Int.toNat_natCast]
 rw [if_neg (by rw [hlen];omega),hk,show isCrc (frameOf id s)=true from isCrc_withCrc _,if_pos rfl,hd,List.append_assoc,List.take_left,frameOf_length]
 congr 1
 omega
end Go.Proofs.YtdcgbgecbeegmaaGreatDoor
end
section
namespace Go.Proofs.YtdcgbgecbeegmaaGreatDoor
theorem readAt_take {B:List Nat} (hB:∀c∈B,c<256) {a m x:Nat} {to:Int} (ham:a≤m) (hm:m≤B.length) (h:readAt B (a:Int)=(x,to,0)) :
  ∃b:Nat,to=(b:Int)∧a<b∧b≤B.length∧B.drop a=groups x++B.drop b∧b=a+(groups x).length∧x<18446744073709551616∧readAt (B.take m) (a:Int)=if b≤m then (x,(b:Int),0) else (0,0,3):=by
 rcases readAt_cases hB (Nat.le_trans ham hm) with ⟨e,he,hr⟩ | ⟨y,n,hr,hn,hin,hg,hy⟩
 ·rw [h] at hr;simp only [Prod.mk.injEq] at hr;exact absurd hr.2.2.symm he
 ·rw [h] at hr
  simp only [Prod.mk.injEq] at hr
  obtain ⟨rfl,rfl,_⟩:=hr
  have hl:(groups x).length=n:=by rw [← hg,List.length_drop,List.length_take];omega
  have hd:B.drop a=groups x++B.drop (a+n):=by
   have:B.drop a=(B.take (a+n)++B.drop (a+n)).drop a:=by rw [List.take_append_drop]
   rw [this,List.drop_append_of_le_length (by rw [List.length_take];omega),hg]
  have hta:(B.take a).length=a:=by rw [List.length_take];omega
  have hBs:B=B.take a++(groups x++B.drop (a+n)):=by rw [← hd,List.take_append_drop]
  have htm:B.take m=B.take a++(groups x++B.drop (a+n)).take (m-a):=by
   have h0:B.take m=(B.take a++(groups x++B.drop (a+n))).take m:=by rw [← hBs]
   rw [h0,List.take_append,hta,List.take_of_length_le (l:=B.take a) (by omega)]
  refine ⟨a+n,rfl,by omega,hin,hd,by rw [hl],hy,?_⟩
  by_cases hle:a+n≤m
  ·rw [if_pos hle,htm]
   have h1:(groups x++B.drop (a+n)).take (m-a)=groups x++(B.drop (a+n)).take (m-a-n):=by
    rw [List.take_append,hl,List.take_of_length_le (l:=groups x) (by omega)]
   rw [h1,← List.append_assoc]
   have:=readAt_groups (B.take a) ((B.drop (a+n)).take (m-a-n)) hy
   rw [hta,hl] at this
   exact this
  ·rw [if_neg hle,htm]
   have h1:(groups x++B.drop (a+n)).take (m-a)=(groups x).take (m-a):=by
    rw [List.take_append_of_le_length (by omega)]
   rw [h1]
   have hp:=readFrom_prefix x 0 0 (m-a) (by decide) (by simpa using hy) (by omega)
   have h2:readFrom ((B.take a++(groups x).take (m-a)).drop a) 0 0=(0,0,3):=by
    rw [List.drop_append_of_le_length (by omega),List.drop_of_length_le (by omega),List.nil_append];exact hp
   rw [readAt_in (by rw [List.length_append];omega) h2];rfl
structure Reads {α:Type} (p:List Nat→Nat→Out α) (f:α→List Nat) (ok:α→Prop):Prop where
 back:∀(pre rest:List Nat) (x:α),ok x→p (pre++f x++rest) pre.length = .ok x (pre.length+(f x).length)
 inv:∀{B:List Nat} {a:Nat} {x:α} {b:Nat},(∀c∈B,c<256)→a≤B.length→p B a = .ok x b→ok x∧B.drop a=f x++B.drop b∧a<b∧b≤B.length
 bad:∀{B:List Nat} {a e:Nat},(∀c∈B,c<256)→a≤B.length→p B a = .bad e→e≠0
 cut:∀{B:List Nat} {a:Nat} {x:α} {b m:Nat},(∀c∈B,c<256)→a≤m→m≤B.length→p B a = .ok x b→p (B.take m) a = .bad 3∨(b≤m∧p (B.take m) a = .ok x b)
 pos:∀x,ok x→0<(f x).length
 lt:∀x,ok x→∀c∈f x,c<256
def pNum {α:Type} (g:Nat→Option α) (z:Nat) (B:List Nat) (a:Nat):Out α:=match readAt B (a:Int) with
 | (n,to,0)=>match g n with
  | some x=>.ok x to.toNat
  | none=>.bad z
 | (_,_,e+1)=>.bad (e+1)
theorem reads_num {α:Type} {g:Nat→Option α} {h:α→Nat} {ok:α→Prop} {z:Nat} (hz:z≠0) (h1:∀x,ok x→g (h x)=some x∧h x<18446744073709551616) (h2:∀n x,g n=some x→ok x∧h x=n):Reads (pNum g z) (fun x=>groups (h x)) ok where
 back:=fun pre rest x hx=>by
  obtain ⟨e1,e2⟩:=h1 x hx
  rw [pNum,readAt_groups pre rest e2]
  simp only [e1,Int.toNat_natCast]
 inv:=fun {B a x b} hB ha hp=>by
  rcases readAt_cases hB ha with ⟨e,he,hr⟩ | ⟨y,n,hr,hn,hin,hg,hy⟩
  ·obtain ⟨k,rfl⟩:∃k,e=k+1:=⟨e-1,by omega⟩
   rw [pNum,hr] at hp;cases hp
  ·obtain ⟨b',hb,h3,h4,h5,h6,h7,_⟩:=readAt_take hB (Nat.le_refl a) ha hr
   rw [pNum,hr] at hp
   simp only at hp
   split at hp
   ·next x' hx'=>
    cases hp
    obtain ⟨k1,k2⟩:=h2 _ _ hx'
    rw [Int.toNat_natCast]
    have:b'=a+n:=by omega
    subst this
    exact ⟨k1,by rw [k2];exact h5,by omega,h4⟩
   ·cases hp
 bad:=fun {B a e} hB ha hp=>by
  rw [pNum] at hp
  split at hp
  ·split at hp
   ·cases hp
   ·cases hp;exact hz
  ·cases hp;omega
 cut:=fun {B a x b m} hB ha hm hp=>by
  rcases readAt_cases hB (Nat.le_trans ha hm) with ⟨e,he,hr⟩ | ⟨y,n,hr,hn,hin,hg,hy⟩
  ·obtain ⟨k,rfl⟩:∃k,e=k+1:=⟨e-1,by omega⟩
   rw [pNum,hr] at hp;cases hp
  ·obtain ⟨b',hb,h3,h4,h5,h6,h7,h8⟩:=readAt_take hB ha hm hr
   rw [pNum,hr] at hp
   simp only at hp
   split at hp
   ·next x' hx'=>
    cases hp
    have e:b'=a+n:=by omega
    rw [pNum,h8]
    by_cases hle:b'≤m
    ·rw [if_pos hle]
     refine Or.inr ⟨by rw [Int.toNat_natCast];omega,?_⟩
     simp only [hx']
     rw [← hb]
    ·rw [if_neg hle];exact Or.inl rfl
   ·cases hp
 pos:=fun x _=>groups_pos _
 lt:=fun x _=>groups_lt _
def pPair {α β:Type} (p:List Nat→Nat→Out α) (q:List Nat→Nat→Out β) (B:List Nat) (a:Nat):Out (α × β):=match p B a with
 | .bad e=>.bad e
 | .ok x b=>match q B b with
  | .bad e=>.bad e
  | .ok y c=>.ok (x,y) c
theorem reads_pair {α β:Type} {p:List Nat→Nat→Out α} {q:List Nat→Nat→Out β} {f:α→List Nat} {g:β→List Nat} {ok1:α→Prop} {ok2:β→Prop} (hp:Reads p f ok1) (hq:Reads q g ok2) :
  Reads (pPair p q) (fun x=>f x.1++g x.2) (fun x=>ok1 x.1∧ok2 x.2) where
 back:=fun pre rest x hx=>by
  have e1:=hp.back pre (g x.2++rest) x.1 hx.1
  have e2:=hq.back (pre++f x.1) rest x.2 hx.2
  have e0:pre++(f x.1++g x.2)++rest=pre++f x.1++(g x.2++rest):=by simp
  have e3:pre++(f x.1++g x.2)++rest=pre++f x.1++g x.2++rest:=by simp
  rw [pPair,e0,e1]
  simp only
  rw [← e0,e3,← List.length_append,e2]
  simp only [List.length_append,Nat.add_assoc]
 inv:=fun {B a x c} hB ha h=>by
  rw [pPair] at h
  split at h
  ·cases h
  ·next y b h1=>
   split at h
   ·cases h
   ·next z c' h2=>
    cases h
    obtain ⟨a1,a2,a3,a4⟩:=hp.inv hB ha h1
    obtain ⟨b1,b2,b3,b4⟩:=hq.inv hB a4 h2
    exact ⟨⟨a1,b1⟩,by rw [a2,b2,List.append_assoc],by omega,b4⟩
 bad:=fun {B a e} hB ha h=>by
  rw [pPair] at h
  split at h
  ·next e' h1=>cases h;exact hp.bad hB ha h1
  ·next y b h1=>
   split at h
   ·next e' h2=>cases h;exact hq.bad hB (hp.inv hB ha h1).2.2.2 h2
   ·cases h
 cut:=fun {B a x c m} hB ha hm h=>by
  rw [pPair] at h
  split at h
  ·cases h
  ·next y b h1=>
   split at h
   ·cases h
   ·next z c' h2=>
    cases h
    rcases hp.cut hB ha hm h1 with e1 | ⟨hb,e1⟩
    ·rw [pPair,e1];exact Or.inl rfl
    ·rcases hq.cut hB hb hm h2 with e2 | ⟨hc,e2⟩
     ·exact Or.inl (by rw [pPair,e1];simp only [e2])
     ·exact Or.inr ⟨hc,by rw [pPair,e1];simp only [e2]⟩
 pos:=fun x hx=>by rw [List.length_append];have:=hp.pos _ hx.1;omega
 lt:=fun x hx c hc=>by
  rcases List.mem_append.1 hc with h | h
  ·exact hp.lt _ hx.1 c h
  ·exact hq.lt _ hx.2 c h
def pMany {α:Type} (p:List Nat→Nat→Out α) (B:List Nat):Nat→Nat→List α→Out (List α)
 | 0,a,acc=>.ok acc a
 | k+1,a,acc=>match p B a with
  | .bad e=>.bad e
  | .ok x b=>pMany p B k b (acc++[x])
def pList {α:Type} (z:Nat) (p:List Nat→Nat→Out α) (B:List Nat) (a:Nat):Out (List α):=match readAt B (a:Int) with
 | (n,to,0)=>if B.length-to.toNat<n then .bad 3 else if z≠0∧n=0 then .bad z else pMany p B n to.toNat []
 | (_,_,e+1)=>.bad (e+1)
section
variable {α:Type} {p:List Nat→Nat→Out α} {f:α→List Nat} {ok:α→Prop}
theorem many_back (h:Reads p f ok) (rest:List Nat) (l:List α):∀(pre:List Nat) (acc:List α),(∀x∈l,ok x)→pMany p (pre++l.flatMap f++rest) l.length pre.length acc = .ok (acc++l) (pre.length+(l.flatMap f).length):=by
 induction l with
 | nil=>intro pre acc _;simp [pMany]
 | cons x l ih=>
  intro pre acc ho
  have e0:pre++(x::l).flatMap f++rest=pre++f x++(l.flatMap f++rest):=by simp
  have e1:=h.back pre (l.flatMap f++rest) x (ho x (by simp))
  have e2:=ih (pre++f x) (acc++[x]) (fun y hy=>ho y (by simp [hy]))
  rw [List.length_cons,pMany,e0,e1]
  simp only
  rw [← List.append_assoc,← List.length_append,e2]
  simp [Nat.add_assoc]
theorem many_inv (h:Reads p f ok) {B:List Nat} (hB:∀c∈B,c<256):∀(k a:Nat) (acc u:List α) (b:Nat),a≤B.length→pMany p B k a acc = .ok u b→∃l,u=acc++l∧l.length=k∧(∀x∈l,ok x)∧B.drop a=l.flatMap f++B.drop b∧a≤b∧b≤B.length:=by
 intro k
 induction k with
 | zero=>intro a acc u b ha hp;rw [pMany] at hp;cases hp;exact ⟨[],by simp,rfl,(fun _ h=>by cases h),rfl,Nat.le_refl _,ha⟩
 | succ k ih=>
  intro a acc u b ha hp
  rw [pMany] at hp
  split at hp
  ·cases hp
  ·next x b1 h1=>
   obtain ⟨a1,a2,a3,a4⟩:=h.inv hB ha h1
   obtain ⟨l,e1,e2,e3,e4,e5,e6⟩:=ih b1 (acc++[x]) u b a4 hp
   refine ⟨x::l,by rw [e1];simp,by simp [e2],?_,by rw [a2,e4];simp,by omega,e6⟩
   intro y hy
   rcases List.mem_cons.1 hy with rfl | hy
   ·exact a1
   ·exact e3 y hy
theorem many_bad (h:Reads p f ok) {B:List Nat} (hB:∀c∈B,c<256):∀(k a:Nat) (acc:List α) (e:Nat),a≤B.length→pMany p B k a acc = .bad e→e≠0:=by
 intro k
 induction k with
 | zero=>intro a acc e _ hp;rw [pMany] at hp;cases hp
 | succ k ih=>
  intro a acc e ha hp
  rw [pMany] at hp
  split at hp
  ·next e' h1=>cases hp;exact h.bad hB ha h1
  ·next x b1 h1=>exact ih b1 _ e (h.inv hB ha h1).2.2.2 hp
theorem many_cut (h:Reads p f ok) {B:List Nat} (hB:∀c∈B,c<256) {m:Nat} (hm:m≤B.length):∀(k a:Nat) (acc u:List α) (b:Nat),a≤m→pMany p B k a acc = .ok u b→pMany p (B.take m) k a acc = .bad 3∨(b≤m∧pMany p (B.take m) k a acc = .ok u b):=by
 intro k
 induction k with
 | zero=>intro a acc u b ha hp;rw [pMany] at hp;cases hp;exact Or.inr ⟨ha,rfl⟩
 | succ k ih=>
  intro a acc u b ha hp
  rw [pMany] at hp
  split at hp
  ·cases hp
  ·next x b1 h1=>
   rcases h.cut hB ha hm h1 with e1 | ⟨hb,e1⟩
   ·rw [pMany,e1];exact Or.inl rfl
   ·rw [pMany,e1];exact ih b1 _ u b hb hp
theorem flat_le (h:Reads p f ok) (l:List α) (ho:∀x∈l,ok x):l.length≤(l.flatMap f).length:=by
 induction l with
 | nil=>exact Nat.le_refl _
 | cons x l ih=>rw [List.flatMap_cons,List.length_append,List.length_cons];have:=h.pos x (ho x (by simp));have:=ih (fun y hy=>ho y (by simp [hy]));omega
theorem reads_list {z:Nat} (h:Reads p f ok):Reads (pList z p) (fun l=>groups l.length++l.flatMap f) (fun l=>(∀x∈l,ok x)∧l.length<18446744073709551616∧(z≠0→l≠[])) where
 back:=fun pre rest l hl=>by
  have e0:pre++(groups l.length++l.flatMap f)++rest=pre++groups l.length++(l.flatMap f++rest):=by simp
  have e3:pre++(groups l.length++l.flatMap f)++rest=pre++groups l.length++l.flatMap f++rest:=by simp
  have hr:=readAt_groups pre (l.flatMap f++rest) hl.2.1
  rw [pList,e0,hr]
  simp only [Int.toNat_natCast]
  have hf:=flat_le h l hl.1
  rw [if_neg (by simp only [List.length_append];omega),if_neg (fun e=>hl.2.2 e.1 (List.eq_nil_of_length_eq_zero e.2)),← e0,e3,← List.length_append,many_back h rest l _ _ hl.1]
  simp [Nat.add_assoc]
 inv:=fun {B a u b} hB ha hp=>by
  rcases readAt_cases hB ha with ⟨e,he,hr⟩ | ⟨y,n,hr,hn,hin,hg,hy⟩
  ·obtain ⟨k,rfl⟩:∃k,e=k+1:=⟨e-1,by omega⟩
   rw [pList,hr] at hp;cases hp
  ·obtain ⟨b',hb,h3,h4,h5,h6,h7,_⟩:=readAt_take hB (Nat.le_refl a) ha hr
   have e:b'=a+n:=by omega
   rw [pList,hr] at hp
   simp only [Int.toNat_natCast] at hp
   split at hp
   ·cases hp
   ·split at hp
    ·cases hp
    ·next hz=>
     rw [← e] at hp
     obtain ⟨l,e1,e2,e3,e4,e5,e6⟩:=many_inv h hB y b' [] u b h4 hp
     rw [List.nil_append] at e1
     subst e1
     refine ⟨⟨e3,by rw [e2];exact h7,fun hz1 hn1=>hz ⟨hz1,by rw [← e2,hn1];rfl⟩⟩,by rw [h5,e4,e2,List.append_assoc],by omega,e6⟩
 bad:=fun {B a e} hB ha hp=>by
  rcases readAt_cases hB ha with ⟨e1,he,hr⟩ | ⟨y,n,hr,hn,hin,hg,hy⟩
  ·obtain ⟨k,rfl⟩:∃k,e1=k+1:=⟨e1-1,by omega⟩
   rw [pList,hr] at hp;cases hp;omega
  ·rw [pList,hr] at hp
   simp only [Int.toNat_natCast] at hp
   split at hp
   ·cases hp;decide
   ·split at hp
    ·next hz=>cases hp;exact hz.1
    ·exact many_bad h hB _ _ _ _ hin hp
 cut:=fun {B a u b m} hB ha hm hp=>by
  rcases readAt_cases hB (Nat.le_trans ha hm) with ⟨e1,he,hr⟩ | ⟨y,n,hr,hn,hin,hg,hy⟩
  ·obtain ⟨k,rfl⟩:∃k,e1=k+1:=⟨e1-1,by omega⟩
   rw [pList,hr] at hp;cases hp
  ·obtain ⟨b',hb,h3,h4,h5,h6,h7,h8⟩:=readAt_take hB ha hm hr
   have e:b'=a+n:=by omega
   rw [pList,hr] at hp
   simp only [Int.toNat_natCast] at hp
   rw [pList,h8]
   by_cases hle:b'≤m
   ·rw [if_pos hle]
    simp only [Int.toNat_natCast]
    split
    ·exact Or.inl rfl
    ·split at hp
     ·cases hp
     ·split at hp
      ·cases hp
      ·next hz=>
       rw [if_neg hz]
       rw [← e] at hp
       exact many_cut h hB hm _ _ _ _ _ hle hp
   ·rw [if_neg hle];exact Or.inl rfl
 pos:=fun l _=>by rw [List.length_append];have:=groups_pos l.length;omega
 lt:=fun l hl c hc=>by
  rcases List.mem_append.1 hc with e | e
  ·exact groups_lt _ c e
  ·obtain ⟨x,hx,e⟩:=List.mem_flatMap.1 e
   exact h.lt x (hl.1 x hx) c e
end
def pAll {α:Type} (p:List Nat→Nat→Out α) (z:α) (B:List Nat):Nat × α:=match p B 0 with
 | .bad e=>(e,z)
 | .ok x b=>if b<B.length then (4,z) else (0,x)
section
variable {α:Type} {p:List Nat→Nat→Out α} {f:α→List Nat} {ok:α→Prop} {z:α}
theorem all_back (h:Reads p f ok) {x:α} (hx:ok x):pAll p z (f x)=(0,x):=by
 have:=h.back [] [] x hx
 simp only [List.nil_append,List.append_nil,List.length_nil,Nat.zero_add] at this
 rw [pAll,this];simp
end
end Go.Proofs.YtdcgbgecbeegmaaGreatDoor
end
section
namespace Go.Proofs.YtdcgbgecbeegmaaGreatDoor
open Go Go.RowKit
def findS (l:List ByteArray) (x:ByteArray):Int:=firstI (fun y=>decide (y=x)) l
theorem findS_in {t:List ByteArray} {s:ByteArray} (h:s∈t):∃j:Nat,findS t s=(j:Int)∧t[j]? = some s:=by
 rcases firstI_cases (fun y=>decide (y=s)) t with ⟨_,h2⟩ | ⟨j,x,h1,h2,h3,_⟩
 ·have:=h2 s h;simp at this
 ·have:x=s:=by simpa using h3
  subst this
  exact ⟨j,h1,h2⟩
theorem findS_out {t:List ByteArray} {s:ByteArray} (h:s∉t):findS t s = -1:=
 firstI_none fun y hy=>by simp only [decide_eq_false_iff_not];rintro rfl;exact h hy
theorem findS_at {t:List ByteArray} (ht:t.Nodup) {n:Nat} {s:ByteArray} (h:t[n]? = some s):findS t s=(n:Int):=by
 obtain ⟨j,h1,h2⟩:=findS_in (List.mem_of_getElem? h)
 rw [h1]
 have hj:=(List.getElem?_eq_some_iff.1 h2).1
 have:=(List.getElem?_inj hj ht).1 (h2.trans h.symm)
 omega
end Go.Proofs.YtdcgbgecbeegmaaGreatDoor
end
section
namespace Go.Proofs.YtdcgbgecbeegmaaGreatDoor
open Go Go.RowKit
abbrev Rec:=List Lab × List Int
def idxT (t:List ByteArray) (s:ByteArray):Nat:=(findS t s).toNat
def labBytes (t:List ByteArray) (x:Lab):List Nat:=groups (idxT t x.1)++groups (idxT t x.2)
def lenOk (n:Int):Prop:=1≤n∧n≤2147483647
instance (n:Int):Decidable (lenOk n):=inferInstanceAs (Decidable (1≤n∧n≤2147483647))
def labsBytes (t:List ByteArray) (l:List Lab):List Nat:=groups l.length++l.flatMap (labBytes t)
def lensBytes (l:List Int):List Nat:=groups l.length++l.flatMap (fun n=>groups n.toNat)
def recBytes (t:List ByteArray) (r:Rec):List Nat:=labsBytes t r.1++lensBytes r.2
def encRc (t:List ByteArray) (l:List Rec):List Nat:=groups l.length++l.flatMap (recBytes t)
def pSym (t:List ByteArray):List Nat→Nat→Out ByteArray:=pNum (fun n=>t[n]?) 14
def pLen:List Nat→Nat→Out Int:=pNum (fun n=>if 1≤n∧n≤2147483647 then some (n:Int) else none) 23
def pLab (t:List ByteArray):List Nat→Nat→Out Lab:=pPair (pSym t) (pSym t)
def pLabs (t:List ByteArray):List Nat→Nat→Out (List Lab):=pList 0 (pLab t)
def pLens:List Nat→Nat→Out (List Int):=pList 23 pLen
def pRec (t:List ByteArray):List Nat→Nat→Out Rec:=pPair (pLabs t) pLens
def pRecs (t:List ByteArray):List Nat→Nat→Out (List Rec):=pList 0 (pRec t)
def decRc (t:List ByteArray) (B:List Nat):Nat × List Rec:=pAll (pRecs t) [] B
def labIn (t:List ByteArray) (x:Lab):Prop:=x.1∈t∧x.2∈t
instance memDec (t:List ByteArray) (s:ByteArray):Decidable (s∈t):=decidable_of_iff (∃y∈t,y=s) ⟨fun ⟨y,hy,e⟩=>e ▸ hy,fun h=>⟨s,h,rfl⟩⟩
instance (t:List ByteArray) (x:Lab):Decidable (labIn t x):=inferInstanceAs (Decidable (x.1∈t∧x.2∈t))
def recErr (t:List ByteArray) (r:Rec):Nat:=if ∀x∈r.1,labIn t x then (if r.2=[] then 23 else if ∀n∈r.2,lenOk n then 0 else 23) else 14
def recsErr (t:List ByteArray):List Rec→Nat
 | []=>0
 | r::l=>if recErr t r=0 then recsErr t l else recErr t r
def encRcR (t:List ByteArray) (l:List Rec):Nat × List Nat:=if recsErr t l=0 then (0,encRc t l) else (recsErr t l,[])
theorem asc_nodup {t:List ByteArray} (h:AscB ltS t):t.Nodup:=
 List.Pairwise.imp (fun hab e=>by rw [e,ltS_ok.irr] at hab;cases hab) h
section
variable {t:List ByteArray} (ht:t.Nodup) (hl:t.length<18446744073709551616)
include ht hl
theorem reads_sym:Reads (pSym t) (fun s=>groups (idxT t s)) (fun s=>s∈t):=
 reads_num (by decide) (fun s hs=>by
  obtain ⟨j,h1,h2⟩:=findS_in hs
  have hj:=(List.getElem?_eq_some_iff.1 h2).1
  rw [idxT,h1]
  exact ⟨h2,by simp only [Int.toNat_natCast];omega⟩) (fun n s h=>⟨List.mem_of_getElem? h,by rw [idxT,findS_at ht h];rfl⟩)
omit ht hl in
theorem reads_len:Reads pLen (fun n=>groups n.toNat) lenOk:=
 reads_num (by decide) (fun n hn=>by
  obtain ⟨h1,h2⟩:=hn
  refine ⟨?_,by omega⟩
  rw [if_pos (by omega)]
  congr 1
  omega) (fun n x h=>by
  split at h
  ·next hn=>cases h;exact ⟨⟨by omega,by omega⟩,by simp⟩
  ·cases h)
theorem reads_lab:Reads (pLab t) (labBytes t) (fun x=>x.1∈t∧x.2∈t):=reads_pair (reads_sym ht hl) (reads_sym ht hl)
theorem reads_labs:Reads (pLabs t) (labsBytes t) (fun l=>(∀x∈l,x.1∈t∧x.2∈t)∧l.length<18446744073709551616∧((0:Nat)≠0→l≠[])):=reads_list (reads_lab ht hl)
omit ht hl in
theorem reads_lens:Reads pLens lensBytes (fun l=>(∀n∈l,lenOk n)∧l.length<18446744073709551616∧((23:Nat)≠0→l≠[])):=reads_list reads_len
def okRec (t:List ByteArray) (r:Rec):Prop:=((∀x∈r.1,x.1∈t∧x.2∈t)∧r.1.length<18446744073709551616∧((0:Nat)≠0→r.1≠[]))∧((∀n∈r.2,lenOk n)∧r.2.length<18446744073709551616∧((23:Nat)≠0→r.2≠[]))
theorem reads_rec:Reads (pRec t) (recBytes t) (okRec t):=reads_pair (reads_labs ht hl) reads_lens
def okRecs (t:List ByteArray) (l:List Rec):Prop:=(∀r∈l,okRec t r)∧l.length<18446744073709551616∧((0:Nat)≠0→l≠[])
theorem reads_recs:Reads (pRecs t) (encRc t) (okRecs t):=reads_list (reads_rec ht hl)
end
theorem recErr_zero {t:List ByteArray} {r:Rec}:recErr t r=0↔(∀x∈r.1,labIn t x)∧r.2≠[]∧∀n∈r.2,lenOk n:=by
 unfold recErr
 constructor
 ·intro h
  split at h
  ·next h1=>
   split at h
   ·cases h
   ·next h2=>
    split at h
    ·next h3=>exact ⟨h1,h2,h3⟩
    ·cases h
  ·cases h
 ·rintro ⟨h1,h2,h3⟩
  rw [if_pos h1,if_neg h2,if_pos h3]
theorem recsErr_zero {t:List ByteArray} {l:List Rec}:recsErr t l=0↔∀r∈l,recErr t r=0:=by
 induction l with
 | nil=>simp [recsErr]
 | cons r l ih=>
  rw [recsErr]
  by_cases h:recErr t r=0
  ·rw [if_pos h,ih];simp [h]
  ·rw [if_neg h];simp [h]
def recLens (l:List Rec):Prop:=l.length<18446744073709551616∧∀r∈l,r.1.length<18446744073709551616∧r.2.length<18446744073709551616
theorem okRecs_of {t:List ByteArray} {l:List Rec} (h:recsErr t l=0) (hl:recLens l):okRecs t l:=
 ⟨fun r hr=>by
  obtain ⟨h1,h2,h3⟩:=recErr_zero.1 (recsErr_zero.1 h r hr)
  exact ⟨⟨h1,(hl.2 r hr).1,fun e=>absurd rfl e⟩,h3,(hl.2 r hr).2,fun _=>h2⟩,hl.1,fun e=>absurd rfl e⟩
section
variable {t:List ByteArray} (ht:AscB ltS t) (hl:t.length<18446744073709551616)
include ht hl
theorem decRc_back {l:List Rec} (h:recsErr t l=0) (hl':recLens l):decRc t (encRc t l)=(0,l):=all_back (reads_recs (asc_nodup ht) hl) (okRecs_of h hl')
theorem encRc_lt {l:List Rec} (h:recsErr t l=0) (hl':recLens l):∀c∈encRc t l,c<256:=(reads_recs (asc_nodup ht) hl).lt _ (okRecs_of h hl')
end
end Go.Proofs.YtdcgbgecbeegmaaGreatDoor
end
section
namespace Go.Proofs.YtdcgbgecbeegmaaGreatDoor
def ltI (a b:Int):Bool:=decide (a<b)
theorem ltI_ok:LtOk ltI:=⟨⟨fun a=>by simp [ltI],fun a b c h k=>by simp only [ltI,decide_eq_true_eq] at *;omega⟩,fun a b h k=>by simp only [ltI,decide_eq_false_iff_not] at *;omega⟩
instance decAscI (l:List Int):Decidable (AscB ltI l):=inferInstanceAs (Decidable (List.Pairwise _ _))
end Go.Proofs.YtdcgbgecbeegmaaGreatDoor
end
section
namespace Go.Proofs.YtdcgbgecbeegmaaGreatDoor
open Go Go.RowKit
instance labMemDec (l:List Lab) (x:Lab):Decidable (x∈l):=decidable_of_iff (∃y∈l,y=x) ⟨fun ⟨y,hy,e⟩=>e ▸ hy,fun h=>⟨x,h,rfl⟩⟩
abbrev Ent:=Lab × List Int
def ltE (a b:Lab):Bool:=decide (cmpLab a b = -1)
theorem ltE_ok:LtOk ltE:=cmpLab_ok.lt
theorem ltE_gt (a b:Lab):ltE b a=true↔0<cmpLab a b:=by
 unfold ltE
 rw [decide_eq_true_eq,cmpLab_ok.flip a b]
 rcases cmpLab_ok.dom a b with e | e | e<;>rw [e]<;>decide
def insStep (x:Lab) (n:Int) (s:List Ent × Bool) (e:Ent):List Ent × Bool:=
 let s1:=if 0<cmpLab e.1 x∧s.2=false then (s.1++[(x,[n])],true) else s
 if cmpLab e.1 x=0 then (s1.1++[(x,insB ltI n e.2)],true) else (s1.1++[e],s1.2)
def insR (x:Lab) (n:Int) (l:List Ent):List Ent:=
 let s:=l.foldl (insStep x n) ([],false)
 if s.2=true then s.1 else s.1++[(x,[n])]
def insP (x:Lab) (n:Int):List Ent→List Ent
 | []=>[(x,[n])]
 | e::l=>if cmpLab e.1 x=0 then (x,insB ltI n e.2)::l else if 0<cmpLab e.1 x then (x,[n])::e::l else e::insP x n l
theorem fold_done {x:Lab} {n:Int} (l:List Ent) (h:∀e∈l,0<cmpLab e.1 x):∀acc,l.foldl (insStep x n) (acc,true)=(acc++l,true):=by
 induction l with
 | nil=>intro acc;simp
 | cons e l ih=>
  intro acc
  have h0:=h e (by simp)
  have hs:insStep x n (acc,true) e=(acc++[e],true):=by
   unfold insStep
   simp only [Bool.true_eq_false,and_false,if_false]
   rw [if_neg (by omega)]
  rw [List.foldl_cons,hs,ih (fun y hy=>h y (by simp [hy]))]
  simp
theorem fold_asc {x:Lab} {n:Int} (l:List Ent) (ha:AscB ltE (l.map Prod.fst)):∀acc,(if (l.foldl (insStep x n) (acc,false)).2=true then (l.foldl (insStep x n) (acc,false)).1 else (l.foldl (insStep x n) (acc,false)).1++[(x,[n])])=acc++insP x n l:=by
 induction l with
 | nil=>intro acc;simp [insP]
 | cons e l ih=>
  intro acc
  obtain ⟨h1,h2⟩:=List.pairwise_cons.1 ha
  have hgt:0≤cmpLab e.1 x→∀d∈l,0<cmpLab d.1 x:=fun h0 d hd=>by
   rw [← ltE_gt]
   have h3:=h1 d.1 (List.mem_map.2 ⟨d,hd,rfl⟩)
   rcases cmpLab_ok.dom e.1 x with f | f | f
   ·omega
   ·rw [← (cmpLab_ok.eq _ _).1 f];exact h3
   ·exact ltE_ok.tr _ _ _ ((ltE_gt e.1 x).2 (by omega)) h3
  rw [List.foldl_cons,insP]
  by_cases h0:cmpLab e.1 x=0
  ·have hs:insStep x n (acc,false) e=(acc++[(x,insB ltI n e.2)],true):=by
    simp [insStep,h0]
   rw [hs,fold_done l (hgt (by omega)),if_pos h0]
   simp
  ·by_cases hp:0<cmpLab e.1 x
   ·have hs:insStep x n (acc,false) e=(acc++[(x,[n])]++[e],true):=by
     simp [insStep,h0,hp]
    rw [hs,fold_done l (hgt (by omega)),if_neg h0,if_pos hp]
    simp
   ·have hs:insStep x n (acc,false) e=(acc++[e],false):=by
     simp [insStep,h0,hp]
    rw [hs,ih h2,if_neg h0,if_neg hp]
    simp
theorem insR_asc {x:Lab} {n:Int} {l:List Ent} (ha:AscB ltE (l.map Prod.fst)):insR x n l=insP x n l:=by
 have h:=fold_asc (x:=x) (n:=n) l ha []
 rw [List.nil_append] at h
 exact h
theorem insP_map {y:Lab} {i:Int} (F:Lab→List Int) (T:List Lab) (ha:AscB ltE T) :
  insP y i (T.map fun x=>(x,F x))=(insB ltE y T).map fun x=>(x,if x=y then (if y∈T then insB ltI i (F y) else [i]) else F x):=by
 induction T with
 | nil=>simp [insP,insB]
 | cons t T ih=>
  obtain ⟨h1,h2⟩:=List.pairwise_cons.1 ha
  rw [List.map_cons,insP]
  simp only
  rcases cmpLab_ok.dom t y with e | e | e
  ·have hlt:ltE t y=true:=by unfold ltE;rw [e];rfl
   have hne:t≠y:=ltE_ok.toLtPre.ne hlt
   have hi:insB ltE y (t::T)=t::insB ltE y T:=by rw [insB,if_pos hlt]
   rw [if_neg (by omega),if_neg (by omega),hi,List.map_cons,if_neg hne,ih h2]
   congr 1
   refine List.map_congr_left fun x _=>?_
   have:y∈t::T↔y∈T:=⟨fun h=>(List.mem_cons.1 h).resolve_left (fun e=>hne e.symm),fun h=>List.mem_cons_of_mem _ h⟩
   simp only [this]
  ·obtain rfl:t=y:=(cmpLab_ok.eq _ _).1 e
   have hir:ltE t t=false:=ltE_ok.irr t
   have hi:insB ltE t (t::T)=t::T:=by rw [insB,if_neg (by rw [hir];decide),if_neg (by rw [hir];decide)]
   rw [if_pos e,hi,List.map_cons,if_pos rfl,if_pos (by simp)]
   congr 1
   refine List.map_congr_left fun x hx=>?_
   rw [if_neg (fun e:x=t=>by subst e;have:=h1 x hx;rw [hir] at this;cases this)]
  ·have hlt:ltE y t=true:=(ltE_gt t y).2 (by omega)
   have hnl:ltE t y=false:=ltE_ok.toLtPre.asy hlt
   have hnm:y∉t::T:=fun hm=>by
    rcases List.mem_cons.1 hm with f | f
    ·subst f;rw [ltE_ok.irr] at hlt;cases hlt
    ·have:=h1 y f;rw [hnl] at this;cases this
   have hi:insB ltE y (t::T)=y::t::T:=by rw [insB,if_neg (by rw [hnl];decide),if_pos hlt]
   rw [if_neg (by omega),if_pos (by omega),hi,List.map_cons,if_pos rfl,if_neg hnm]
   congr 1
   rw [List.map_cons,if_neg (fun e:t=y=>hnm (by rw [e];simp))]
   congr 1
   refine List.map_congr_left fun x hx=>?_
   rw [if_neg (fun e:x=y=>hnm (by rw [← e];simp [hx]))]
def addS (i:Int) (l:List Ent) (s:List Lab):List Ent:=s.foldl (fun l x=>insR x i l) l
theorem addS_snoc (i:Int) (l:List Ent) (s:List Lab) (x:Lab):addS i l (s++[x])=insR x i (addS i l s):=by rw [addS,List.foldl_append];rfl
def buildTo (l:List (List Lab)) (k:Nat):List Ent:=(List.range k).foldl (fun acc (i:Nat)=>addS (i:Int) acc (l.getD i [])) []
theorem buildTo_succ (l:List (List Lab)) (k:Nat):buildTo l (k+1)=addS (k:Int) (buildTo l k) (l.getD k []):=by
 rw [buildTo,List.range_succ,List.foldl_append];rfl
def buildP (l:List (List Lab)):List Ent:=buildTo l l.length
def posTo (l:List (List Lab)) (k:Nat) (x:Lab):List Int:=((List.range k).filter fun i=>decide (x∈l.getD i [])).map fun i:Nat=>(i:Int)
theorem posTo_succ (l:List (List Lab)) (k:Nat) (x:Lab):posTo l (k+1) x=posTo l k x++if x∈l.getD k [] then [(k:Int)] else []:=by
 rw [posTo,List.range_succ,List.filter_append,List.map_append]
 by_cases h:x∈l.getD k []
 ·rw [if_pos h,List.filter_cons_of_pos (by simpa using h)];rfl
 ·rw [if_neg h,List.filter_cons_of_neg (by simpa using h)];rfl
theorem posTo_lt (l:List (List Lab)) (k:Nat) (x:Lab):∀y∈posTo l k x,0≤y∧y<(k:Int):=by
 intro y hy
 obtain ⟨i,hi,rfl⟩:=List.mem_map.1 hy
 have:=List.mem_range.1 (List.mem_filter.1 hi).1
 omega
theorem posTo_asc (l:List (List Lab)) (k:Nat) (x:Lab):AscB ltI (posTo l k x):=by
 unfold posTo AscB
 rw [List.pairwise_map]
 refine List.Pairwise.imp (fun h=>?_) (List.Pairwise.filter _ List.pairwise_lt_range)
 simp only [ltI,decide_eq_true_eq];omega
theorem posTo_mem (l:List (List Lab)) (k:Nat) (x:Lab) (i:Int):i∈posTo l k x↔∃j:Nat,i=(j:Int)∧j<k∧x∈l.getD j []:=by
 simp only [posTo,List.mem_map,List.mem_filter,List.mem_range,decide_eq_true_eq]
 constructor
 ·rintro ⟨j,⟨h1,h2⟩,rfl⟩;exact ⟨j,rfl,h1,h2⟩
 ·rintro ⟨j,rfl,h1,h2⟩;exact ⟨j,⟨h1,h2⟩,rfl⟩
def flatTo (l:List (List Lab)) (k:Nat):List Lab:=(l.take k).flatten
theorem flatTo_succ {l:List (List Lab)} {k:Nat} (h:k<l.length):flatTo l (k+1)=flatTo l k++l.getD k []:=by
 rw [flatTo,List.take_add_one,List.getElem?_eq_getElem h,List.flatten_append,List.getD_eq_getElem?_getD,List.getElem?_eq_getElem h]
 simp [flatTo]
def idxTo (l:List (List Lab)) (k:Nat):List Ent:=(tabB ltE (flatTo l k)).map fun x=>(x,posTo l k x)
def idxP (l:List (List Lab)):List Ent:=idxTo l l.length
theorem posTo_none {l:List (List Lab)} {k:Nat} {x:Lab} (h:x∉flatTo l k):posTo l k x=[]:=by
 rw [posTo,List.filter_eq_nil_iff.2]
 ·rfl
 ·intro i hi
  simp only [decide_eq_true_eq]
  intro hx
  apply h
  rw [flatTo,List.mem_flatten]
  have hik:=List.mem_range.1 hi
  by_cases hl:i<l.length
  ·refine ⟨l[i],?_,by rwa [List.getD_eq_getElem?_getD,List.getElem?_eq_getElem hl] at hx⟩
   exact List.mem_of_getElem? (i:=i) (by rw [List.getElem?_take,if_pos hik,List.getElem?_eq_getElem hl])
  ·rw [List.getD_eq_getElem?_getD,List.getElem?_eq_none (by omega)] at hx
   cases hx
theorem addS_idx {l:List (List Lab)} {k:Nat} (h:k<l.length) (s:List Lab):addS (k:Int) (idxTo l k) s=(tabB ltE (flatTo l k++s)).map fun x=>(x,posTo l k x++if x∈s then [(k:Int)] else []):=by
 induction s using snoc_ind with
 | h0=>simp [addS,idxTo]
 | h1 s y ih=>
  rw [addS_snoc,ih]
  have hT:AscB ltE (tabB ltE (flatTo l k++s)):=tabB_asc ltE_ok _
  have hfst:((tabB ltE (flatTo l k++s)).map fun x=>(x,posTo l k x++if x∈s then [(k:Int)] else [])).map Prod.fst=tabB ltE (flatTo l k++s):=by
   rw [List.map_map]
   exact (List.map_congr_left (fun x _=>rfl)).trans (List.map_id _)
  rw [insR_asc (by rw [hfst];exact hT),insP_map (fun x=>posTo l k x++if x∈s then [(k:Int)] else []) _ hT,← List.append_assoc,tabB_snoc]
  refine List.map_congr_left fun x _=>?_
  by_cases e:x=y
  ·subst e
   have hy:x∈s++[x]:=by simp
   rw [if_pos rfl,if_pos hy]
   by_cases hm:x∈tabB ltE (flatTo l k++s)
   ·rw [if_pos hm]
    by_cases hs:x∈s
    ·rw [if_pos hs,insB_at ltI_ok.toLtPre _ _ [] (fun z hz=>by have:=posTo_lt l k x z hz;simp only [ltI,decide_eq_true_eq];omega)]
    ·rw [if_neg hs,List.append_nil,insB_last ltI_ok.toLtPre _ _ (fun z hz=>by have:=posTo_lt l k x z hz;simp only [ltI,decide_eq_true_eq];omega)]
   ·rw [if_neg hm,posTo_none (fun h=>hm ((tabB_mem ltE_ok _ _).2 (by simp [h])))]
    rfl
  ·rw [if_neg e]
   have:x∈s++[y]↔x∈s:=by simp [e]
   simp only [this]
theorem build_idxTo (l:List (List Lab)) (k:Nat) (h:k≤l.length):buildTo l k=idxTo l k:=by
 induction k with
 | zero=>simp [buildTo,idxTo,flatTo,tabB,tabFrom]
 | succ k ih=>
  rw [buildTo_succ,ih (by omega),addS_idx (by omega),idxTo,flatTo_succ (by omega)]
  refine List.map_congr_left fun x _=>?_
  rw [posTo_succ]
theorem build_idx (l:List (List Lab)):buildP l=idxP l:=build_idxTo l _ (Nat.le_refl _)
theorem idx_asc (l:List (List Lab)):AscB ltE ((idxP l).map Prod.fst):=by
 have:(idxP l).map Prod.fst=tabB ltE (flatTo l l.length):=by
  rw [idxP,idxTo,List.map_map]
  exact (List.map_congr_left (fun x _=>rfl)).trans (List.map_id _)
 rw [this]
 exact tabB_asc ltE_ok _
theorem idx_mem {l:List (List Lab)} {e:Ent} (h:e∈idxP l):e.1∈l.flatten∧e.2=posTo l l.length e.1:=by
 obtain ⟨x,hx,rfl⟩:=List.mem_map.1 h
 refine ⟨?_,rfl⟩
 have:=(tabB_mem ltE_ok _ _).1 hx
 rwa [flatTo,List.take_length] at this
end Go.Proofs.YtdcgbgecbeegmaaGreatDoor
end
