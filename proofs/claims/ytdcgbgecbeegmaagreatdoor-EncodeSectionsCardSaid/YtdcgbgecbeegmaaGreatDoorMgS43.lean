/- Texts 43. -/
import Derived.Test.YtdcgbgecbeegmaaGreatDoorMgSA
import Derived.Test.YtdcgbgecbeegmaaGreatDoorMgS42
set_option linter.unusedVariables false
set_option linter.unusedSimpArgs false
set_option maxHeartbeats 400000000
set_option maxRecDepth 100000
section
namespace Go.Proofs.YtdcgbgecbeegmaaGreatDoor
open Go Go.RowKit
theorem U0 {b:List AJ} {i:Nat} {s:AJ} (h:b[i]? = some s):Aw (b.take (i+1))=Aw (b.take i)+s.2.length:=by
 rw [zAL,h,Eh];simp [Aw]
theorem SW (bv:Value) (b:List AJ) (w:World) (h:FU w bv b) (hn:b.length≤1000000) (hs:Aw b≤1000000000) :
  Calls Tryz.prog 89 #[bv] w fun e w'=>e = .returned (.int .i64 (Aw b:Int))∧Ck w w':=by
 have H:=zAA h;have HS:=zAA hs
 obtain ⟨p,c,hv⟩:=h.shape
 subst hv
 have Xk:(b.length:Int)≤1000000:=by omega
 clear h hs hn
 go_enter Tryz.func89,Tryz.ntmps89
 go_wp2_with fail
 go_loopw [3,8] (fun nv iv wr=>∃(i N:Nat),i≤b.length∧iv = .int .i64 (i:Int)∧nv = .int .i64 (N:Int)∧Hid (Aw (b.take i)=N)∧Hid (Ck w wr)) (fun _ iv _=>b.length-(intOf iv).toNat)
 case atStart=>exact ⟨0,0,zAJ _,rfl,rfl,by show _=_;simp [Aw],Ck.refl _⟩
 case round=>
  obtain ⟨i,N,hi,rfl,rfl,HN,HG⟩:=hrel
  have KM:(i:Int)≤1000000:=by omega
  have hNm:(N:Int)≤1000000000:=by have:=HN.out;have:=CY b i;have:=HS.out;omega
  by_cases Aq:i<b.length
  ·have AF:(i:Int)<(b.length:Int):=by omega
   obtain ⟨s,hx⟩:∃s,b[i]? = some s:=⟨_,zAC Aq⟩
   obtain ⟨AM,off,h1,h2,e,⟨p1,k1,e1⟩,⟨p2,k2,e2⟩,Ex⟩:=H.out.always hx
   subst e
   subst e1
   subst e2
   obtain ⟨c1,c2,_⟩:=Ex wr HG.out.below
   have lQ:Hid (Aw (b.take (i+1))=N+s.2.length):=by show _=_;rw [U0 hx,HN.out]
   have hsum:(N:Int)+(s.2.length:Int)≤1000000000:=by have:=lQ.out;have:=CY b (i+1);have:=HS.out;omega
   have Ub:Hid (Ck w (wr.alloc (.cells #[.slice p1 s.1.length k1,.slice p2 s.2.length k2] 51))):=HG.out.alloc _
   clear hx Ex HG
   generalize s.2.length=m at *
   go_wp2_with fail
   go_round
   case rel=>exact ⟨i+1,N+m,by omega,by go_num,by go_num,lQ.out,Ub.out⟩
   case measure=>simp [intOf];omega
  ·have AF:¬(i:Int)<(b.length:Int):=by omega
   have HE:Hid (Aw b=N):=by have:=HN.out;rw [zAF (by omega)] at this;exact this
   go_wp2_with fail
   go_ret
   exact ⟨by rw [HE.out];rfl,HG.out⟩
theorem N2 (bv:Value) (b:List AJ) (w:World) (h:FU w bv b) (hs:KS b) :
  Calls Tryz.prog 57 #[bv] w fun e w'=>e = .returned (.bool false)∧Ck w w':=by
 have HS:=zAA (SW bv b w h (by have:=hs.len;omega) (by have:=hs.ko;omega))
 obtain ⟨p,c,hv⟩:=h.shape
 subst hv
 have h1:¬(1048576:Int)<(b.length:Int):=by have:=hs.len;omega
 have h2:¬(16777216:Int)<(Aw b:Int):=by have:=hs.ko;omega
 clear h hs
 generalize Aw b=N at *
 go_enter Tryz.func57,Tryz.ntmps57
 go_wp2_with fail
 refine HS.out.mono ?_
 rintro e w1 ⟨rfl,hG⟩
 have HG:=zAA hG
 have hd:decide ((16777216:Int)<(N:Int))=false:=zAV (by omega)
 clear h2 hG HS
 go_wp2_with fail
 go_ret
 exact ⟨by simp,HG.out⟩
section
def J6 (a b:Int):Int:=if a<b then -1 else if b<a then 1 else 0
def Qb (c:Nat→Int) (e0:Int):Nat→Nat→Int
 | _,0=>0
 | k,n+1=>if c k=0 then e0 else if c k<0 then 16 else Qb c e0 (k+1) n
section
variable {α:Type} (cmp:α→α→Int) (e0:Int)
def RE:List α→Int
 | a::b::l=>if cmp b a=0 then e0 else if cmp b a<0 then 16 else RE (b::l)
 | _=>0
def mu (l:List α) (k:Nat):Int:=match l[k]?,l[k+1]? with
 | some a,some b=>cmp b a
 | _,_=>0
theorem cS {l:List α} {k:Nat} {a b:α} (h:l[k]? = some a) (h':l[k+1]? = some b):mu cmp l k=cmp b a:=by simp [mu,h,h']
theorem jQ (x:α) (l:List α) (n:Nat):∀k,Qb (mu cmp (x::l)) e0 (k+1) n=Qb (mu cmp l) e0 k n:=by
 induction n with
 | zero=>intro k;rfl
 | succ n ih=>
  intro k
  have hc:mu cmp (x::l) (k+1)=mu cmp l k:=by simp [mu]
  rw [Qb,Qb,hc,ih (k+1)]
theorem ah (l:List α):Qb (mu cmp l) e0 0 (l.length-1)=RE cmp e0 l:=by
 induction l with
 | nil=>rfl
 | cons a l ih=>
  cases l with
  | nil=>rfl
  | cons b l=>
   have hl:(a::b::l).length-1=l.length+1:=rfl
   have hc:mu cmp (a::b::l) 0=cmp b a:=cS cmp rfl rfl
   have hs:=jQ cmp e0 a (b::l) l.length 0
   have dB:(b::l).length-1=l.length:=rfl
   rw [dB] at ih
   rw [hl,Qb,RE,hc,hs,ih]
end
theorem VP (a b:Int):J6 a b=0↔a=b:=by unfold J6;split<;>(try split)<;>omega
theorem S7 (a b:Int):J6 a b<0↔a<b:=by unfold J6;split<;>(try split)<;>omega
theorem kP (l:List Dt):RE (fun x y:Dt=>J6 x.1 y.1) 20 l=(Bj l:Int):=by
 have key:∀(l:List Dt) (a:Dt),RE (fun x y:Dt=>J6 x.1 y.1) 20 (a::l)=(BO a.1 l:Int):=by
  intro l
  induction l with
  | nil=>intro a;rfl
  | cons b l ih=>
   intro a
   rw [RE,BO,ih b]
   by_cases h1:b.1=a.1
   ·rw [if_pos ((VP _ _).2 h1),if_pos h1];rfl
   ·rw [if_neg (fun e=>h1 ((VP _ _).1 e)),if_neg h1]
    by_cases h2:b.1<a.1
    ·rw [if_pos ((S7 _ _).2 h2),if_pos h2];rfl
    ·rw [if_neg (fun e=>h2 ((S7 _ _).1 e)),if_neg h2]
 cases l with
 | nil=>rfl
 | cons a l=>exact key l a
theorem Wl {d:List Dt} (h:PJ N1 d):Bj d=0∨Bj d=20:=by
 have key:∀(l:List Dt) (a:Dt),PJ N1 (a::l)→BO a.1 l=0∨BO a.1 l=20:=by
  intro l
  induction l with
  | nil=>intro a _;exact Or.inl rfl
  | cons b l ih=>
   intro a h
   obtain ⟨h1,h2⟩:=zAU.1 h
   have hb:=h1 b (by simp)
   simp [N1] at hb
   rw [BO]
   split
   ·exact Or.inr rfl
   ·rw [if_neg (by omega)];exact ih b h2
 cases d with
 | nil=>exact Or.inl rfl
 | cons a l=>exact key l a h
theorem fm {l l':List Dt} (hp:l'.Perm l) (hs:PJ N1 l'):Bj l'=Bj (CW N1 l)∧(Bj l'=0→l'=CW N1 l):=by
 have hz:Bj l'=0↔Bj (CW N1 l)=0:=by
  rw [fx,GV]
  exact ⟨fun h=>(KR.perm hp).1 (DC h),fun h=>ML hs ((KR.perm hp).2 h)⟩
 refine ⟨?_,fun h=>?_⟩
 ·rcases Wl hs with h1 | h1<;>rcases Wl (Qk M0 l) with h2 | h2
  ·rw [h1,h2]
  ·have:=hz.1 h1;omega
  ·have:=hz.2 h2;omega
  ·rw [h1,h2]
 ·have ha:=(GV l').1 h
  rw [← Pi M0 ha]
  exact Wc M0 (DC ha) hp
theorem rO {d:List AJ} (h:PJ P9 d):RE (fun x y:AJ=>Az x.1 y.1) 19 d=if L9 d=true then 19 else 0:=by
 induction d with
 | nil=>rfl
 | cons a l ih=>
  obtain ⟨h1,h2⟩:=zAU.1 h
  cases l with
  | nil=>rfl
  | cons b l=>
   have hb:=h1 b (by simp)
   simp [P9] at hb
   rw [RE,L9,ih h2]
   have hd:=BJ.Yo b.1 a.1
   have hf:=BJ.flip a.1 b.1
   by_cases h0:Az b.1 a.1=0
   ·have h0':Az a.1 b.1=0:=by rw [h0] at hf;omega
    rw [if_pos h0,zBA h0'];rfl
   ·have h0':¬Az a.1 b.1=0:=fun e=>h0 (by rw [e] at hf;omega)
    rw [if_neg h0,if_neg (by omega),zAV h0',Bool.false_or]
theorem fo {l l':List AJ} (hp:l'.Perm l) (hs:PJ P9 l'):L9 l'=L9 (CW P9 l)∧(L9 l'=false→l'=CW P9 l):=by
 have hz:L9 l'=false↔L9 (CW P9 l)=false:=by
  rw [mj,MK hs]
  exact ⟨fun h=>(KR.perm hp).1 (DC h),fun h=>ML hs ((KR.perm hp).2 h)⟩
 refine ⟨?_,fun h=>?_⟩
 ·cases h1:L9 l' with
  | false=>rw [hz.1 h1]
  | true=>
   cases h2:L9 (CW P9 l) with
   | true=>rfl
   | false=>rw [hz.2 h2] at h1;cases h1
 ·have ha:=(MK hs).1 h
  rw [← Pi J4 ha]
  exact Wc J4 (DC ha) hp
end
theorem VC (a:Int) (w:World):Calls Tryz.prog 175 #[.int .i64 a] w fun e w'=>e = .returned (.bool false)∧w'=w:=by
 go_enter Tryz.func175,Tryz.ntmps175
 go_wp2_with fail
 go_ret
 exact ⟨rfl,rfl⟩
theorem cY (a b:Int) (w:World):Calls Tryz.prog 128 #[.int .i64 a,.int .i64 b] w fun e w'=>e = .returned (.int .i64 (J6 a b))∧w'=w:=by
 have H1:=zAA (VC a);have H2:=zAA (VC b)
 by_cases h:a<b
 ·have HE:Hid (J6 a b = -1):=if_pos h
  go_enter Tryz.func128,Tryz.ntmps128
  go_wp2_with fail
  refine (H1.out _).mono ?_
  rintro e w' ⟨rfl,rfl⟩
  go_wp2_with fail
  refine (H2.out _).mono ?_
  rintro e w' ⟨rfl,rfl⟩
  go_wp2_with fail
  go_ret
  exact ⟨by rw [HE.out];rfl,rfl⟩
 ·by_cases h2:b<a
  ·have HE:Hid (J6 a b=1):=by show _=_;rw [J6,if_neg h,if_pos h2]
   go_enter Tryz.func128,Tryz.ntmps128
   go_wp2_with fail
   refine (H1.out _).mono ?_
   rintro e w' ⟨rfl,rfl⟩
   go_wp2_with fail
   refine (H2.out _).mono ?_
   rintro e w' ⟨rfl,rfl⟩
   go_wp2_with fail
   go_ret
   exact ⟨by rw [HE.out];rfl,rfl⟩
  ·have HE:Hid (J6 a b=0):=by show _=_;rw [J6,if_neg h,if_neg h2]
   go_enter Tryz.func128,Tryz.ntmps128
   go_wp2_with fail
   refine (H1.out _).mono ?_
   rintro e w' ⟨rfl,rfl⟩
   go_wp2_with fail
   refine (H2.out _).mono ?_
   rintro e w' ⟨rfl,rfl⟩
   go_wp2_with fail
   go_ret
   exact ⟨by rw [HE.out];rfl,rfl⟩
theorem Jq (x y:Dt) (w:World) :
  Calls Tryz.prog 92 #[.agg #[.int .i64 x.1,.int .u64 (x.2:Int)],.agg #[.int .i64 y.1,.int .u64 (y.2:Int)]] w fun e w'=>e = .returned (.int .i64 (J6 x.1 y.1))∧Ck w w':=by
 obtain ⟨xt,xv⟩:=x
 obtain ⟨yt,yv⟩:=y
 show Calls Tryz.prog 92 #[.agg #[.int .i64 xt,.int .u64 (xv:Int)],.agg #[.int .i64 yt,.int .u64 (yv:Int)]] w fun e w'=>e = .returned (.int .i64 (J6 xt yt))∧Ck w w'
 have HC:=zAA (fun w=>cY xt yt w)
 generalize J6 xt yt=o at *
 have Ub:Hid (Ck w ((w.alloc (.cells #[.int .i64 xt,.int .u64 (xv:Int)] 110)).alloc (.cells #[.int .i64 yt,.int .u64 (yv:Int)] 110))):=((Ck.refl w).alloc _).alloc _
 go_enter Tryz.func92,Tryz.ntmps92
 go_wp2_with fail
 refine (HC.out _).mono ?_
 rintro e w' ⟨rfl,rfl⟩
 clear HC
 go_wp2_with fail
 go_ret
 exact ⟨rfl,Ub.out⟩
theorem Rd.yG {w w':World} {k:Nat} {v:Value} {n:Nat} {cs:List Value} (h:Rd w k v n cs) (hg:Ck w w'):Rd w' k v n cs:=h.below hg.below
theorem GI (x y:Hd) (s t:AJ) (w:World) (hx:En w x s) (hy:En w y t) (hs:s.1.length≤1000000) (ht:t.1.length≤1000000) :
  Calls Tryz.prog 60 #[.agg #[x.1,x.2],.agg #[y.1,y.2]] w fun e w'=>e = .returned (.int .i64 (Az s.1 t.1))∧Ck w w':=by
 obtain ⟨x1,x2⟩:=x
 obtain ⟨y1,y2⟩:=y
 obtain ⟨p1,c1,e1⟩:=hx.1.shape
 obtain ⟨p2,c2,e2⟩:=hx.2.shape
 obtain ⟨p3,c3,e3⟩:=hy.1.shape
 obtain ⟨p4,c4,e4⟩:=hy.2.shape
 simp only at e1 e2 e3 e4
 subst e1 e2 e3 e4
 have Ub:Hid (Ck w ((w.alloc (.cells #[.slice p1 s.1.length c1,.slice p2 s.2.length c2] 51)).alloc (.cells #[.slice p3 t.1.length c3,.slice p4 t.2.length c4] 51))):=((Ck.refl w).alloc _).alloc _
 have HC:=zAA (SR _ _ s.1 t.1 _ (hx.1.yG Ub.out) (hy.1.yG Ub.out) hs ht)
 clear hx hy hs ht
 generalize Az s.1 t.1=o at *
 simp only at HC
 go_enter Tryz.func60,Tryz.ntmps60
 go_wp2_with fail
 refine HC.out.mono ?_
 rintro e w' ⟨rfl,hG⟩
 have Uc:=zAA (Ub.out.trans hG)
 clear hG HC Ub
 go_wp2_with fail
 go_ret
 exact ⟨rfl,Uc.out⟩
theorem dY (lv:Value) (hs:List Hd) (g:FuncId) (c:Nat→Int) (e0:Int) (w:World) (h:Rd w 2 lv hs.length (two Prod.fst Prod.snd hs)) (hn:hs.length≤1000000)
  (sA:∀(args:Array Value) (w:World),(callFunc g args).run Tryz.prog w = .ok (.enter g args) w)
  (hc:∀(i:Nat) (a b:Hd),hs[i]? = some a→hs[i+1]? = some b→∀w',Ck w w'→Calls Tryz.prog g #[.agg #[b.1,b.2],.agg #[a.1,a.2]] w' fun e w''=>e = .returned (.int .i64 (c i))∧Ck w' w'') :
  Calls Tryz.prog 91 #[lv,.func (.func g) #[] #[],.int .i64 e0] w fun e w'=>e = .returned (.int .i64 (Qb c e0 0 (hs.length-1)))∧Ck w w':=by
 have H:=zAA h;have HC:=zAA hc
 obtain ⟨p,cp,hv⟩:=h.shape
 subst hv
 have Xk:(hs.length:Int)≤1000000:=by omega
 clear h hn hc
 go_enter Tryz.func91,Tryz.ntmps91
 go_wp2_with fail
 go_step3
 go_wp2_with fail
 go_step3
 go_wp2_with fail
 go_loopw [7,8] (fun ev iv wr=>∃(i k:Nat),i=k+1∧(i≤hs.length∨k=0)∧ev = .int .i64 0∧iv = .int .i64 (i:Int)∧Hid (Qb c e0 0 (hs.length-1)=Qb c e0 k (hs.length-1-k))∧Hid (Ck w wr)) (fun _ iv _=>hs.length+1-(intOf iv).toNat)
 case atStart=>exact ⟨1,0,rfl,Or.inr rfl,rfl,rfl,rfl,Ck.refl _⟩
 case round=>
  obtain ⟨i,k,PC,hi,rfl,rfl,HP,HG⟩:=hrel
  by_cases Aq:i<hs.length
  ·have AF:(i:Int)<(hs.length:Int):=by omega
   have sE:(i:Int)-1=(k:Int):=by omega
   have Fl:(k:Int)<(hs.length:Int):=by omega
   have hwk:IntKind.i64.wrap (k:Int)=(k:Int):=zEZ _ (by omega)
   obtain ⟨⟨a1,a2⟩,ha⟩:∃x,hs[k]? = some x:=⟨_,zAC (by omega)⟩
   obtain ⟨⟨b1,b2⟩,hb⟩:∃x,hs[i]? = some x:=⟨_,zAC Aq⟩
   have BH:Hid (Qb c e0 0 (hs.length-1)=if c k=0 then e0 else if c k<0 then 16 else Qb c e0 (k+1) (hs.length-1-(k+1))):=by
    show _=_
    rw [HP.out]
    obtain ⟨m,hm⟩:∃m,hs.length-1-k=m+1:=⟨hs.length-1-k-1,by omega⟩
    rw [hm,show hs.length-1-(k+1)=m by omega]
    rfl
   obtain ⟨b0,o0,e⟩:=EG H.out ha
   subst e
   have HR:Hid (∀n os,Rd (Go.Sort.grow (wr.drewN n) os) 2 (.slice (some ⟨b0,o0,none⟩) hs.length cp) hs.length (two Prod.fst Prod.snd hs)):=fun n os=>H.out.below (HG.out.grow n os).below
   have x0:∀n os,(Go.Sort.grow (wr.drewN n) os).cell? ⟨b0,o0+k*2,none⟩=some a1:=fun n os=>(Bm (HR.out n os) ha).1
   have x1:∀n os,(Go.Sort.grow (wr.drewN n) os).cell? ⟨b0,o0+k*2+1,none⟩=some a2:=fun n os=>(Bm (HR.out n os) ha).2
   have y0:∀n os,(Go.Sort.grow (wr.drewN n) os).cell? ⟨b0,o0+i*2,none⟩=some b1:=fun n os=>(Bm (HR.out n os) hb).1
   have y1:∀n os,(Go.Sort.grow (wr.drewN n) os).cell? ⟨b0,o0+i*2+1,none⟩=some b2:=fun n os=>(Bm (HR.out n os) hb).2
   have ma:Hid (∀n os,Calls Tryz.prog g #[.agg #[b1,b2],.agg #[a1,a2]] (Go.Sort.grow (wr.drewN n) os) fun e w'=>e = .returned (.int .i64 (c k))∧∃q os',w'=Go.Sort.grow ((Go.Sort.grow (wr.drewN n) os).drewN q) os'):=fun n os=>HC.out k (a1,a2) (b1,b2) ha (by rw [← PC];exact hb) _ (HG.out.grow n os)
   have yo:=zAA PC
   clear ha hb HR HP PC hi
   generalize c k=o at *
   go_wp2_with fail
   have mixed : Tryz.prog.follows .mixedOrders=true:=by kernel_rfl
   go_quiet_grown (first | (go_at_fn g;exact Calls.grown_of (ma.out _ _)))
   have Ud:Hid (Ck w (Go.Sort.grow (wr.drewN nq) osq)):=HG.out.grow nq osq
   clear x0 x1 y0 y1 ma HG mixed sE Fl hwk
   show Exit.then _ _ _ _ (Go.Sort.grow (wr.drewN nq) osq)
   generalize Go.Sort.grow (wr.drewN nq) osq=w4 at *
   by_cases ho:o=0
   ·subst ho
    have HE:Hid (Qb c e0 0 (hs.length-1)=e0):=BH.out
    clear BH
    go_wp2_with fail
    try rw [zFS]
    go_ret
    exact ⟨by rw [HE.out];rfl,Ud.out⟩
   ·have hob:(o == 0)=false:=by rw [zAQ];exact ho
    by_cases h2:o<0
    ·have HE:Hid (Qb c e0 0 (hs.length-1)=16):=by have:=BH.out;rw [if_neg ho,if_pos h2] at this;exact this
     clear BH
     go_wp2_with fail
     try rw [zFS]
     go_ret
     exact ⟨by rw [HE.out];rfl,Ud.out⟩
    ·have HE:Hid (Qb c e0 0 (hs.length-1)=Qb c e0 i (hs.length-1-i)):=by have:=BH.out;rw [if_neg ho,if_neg h2,← yo.out] at this;exact this
     clear BH
     go_wp2_with fail
     go_round
     case rel=>exact ⟨i+1,i,rfl,Or.inl (by omega),rfl,by go_num,HE.out,Ud.out⟩
     case measure=>simp [intOf];omega
  ·have AF:¬(i:Int)<(hs.length:Int):=by omega
   have HE:Hid (Qb c e0 0 (hs.length-1)=0):=by
    show _=_
    rw [HP.out,show hs.length-1-k=0 by omega]
    rfl
   clear PC hi
   go_wp2_with fail
   try rw [zFS]
   go_ret
   exact ⟨by rw [HE.out];rfl,HG.out⟩
theorem dX (lv:Value) (hs:List Hd) (g:FuncId) (c:Nat→Int) (e0:Int) (w:World) (h:Rd w 2 lv hs.length (two Prod.fst Prod.snd hs)) (hn:hs.length≤1000000)
  (sA:∀(args:Array Value) (w:World),(callFunc g args).run Tryz.prog w = .ok (.enter g args) w)
  (hc:∀(i:Nat) (a b:Hd),hs[i]? = some a→hs[i+1]? = some b→∀w',Ck w w'→Calls Tryz.prog g #[.agg #[b.1,b.2],.agg #[a.1,a.2]] w' fun e w''=>e = .returned (.int .i64 (c i))∧Ck w' w'') :
  Calls Tryz.prog 59 #[lv,.func (.func g) #[] #[],.int .i64 e0] w fun e w'=>e = .returned (.int .i64 (Qb c e0 0 (hs.length-1)))∧Ck w w':=by
 have H:=zAA h;have HC:=zAA hc
 obtain ⟨p,cp,hv⟩:=h.shape
 subst hv
 have Xk:(hs.length:Int)≤1000000:=by omega
 clear h hn hc
 go_enter Tryz.func59,Tryz.ntmps59
 go_wp2_with fail
 go_step3
 go_wp2_with fail
 go_step3
 go_wp2_with fail
 go_loopw [7,8] (fun ev iv wr=>∃(i k:Nat),i=k+1∧(i≤hs.length∨k=0)∧ev = .int .i64 0∧iv = .int .i64 (i:Int)∧Hid (Qb c e0 0 (hs.length-1)=Qb c e0 k (hs.length-1-k))∧Hid (Ck w wr)) (fun _ iv _=>hs.length+1-(intOf iv).toNat)
 case atStart=>exact ⟨1,0,rfl,Or.inr rfl,rfl,rfl,rfl,Ck.refl _⟩
 case round=>
  obtain ⟨i,k,PC,hi,rfl,rfl,HP,HG⟩:=hrel
  by_cases Aq:i<hs.length
  ·have AF:(i:Int)<(hs.length:Int):=by omega
   have sE:(i:Int)-1=(k:Int):=by omega
   have Fl:(k:Int)<(hs.length:Int):=by omega
   have hwk:IntKind.i64.wrap (k:Int)=(k:Int):=zEZ _ (by omega)
   obtain ⟨⟨a1,a2⟩,ha⟩:∃x,hs[k]? = some x:=⟨_,zAC (by omega)⟩
   obtain ⟨⟨b1,b2⟩,hb⟩:∃x,hs[i]? = some x:=⟨_,zAC Aq⟩
   have BH:Hid (Qb c e0 0 (hs.length-1)=if c k=0 then e0 else if c k<0 then 16 else Qb c e0 (k+1) (hs.length-1-(k+1))):=by
    show _=_
    rw [HP.out]
    obtain ⟨m,hm⟩:∃m,hs.length-1-k=m+1:=⟨hs.length-1-k-1,by omega⟩
    rw [hm,show hs.length-1-(k+1)=m by omega]
    rfl
   obtain ⟨b0,o0,e⟩:=EG H.out ha
   subst e
   have HR:Hid (∀n os,Rd (Go.Sort.grow (wr.drewN n) os) 2 (.slice (some ⟨b0,o0,none⟩) hs.length cp) hs.length (two Prod.fst Prod.snd hs)):=fun n os=>H.out.below (HG.out.grow n os).below
   have x0:∀n os,(Go.Sort.grow (wr.drewN n) os).cell? ⟨b0,o0+k*2,none⟩=some a1:=fun n os=>(Bm (HR.out n os) ha).1
   have x1:∀n os,(Go.Sort.grow (wr.drewN n) os).cell? ⟨b0,o0+k*2+1,none⟩=some a2:=fun n os=>(Bm (HR.out n os) ha).2
   have y0:∀n os,(Go.Sort.grow (wr.drewN n) os).cell? ⟨b0,o0+i*2,none⟩=some b1:=fun n os=>(Bm (HR.out n os) hb).1
   have y1:∀n os,(Go.Sort.grow (wr.drewN n) os).cell? ⟨b0,o0+i*2+1,none⟩=some b2:=fun n os=>(Bm (HR.out n os) hb).2
   have ma:Hid (∀n os,Calls Tryz.prog g #[.agg #[b1,b2],.agg #[a1,a2]] (Go.Sort.grow (wr.drewN n) os) fun e w'=>e = .returned (.int .i64 (c k))∧∃q os',w'=Go.Sort.grow ((Go.Sort.grow (wr.drewN n) os).drewN q) os'):=fun n os=>HC.out k (a1,a2) (b1,b2) ha (by rw [← PC];exact hb) _ (HG.out.grow n os)
   have yo:=zAA PC
   clear ha hb HR HP PC hi
   generalize c k=o at *
   go_wp2_with fail
   have mixed : Tryz.prog.follows .mixedOrders=true:=by kernel_rfl
   go_quiet_grown (first | (go_at_fn g;exact Calls.grown_of (ma.out _ _)))
   have Ud:Hid (Ck w (Go.Sort.grow (wr.drewN nq) osq)):=HG.out.grow nq osq
   clear x0 x1 y0 y1 ma HG mixed sE Fl hwk
   show Exit.then _ _ _ _ (Go.Sort.grow (wr.drewN nq) osq)
   generalize Go.Sort.grow (wr.drewN nq) osq=w4 at *
   by_cases ho:o=0
   ·subst ho
    have HE:Hid (Qb c e0 0 (hs.length-1)=e0):=BH.out
    clear BH
    go_wp2_with fail
    try rw [zFS]
    go_ret
    exact ⟨by rw [HE.out];rfl,Ud.out⟩
   ·have hob:(o == 0)=false:=by rw [zAQ];exact ho
    by_cases h2:o<0
    ·have HE:Hid (Qb c e0 0 (hs.length-1)=16):=by have:=BH.out;rw [if_neg ho,if_pos h2] at this;exact this
     clear BH
     go_wp2_with fail
     try rw [zFS]
     go_ret
     exact ⟨by rw [HE.out];rfl,Ud.out⟩
    ·have HE:Hid (Qb c e0 0 (hs.length-1)=Qb c e0 i (hs.length-1-i)):=by have:=BH.out;rw [if_neg ho,if_neg h2,← yo.out] at this;exact this
     clear BH
     go_wp2_with fail
     go_round
     case rel=>exact ⟨i+1,i,rfl,Or.inl (by omega),rfl,by go_num,HE.out,Ud.out⟩
     case measure=>simp [intOf];omega
  ·have AF:¬(i:Int)<(hs.length:Int):=by omega
   have HE:Hid (Qb c e0 0 (hs.length-1)=0):=by
    show _=_
    rw [HP.out,show hs.length-1-k=0 by omega]
    rfl
   clear PC hi
   go_wp2_with fail
   try rw [zFS]
   go_ret
   exact ⟨by rw [HE.out];rfl,HG.out⟩
def gW (x:Dt):Hd:=(.int .i64 x.1,.int .u64 (x.2:Int))
theorem aY (l:List Dt):Al l=two Prod.fst Prod.snd (l.map gW):=by
 rw [Ga]
 induction l with
 | nil=>rfl
 | cons x l ih=>
  show _::_::two _ _ l=_::_::two Prod.fst Prod.snd (l.map gW)
  rw [ih];rfl
theorem S0 (lv:Value) (l:List Dt) (w:World) (h:Rd w 2 lv l.length (Al l)) (hn:l.length≤1000000) :
  Calls Tryz.prog 91 #[lv,.func (.func 92) #[] #[],.int .i64 20] w fun e w'=>e = .returned (.int .i64 (Bj l:Int))∧Ck w w':=by
 have hl:(l.map gW).length=l.length:=zAT ..
 have hc:=dY lv (l.map gW) 92 (mu (fun x y:Dt=>J6 x.1 y.1) l) 20 w (by rw [hl,← aY];exact h) (by omega) (fun _ _=>rfl) (fun i a b ha hb w' _=>by
  rw [zBQ] at ha hb
  obtain ⟨x,hx,rfl⟩:=zDN.1 ha
  obtain ⟨y,hy,rfl⟩:=zDN.1 hb
  rw [cS _ hx hy]
  exact Jq y x w')
 rw [hl,ah,kP] at hc
 exact hc
theorem VL (lv:Value) (hs:List Hd) (b:List AJ) (w:World) (h:Rd w 2 lv hs.length (two Prod.fst Prod.snd hs)) (Bg:hs.length=b.length) (SI:∀(i:Nat) (h:Hd) (s:AJ),hs[i]? = some h→b[i]? = some s→En w h s) (hn:b.length≤1000000) (hb:∀s∈b,s.1.length≤1000000) :
  Calls Tryz.prog 59 #[lv,.func (.func 60) #[] #[],.int .i64 19] w fun e w'=>e = .returned (.int .i64 (RE (fun x y:AJ=>Az x.1 y.1) 19 b))∧Ck w w':=by
 have hc:=dX lv hs 60 (mu (fun x y:AJ=>Az x.1 y.1) b) 19 w h (by omega) (fun _ _=>rfl) (fun i x y hx hy w' hg=>by
  obtain ⟨s,Lg⟩:∃s,b[i]? = some s:=⟨_,zAC (by have:=(zAE.1 hx).1;omega)⟩
  obtain ⟨t,ht⟩:∃t,b[i+1]? = some t:=⟨_,zAC (by have:=(zAE.1 hy).1;omega)⟩
  rw [cS _ Lg ht]
  exact GI y x t s w' ((SI _ _ _ hy ht).below hg.below) ((SI _ _ _ hx Lg).below hg.below) (hb _ (zAG ht)) (hb _ (zAG Lg)))
 rw [Bg,ah] at hc
 exact hc
theorem Rp (x:Hd) (s:AJ) (w:World) (h:En w x s) (hz:Sb s) (hl:s.1.length≤1000000) (hs:s.2.length≤1000000) :
  Calls Tryz.prog 58 #[.agg #[x.1,x.2]] w fun e w'=>e = .returned (.int .i64 (Cr s:Int))∧Below w.heap.size w w':=by
 obtain ⟨x1,x2⟩:=x
 obtain ⟨ls,ss⟩:=s
 obtain ⟨p1,c1,e1⟩:=h.1.shape
 obtain ⟨p2,c2,e2⟩:=h.2.shape
 simp only at e1 e2 hl hs
 subst e1 e2
 obtain ⟨w1,Cg⟩:∃w1,w1=w.alloc (.cells #[.slice p1 ls.length c1,.slice p2 ss.length c2] 51):=⟨_,rfl⟩
 have HW:Hid (w.alloc (.cells #[.slice p1 ls.length c1,.slice p2 ss.length c2] 51)=w1):=Cg.symm
 have A6:Hid (Below w.heap.size w w1):=by show Below _ _ _;rw [Cg];exact (zAM _ w).alloc (zAD _) _
 have Je:Hid (Ao w1 w.heap.size [.slice p1 ls.length c1,.slice p2 ss.length c2]):=by show Ao _ _ _;rw [Cg];exact Ao.new w _ _
 have HC:=zAA (NX _ ls w1 (h.1.below A6.out) hz.1 hl)
 have HS:=zAA (h.2.below A6.out)
 have hsi:(ss.length:Int)≤1000000:=by omega
 have bN:Hid (ss.length≤1000000):=hs
 simp only at HC HS
 clear Cg h hz hl hs
 go_enter Tryz.func58,Tryz.ntmps58
 go_wp2_with fail
 rw [HW.out]
 refine HC.out.mono ?_
 rintro e w2 ⟨rfl,hB⟩
 have AP:Hid (Below w.heap.size w w2):=A6.out.trans (hB.mono A6.out.size)
 have E4:Hid (Ao w2 w.heap.size [.slice p1 ls.length c1,.slice p2 ss.length c2]):=Je.out.of_same (hB.block _ Je.out.lt)
 have HS2:=zAA (HS.out.below hB)
 clear hB HC HS HW
 by_cases hc:BZ ls=0
 ·rw [hc]
  have k1:w2.cell? ⟨w.heap.size,1,none⟩=some (.slice p2 ss.length c2):=by rw [E4.out.cell];rfl
  by_cases h0:ss.length=0
  ·have HE:Hid (Cr (ls,ss)=21):=by show _=_;unfold Cr;rw [if_neg (zCI hc),if_pos (zAI h0)]
   have h0b:((ss.length:Int) == 0)=true:=by rw [zGB];omega
   clear hc h0
   go_wp2_with fail
   go_ret
   exact ⟨by rw [HE.out];rfl,AP.out⟩
  ·have HE:Hid (Cr (ls,ss)=Bj ss):=by show _=_;unfold Cr;rw [if_neg (zCI hc),if_neg (fun e:ss=[]=>h0 (by rw [e];rfl))]
   have h0b:((ss.length:Int) == 0)=false:=by rw [zAQ];omega
   have HN:=zAA (S0 _ ss w2 HS2.out bN.out)
   clear hc h0
   go_wp2_with fail
   refine HN.out.mono ?_
   rintro e w3 ⟨rfl,hG⟩
   have BS:Hid (Below w.heap.size w w3):=AP.out.trans (hG.below.mono AP.out.size)
   clear hG HN k1
   go_wp2_with fail
   go_ret
   exact ⟨by rw [HE.out];rfl,BS.out⟩
 ·have gm:((BZ ls:Int) == 0)=false:=by rw [zAQ];omega
  have HE:Hid (Cr (ls,ss)=BZ ls):=by show _=_;unfold Cr;rw [if_pos hc]
  clear hc
  generalize BZ ls=ce at *
  go_wp2_with fail
  go_ret
  exact ⟨by rw [HE.out];rfl,AP.out⟩
def eV:Go.Shelf.Ren:=⟨fun | 6=>120 | 14=>159 | 15=>122 | 20=>209 | 21=>210 | 22=>211 | 23=>212 | 24=>213 | 25=>214 | 26=>215 | 27=>216 | 28=>168 | 29=>169 | 46=>256 | 47=>218 | 48=>219 | 49=>257 | 50=>258 | 57=>288 | n=>n,fun | 0=>0 | 3=>3 | 4=>4 | 5=>5 | 9=>9 | 22=>49 | 24=>110 | 25=>143 | 39=>177 | 45=>223 | 46=>224 | 50=>158 | 53=>139 | 55=>81 | 66=>267 | 70=>271 | 76=>321 | 77=>210 | n=>n,fun n=>n⟩
theorem QS:Go.Proofs.SlLaysF0.n6 Tryz.prog eV:={ mixed:=by kernel_rfl,f6:=⟨ "slices.SortFunc[[]tsblock/api.Sample,tsblock/api.Sample]",by decide,Tryz.func120.trans (congrArg some (by kernel_rfl))⟩,f14:=⟨ "slices.pdqsortCmpFunc[tsblock/api.Sample]",by decide,Tryz.func159.trans (congrArg some (by kernel_rfl))⟩,f15:=Tryz.func122.trans (congrArg some (by kernel_rfl)),f20:=⟨ "slices.insertionSortCmpFunc[tsblock/api.Sample]",by decide,Tryz.func209.trans (congrArg some (by kernel_rfl))⟩,f21:=⟨ "slices.heapSortCmpFunc[tsblock/api.Sample]",by decide,Tryz.func210.trans (congrArg some (by kernel_rfl))⟩,f22:=⟨ "slices.breakPatternsCmpFunc[tsblock/api.Sample]",by decide,Tryz.func211.trans (congrArg some (by kernel_rfl))⟩,f23:=⟨ "slices.choosePivotCmpFunc[tsblock/api.Sample]",by decide,Tryz.func212.trans (congrArg some (by kernel_rfl))⟩,f24:=⟨ "slices.reverseRangeCmpFunc[tsblock/api.Sample]",by decide,Tryz.func213.trans (congrArg some (by kernel_rfl))⟩,f25:=⟨ "slices.partialInsertionSortCmpFunc[tsblock/api.Sample]",by decide,Tryz.func214.trans (congrArg some (by kernel_rfl))⟩,f26:=⟨ "slices.partitionEqualCmpFunc[tsblock/api.Sample]",by decide,Tryz.func215.trans (congrArg some (by kernel_rfl))⟩,f27:=⟨ "slices.partitionCmpFunc[tsblock/api.Sample]",by decide,Tryz.func216.trans (congrArg some (by kernel_rfl))⟩,f28:=Tryz.func168.trans (congrArg some (by kernel_rfl)),f29:=Tryz.func169.trans (congrArg some (by kernel_rfl)),f46:=⟨ "slices.siftDownCmpFunc[tsblock/api.Sample]",by decide,Tryz.func256.trans (congrArg some (by kernel_rfl))⟩,f47:=Tryz.func218.trans (congrArg some (by kernel_rfl)),f48:=Tryz.func219.trans (congrArg some (by kernel_rfl)),f49:=⟨ "slices.medianAdjacentCmpFunc[tsblock/api.Sample]",by decide,Tryz.func257.trans (congrArg some (by kernel_rfl))⟩,f50:=⟨ "slices.medianCmpFunc[tsblock/api.Sample]",by decide,Tryz.func258.trans (congrArg some (by kernel_rfl))⟩,f57:=⟨ "slices.order2CmpFunc[tsblock/api.Sample]",by decide,Tryz.func288.trans (congrArg some (by kernel_rfl))⟩,t0:=Tryz.underlying0,a0:=Tryz.isAgg0,z0:=Tryz.sizeOf0,v0:=Tryz.zeroValue0,t3:=Tryz.underlying3,a3:=Tryz.isAgg3,z3:=Tryz.sizeOf3,v3:=Tryz.zeroValue3,t4:=Tryz.underlying4,a4:=Tryz.isAgg4,z4:=Tryz.sizeOf4,v4:=Tryz.zeroValue4,t5:=Tryz.underlying5,a5:=Tryz.isAgg5,z5:=Tryz.sizeOf5,v5:=Tryz.zeroValue5,t9:=Tryz.underlying9,a9:=Tryz.isAgg9,z9:=Tryz.sizeOf9,v9:=Tryz.zeroValue9,t22:=Tryz.underlying49,a22:=Tryz.isAgg49,z22:=Tryz.sizeOf49,v22:=Tryz.zeroValue49,t25:=Tryz.underlying143,a25:=Tryz.isAgg143,z25:=Tryz.sizeOf143,v25:=Tryz.zeroValue143,t39:=Tryz.underlying177,a39:=Tryz.isAgg177,z39:=Tryz.sizeOf177,v39:=Tryz.zeroValue177,t45:=Tryz.underlying223,a45:=Tryz.isAgg223,z45:=Tryz.sizeOf223,v45:=Tryz.zeroValue223,t46:=Tryz.underlying224,a46:=Tryz.isAgg224,z46:=Tryz.sizeOf224,v46:=Tryz.zeroValue224,t50:=Tryz.underlying158,a50:=Tryz.isAgg158,z50:=Tryz.sizeOf158,v50:=Tryz.zeroValue158,t53:=Tryz.underlying139,a53:=Tryz.isAgg139,z53:=Tryz.sizeOf139,v53:=Tryz.zeroValue139,t55:=Tryz.underlying81,a55:=Tryz.isAgg81,z55:=Tryz.sizeOf81,v55:=Tryz.zeroValue81,t66:=Tryz.underlying267,a66:=Tryz.isAgg267,z66:=Tryz.sizeOf267,v66:=Tryz.zeroValue267,t70:=Tryz.underlying271,a70:=Tryz.isAgg271,z70:=Tryz.sizeOf271,v70:=Tryz.zeroValue271,t76:=Tryz.underlying321,a76:=Tryz.isAgg321,z76:=Tryz.sizeOf321,v76:=Tryz.zeroValue321,t77:=Tryz.underlying210,a77:=Tryz.isAgg210,z77:=Tryz.sizeOf210,v77:=Tryz.zeroValue210 }
theorem Z5:ltOf (fun x y:Dt=>J6 x.1 y.1)=N1:=by
 funext x y
 show decide (J6 x.1 y.1<0)=decide (x.1<y.1)
 rw [zHB]
 exact S7 _ _
theorem tN:Go.Sort.SWO N1:=⟨fun x=>M0.SP x,fun x y z=>M0.tr x y z,fun x y z h1 h2=>by
 simp [N1] at *;omega⟩
def Sr (x:Dt):List Value:=[.int .i64 x.1,.int .u64 (x.2:Int)]
theorem qj (w:World) (base:Nat) (v:Value) (l:List Dt) (h:w.ownsRow base 110 2 v l.length (Al l)) (hn:l.length≤1000000) :
  Calls Tryz.prog 120 #[v,.func (.func 92) #[] #[]] w fun e w'=>e = .returned (.tuple #[])∧∃l',List.Perm l' l∧PJ N1 l'∧w'.ownsRow base 110 2 v l.length (Al l')∧Ac (fun k=>v.ownBlock=some k) w w':=by
 rcases h.2 with ⟨rfl,h0⟩ | ⟨g,cap,cur,rfl,FB,MX,r1,r2,r3,r4⟩
 ·refine (AnyF.slices_SortFunc_none QS none 0 _ w).mono ?_
  rintro e w' ⟨rfl,rfl⟩
  obtain rfl:l=[]:=zAI h0
  exact ⟨rfl,[],zGZ _,List.Pairwise.nil,h,Ac.refl _ _⟩
 ·have hk:∀x:Dt,(Sr x).length=2:=fun _=>rfl
  have hH:Go.Sort.HoldsK Sr 2 w g 0 l.toArray:=Ec Sr 2 hk (by decide) MX r4
  have hC:=AnyQ.slices_SortFunc QS 2 Tryz.isAgg110 Tryz.sizeOf110 Sr hk (fun x v hv=>by simp only [Sr,zAS,zCX,zGU] at hv;rcases hv with rfl | rfl<;>rfl) (fun x y:Dt=>J6 x.1 y.1) (by rw [Z5];exact tN) 92 #[] g 0 cap l.toArray w
   (fun _ _=>rfl) (fun m os dk _ x y=>Jq x y _) hH (zAX.1 MX).1 (by simp;omega)
  have Ed:l.toArray.size=l.length:=by simp
  rw [Ed] at hC
  refine hC.mono ?_
  rintro e w' ⟨rfl,d',n,os,hp,hs,rfl⟩
  have ZG:d'.size=l.length:=by rw [hp.1];simp
  refine ⟨rfl,d'.toList,?_,?_,?_,(DO (Go.Sort.flatK Sr 2 d')).mono (fun k _ e=>by show some g=some k;rw [show k=g from e])⟩
  ·have h3:=hp.2.2
   rw [show d'.extract 0 l.length=d' by rw [← ZG];exact zDJ] at h3
   rw [show l.toArray.extract 0 l.length=l.toArray by rw [← Ed];exact zDJ] at h3
   exact h3
  ·refine zBW.2 ?_
   intro i j hi hj C3
   have h4:=hs i j (zAJ _) C3 (by rw [← ZG];simpa using hj)
   rw [Z5,zDW d' i (by simpa using hi),zDW d' j (by simpa using hj)] at h4
   simpa using h4
  ·exact Ee Sr 2 hk (by decide) ZG FB MX r1 r2 r3
theorem sU:(Tryz.prog.info? 110).map (fun i=>(i.zero,i.size,i.bytes))=some (some (.agg #[.int .i64 0,.int .u64 0]),2,16):=by kernel_rfl
theorem iO (v:Value) (n:Nat) (cs:List Value) (w:World) (h:Rd w 2 v n cs) (hn:n≤1000000) (h1:∀v∈cs,v.oneCell'=true) :
  Calls Tryz.prog 119 #[v] w fun e w'=>e = .returned (.slice (some ⟨w.heap.size,0,none⟩) n n)∧w'.ownsRow w.heap.size 110 2 (.slice (some ⟨w.heap.size,0,none⟩) n n) n cs∧Below w.heap.size w w':=by
 have H:=zAA h;have HV:=zAA h1
 obtain ⟨p,c,e⟩:=h.shape
 subst e
 have DP:Hid (cs.length=n*2):=h.len
 obtain ⟨i0,nu,Xn,By,Co⟩:=zGX sU
 have HI:=zAA nu;have HZ:=zAA Xn;have yD:=zAA By
 have RR:Hid (i0.bytes*n≤281474976710656∧n≤maxLen):=by show _∧_;unfold maxLen;rw [Co];omega
 have EQ:Hid ((Tryz.prog.info? 110).map (·.size)=some 2):=by show _=_;rw [nu];simp [By]
 have nD:(n:Int)≤1000000:=by omega
 clear h hn h1 nu Xn By Co
 go_enter Tryz.func119,Tryz.ntmps119
 go_wp2_with (refine wpList_make_full _ rfl _ _ _ rfl w.heap.size 110 i0 (.agg #[.int .i64 0,.int .u64 0]) 2 Tryz.underlying49 HI.out HZ.out yD.out _ _ _ _ n rfl rfl rfl rfl RR.out.1 RR.out.2 (zAD _) ?_)
 intro w4 Au gu
 have R8:=zAA (XT Au)
 have Wt:Hid ((madeCells #[.int .i64 0,.int .u64 0] (n*2)).toList.toArray.size=n*2):=by show _=_;simp [madeCells]
 have CF:Hid (Below w.heap.size w w4):=(Ac.EF gu).below (zAD _) (fun k _ e=>by cases e)
 clear Au gu
 by_cases h0:n=0
 ·subst h0
  have Rw:cs=[]:=zAI (by have:=DP.out;omega)
  have vS:Hid (w4.ownsRow w.heap.size 110 2 (.slice (some ⟨w.heap.size,0,none⟩) 0 0) 0 cs):=by
   show World.ownsRow _ _ _ _ _ _ _
   rw [Rw]
   have h:=R8.out
   rw [show (madeCells #[.int .i64 0,.int .u64 0] (0*2)).toList=[] from zAI (by simp [madeCells])] at h
   exact NJ h (zAD _) rfl (by unfold maxLen;omega)
  have J0:=Tr (P:=Tryz.prog) w4 49 49 3 110 2 (some ⟨w.heap.size,0,none⟩) p 0 c Tryz.underlying49 EQ.out
  clear Rw
  go_wp2_with fail
  go_ret
  exact ⟨rfl,vS.out,CF.out⟩
 ·obtain ⟨b,off,c',e,_,_,FH⟩:=H.out.at (fun e=>by have:=DP.out;rw [e] at this;simp at this;omega)
  simp only [zAN] at e
  obtain ⟨rfl,_,rfl⟩:=e
  have J0:=UW (P:=Tryz.prog) w4 49 49 3 110 2 w.heap.size n n ⟨b,off,none⟩ c _ _ cs Tryz.underlying49 EQ.out R8.out DP.out
   (fun j v hj=>by
    have h3:=FH j v hj
    have h4:(⟨b,off,none⟩:Addr).add j=⟨b,off+j,none⟩:=by unfold Addr.add;split<;>simp_all
    rw [h4]
    exact (CF.out.cell (zAP w _ h3)).trans h3) (by rw [Wt.out,DP.out]) HV.out
  generalize hw5:w4.setRow _ _=w5 at J0
  have vS:Hid (w5.ownsRow w.heap.size 110 2 (.slice (some ⟨w.heap.size,0,none⟩) n n) n cs):=by
   show World.ownsRow _ _ _ _ _ _ _
   refine NJ ?_ (zAD _) DP.out RR.out.2
   rw [← hw5,setRow_heap w4 w.heap.size _ _ _ _ R8.out]
  have KC:Hid (Below w.heap.size w w5):=by rw [← hw5];exact cL CF.out (zAD _) _
  clear hw5 h0 FH
  go_wp2_with fail
  go_ret
  exact ⟨rfl,vS.out,KC.out⟩
theorem X2:Pz Tryz.prog 51 2 [.slice none 0 0,.slice none 0 0]:=Pz.mk' Tryz.underlying51 rfl (by kernel_rfl) rfl
def Tp (s:AJ):AJ:=if Fa s=0 then KI s else ([],[])
def Va (w:World) (s:AJ) (e:Ending) (w':World):Prop:=∃y:Hd,e = .returned (.tuple #[.agg #[y.1,y.2],.int .i64 (Fa s:Int)])∧En w' y (Tp s)∧((∀k,y.1.ownBlock=some k→w.heap.size≤k)∧(∀k,y.2.ownBlock=some k→w.heap.size≤k))∧Below w.heap.size w w'
theorem Va.Ep {w w':World} {s:AJ} {en:Nat} (hb:Below w.heap.size w w') (he:Fa s=en) (h0:en≠0):Va w s (.returned (.tuple #[.agg #[.slice none 0 0,.slice none 0 0],.int .i64 (en:Int)])) w':=by
 subst he
 refine ⟨(.slice none 0 0,.slice none 0 0),rfl,?_,⟨(fun k e=>by cases e),(fun k e=>by cases e)⟩,hb⟩
 rw [Tp,if_neg h0]
 exact ⟨Rd.nil _ _,Rd.nil _ _⟩
theorem JQ {w0 w:World} {g:Nat} (hb:Below w0.heap.size w0 w) (hg:w0.heap.size≤g) (x y:Value):Below w0.heap.size w0 ((w.setCell ⟨g,0,none⟩ x).setCell ⟨g,1,none⟩ y):=
 hb.trans (((Ac.set (fun k=>k=g) w ⟨g,0,none⟩ x (fun _=>rfl)).trans (Ac.set (fun k=>k=g) _ ⟨g,1,none⟩ y (fun _=>rfl)) (fun _ _ e=>e)).below hb.size (fun k _ e=>by have:k=g:=e;omega))
theorem xW (l:List Dt):∀v∈Al l,v.oneCell'=true:=by
 induction l with
 | nil=>intro v hv;cases hv
 | cons x l ih=>
  intro v hv
  have e:Al (x::l) = .int .i64 x.1 :: .int .u64 (x.2:Int)::Al l:=rfl
  rw [e] at hv
  rcases zAS.1 hv with rfl | hv
  ·rfl
  ·rcases zAS.1 hv with rfl | hv
   ·rfl
   ·exact ih v hv
theorem an (x:Hd) (s:AJ) (w:World) (h:En w x s) (hz:Sb s) (hl:s.1.length≤100000) (hs:s.2.length≤1000000) :
  Calls Tryz.prog 81 #[.agg #[x.1,x.2]] w (Va w s):=by
 obtain ⟨x1,x2⟩:=x
 obtain ⟨ls,ss⟩:=s
 obtain ⟨p1,c1,e1⟩:=h.1.shape
 obtain ⟨p2,c2,e2⟩:=h.2.shape
 simp only at e1 e2 hl hs
 subst e1 e2
 obtain ⟨W2,RV⟩:∃W2,W2=(w.alloc (.cells #[.slice p1 ls.length c1,.slice p2 ss.length c2] 51)).alloc (.cells #[.slice none 0 0,.slice none 0 0] 51):=⟨_,rfl⟩
 have HW:Hid ((w.alloc (.cells #[.slice p1 ls.length c1,.slice p2 ss.length c2] 51)).alloc (.cells #[.slice none 0 0,.slice none 0 0] 51)=W2):=RV.symm
 have Rj:Hid (W2.heap.size=w.heap.size+2):=by show _=_;rw [RV];simp
 have AP:Hid (Below w.heap.size w W2):=by show Below _ _ _;rw [RV];exact ((zAM _ w).alloc (zAD _) _).alloc (by simp) _
 have G0:Hid (Ao W2 w.heap.size [.slice p1 ls.length c1,.slice p2 ss.length c2]):=by show Ao _ _ _;rw [RV];exact (Ao.new w _ _).alloc _
 have KK:Hid (Ao W2 (w.heap.size+1) [.slice none 0 0,.slice none 0 0]):=by
  have h:=Ao.new (w.alloc (.cells #[.slice p1 ls.length c1,.slice p2 ss.length c2] 51)) #[.slice none 0 0,.slice none 0 0] 51
  rw [← RV] at h
  rwa [show (w.alloc (.cells #[.slice p1 ls.length c1,.slice p2 ss.length c2] 51)).heap.size=w.heap.size+1 by simp] at h
 have HN:=zAA (ZW _ ls W2 (h.1.below AP.out) hz.1 hl)
 have HS:=zAA (h.2.below AP.out)
 have hsi:(ss.length:Int)≤1000000:=by omega
 have bN:Hid (ss.length≤1000000):=hs
 simp only at HN HS
 clear RV h hz hl hs
 go_enter Tryz.func81,Tryz.ntmps81
 go_wp2_with fail
 rw [HW.out]
 refine HN.out.mono ?_
 rintro e w3 hG
 obtain ⟨r,rfl,wR,hFar⟩:=hG.res
 obtain ⟨pr,cr,e⟩:=wR.shape
 subst e
 have BS:Hid (Below w.heap.size w w3):=AP.out.trans (hG.AA.mono AP.out.size)
 have kX:Hid (Ao w3 w.heap.size [.slice p1 ls.length c1,.slice p2 ss.length c2]):=G0.out.of_same (hG.AA.block _ G0.out.lt)
 have Ft:Hid (Ao w3 (w.heap.size+1) [.slice none 0 0,.slice none 0 0]):=KK.out.of_same (hG.AA.block _ KK.out.lt)
 have Fu:=zAA (HS.out.below hG.AA)
 have Yd:Hid (∀k,(Value.slice pr (BD ls).2.length cr).ownBlock=some k→w.heap.size+2≤k):=fun k hk=>by have:=hFar k hk;have:=Rj.out;omega
 have lW:=zAA wR
 have HSz3:Hid (w.heap.size+2≤w3.heap.size):=by show _≤_;have:=hG.AA.size;have:=Rj.out;omega
 have Ej:Hid (Fa (ls,ss)=if (BD ls).1≠0 then (BD ls).1 else if ss=[] then 21 else Bj (CW N1 ss)):=rfl
 have bK:Hid (KI (ls,ss)=((BD ls).2,CW N1 ss)):=rfl
 clear hG wR hFar HN HS HW AP G0 KK Rj
 generalize (BD ls).1=ne at *
 generalize (BD ls).2=nl at *
 by_cases hc:ne=0
 ·subst hc
  have k1:w3.cell? ⟨w.heap.size,1,none⟩=some (.slice p2 ss.length c2):=by rw [kX.out.cell];rfl
  by_cases h0:ss.length=0
  ·have HE:Hid (Fa (ls,ss)=21):=by show _=_;rw [Ej.out,if_neg (by simp),if_pos (zAI h0)]
   have h0b:((ss.length:Int) == 0)=true:=by rw [zGB];omega
   obtain ⟨⟨d0,d1⟩,f0,f1⟩:=Ft.out.two
   clear h0
   go_wp2_with fail
   refine zCB (LX (p:=2) (u:=3) X2 (by kernel_rfl) _ (w.heap.size+1) rfl [.slice none 0 0,.slice none 0 0] (Ft.out.tJ _ _) rfl) rfl ?_
   exact Va.Ep (en:=21) (JQ BS.out (by omega) _ _) HE.out (by decide)
  ·have HNe2:Hid (Fa (ls,ss)=Bj (CW N1 ss)):=by show _=_;rw [Ej.out,if_neg (by simp),if_neg (fun e:ss=[]=>h0 (by rw [e];rfl))]
   have h0b:((ss.length:Int) == 0)=false:=by rw [zAQ];omega
   have zu:=zAA (iO _ ss.length (Al ss) w3 Fu.out bN.out (xW ss))
   clear h0
   go_wp2_with fail
   refine zu.out.mono ?_
   rintro e w4 ⟨rfl,hO,hB⟩
   have CF:Hid (Below w.heap.size w w4):=BS.out.trans (hB.mono BS.out.size)
   have R8:Hid (Ao w4 (w.heap.size+1) [.slice none 0 0,.slice none 0 0]):=Ft.out.of_same (hB.block _ Ft.out.lt)
   have HRd4:=zAA (lW.out.below hB)
   have Nr:=zAA (qj w4 w3.heap.size _ ss hO bN.out)
   obtain ⟨g3,hg3⟩:∃g3,w3.heap.size=g3:=⟨_,rfl⟩
   have Uc:Hid (w.heap.size+2≤g3):=by rw [← hg3];exact HSz3.out
   have lN:Hid (nl≠[]→∀k,(Value.slice pr nl.length cr).ownBlock=some k→k<g3):=fun e k hk=>by rw [← hg3];exact lW.out.lt (F9 e) k hk
   rw [hg3] at Nr ⊢
   clear hO hB zu k1 hg3
   go_wp2_with fail
   refine Nr.out.mono ?_
   rintro e w5 ⟨rfl,l',hp,hs,hO,hM⟩
   have KC:Hid (Below w.heap.size w w5):=CF.out.trans (hM.below CF.out.size (fun k hk e=>by have h1:g3=k:=(by simpa [Value.ownBlock] using e);have:=Uc.out;omega))
   have t8:Hid (Ao w5 (w.heap.size+1) [.slice none 0 0,.slice none 0 0]):=hM.AM R8.out (fun e=>by
    have:g3=w.heap.size+1:=by simpa [Value.ownBlock] using e
    have:=Uc.out;omega)
   have HRd5:=zAA (HRd4.out.FZ hM (fun e k hk e2=>by
    have h1:=lN.out (CO e) k hk
    have:g3=k:=by simpa [Value.ownBlock] using e2
    omega))
   have DP:Hid (l'.length=ss.length):=hp.length_eq
   have YN:=zAA (fm hp hs)
   have wR:Rd w5 2 (.slice (some ⟨g3,0,none⟩) ss.length ss.length) l'.length (Al l'):=by rw [DP.out];exact Rd.Ad hO
   have HRl:=zAA wR
   have lf:=zAA (S0 _ l' w5 wR (by have:=DP.out;have:=bN.out;omega))
   clear hp hs hO hM wR Nr R8 HRd4 CF
   go_wp2_with fail
   refine lf.out.mono ?_
   rintro e w6 ⟨rfl,hG⟩
   have Jl:Hid (Below w.heap.size w w6):=KC.out.trans (hG.below.mono KC.out.size)
   have rD:Hid (Ao w6 (w.heap.size+1) [.slice none 0 0,.slice none 0 0]):=hG.AM t8.out
   have HRd6:=zAA (HRd5.out.yG hG)
   have HRl6:=zAA (HRl.out.yG hG)
   obtain ⟨⟨d0,d1⟩,f0,f1⟩:=rD.out.two
   clear hG lf t8 HRd5 HRl KC
   by_cases ht:Bj l'=0
   ·have HEr:Hid (Fa (ls,ss)=0):=by show _=_;rw [HNe2.out,← YN.out.1];exact ht
    have fK:Hid (l'=CW N1 ss):=YN.out.2 ht
    rw [ht]
    clear ht
    go_wp2_with fail
    refine zCB (LX (p:=2) (u:=3) X2 (by kernel_rfl) _ (w.heap.size+1) rfl [.slice pr nl.length cr,.slice (some ⟨g3,0,none⟩) ss.length ss.length] (rD.out.tJ _ _) rfl) rfl ?_
    refine ⟨(.slice pr nl.length cr,.slice (some ⟨g3,0,none⟩) ss.length ss.length),by rw [HEr.out];rfl,?_,⟨fun k e=>by have:=Yd.out k e;omega,fun k e=>?_⟩,JQ Jl.out (by omega) _ _⟩
    ·have hm:Ac (fun k=>k=w.heap.size+1) w6 ((w6.setCell ⟨w.heap.size+1,0,none⟩ (.slice pr nl.length cr)).setCell ⟨w.heap.size+1,1,none⟩ (.slice (some ⟨g3,0,none⟩) ss.length ss.length)):=
      (Ac.set (fun k=>k=w.heap.size+1) w6 ⟨w.heap.size+1,0,none⟩ _ (fun _=>rfl)).trans (Ac.set (fun k=>k=w.heap.size+1) _ ⟨w.heap.size+1,1,none⟩ _ (fun _=>rfl)) (fun _ _ e=>e)
     have hr:Tp (ls,ss)=(nl,l'):=by rw [Tp,if_pos HEr.out,bK.out,fK.out]
     rw [hr]
     refine ⟨HRd6.out.Ai hm (fun k hk e=>by have h1:=Yd.out k hk;have h2:k=w.heap.size+1:=e;omega),?_⟩
     have h3:=HRl6.out.Ai hm (fun k hk e=>by have h1:g3=k:=(by simpa [Value.ownBlock] using hk);have h2:k=w.heap.size+1:=e;have:=Uc.out;omega)
     exact h3
    ·have:g3=k:=by simpa [Value.ownBlock] using e
     have:=Uc.out
     omega
   ·have HE:Hid (Fa (ls,ss)=Bj l'):=by show _=_;rw [HNe2.out,YN.out.1]
    have htb:((Bj l':Int) == 0)=false:=by rw [zAQ];omega
    have qJ:Hid (Bj l'≠0):=ht
    clear ht
    generalize Bj l'=te at *
    go_wp2_with fail
    refine zCB (LX (p:=2) (u:=3) X2 (by kernel_rfl) _ (w.heap.size+1) rfl [.slice none 0 0,.slice none 0 0] (rD.out.tJ _ _) rfl) rfl ?_
    exact Va.Ep (en:=te) (JQ Jl.out (by omega) _ _) HE.out qJ.out
 ·have gm:((ne:Int) == 0)=false:=by rw [zAQ];omega
  have HE:Hid (Fa (ls,ss)=ne):=by show _=_;rw [Ej.out,if_pos hc]
  have fJ:Hid (ne≠0):=hc
  obtain ⟨⟨d0,d1⟩,f0,f1⟩:=Ft.out.two
  clear hc
  go_wp2_with fail
  refine zCB (LX (p:=2) (u:=3) X2 (by kernel_rfl) _ (w.heap.size+1) rfl [.slice none 0 0,.slice none 0 0] (Ft.out.tJ _ _) rfl) rfl ?_
  exact Va.Ep (en:=ne) (JQ BS.out (by omega) _ _) HE.out fJ.out
section
def eW:Go.Shelf.Ren:=⟨fun | 6=>82 | 14=>121 | 15=>122 | 20=>160 | 21=>161 | 22=>162 | 23=>163 | 24=>164 | 25=>165 | 26=>166 | 27=>167 | 28=>168 | 29=>169 | 46=>217 | 47=>218 | 48=>219 | 49=>220 | 50=>221 | 57=>259 | n=>n,fun | 0=>0 | 3=>3 | 4=>4 | 5=>5 | 9=>9 | 22=>22 | 24=>51 | 25=>97 | 39=>177 | 45=>223 | 46=>224 | 50=>158 | 53=>139 | 55=>81 | 66=>267 | 70=>271 | 76=>321 | 77=>210 | n=>n,fun n=>n⟩
theorem QT:Go.Proofs.SlLaysF0.n6 Tryz.prog eW:={ mixed:=by kernel_rfl,f6:=⟨ "slices.SortFunc[[]tsblock/api.Series,tsblock/api.Series]",by decide,Tryz.func82.trans (congrArg some (by kernel_rfl))⟩,f14:=⟨ "slices.pdqsortCmpFunc[tsblock/api.Series]",by decide,Tryz.func121.trans (congrArg some (by kernel_rfl))⟩,f15:=Tryz.func122.trans (congrArg some (by kernel_rfl)),f20:=⟨ "slices.insertionSortCmpFunc[tsblock/api.Series]",by decide,Tryz.func160.trans (congrArg some (by kernel_rfl))⟩,f21:=⟨ "slices.heapSortCmpFunc[tsblock/api.Series]",by decide,Tryz.func161.trans (congrArg some (by kernel_rfl))⟩,f22:=⟨ "slices.breakPatternsCmpFunc[tsblock/api.Series]",by decide,Tryz.func162.trans (congrArg some (by kernel_rfl))⟩,f23:=⟨ "slices.choosePivotCmpFunc[tsblock/api.Series]",by decide,Tryz.func163.trans (congrArg some (by kernel_rfl))⟩,f24:=⟨ "slices.reverseRangeCmpFunc[tsblock/api.Series]",by decide,Tryz.func164.trans (congrArg some (by kernel_rfl))⟩,f25:=⟨ "slices.partialInsertionSortCmpFunc[tsblock/api.Series]",by decide,Tryz.func165.trans (congrArg some (by kernel_rfl))⟩,f26:=⟨ "slices.partitionEqualCmpFunc[tsblock/api.Series]",by decide,Tryz.func166.trans (congrArg some (by kernel_rfl))⟩,f27:=⟨ "slices.partitionCmpFunc[tsblock/api.Series]",by decide,Tryz.func167.trans (congrArg some (by kernel_rfl))⟩,f28:=Tryz.func168.trans (congrArg some (by kernel_rfl)),f29:=Tryz.func169.trans (congrArg some (by kernel_rfl)),f46:=⟨ "slices.siftDownCmpFunc[tsblock/api.Series]",by decide,Tryz.func217.trans (congrArg some (by kernel_rfl))⟩,f47:=Tryz.func218.trans (congrArg some (by kernel_rfl)),f48:=Tryz.func219.trans (congrArg some (by kernel_rfl)),f49:=⟨ "slices.medianAdjacentCmpFunc[tsblock/api.Series]",by decide,Tryz.func220.trans (congrArg some (by kernel_rfl))⟩,f50:=⟨ "slices.medianCmpFunc[tsblock/api.Series]",by decide,Tryz.func221.trans (congrArg some (by kernel_rfl))⟩,f57:=⟨ "slices.order2CmpFunc[tsblock/api.Series]",by decide,Tryz.func259.trans (congrArg some (by kernel_rfl))⟩,t0:=Tryz.underlying0,a0:=Tryz.isAgg0,z0:=Tryz.sizeOf0,v0:=Tryz.zeroValue0,t3:=Tryz.underlying3,a3:=Tryz.isAgg3,z3:=Tryz.sizeOf3,v3:=Tryz.zeroValue3,t4:=Tryz.underlying4,a4:=Tryz.isAgg4,z4:=Tryz.sizeOf4,v4:=Tryz.zeroValue4,t5:=Tryz.underlying5,a5:=Tryz.isAgg5,z5:=Tryz.sizeOf5,v5:=Tryz.zeroValue5,t9:=Tryz.underlying9,a9:=Tryz.isAgg9,z9:=Tryz.sizeOf9,v9:=Tryz.zeroValue9,t22:=Tryz.underlying22,a22:=Tryz.isAgg22,z22:=Tryz.sizeOf22,v22:=Tryz.zeroValue22,t25:=Tryz.underlying97,a25:=Tryz.isAgg97,z25:=Tryz.sizeOf97,v25:=Tryz.zeroValue97,t39:=Tryz.underlying177,a39:=Tryz.isAgg177,z39:=Tryz.sizeOf177,v39:=Tryz.zeroValue177,t45:=Tryz.underlying223,a45:=Tryz.isAgg223,z45:=Tryz.sizeOf223,v45:=Tryz.zeroValue223,t46:=Tryz.underlying224,a46:=Tryz.isAgg224,z46:=Tryz.sizeOf224,v46:=Tryz.zeroValue224,t50:=Tryz.underlying158,a50:=Tryz.isAgg158,z50:=Tryz.sizeOf158,v50:=Tryz.zeroValue158,t53:=Tryz.underlying139,a53:=Tryz.isAgg139,z53:=Tryz.sizeOf139,v53:=Tryz.zeroValue139,t55:=Tryz.underlying81,a55:=Tryz.isAgg81,z55:=Tryz.sizeOf81,v55:=Tryz.zeroValue81,t66:=Tryz.underlying267,a66:=Tryz.isAgg267,z66:=Tryz.sizeOf267,v66:=Tryz.zeroValue267,t70:=Tryz.underlying271,a70:=Tryz.isAgg271,z70:=Tryz.sizeOf271,v70:=Tryz.zeroValue271,t76:=Tryz.underlying321,a76:=Tryz.isAgg321,z76:=Tryz.sizeOf321,v76:=Tryz.zeroValue321,t77:=Tryz.underlying210,a77:=Tryz.isAgg210,z77:=Tryz.sizeOf210,v77:=Tryz.zeroValue210 }
abbrev Sa (w:World) (g:Nat):Type:={p:Hd × AJ // En w p.1 p.2∧JN (fun k=>k=g) p.1 p.2∧p.2.1.length≤1000000}
instance (w:World) (g:Nat):Inhabited (Sa w g):=⟨⟨((.slice none 0 0,.slice none 0 0),([],[])),⟨Rd.nil _ _,Rd.nil _ _⟩,⟨fun e=>absurd rfl e,fun e=>absurd rfl e⟩,by simp⟩⟩
section
variable {w:World} {g:Nat}
def K8 (x:Sa w g):List Value:=[x.1.1.1,x.1.1.2]
theorem iU (x:Sa w g):∀v∈K8 x,v.oneCell'=true:=by
 intro v hv
 obtain ⟨p1,c1,e1⟩:=x.2.1.1.shape
 obtain ⟨p2,c2,e2⟩:=x.2.1.2.shape
 simp only [K8,zAS,zCX,zGU] at hv
 rcases hv with rfl | rfl
 ·rw [e1];rfl
 ·rw [e2];rfl
def mx (x y:Sa w g):Int:=Az x.1.2.1 y.1.2.1
theorem SV:ltOf (mx (w:=w) (g:=g))=fun x y=>P9 x.1.2 y.1.2:=by
 funext x y
 show decide (Az x.1.2.1 y.1.2.1<0)=decide (Az x.1.2.1 y.1.2.1 = -1)
 rw [zHB]
 have:=BJ.Yo x.1.2.1 y.1.2.1
 omega
theorem kI:Go.Sort.SWO (ltOf (mx (w:=w) (g:=g))):=by
 rw [SV]
 refine ⟨fun x=>J4.SP _,fun x y z=>J4.tr _ _ _,fun x y z h1 h2=>?_⟩
 rcases zBH (P9 x.1.2 z.1.2) with e | e
 ·rcases J4.co x.1.2 y.1.2 z.1.2 e with f | f
  ·rw [h1] at f;cases f
  ·rw [h2] at f;cases f
 ·exact e
theorem Sq (l:List (Sa w g)):l.flatMap K8=two Prod.fst Prod.snd (l.map fun x=>x.1.1):=by
 induction l with
 | nil=>rfl
 | cons x l ih=>rw [zBN,ih];rfl
end
theorem qk (w0 w:World) (v:Value) (hs:List Hd) (b:List AJ) (h:L7 w0 w hs b v) (hn:b.length≤1000000) (hl:∀s∈b,s.1.length≤1000000) :
  Calls Tryz.prog 82 #[v,.func (.func 60) #[] #[]] w fun e w'=>e = .returned (.tuple #[])∧∃hs' b',List.Perm b' b∧PJ P9 b'∧L7 w0 w' hs' b' v∧Ac (fun k=>v.ownBlock=some k) w w':=by
 have RC:=h.row.row
 rcases RC.2 with ⟨hv,h0⟩ | ⟨g,cap,cur,hv,FB,MX,r1,r2,r3,r4⟩
 ·subst hv
  refine (AnyF.slices_SortFunc_none QT none 0 _ w).mono ?_
  rintro e w' ⟨rfl,rfl⟩
  have wW:b=[]:=zAI (by rw [← h.len];exact h0)
  exact ⟨rfl,hs,b,zGZ _,by rw [wW];exact List.Pairwise.nil,h,Ac.refl _ _⟩
 ·subst hv
  have SC:∀p∈hs.zip b,En w p.1 p.2∧JN (fun k=>k=g) p.1 p.2∧p.2.1.length≤1000000:=by
   intro p hp
   obtain ⟨i,hi⟩:=List.mem_iff_getElem?.1 hp
   obtain ⟨h1,h2⟩:=List.getElem?_zip_eq_some.1 hi
   obtain ⟨a1,a2⟩:=h.KO i p.1 p.2 h1 h2
   exact ⟨a1,⟨fun e k hk hg=>a2.1 e k hk (by rw [hg];rfl),fun e k hk hg=>a2.2 e k hk (by rw [hg];rfl)⟩,hl _ (zAG h2)⟩
  obtain ⟨l,gB⟩:∃l:List (Sa w g),l.map Subtype.val=hs.zip b:=⟨(hs.zip b).pmap (fun p h=>⟨p,h⟩) SC,by rw [List.map_pmap];exact (List.pmap_eq_map (f:=id) _).trans (List.map_id _)⟩
  have Xh:l.map (fun x=>x.1.1)=hs:=by
   have:l.map (fun x=>x.1.1)=(l.map Subtype.val).map Prod.fst:=by rw [zEK];rfl
   rw [this,gB,List.map_fst_zip (by rw [h.len];exact zAD _)]
  have dB:l.map (fun x=>x.1.2)=b:=by
   have:l.map (fun x=>x.1.2)=(l.map Subtype.val).map Prod.snd:=by rw [zEK];rfl
   rw [this,gB,List.map_snd_zip (by rw [h.len];exact zAD _)]
  have JG:hs.length=l.length:=by rw [← Xh,zAT]
  rw [← Xh,← Sq,zAT] at r4
  have hk:∀x:Sa w g,(K8 x).length=2:=fun _=>rfl
  have hH:Go.Sort.HoldsK K8 2 w g 0 l.toArray:=Ec K8 2 hk (by decide) MX r4
  have hC:=AnyQ.slices_SortFunc QT 2 Tryz.isAgg51 Tryz.sizeOf51 K8 hk iU mx kI 60 #[] g 0 cap l.toArray w
   (fun _ _=>rfl) (fun m os dk _ x y=>GI x.1.1 y.1.1 x.1.2 y.1.2 _ (x.2.1.Ai (DO (Go.Sort.flatK K8 2 dk)) x.2.2.1) (y.2.1.Ai (DO (Go.Sort.flatK K8 2 dk)) y.2.2.1) x.2.2.2 y.2.2.2) hH (zAX.1 MX).1 (by simp;have:=h.len;omega)
  have Ed:l.toArray.size=l.length:=by simp
  rw [Ed,← JG] at hC
  refine hC.mono ?_
  rintro e w' ⟨rfl,d',n,os,hp,Jw,rfl⟩
  have ZG:d'.size=hs.length:=by rw [hp.1,Ed,JG]
  have hm:=DO (w:=w) (g:=g) (n:=n) (os:=os) (Go.Sort.flatK K8 2 d')
  have h3:d'.toList.Perm l:=by
   have h3:=hp.2.2
   rw [show d'.extract 0 hs.length=d' by rw [← ZG];exact zDJ] at h3
   rw [JG,show l.toArray.extract 0 l.length=l.toArray by rw [← Ed];exact zDJ] at h3
   exact h3
  have hbg:w0.heap.size≤g:=FB
  refine ⟨rfl,d'.toList.map (fun x=>x.1.1),d'.toList.map (fun x=>x.1.2),?_,?_,⟨⟨?_,?_⟩,by simp,?_⟩,hm.mono (fun k _ e=>by show some g=some k;rw [show k=g from e])⟩
  ·rw [← dB];exact h3.map _
  ·refine zER.2 (zBW.2 ?_)
   intro i j hi hj C3
   have h4:=Jw i j (zAJ _) C3 (by rw [← ZG];simpa using hj)
   rw [SV,zDW d' i (by simpa using hi),zDW d' j (by simpa using hj)] at h4
   simpa using h4
  ·have h5:=Ee K8 2 hk (by decide) (n:=n) (os:=os) (d:=d') ZG FB MX r1 r2 r3
   rw [Sq] at h5
   rw [zAT,show d'.toList.length=hs.length by rw [← ZG];simp]
   exact h5
  ·exact h.row.AA.trans (hm.below h.row.AA.size (fun k hk e=>by have:k=g:=e;omega))
  ·intro i hd s hi hj
   rw [zBQ] at hi hj
   obtain ⟨x,hx⟩:∃x,d'.toList[i]? = some x:=by
    cases hq:d'.toList[i]? with
    | none=>rw [hq] at hi;cases hi
    | some x=>exact ⟨x,rfl⟩
   rw [hx] at hi hj
   cases hi;cases hj
   refine ⟨x.2.1.Ai hm x.2.2.1,⟨fun e k hk hg=>x.2.2.1.1 e k hk ?_,fun e k hk hg=>x.2.2.1.2 e k hk ?_⟩⟩
   ·simpa [Value.ownBlock] using hg.symm
   ·simpa [Value.ownBlock] using hg.symm
end
theorem sS:(Tryz.prog.info? 51).map (fun i=>(i.zero,i.size,i.bytes))=some (some (.agg #[.slice none 0 0,.slice none 0 0]),2,48):=by kernel_rfl
abbrev Kx:Hd:=(.slice none 0 0,.slice none 0 0)
theorem aa (n:Nat):(madeCells #[.slice none 0 0,.slice none 0 0] (n*2)).toList=two Prod.fst Prod.snd (List.replicate n Kx):=by
 refine zFY fun j=>?_
 by_cases hj:j<n*2
 ·obtain ⟨g1,g2⟩:=Fo (f1:=(Prod.fst:Hd→Value)) (f2:=Prod.snd) (List.replicate n Kx) (j / 2) Kx (by rw [zEB,if_pos (by omega)])
  have hl:(madeCells #[Value.slice none 0 0,.slice none 0 0] (n*2)).toList[j]? = some (#[Value.slice none 0 0,.slice none 0 0][j % 2]!):=by
   simp [madeCells,hj]
  rw [hl]
  rcases zGE j with h | h
  ·rw [h,show j=j / 2*2 by omega,g1];rfl
  ·rw [h,show j=j / 2*2+1 by omega,g2];rfl
 ·rw [zCJ (by simp [madeCells];omega),zCJ (by rw [Ff];simp;omega)]
def eA (f:AJ→AJ) (l:List AJ) (i:Nat):List AJ:=(l.take i).map f++List.replicate (l.length-i) ([],[])
theorem eB (f:AJ→AJ) (l:List AJ) (i:Nat) (h:i≤l.length):(eA f l i).length=l.length:=by
 rw [eA,zAB,zAT,zAR,zFU];omega
theorem pL (f:AJ→AJ) (l:List AJ):eA f l 0=List.replicate l.length ([],[]):=by simp [eA]
theorem tx (f:AJ→AJ) (l:List AJ):eA f l l.length=l.map f:=by simp [eA]
theorem tA (f:AJ→AJ) {l:List AJ} {i:Nat} {s:AJ} (h:l[i]? = some s):(eA f l i).set i (f s)=eA f l (i+1):=by
 have Aq:=(zAE.1 h).1
 have hl:((l.take i).map f).length=i:=by rw [zAT,zAR];omega
 rw [eA,eA,zDQ _ _ (by omega),hl,zFD,zAL,h,zCD,zAK]
 obtain ⟨m,hm⟩:∃m,l.length-i=m+1:=⟨l.length-i-1,by omega⟩
 rw [hm,show l.length-(i+1)=m by omega]
 rfl
theorem jT {w w1 w4:World} {n:Nat} (hb:Below w.heap.size w w1) (qT:Below w1.heap.size w1 w4) (h:w4.ownsRow w1.heap.size 51 2 (.slice (some ⟨w1.heap.size,0,none⟩) n n) n (madeCells #[.slice none 0 0,.slice none 0 0] (n*2)).toList) :
  L7 w w4 (List.replicate n Kx) (List.replicate n ([],[])) (.slice (some ⟨w1.heap.size,0,none⟩) n n):=by
 rw [aa] at h
 refine ⟨⟨?_,hb.trans (qT.mono hb.size)⟩,by simp,fun i x s hx hs=>?_⟩
 ·rw [zFU]
  exact Af h (fun k hk=>zAW hb.size (h.lt k hk).1)
 ·rw [zEB] at hx hs
  split at hx
  ·next h1=>
   rw [if_pos h1] at hs
   cases hx;cases hs
   exact ⟨⟨Rd.nil _ _,Rd.nil _ _⟩,⟨fun e=>absurd rfl e,fun e=>absurd rfl e⟩⟩
  ·cases hx
theorem ab (lv:Value) (l:List AJ) (w:World) (h:FU w lv l) (hz:Du l) (hs:Jn l) :
  Calls Tryz.prog 39 #[lv] w (lu w (D5 l)):=by
 have H:=zAA h;have Fv:=zAA hs;have HZ:=zAA hz
 have lL:=zAA (N2 lv l w h hs.mid)
 obtain ⟨p,c,hv⟩:=h.shape
 subst hv
 have Xk:(l.length:Int)≤300:=by have:=hs.len;omega
 obtain ⟨i0,nu,Xn,By,Co⟩:=zGX sS
 have HI:=zAA nu;have HZ0:=zAA Xn;have yD:=zAA By
 have RR:Hid (i0.bytes*l.length≤281474976710656∧l.length≤maxLen):=by show _∧_;unfold maxLen;rw [Co];omega
 clear h hs hz nu Xn By Co
 go_enter Tryz.func39,Tryz.ntmps39
 go_wp2_with fail
 refine lL.out.mono ?_
 rintro e w1 ⟨rfl,hG1⟩
 have A6:Hid (Below w.heap.size w w1):=hG1.below
 clear hG1 lL
 go_wp2_with (refine wpList_make_full _ rfl _ _ _ rfl w1.heap.size 51 i0 (.agg #[.slice none 0 0,.slice none 0 0]) 2 Tryz.underlying22 HI.out HZ0.out yD.out _ _ _ _ l.length rfl rfl rfl rfl RR.out.1 RR.out.2 (zAD _) ?_)
 intro w4 Au gu
 have HN4:Hid (L7 w w4 (List.replicate l.length Kx) (eA KI l 0) (.slice (some ⟨w1.heap.size,0,none⟩) l.length l.length)):=by
  show L7 _ _ _ _ _
  rw [pL]
  exact jT A6.out ((Ac.EF gu).below (zAD _) (fun k _ e=>by cases e)) Au
 have HGs:Hid (w.heap.size≤w1.heap.size):=A6.out.size
 clear Au gu A6 HI HZ0 yD RR
 generalize w1.heap.size=g at *
 go_wp2_with fail
 go_loopw [16] (fun iv wr=>∃(i:Nat) (hs:List Hd),i≤l.length∧iv = .int .i64 (i:Int)∧Hid (L7 w wr hs (eA KI l i) (.slice (some ⟨g,0,none⟩) l.length l.length))∧Hid (∀x∈l.take i,Fa x=0)) (fun iv _=>l.length-(intOf iv).toNat)
 case atStart=>exact ⟨0,_,zAJ _,rfl,HN4.out,by intro x hx;simp at hx⟩
 case round=>
  obtain ⟨i,hs,hi,rfl,HN,HF⟩:=hrel
  clear HN4
  have KM:(i:Int)≤300:=by omega
  by_cases Aq:i<l.length
  ·have AF:(i:Int)<(l.length:Int):=by omega
   obtain ⟨s,hx⟩:∃s,l[i]? = some s:=⟨_,zAC Aq⟩
   obtain ⟨AM,off,h1,h2,e,⟨p1,k1,e1⟩,⟨p2,k2,e2⟩,Ex⟩:=H.out.always hx
   subst e
   subst e1
   subst e2
   have HB:=zAA HN.out.row.AA
   have Ch:=zAG hx
   have Kn:Hid (s.1.length≤200∧s.2.length≤3000):=⟨Fv.out.NV _ Ch,Fv.out.mem Ch⟩
   obtain ⟨c1,c2,_⟩:=Ex wr HB.out
   obtain ⟨w2,EC⟩:∃w2,w2=wr.alloc (.cells #[.slice p1 s.1.length k1,.slice p2 s.2.length k2] 51):=⟨_,rfl⟩
   have HW:Hid (wr.alloc (.cells #[.slice p1 s.1.length k1,.slice p2 s.2.length k2] 51)=w2):=EC.symm
   have EP:Below wr.heap.size wr w2:=by rw [EC];exact (zAM _ wr).alloc (zAD _) _
   have AP:Hid (Below w.heap.size w w2):=HB.out.trans (EP.mono HB.out.size)
   have lQ:=zAA (HN.out.below EP)
   have E4:Hid (Ao w2 wr.heap.size [.slice p1 s.1.length k1,.slice p2 s.2.length k2]):=by show Ao _ _ _;rw [EC];exact Ao.new wr _ _
   have Rh:=zAA (an (.slice p1 s.1.length k1,.slice p2 s.2.length k2) s w2 (Ex w2 AP.out).2.2 (HZ.out _ Ch) (by have:=Kn.out.1;omega) (by have:=Kn.out.2;omega))
   have ij:Hid (Fa s≠0→D5 l=(Fa s,[])):=fun e=>am HF.out hx e
   have HFn:Hid (Fa s=0→∀x∈l.take (i+1),Fa x=0):=fun e x hxm=>by
    rw [zAL,hx] at hxm
    rcases zBJ.1 hxm with f | f
    ·exact HF.out x f
    ·simp at f;subst f;exact e
   have vU:Hid (Fa s=0→(eA KI l i).set i (Tp s)=eA KI l (i+1)):=fun e=>by rw [Tp,if_pos e];exact tA KI hx
   have DP:Hid (hs.length=l.length):=by show _=_;rw [HN.out.len,eB _ _ _ (by omega)]
   have Ue:Hid (i<l.length):=Aq
   simp only at Rh
   clear hx Ex Ch EC EP HN HF
   go_wp2_with fail
   rw [HW.out]
   have q1:w2.cell? ⟨wr.heap.size,0,none⟩=some (.slice p1 s.1.length k1):=by rw [E4.out.cell];rfl
   have q2:w2.cell? ⟨wr.heap.size,1,none⟩=some (.slice p2 s.2.length k2):=by rw [E4.out.cell];rfl
   clear c1 c2
   try go_wp2_with fail
   refine Rh.out.mono ?_
   rintro e w3 ⟨⟨y1,y2⟩,rfl,Jw,⟨gr,jk⟩,FG⟩
   have z8:=zAA (lQ.out.below FG)
   obtain ⟨z,hz⟩:∃z,hs[i]? = some z:=⟨_,zAC (by have:=DP.out;omega)⟩
   obtain ⟨⟨d0,d1⟩,f0,f1⟩:=z8.out.row.cell hz
   have hgl:g<w2.heap.size:=(lQ.out.row.row.lt g rfl).2
   have bK:Hid (L7 w ((w3.setCell ⟨g,i*2,none⟩ y1).setCell ⟨g,i*2+1,none⟩ y2) (hs.set i (y1,y2)) ((eA KI l i).set i (Tp s)) (.slice (some ⟨g,0,none⟩) l.length l.length)):=
    z8.out.stored (h:=(y1,y2)) Jw ⟨fun _ k hk e=>by have:=gr k hk;have:k=g:=e;omega,fun _ k hk e=>by have:=jk k hk;have:k=g:=e;omega⟩ rfl rfl
   obtain ⟨py1,cy1,ey1⟩:=Jw.1.shape
   obtain ⟨py2,cy2,ey2⟩:=Jw.2.shape
   simp only at ey1 ey2
   subst ey1 ey2
   clear FG Rh AP E4 q1 q2 HW Jw gr jk hgl lQ z8 hz
   by_cases hc:Fa s=0
   ·have KD:=vU.out hc
    have HNr:=zAA bK.out
    rw [KD] at HNr
    have ii:=zAA (HFn.out hc)
    rw [hc]
    clear hc vU HFn ij bK KD
    generalize (Tp s).1.length=m1 at *
    generalize (Tp s).2.length=m2 at *
    go_wp2_with fail
    go_round
    case rel=>exact ⟨i+1,_,by omega,by go_num,HNr.out,ii.out⟩
    case measure=>simp [intOf];omega
   ·have HE:=zAA (ij.out hc)
    have gm:((Fa s:Int) == 0)=false:=by rw [zAQ];omega
    clear hc vU HFn ij
    generalize Fa s=ce at *
    generalize (Tp s).1.length=m1 at *
    generalize (Tp s).2.length=m2 at *
    go_wp2_with fail
    go_ret2
    exact lu.Ep bK.out.row.AA HE.out
  ·have AF:¬(i:Int)<(l.length:Int):=by omega
   have hil:i=l.length:=by omega
   subst hil
   have HNa:Hid (L7 w wr hs (l.map KI) (.slice (some ⟨g,0,none⟩) l.length l.length)):=by have:=HN.out;rwa [tx] at this
   have qF:Hid (Dj l=0):=by show _=_;rw [Sw];have:=HF.out;rwa [zCT] at this
   have rl:Hid (∀s∈l.map KI,s.1.length≤1000000):=by
    intro s hs
    obtain ⟨x,hx,rfl⟩:=zBU.1 hs
    have h1:=(gK x.1).2
    have h2:=Fv.out.NV x hx
    show (BD x.1).2.length≤1000000
    omega
   have Wt:Hid ((l.map KI).length≤300):=by show _≤_;rw [zAT];exact Fv.out.len
   have Nr:=zAA (qk w wr _ hs (l.map KI) HNa.out (by have:=Wt.out;omega) rl.out)
   clear HN HF KM
   go_wp2_with fail
   refine Nr.out.mono ?_
   rintro e w5 ⟨rfl,hs',b',hp,Jw,hN,hM⟩
   have vH:=zAA hN
   have lZ:=zAA (fo hp Jw)
   have HNb:=zAA (rO Jw)
   have Yk:Hid (Rd w5 2 (.slice (some ⟨g,0,none⟩) l.length l.length) hs'.length (two Prod.fst Prod.snd hs')):=hN.row.rd
   have lf:=zAA (VL _ hs' b' w5 Yk.out hN.len (fun i h s a b=>(hN.KO i h s a b).1) (by have:=hp.length_eq;have:=Wt.out;omega) (fun s hs=>rl.out s (hp.mem_iff.1 hs)))
   rw [HNb.out] at lf
   clear hp Jw hN hM Nr HNa Yk HNb
   go_wp2_with fail
   by_cases ha:L9 b'=true
   ·have HE:Hid (D5 l=(19,[])):=by
     show _=_
     unfold D5
     rw [qF.out,if_neg (by simp),if_pos (by rw [← lZ.out.1];exact ha)]
    rw [if_pos ha] at lf
    refine lf.out.mono ?_
    rintro e w6 ⟨rfl,hG⟩
    have rt:=zAA (vH.out.below hG.below)
    clear hG lf ha vH
    go_wp2_with fail
    go_ret2
    exact lu.Ep (en:=19) rt.out.row.AA HE.out
   ·have ha':L9 b'=false:=by simpa using ha
    have HE:Hid (D5 l=(0,b')):=by
     show _=_
     unfold D5
     rw [qF.out,if_neg (by simp),if_neg (by rw [← lZ.out.1,ha'];decide),lZ.out.2 ha']
    rw [if_neg ha] at lf
    refine lf.out.mono ?_
    rintro e w6 ⟨rfl,hG⟩
    have rt:=zAA (vH.out.below hG.below)
    clear hG lf ha ha' vH
    go_wp2_with fail
    go_ret2
    rw [HE.out]
    exact ⟨_,rfl,rt.out.rd,rt.out.row.AA⟩
theorem SX (bv:Value) (b:List AJ) (w:World) (h:FU w bv b) (hs:KS b) :
  Calls Tryz.prog 61 #[bv] w fun e w'=>∃r,e = .returned r∧vd w (Bp (AK b)) r w':=by
 have H:=zAA h;have Fv:=zAA hs
 obtain ⟨p,c,hv⟩:=h.shape
 subst hv
 have Xk:(b.length:Int)≤20000:=by have:=hs.len;omega
 clear h hs
 go_enter Tryz.func61,Tryz.ntmps61
 go_wp2_with fail
 go_loopw [3,8] (fun vv iv wr=>∃(i:Nat),i≤b.length∧iv = .int .i64 (i:Int)∧Hid (FI w wr (AK (b.take i)) vv)) (fun _ iv _=>b.length-(intOf iv).toNat)
 case atStart=>exact ⟨0,zAJ _,rfl,Cp.nil w⟩
 case round=>
  obtain ⟨i,hi,rfl,HO⟩:=hrel
  have KM:(i:Int)≤20000:=by omega
  obtain ⟨pv,cv,DB⟩:=HO.out.shape
  subst DB
  by_cases Aq:i<b.length
  ·have AF:(i:Int)<(b.length:Int):=by omega
   obtain ⟨⟨ls,ss⟩,hx⟩:∃s,b[i]? = some s:=⟨_,zAC Aq⟩
   obtain ⟨AM,off,h1,h2,e,⟨p1,k1,e1⟩,⟨p4,k4,e4⟩,Ex⟩:=H.out.always hx
   subst e
   simp only at e1 e4
   subst e1 e4
   have sG:=Fv.out.NV _ (zAG hx)
   have Kn:Hid (ls.length≤60000):=sG
   have BH:=zAA (TE hx)
   have DP:Hid ((AK (b.take i)).length≤120000):=by show _≤_;exact JA Fv.out i
   obtain ⟨c1,c2,_⟩:=Ex wr HO.out.AA
   obtain ⟨w2,EC⟩:∃w2,w2=wr.alloc (.cells #[.slice p1 ls.length k1,.slice p4 ss.length k4] 51):=⟨_,rfl⟩
   have HW:Hid (wr.alloc (.cells #[.slice p1 ls.length k1,.slice p4 ss.length k4] 51)=w2):=EC.symm
   have EP:Below wr.heap.size wr w2:=by rw [EC];exact (zAM _ wr).alloc (zAD _) _
   have Dd:=zAA (HO.out.below EP)
   have rF:=zAA (Ll _ ls w2 (Ex w2 (HO.out.AA.trans (EP.mono HO.out.AA.size))).2.2.1 (by have:=Kn.out;omega))
   have ua:=zAA (Da ls)
   simp only at rF
   clear hx Ex sG EC EP
   generalize AK (b.take i)=D at *
   obtain ⟨dl,dz⟩:∃dl,D.length=dl:=⟨_,rfl⟩
   have Yc:=zAA dz
   rw [dz] at HO Dd DP ⊢
   clear dz
   go_wp2_with fail
   rw [HW.out]
   clear HW HO
   refine rF.out.mono ?_
   rintro e w3 ⟨r,rfl,hS⟩
   obtain ⟨p2,c2,Ji⟩:=hS.shape
   subst Ji
   have BG:=zAA (Dd.out.below hS.AA)
   have HS2:=zAA hS.rd
   generalize An ls=E at *
   obtain ⟨el,sC⟩:∃el,E.length=el:=⟨_,rfl⟩
   have fK:=zAA sC
   rw [sC] at HS2 ua ⊢
   clear hS Dd c1 sC
   have FT:Hid (w3.ownsRow 0 9 1 (.slice pv dl cv) dl (BM D)):=by
    have h:=BG.out.Cz
    rw [Yc.out] at h
    exact h
   have C0:Hid ((dl+el)*16≤140737488355328∧dl+el≤maxLen):=by show _∧_;have:=ua.out;have:=Kn.out;have:=DP.out;unfold maxLen;omega
   go_wp2_with (at_builtin;refine At Tryz.JW _ _ _ _ _ _ _ FT.out HS2.out (Pk E) C0.out rfl _ _ rfl rfl rfl ?_)
   intro v3 w4 k1 m1 f1
   have Ew:Hid (FI w w4 (AK (b.take (i+1))) v3):=by
    show FI _ _ _ _
    rw [BH.out]
    exact BG.out.extended (by rw [Yc.out,fK.out];exact k1) m1 f1
   obtain ⟨p3,c3,UA⟩:=(Rd.Ad k1).shape
   subst UA
   clear k1 m1 f1 BG FT
   go_wp2_with fail
   go_round
   case rel=>exact ⟨i+1,by omega,by go_num,Ew.out⟩
   case measure=>simp [intOf];omega
  ·have AF:¬(i:Int)<(b.length:Int):=by omega
   have HE:Hid (b.take i=b):=zAF (by omega)
   have DP:Hid ((AK (b.take i)).length≤120000):=by show _≤_;exact JA Fv.out i
   have HT:=zAA (kM _ (AK (b.take i)) wr HO.out.rd (by have:=DP.out;omega))
   have R4:=zAA HO.out.AA
   rw [HE.out] at HT HO DP ⊢
   clear HE HO
   go_wp2_with fail
   refine HT.out.mono ?_
   rintro e w2 ⟨r,rfl,hO⟩
   have BG:Hid (vd w (Bp (AK b)) r w2):=⟨hO.rd,fun k hk=>by have:=hO.far k hk;have:=R4.out.size;omega,R4.out.trans (hO.AA.mono R4.out.size)⟩
   obtain ⟨p2,c2,Ji⟩:=hO.rd.shape
   subst Ji
   clear hO HT
   go_wp2_with fail
   go_ret
   exact ⟨_,rfl,BG.out⟩
theorem qu {α:Type} {f1 f2:α→Value} (l:List α):∀(k:Nat),(two f1 f2 l).take (k*2)=two f1 f2 (l.take k):=by
 induction l with
 | nil=>intro k;simp [two]
 | cons x l ih=>
  intro k
  cases k with
  | zero=>simp [two]
  | succ k=>
   have e:two f1 f2 (x::l)=f1 x::f2 x::two f1 f2 l:=rfl
   rw [e,show (k+1)*2=k*2+1+1 by omega,zDR,zDR,ih k]
   rfl
theorem qt {α:Type} {f1 f2:α→Value} (l:List α):∀(k:Nat),(two f1 f2 l).drop (k*2)=two f1 f2 (l.drop k):=by
 induction l with
 | nil=>intro k;simp [two]
 | cons x l ih=>
  intro k
  cases k with
  | zero=>simp
  | succ k=>
   have e:two f1 f2 (x::l)=f1 x::f2 x::two f1 f2 l:=rfl
   rw [e,show (k+1)*2=k*2+1+1 by omega,List.drop_succ_cons,List.drop_succ_cons,ih k]
   rfl
theorem gX {α:Type} {l:List α} {i:Nat} {x:α} (h:l[i]? = some x):(l.take (i+1)).drop i=[x]:=by
 have Aq:=(zAE.1 h).1
 rw [zAL,h,zDA (by rw [zAR];omega),zBF (by rw [zAR];omega)]
 rfl
theorem tG {α:Type} {l:List α} {k:Nat} {x y:α} (h:l[k]? = some x) (h2:l[k+1]? = some y):(l.take (k+1+1)).drop k=[x,y]:=by
 have Aq:=(zAE.1 h2).1
 rw [zAL,h2,zDA (by rw [zAR];omega),gX h]
 rfl
theorem VK (lv:Value) (hs:List Hd) (b:List AJ) (w:World) (i k:Nat) (h:Rd w 2 lv (k-i) (((two Prod.fst Prod.snd hs).take (k*2)).drop (i*2))) (PC:i≤k) (hk:k≤hs.length) (Bg:hs.length=b.length) (SI:∀(i:Nat) (h:Hd) (s:AJ),hs[i]? = some h→b[i]? = some s→En w h s) (hn:b.length≤1000000) (hb:∀s∈b,s.1.length≤1000000) :
  Calls Tryz.prog 59 #[lv,.func (.func 60) #[] #[],.int .i64 19] w fun e w'=>e = .returned (.int .i64 (RE (fun x y:AJ=>Az x.1 y.1) 19 ((b.take k).drop i)))∧Ck w w':=by
 rw [qu,qt] at h
 have hl:((hs.take k).drop i).length=k-i:=by rw [zCN,zAR];omega
 refine VL lv ((hs.take k).drop i) ((b.take k).drop i) w (by rw [hl];exact h) (by rw [hl,zCN,zAR];omega) (fun j x s hx hs'=>?_) (by rw [zCN,zAR];omega) (fun s hs'=>hb s (zEE (zFB hs')))
 rw [zFQ,zFR] at hx hs'
 split at hx
 ·next h1=>
  rw [if_pos h1] at hs'
  exact SI _ _ _ hx hs'
 ·cases hx
theorem XB (bv:Value) (b:List AJ) (w:World) (h:FU w bv b) (hz:Du b) (hs:KS b) :
  Calls Tryz.prog 27 #[bv] w fun e w'=>e = .returned (.int .i64 (A0 b:Int))∧Below w.heap.size w w':=by
 have H:=zAA h;have Fv:=zAA hs;have HZ:=zAA hz
 have lL:=zAA (N2 bv b w h hs)
 obtain ⟨hs',hr,Bg,SI⟩:=h.ex
 have Yk:=zAA hr;have Ei:=zAA Bg;have bY:=zAA SI
 obtain ⟨p,c,hv⟩:=h.shape
 subst hv
 have Xk:(b.length:Int)≤20000:=by have:=hs.len;omega
 clear h hs hz hr Bg SI
 go_enter Tryz.func27,Tryz.ntmps27
 go_wp2_with fail
 refine lL.out.mono ?_
 rintro e w1 ⟨rfl,hG1⟩
 have A6:Hid (Below w.heap.size w w1):=hG1.below
 clear hG1 lL
 go_wp2_with fail
 go_loopw [11] (fun iv wr=>∃(i:Nat),i≤b.length∧iv = .int .i64 (i:Int)∧Hid (A0 b=Bb (Ds b i) (b.drop i))∧Hid (Below w.heap.size w wr)) (fun iv _=>b.length-(intOf iv).toNat)
 case atStart=>exact ⟨0,zAJ _,rfl,rfl,A6.out⟩
 case round=>
  obtain ⟨i,hi,rfl,HC,HB⟩:=hrel
  have KM:(i:Int)≤20000:=by omega
  by_cases Aq:i<b.length
  ·have AF:(i:Int)<(b.length:Int):=by omega
   obtain ⟨s,hx⟩:∃s,b[i]? = some s:=⟨_,zAC Aq⟩
   obtain ⟨AM,off,h1,h2,e,⟨p1,k1,e1⟩,⟨p2,k2,e2⟩,Ex⟩:=H.out.always hx
   subst e
   subst e1
   subst e2
   have Fi:=zAA Ex
   have BH:=zAA (Qz hx HC.out)
   have Ch:=zAG hx
   have Kn:Hid (s.1.length≤60000∧s.2.length≤1000000):=⟨Fv.out.NV _ Ch,Fv.out.mem Ch⟩
   obtain ⟨c1,c2,_⟩:=Ex wr HB.out
   obtain ⟨w2,EC⟩:∃w2,w2=wr.alloc (.cells #[.slice p1 s.1.length k1,.slice p2 s.2.length k2] 51):=⟨_,rfl⟩
   have HW:Hid (wr.alloc (.cells #[.slice p1 s.1.length k1,.slice p2 s.2.length k2] 51)=w2):=EC.symm
   have AP:Hid (Below w.heap.size w w2):=by show Below _ _ _;rw [EC];exact HB.out.alloc HB.out.size _
   have E4:Hid (Ao w2 wr.heap.size [.slice p1 s.1.length k1,.slice p2 s.2.length k2]):=by show Ao _ _ _;rw [EC];exact Ao.new wr _ _
   have Rh:=zAA (Rp (.slice p1 s.1.length k1,.slice p2 s.2.length k2) s w2 (Ex w2 AP.out).2.2 (HZ.out _ Ch) (by have:=Kn.out.1;omega) (by have:=Kn.out.2;omega))
   have HX:=zAA hx
   simp only at Rh
   clear hx Ex Ch HC EC
   go_wp2_with fail
   rw [HW.out]
   have q1:w2.cell? ⟨wr.heap.size,0,none⟩=some (.slice p1 s.1.length k1):=by rw [E4.out.cell];rfl
   have q2:w2.cell? ⟨wr.heap.size,1,none⟩=some (.slice p2 s.2.length k2):=by rw [E4.out.cell];rfl
   clear c1 c2
   try go_wp2_with fail
   refine Rh.out.mono ?_
   rintro e w3 ⟨rfl,FG⟩
   have BS:Hid (Below w.heap.size w w3):=AP.out.trans (FG.mono AP.out.size)
   clear FG Rh AP E4 q1 q2 HW
   by_cases hc:Cr s=0
   ·rw [hc]
    have Gy:Hid (A0 b=pz (Ds b i) s.1 (Bb (Ds b (i+1)) (b.drop (i+1)))):=by
     have:=BH.out
     rw [if_neg (zCI hc)] at this
     exact this
    clear hc BH
    have lW:=zAA (Yk.out.below BS.out)
    have il:Hid (hs'.length=b.length∧b.length≤20000):=⟨Ei.out,Fv.out.len⟩
    by_cases h0:i=0
    ·subst h0
     have HE:Hid (A0 b=Bb (Ds b (0+1)) (b.drop (0+1))):=Gy.out
     clear Gy
     have hR:Rd w3 2 (.slice (some ⟨AM,off,none⟩) b.length c) b.length (two Prod.fst Prod.snd hs'):=by have:=lW.out;rw [Ei.out] at this;exact this
     have Ft:=zAA hR
     clear hR
     go_wp2_with (refine MD gh _ _ b.length 0 (0+1) _ Ft.out (by omega) (by omega) rfl _ _ _ rfl rfl rfl rfl ?_;intro p4 c4 h4)
     have lR:=zAA (VK _ hs' b w3 0 (0+1) h4 (by omega) (by have:=il.out;omega) Ei.out (fun i h s a c=>(bY.out i h s a c).below BS.out) (by have:=il.out;omega) (fun s hs=>by have:=Fv.out.NV s hs;omega))
     rw [gX HX.out] at lR
     clear h4 Ft
     go_wp2_with fail
     refine lR.out.mono ?_
     rintro e w4 ⟨rfl,hG⟩
     have CF:Hid (Below w.heap.size w w4):=BS.out.trans (hG.below.mono BS.out.size)
     clear hG lR
     simp only [RE]
     go_wp2_with fail
     go_round
     case rel=>exact ⟨0+1,by omega,by go_num,HE.out,CF.out⟩
     case measure=>simp [intOf];omega
    ·obtain ⟨k,rfl⟩:∃k,i=k+1:=⟨i-1,by omega⟩
     obtain ⟨q,hy⟩:∃s,b[k]? = some s:=⟨_,zAC (by omega)⟩
     have ZM:Ds b (k+1)=some q.1:=by rw [Ds,if_neg (by omega),zDK,hy];rfl
     have HE:Hid (A0 b=if Az q.1 s.1=0 then 19 else if 0<Az q.1 s.1 then 16 else Bb (Ds b (k+1+1)) (b.drop (k+1+1))):=by
      have:=Gy.out
      rw [ZM] at this
      exact this
     have hR:Rd w3 2 (.slice (some ⟨AM,off,none⟩) b.length c) b.length (two Prod.fst Prod.snd hs'):=by have:=lW.out;rw [Ei.out] at this;exact this
     have Ft:=zAA hR
     have rk:Hid (k+1<b.length):=Aq
     have HY:=zAA hy
     have gx:((k+1:Nat):Int)-1=(k:Int):=by omega
     have Xg:(k:Int)≤19999:=by omega
     have Xi:max (k:Int) 0=(k:Int):=by omega
     have hmax2:¬(k:Int)<0:=by omega
     have hki2:((k+1:Nat):Int)+1=((k+2:Nat):Int):=by omega
     clear hR hy ZM Gy h0 Aq hi
     obtain ⟨I,hI⟩:∃I,k+1=I:=⟨_,rfl⟩
     have HI:=zAA hI
     have hki3:(I:Int)-1=(k:Int):=by omega
     rw [hI] at KM AF ⊢
     clear gx hki2 hI
     go_wp2_with (refine MD gh _ _ b.length k (I+1) _ Ft.out (by have:=HI.out;omega) (by have:=HI.out;have:=rk.out;omega) rfl _ _ _ rfl rfl rfl rfl ?_;intro p4 c4 h4)
     have lR:=zAA (VK _ hs' b w3 k (I+1) h4 (by have:=HI.out;omega) (by have:=HI.out;have:=rk.out;have:=il.out;omega) Ei.out (fun i h s a c=>(bY.out i h s a c).below BS.out) (by have:=il.out;omega) (fun s hs=>by have:=Fv.out.NV s hs;omega))
     have hsg:(b.take (I+1)).drop k=[q,s]:=by rw [← HI.out];exact tG HY.out HX.out
     have Yw:RE (fun x y:AJ=>Az x.1 y.1) 19 [q,s]=if Az s.1 q.1=0 then 19 else if Az s.1 q.1<0 then 16 else 0:=rfl
     have jl:=BJ.flip q.1 s.1
     have nj:=BJ.Yo q.1 s.1
     rw [hsg,Yw,jl] at lR
     clear h4 Ft hsg Yw jl Xi hmax2 hki3
     generalize Az q.1 s.1=cv at *
     rcases nj with rfl | rfl | rfl
     ·have Ev:Hid (A0 b=Bb (Ds b (I+1)) (b.drop (I+1))):=by rw [← HI.out];exact HE.out
      have YI:Hid (Calls Tryz.prog 59 #[.slice p4 (I+1-k) c4,.func (.func 60) #[] #[],.int .i64 19] w3 fun e w'=>e = .returned (.int .i64 0)∧Ck w3 w'):=lR.out
      clear HE lR
      go_wp2_with fail
      refine YI.out.mono ?_
      rintro e w4 ⟨rfl,hG⟩
      have CF:Hid (Below w.heap.size w w4):=BS.out.trans (hG.below.mono BS.out.size)
      clear hG YI
      go_wp2_with fail
      go_round
      case rel=>exact ⟨I+1,by have:=HI.out;have:=rk.out;omega,by go_num,Ev.out,CF.out⟩
      case measure=>simp [intOf];have:=HI.out;have:=rk.out;omega
     ·have Ev:Hid (A0 b=19):=HE.out
      have YI:Hid (Calls Tryz.prog 59 #[.slice p4 (I+1-k) c4,.func (.func 60) #[] #[],.int .i64 19] w3 fun e w'=>e = .returned (.int .i64 19)∧Ck w3 w'):=lR.out
      clear HE lR
      go_wp2_with fail
      refine YI.out.mono ?_
      rintro e w4 ⟨rfl,hG⟩
      have CF:Hid (Below w.heap.size w w4):=BS.out.trans (hG.below.mono BS.out.size)
      clear hG YI
      go_wp2_with fail
      go_ret
      exact ⟨by rw [Ev.out];rfl,CF.out⟩
     ·have Ev:Hid (A0 b=16):=HE.out
      have YI:Hid (Calls Tryz.prog 59 #[.slice p4 (I+1-k) c4,.func (.func 60) #[] #[],.int .i64 19] w3 fun e w'=>e = .returned (.int .i64 16)∧Ck w3 w'):=lR.out
      clear HE lR
      go_wp2_with fail
      refine YI.out.mono ?_
      rintro e w4 ⟨rfl,hG⟩
      have CF:Hid (Below w.heap.size w w4):=BS.out.trans (hG.below.mono BS.out.size)
      clear hG YI
      go_wp2_with fail
      go_ret
      exact ⟨by rw [Ev.out];rfl,CF.out⟩
   ·have gm:((Cr s:Int) == 0)=false:=by rw [zAQ];omega
    have HE:Hid (A0 b=Cr s):=by have:=BH.out;rw [if_pos hc] at this;exact this
    clear hc BH
    generalize Cr s=ce at *
    go_wp2_with fail
    go_ret
    exact ⟨by rw [HE.out];rfl,BS.out⟩
  ·have AF:¬(i:Int)<(b.length:Int):=by omega
   have HE:Hid (A0 b=0):=by
    show _=_
    rw [HC.out,zBF (by omega)]
    cases Ds b i<;>rfl
   go_wp2_with fail
   go_ret
   exact ⟨by rw [HE.out];rfl,HB.out⟩
end Go.Proofs.YtdcgbgecbeegmaaGreatDoor
end
