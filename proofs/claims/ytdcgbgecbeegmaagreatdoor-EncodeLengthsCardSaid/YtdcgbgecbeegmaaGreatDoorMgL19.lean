/- Texts 19. -/
import Derived.Test.YtdcgbgecbeegmaaGreatDoorMgL18
import Derived.Test.YtdcgbgecbeegmaaGreatDoorMgL7
import Derived.Test.YtdcgbgecbeegmaaGreatDoorMgL4
import Derived.Test.YtdcgbgecbeegmaaGreatDoorMgL2
import Derived.Test.YtdcgbgecbeegmaaGreatDoorMgL5
import Derived.Laws.EntriesVeiled
import Derived.Test.YtdcgbgecbeegmaaGreatDoorMgL1
import Derived.Shelf.SlSortCmp.InsertionK
import Derived.Shelf.SlSortCmp.NoneTotal
set_option linter.unusedVariables false
set_option linter.unusedSimpArgs false
section
set_option maxRecDepth 20000
namespace Go.Proofs.YtdcgbgecbeegmaaGreatDoor
open Go Go.RowKit
set_option maxHeartbeats 4000000 in
theorem compareFunc_any (av bv:Value) (a b:List Lab) (w:World) (ha:Rd w 2 av a.length (labCells a)) (hb:Rd w 2 bv b.length (labCells b)) (hna:a.length≤1000000) (hnb:b.length≤1000000) :
  Calls Tryz.prog 129 #[av,bv,.func (.func 130) #[] #[]] w fun e w'=>e = .returned (.int .i64 (cmpLabs a b))∧Grw w w':=by
 have HLa:=Lib.hid ha;have HLb:=Lib.hid hb
 obtain ⟨pa,ca,hv⟩:=ha.shape
 subst hv
 obtain ⟨pb,cb,hv⟩:=hb.shape
 subst hv
 have hma:(a.length:Int)≤1000000:=by omega
 have hmb:(b.length:Int)≤1000000:=by omega
 clear ha hb hna hnb
 go_enter Tryz.func129,Tryz.ntmps129
 go_wp2_with fail
 go_loopw [13] (fun iv wr=>∃(i:Nat),i≤a.length∧i≤b.length∧iv = .int .i64 (i:Int)∧Hid (cmpLabs a b=cmpLabs (a.drop i) (b.drop i))∧Hid (Grw w wr)) (fun iv _=>a.length-(intOf iv).toNat)
 case atStart=>exact ⟨0,Nat.zero_le _,Nat.zero_le _,rfl,rfl,Grw.refl _⟩
 case round=>
  obtain ⟨i,hia,hib,rfl,HC,HB⟩:=hrel
  have him:(i:Int)≤1000000:=by omega
  by_cases h1:i<a.length
  ·have h1':(i:Int)<(a.length:Int):=by omega
   obtain ⟨⟨xn,xv⟩,hx⟩:∃x,a[i]? = some x:=⟨_,List.getElem?_eq_getElem h1⟩
   obtain ⟨ba,oa,e⟩:=rd2_at HLa.out hx
   subst e
   obtain ⟨c0,c1⟩:=rd2_cell (HLa.out.below HB.out.below) hx
   by_cases h2:i<b.length
   ·have h2':(i:Int)<(b.length:Int):=by omega
    obtain ⟨⟨yn,yv⟩,hy⟩:∃y,b[i]? = some y:=⟨_,List.getElem?_eq_getElem h2⟩
    obtain ⟨bb,ob,e⟩:=rd2_at HLb.out hy
    subst e
    have hne:∀o:Obj,(wr.alloc o).cell? ⟨bb,ob+i*2,none⟩=some (.string yn)∧(wr.alloc o).cell? ⟨bb,ob+i*2+1,none⟩=some (.string yv):=fun o=>rd2_cell (HLb.out.below (HB.out.alloc o).below) hy
    obtain ⟨d0,d1⟩:=hne (.cells #[.string xn,.string xv] 108)
    have HSt:=Lib.hid (cmp_step hx hy HC.out)
    have HG3:Hid (Grw w ((wr.alloc (.cells #[.string xn,.string xv] 108)).alloc (.cells #[.string yn,.string yv] 108))):=(HB.out.alloc _).alloc _
    have HCm:=Lib.hid (compareLabels_any (xn,xv) (yn,yv))
    clear hx hy HC hne
    generalize cmpLab (xn,xv) (yn,yv)=o at *
    go_wp2_with fail
    refine (HCm.out _).mono ?_
    rintro e w4 ⟨rfl,hG⟩
    have HG4:=Lib.hid (HG3.out.trans hG)
    clear hG HCm HG3 c0 c1 d0 d1
    by_cases ho:o=0
    ·subst ho
     rw [if_pos rfl] at HSt
     go_wp2_with fail
     go_round
     case rel=>exact ⟨i+1,by omega,by omega,by go_num,HSt.out,HG4.out⟩
     case measure=>simp [intOf];omega
    ·have hob:(o == 0)=false:=by rw [beq_eq_false_iff_ne];exact ho
     rw [if_neg ho] at HSt
     go_wp2_with fail
     go_ret
     exact ⟨by rw [HSt.out];rfl,HG4.out⟩
   ·have h2':¬(i:Int)<(b.length:Int):=by omega
    have h2g:(b.length:Int)≤(i:Int):=by omega
    have HE:Hid (cmpLabs a b=1):=by
     show _=_
     rw [cmp_end ⟨hia,hib⟩ (fun h=>h2 h.2) HC.out,if_neg (by omega),if_pos (by omega)]
    have HG3:Hid (Grw w (wr.alloc (.cells #[.string xn,.string xv] 108))):=HB.out.alloc _
    clear hx HC
    go_wp2_with fail
    go_ret
    exact ⟨by rw [HE.out];rfl,HG3.out⟩
  ·have h1':¬(i:Int)<(a.length:Int):=by omega
   by_cases h3:a.length<b.length
   ·have h3':(a.length:Int)<(b.length:Int):=by omega
    have HE:Hid (cmpLabs a b = -1):=by
     show _=_
     rw [cmp_end ⟨hia,hib⟩ (fun h=>h1 h.1) HC.out,if_pos h3]
    clear HC
    go_wp2_with fail
    go_ret
    exact ⟨by rw [HE.out];rfl,HB.out⟩
   ·have h3':¬(a.length:Int)<(b.length:Int):=by omega
    have HE:Hid (cmpLabs a b=0):=by
     show _=_
     rw [cmp_end ⟨hia,hib⟩ (fun h=>h1 h.1) HC.out,if_neg h3,if_neg (by omega)]
    clear HC
    go_wp2_with fail
    go_ret
    exact ⟨by rw [HE.out];rfl,HB.out⟩
theorem labCompare_any (av bv:Value) (a b:List Lab) (w:World) (ha:Rd w 2 av a.length (labCells a)) (hb:Rd w 2 bv b.length (labCells b)) (hna:a.length≤1000000) (hnb:b.length≤1000000) :
  Calls Tryz.prog 93 #[av,bv] w fun e w'=>e = .returned (.int .i64 (cmpLabs a b))∧Grw w w':=by
 have HC:=Lib.hid (compareFunc_any av bv a b w ha hb hna hnb)
 obtain ⟨pa,ca,hv⟩:=ha.shape
 subst hv
 obtain ⟨pb,cb,hv⟩:=hb.shape
 subst hv
 clear ha hb hna hnb
 generalize cmpLabs a b=o at *
 go_enter Tryz.func93,Tryz.ntmps93
 go_wp2_with fail
 refine HC.out.mono ?_
 rintro e w4 ⟨rfl,hG⟩
 have HG:=Lib.hid hG
 clear hG HC
 go_wp2_with fail
 go_ret
 exact ⟨rfl,HG.out⟩
end Go.Proofs.YtdcgbgecbeegmaaGreatDoor
end
section
namespace Go.Proofs.YtdcgbgecbeegmaaGreatDoor
open Go Go.RowKit
def ordI (a b:Int):Int:=if a<b then -1 else if b<a then 1 else 0
def nbr (c:Nat→Int) (e0:Int):Nat→Nat→Int
 | _,0=>0
 | k,n+1=>if c k=0 then e0 else if c k<0 then 16 else nbr c e0 (k+1) n
section
variable {α:Type} (cmp:α→α→Int) (e0:Int)
def nbrL:List α→Int
 | a::b::l=>if cmp b a=0 then e0 else if cmp b a<0 then 16 else nbrL (b::l)
 | _=>0
def cOf (l:List α) (k:Nat):Int:=match l[k]?,l[k+1]? with
 | some a,some b=>cmp b a
 | _,_=>0
theorem cOf_at {l:List α} {k:Nat} {a b:α} (h:l[k]? = some a) (h':l[k+1]? = some b):cOf cmp l k=cmp b a:=by simp [cOf,h,h']
theorem nbr_shift (x:α) (l:List α) (n:Nat):∀k,nbr (cOf cmp (x::l)) e0 (k+1) n=nbr (cOf cmp l) e0 k n:=by
 induction n with
 | zero=>intro k;rfl
 | succ n ih=>
  intro k
  have hc:cOf cmp (x::l) (k+1)=cOf cmp l k:=by simp [cOf]
  rw [nbr,nbr,hc,ih (k+1)]
theorem nbr_list (l:List α):nbr (cOf cmp l) e0 0 (l.length-1)=nbrL cmp e0 l:=by
 induction l with
 | nil=>rfl
 | cons a l ih=>
  cases l with
  | nil=>rfl
  | cons b l=>
   have hl:(a::b::l).length-1=l.length+1:=rfl
   have hc:cOf cmp (a::b::l) 0=cmp b a:=cOf_at cmp rfl rfl
   have hs:=nbr_shift cmp e0 a (b::l) l.length 0
   have hl2:(b::l).length-1=l.length:=rfl
   rw [hl2] at ih
   rw [hl,nbr,nbrL,hc,hs,ih]
end
theorem ordI_zero (a b:Int):ordI a b=0↔a=b:=by unfold ordI;split<;>(try split)<;>omega
theorem ordI_neg (a b:Int):ordI a b<0↔a<b:=by unfold ordI;split<;>(try split)<;>omega
theorem times_nbr (l:List Sam):nbrL (fun x y:Sam=>ordI x.1 y.1) 20 l=(timesL l:Int):=by
 have key:∀(l:List Sam) (a:Sam),nbrL (fun x y:Sam=>ordI x.1 y.1) 20 (a::l)=(timesFrom a.1 l:Int):=by
  intro l
  induction l with
  | nil=>intro a;rfl
  | cons b l ih=>
   intro a
   rw [nbrL,timesFrom,ih b]
   by_cases h1:b.1=a.1
   ·rw [if_pos ((ordI_zero _ _).2 h1),if_pos h1];rfl
   ·rw [if_neg (fun e=>h1 ((ordI_zero _ _).1 e)),if_neg h1]
    by_cases h2:b.1<a.1
    ·rw [if_pos ((ordI_neg _ _).2 h2),if_pos h2];rfl
    ·rw [if_neg (fun e=>h2 ((ordI_neg _ _).1 e)),if_neg h2]
 cases l with
 | nil=>rfl
 | cons a l=>exact key l a
theorem times_srt {d:List Sam} (h:SrtE ltT d):timesL d=0∨timesL d=20:=by
 have key:∀(l:List Sam) (a:Sam),SrtE ltT (a::l)→timesFrom a.1 l=0∨timesFrom a.1 l=20:=by
  intro l
  induction l with
  | nil=>intro a _;exact Or.inl rfl
  | cons b l ih=>
   intro a h
   obtain ⟨h1,h2⟩:=List.pairwise_cons.1 h
   have hb:=h1 b (by simp)
   simp [ltT] at hb
   rw [timesFrom]
   split
   ·exact Or.inr rfl
   ·rw [if_neg (by omega)];exact ih b h2
 cases d with
 | nil=>exact Or.inl rfl
 | cons a l=>exact key l a h
theorem sorted_sam {l l':List Sam} (hp:l'.Perm l) (hs:SrtE ltT l'):timesL l'=timesL (sortE ltT l)∧(timesL l'=0→l'=sortE ltT l):=by
 have hz:timesL l'=0↔timesL (sortE ltT l)=0:=by
  rw [times_sort,timesL_zero]
  exact ⟨fun h=>(Keys.perm hp).1 (keys_of_asc h),fun h=>asc_of_srt hs ((Keys.perm hp).2 h)⟩
 refine ⟨?_,fun h=>?_⟩
 ·rcases times_srt hs with h1 | h1<;>rcases times_srt (sortE_srt ltT_ok l) with h2 | h2
  ·rw [h1,h2]
  ·have:=hz.1 h1;omega
  ·have:=hz.2 h2;omega
  ·rw [h1,h2]
 ·have ha:=(timesL_zero l').1 h
  rw [← sortE_of_asc ltT_ok ha]
  exact sortE_ext ltT_ok (keys_of_asc ha) hp
theorem adj_nbr {d:List Ser} (h:SrtE ltB d):nbrL (fun x y:Ser=>cmpLabs x.1 y.1) 19 d=if adjB d=true then 19 else 0:=by
 induction d with
 | nil=>rfl
 | cons a l ih=>
  obtain ⟨h1,h2⟩:=List.pairwise_cons.1 h
  cases l with
  | nil=>rfl
  | cons b l=>
   have hb:=h1 b (by simp)
   simp [ltB] at hb
   rw [nbrL,adjB,ih h2]
   have hd:=cmpLabs_ok.dom b.1 a.1
   have hf:=cmpLabs_ok.flip a.1 b.1
   by_cases h0:cmpLabs b.1 a.1=0
   ·have h0':cmpLabs a.1 b.1=0:=by rw [h0] at hf;omega
    rw [if_pos h0,decide_eq_true h0'];rfl
   ·have h0':¬cmpLabs a.1 b.1=0:=fun e=>h0 (by rw [e] at hf;omega)
    rw [if_neg h0,if_neg (by omega),decide_eq_false h0',Bool.false_or]
theorem sorted_ser {l l':List Ser} (hp:l'.Perm l) (hs:SrtE ltB l'):adjB l'=adjB (sortE ltB l)∧(adjB l'=false→l'=sortE ltB l):=by
 have hz:adjB l'=false↔adjB (sortE ltB l)=false:=by
  rw [adj_sort,adjB_false hs]
  exact ⟨fun h=>(Keys.perm hp).1 (keys_of_asc h),fun h=>asc_of_srt hs ((Keys.perm hp).2 h)⟩
 refine ⟨?_,fun h=>?_⟩
 ·cases h1:adjB l' with
  | false=>rw [hz.1 h1]
  | true=>
   cases h2:adjB (sortE ltB l) with
   | true=>rfl
   | false=>rw [hz.2 h2] at h1;cases h1
 ·have ha:=(adjB_false hs).1 h
  rw [← sortE_of_asc ltB_ok ha]
  exact sortE_ext ltB_ok (keys_of_asc ha) hp
end Go.Proofs.YtdcgbgecbeegmaaGreatDoor
end
section
set_option maxRecDepth 20000
namespace Go.Proofs.YtdcgbgecbeegmaaGreatDoor
open Go Go.RowKit
theorem isNaN_any (a:Int) (w:World):Calls Tryz.prog 175 #[.int .i64 a] w fun e w'=>e = .returned (.bool false)∧w'=w:=by
 go_enter Tryz.func175,Tryz.ntmps175
 go_wp2_with fail
 go_ret
 exact ⟨rfl,rfl⟩
theorem cmpI64_any (a b:Int) (w:World):Calls Tryz.prog 128 #[.int .i64 a,.int .i64 b] w fun e w'=>e = .returned (.int .i64 (ordI a b))∧w'=w:=by
 have H1:=Lib.hid (isNaN_any a);have H2:=Lib.hid (isNaN_any b)
 by_cases h:a<b
 ·have HE:Hid (ordI a b = -1):=if_pos h
  go_enter Tryz.func128,Tryz.ntmps128
  go_wp2_with fail
  refine (H1.out _).mono ?_
  rintro e w' ⟨rfl,rfl⟩
  go_wp2_with fail
  refine (H2.out _).mono ?_
  rintro e w' ⟨rfl,rfl⟩
  go_wp2_with fail
  go_ret
  exact ⟨by rw [HE.out];rfl,rfl⟩
 ·by_cases h2:b<a
  ·have HE:Hid (ordI a b=1):=by show _=_;rw [ordI,if_neg h,if_pos h2]
   go_enter Tryz.func128,Tryz.ntmps128
   go_wp2_with fail
   refine (H1.out _).mono ?_
   rintro e w' ⟨rfl,rfl⟩
   go_wp2_with fail
   refine (H2.out _).mono ?_
   rintro e w' ⟨rfl,rfl⟩
   go_wp2_with fail
   go_ret
   exact ⟨by rw [HE.out];rfl,rfl⟩
  ·have HE:Hid (ordI a b=0):=by show _=_;rw [ordI,if_neg h,if_neg h2]
   go_enter Tryz.func128,Tryz.ntmps128
   go_wp2_with fail
   refine (H1.out _).mono ?_
   rintro e w' ⟨rfl,rfl⟩
   go_wp2_with fail
   refine (H2.out _).mono ?_
   rintro e w' ⟨rfl,rfl⟩
   go_wp2_with fail
   go_ret
   exact ⟨by rw [HE.out];rfl,rfl⟩
theorem compareTimes_any (x y:Sam) (w:World) :
  Calls Tryz.prog 92 #[.agg #[.int .i64 x.1,.int .u64 (x.2:Int)],.agg #[.int .i64 y.1,.int .u64 (y.2:Int)]] w fun e w'=>e = .returned (.int .i64 (ordI x.1 y.1))∧Grw w w':=by
 obtain ⟨xt,xv⟩:=x
 obtain ⟨yt,yv⟩:=y
 show Calls Tryz.prog 92 #[.agg #[.int .i64 xt,.int .u64 (xv:Int)],.agg #[.int .i64 yt,.int .u64 (yv:Int)]] w fun e w'=>e = .returned (.int .i64 (ordI xt yt))∧Grw w w'
 have HC:=Lib.hid (fun w=>cmpI64_any xt yt w)
 generalize ordI xt yt=o at *
 have HG2:Hid (Grw w ((w.alloc (.cells #[.int .i64 xt,.int .u64 (xv:Int)] 110)).alloc (.cells #[.int .i64 yt,.int .u64 (yv:Int)] 110))):=((Grw.refl w).alloc _).alloc _
 go_enter Tryz.func92,Tryz.ntmps92
 go_wp2_with fail
 refine (HC.out _).mono ?_
 rintro e w' ⟨rfl,rfl⟩
 clear HC
 go_wp2_with fail
 go_ret
 exact ⟨rfl,HG2.out⟩
theorem Rd.grw {w w':World} {k:Nat} {v:Value} {n:Nat} {cs:List Value} (h:Rd w k v n cs) (hg:Grw w w'):Rd w' k v n cs:=h.below hg.below
theorem compareSeries_any (x y:Hd) (s t:Ser) (w:World) (hx:SerAt w x s) (hy:SerAt w y t) (hs:s.1.length≤1000000) (ht:t.1.length≤1000000) :
  Calls Tryz.prog 60 #[.agg #[x.1,x.2],.agg #[y.1,y.2]] w fun e w'=>e = .returned (.int .i64 (cmpLabs s.1 t.1))∧Grw w w':=by
 obtain ⟨x1,x2⟩:=x
 obtain ⟨y1,y2⟩:=y
 obtain ⟨p1,c1,e1⟩:=hx.1.shape
 obtain ⟨p2,c2,e2⟩:=hx.2.shape
 obtain ⟨p3,c3,e3⟩:=hy.1.shape
 obtain ⟨p4,c4,e4⟩:=hy.2.shape
 simp only at e1 e2 e3 e4
 subst e1 e2 e3 e4
 have HG2:Hid (Grw w ((w.alloc (.cells #[.slice p1 s.1.length c1,.slice p2 s.2.length c2] 51)).alloc (.cells #[.slice p3 t.1.length c3,.slice p4 t.2.length c4] 51))):=((Grw.refl w).alloc _).alloc _
 have HC:=Lib.hid (labCompare_any _ _ s.1 t.1 _ (hx.1.grw HG2.out) (hy.1.grw HG2.out) hs ht)
 clear hx hy hs ht
 generalize cmpLabs s.1 t.1=o at *
 simp only at HC
 go_enter Tryz.func60,Tryz.ntmps60
 go_wp2_with fail
 refine HC.out.mono ?_
 rintro e w' ⟨rfl,hG⟩
 have HG3:=Lib.hid (HG2.out.trans hG)
 clear hG HC HG2
 go_wp2_with fail
 go_ret
 exact ⟨rfl,HG3.out⟩
set_option maxHeartbeats 4000000 in
theorem neighS_any (lv:Value) (hs:List Hd) (g:FuncId) (c:Nat→Int) (e0:Int) (w:World) (h:Rd w 2 lv hs.length (two Prod.fst Prod.snd hs)) (hn:hs.length≤1000000)
  (hcf:∀(args:Array Value) (w:World),(callFunc g args).run Tryz.prog w = .ok (.enter g args) w)
  (hc:∀(i:Nat) (a b:Hd),hs[i]? = some a→hs[i+1]? = some b→∀w',Grw w w'→Calls Tryz.prog g #[.agg #[b.1,b.2],.agg #[a.1,a.2]] w' fun e w''=>e = .returned (.int .i64 (c i))∧Grw w' w'') :
  Calls Tryz.prog 91 #[lv,.func (.func g) #[] #[],.int .i64 e0] w fun e w'=>e = .returned (.int .i64 (nbr c e0 0 (hs.length-1)))∧Grw w w':=by
 have H:=Lib.hid h;have HC:=Lib.hid hc
 obtain ⟨p,cp,hv⟩:=h.shape
 subst hv
 have hmx:(hs.length:Int)≤1000000:=by omega
 clear h hn hc
 go_enter Tryz.func91,Tryz.ntmps91
 go_wp2_with fail
 go_step3
 go_wp2_with fail
 go_step3
 go_wp2_with fail
 go_loopw [7,8] (fun ev iv wr=>∃(i k:Nat),i=k+1∧(i≤hs.length∨k=0)∧ev = .int .i64 0∧iv = .int .i64 (i:Int)∧Hid (nbr c e0 0 (hs.length-1)=nbr c e0 k (hs.length-1-k))∧Hid (Grw w wr)) (fun _ iv _=>hs.length+1-(intOf iv).toNat)
 case atStart=>exact ⟨1,0,rfl,Or.inr rfl,rfl,rfl,rfl,Grw.refl _⟩
 case round=>
  obtain ⟨i,k,hik,hi,rfl,rfl,HP,HG⟩:=hrel
  by_cases hlt:i<hs.length
  ·have hlt':(i:Int)<(hs.length:Int):=by omega
   have hi1:(i:Int)-1=(k:Int):=by omega
   have hkl:(k:Int)<(hs.length:Int):=by omega
   have hwk:IntKind.i64.wrap (k:Int)=(k:Int):=IntWalk.i64_in _ (by omega)
   obtain ⟨⟨a1,a2⟩,ha⟩:∃x,hs[k]? = some x:=⟨_,List.getElem?_eq_getElem (by omega)⟩
   obtain ⟨⟨b1,b2⟩,hb⟩:∃x,hs[i]? = some x:=⟨_,List.getElem?_eq_getElem hlt⟩
   have HSt:Hid (nbr c e0 0 (hs.length-1)=if c k=0 then e0 else if c k<0 then 16 else nbr c e0 (k+1) (hs.length-1-(k+1))):=by
    show _=_
    rw [HP.out]
    obtain ⟨m,hm⟩:∃m,hs.length-1-k=m+1:=⟨hs.length-1-k-1,by omega⟩
    rw [hm,show hs.length-1-(k+1)=m by omega]
    rfl
   obtain ⟨b0,o0,e⟩:=rd2_at H.out ha
   subst e
   have HR:Hid (∀n os,Rd (Go.Sort.grow (wr.drewN n) os) 2 (.slice (some ⟨b0,o0,none⟩) hs.length cp) hs.length (two Prod.fst Prod.snd hs)):=fun n os=>H.out.below (HG.out.grow n os).below
   have x0:∀n os,(Go.Sort.grow (wr.drewN n) os).cell? ⟨b0,o0+k*2,none⟩=some a1:=fun n os=>(rd2_cell (HR.out n os) ha).1
   have x1:∀n os,(Go.Sort.grow (wr.drewN n) os).cell? ⟨b0,o0+k*2+1,none⟩=some a2:=fun n os=>(rd2_cell (HR.out n os) ha).2
   have y0:∀n os,(Go.Sort.grow (wr.drewN n) os).cell? ⟨b0,o0+i*2,none⟩=some b1:=fun n os=>(rd2_cell (HR.out n os) hb).1
   have y1:∀n os,(Go.Sort.grow (wr.drewN n) os).cell? ⟨b0,o0+i*2+1,none⟩=some b2:=fun n os=>(rd2_cell (HR.out n os) hb).2
   have HXC:Hid (∀n os,Calls Tryz.prog g #[.agg #[b1,b2],.agg #[a1,a2]] (Go.Sort.grow (wr.drewN n) os) fun e w'=>e = .returned (.int .i64 (c k))∧∃q os',w'=Go.Sort.grow ((Go.Sort.grow (wr.drewN n) os).drewN q) os'):=fun n os=>HC.out k (a1,a2) (b1,b2) ha (by rw [← hik];exact hb) _ (HG.out.grow n os)
   have HIK:=Lib.hid hik
   clear ha hb HR HP hik hi
   generalize c k=o at *
   go_wp2_with fail
   have mixed : Tryz.prog.follows .mixedOrders=true:=by kernel_rfl
   go_quiet_grown (first | (go_at_fn g;exact Calls.grown_of (HXC.out _ _)))
   have HG4:Hid (Grw w (Go.Sort.grow (wr.drewN nq) osq)):=HG.out.grow nq osq
   clear x0 x1 y0 y1 HXC HG mixed hi1 hkl hwk
   show Exit.then _ _ _ _ (Go.Sort.grow (wr.drewN nq) osq)
   generalize Go.Sort.grow (wr.drewN nq) osq=w4 at *
   by_cases ho:o=0
   ·subst ho
    have HE:Hid (nbr c e0 0 (hs.length-1)=e0):=HSt.out
    clear HSt
    go_wp2_with fail
    try rw [Exit.noGoto_ret]
    go_ret
    exact ⟨by rw [HE.out];rfl,HG4.out⟩
   ·have hob:(o == 0)=false:=by rw [beq_eq_false_iff_ne];exact ho
    by_cases h2:o<0
    ·have HE:Hid (nbr c e0 0 (hs.length-1)=16):=by have:=HSt.out;rw [if_neg ho,if_pos h2] at this;exact this
     clear HSt
     go_wp2_with fail
     try rw [Exit.noGoto_ret]
     go_ret
     exact ⟨by rw [HE.out];rfl,HG4.out⟩
    ·have HE:Hid (nbr c e0 0 (hs.length-1)=nbr c e0 i (hs.length-1-i)):=by have:=HSt.out;rw [if_neg ho,if_neg h2,← HIK.out] at this;exact this
     clear HSt
     go_wp2_with fail
     go_round
     case rel=>exact ⟨i+1,i,rfl,Or.inl (by omega),rfl,by go_num,HE.out,HG4.out⟩
     case measure=>simp [intOf];omega
  ·have hlt':¬(i:Int)<(hs.length:Int):=by omega
   have HE:Hid (nbr c e0 0 (hs.length-1)=0):=by
    show _=_
    rw [HP.out,show hs.length-1-k=0 by omega]
    rfl
   clear hik hi
   go_wp2_with fail
   try rw [Exit.noGoto_ret]
   go_ret
   exact ⟨by rw [HE.out];rfl,HG.out⟩
set_option maxHeartbeats 4000000 in
theorem neighB_any (lv:Value) (hs:List Hd) (g:FuncId) (c:Nat→Int) (e0:Int) (w:World) (h:Rd w 2 lv hs.length (two Prod.fst Prod.snd hs)) (hn:hs.length≤1000000)
  (hcf:∀(args:Array Value) (w:World),(callFunc g args).run Tryz.prog w = .ok (.enter g args) w)
  (hc:∀(i:Nat) (a b:Hd),hs[i]? = some a→hs[i+1]? = some b→∀w',Grw w w'→Calls Tryz.prog g #[.agg #[b.1,b.2],.agg #[a.1,a.2]] w' fun e w''=>e = .returned (.int .i64 (c i))∧Grw w' w'') :
  Calls Tryz.prog 59 #[lv,.func (.func g) #[] #[],.int .i64 e0] w fun e w'=>e = .returned (.int .i64 (nbr c e0 0 (hs.length-1)))∧Grw w w':=by
 have H:=Lib.hid h;have HC:=Lib.hid hc
 obtain ⟨p,cp,hv⟩:=h.shape
 subst hv
 have hmx:(hs.length:Int)≤1000000:=by omega
 clear h hn hc
 go_enter Tryz.func59,Tryz.ntmps59
 go_wp2_with fail
 go_step3
 go_wp2_with fail
 go_step3
 go_wp2_with fail
 go_loopw [7,8] (fun ev iv wr=>∃(i k:Nat),i=k+1∧(i≤hs.length∨k=0)∧ev = .int .i64 0∧iv = .int .i64 (i:Int)∧Hid (nbr c e0 0 (hs.length-1)=nbr c e0 k (hs.length-1-k))∧Hid (Grw w wr)) (fun _ iv _=>hs.length+1-(intOf iv).toNat)
 case atStart=>exact ⟨1,0,rfl,Or.inr rfl,rfl,rfl,rfl,Grw.refl _⟩
 case round=>
  obtain ⟨i,k,hik,hi,rfl,rfl,HP,HG⟩:=hrel
  by_cases hlt:i<hs.length
  ·have hlt':(i:Int)<(hs.length:Int):=by omega
   have hi1:(i:Int)-1=(k:Int):=by omega
   have hkl:(k:Int)<(hs.length:Int):=by omega
   have hwk:IntKind.i64.wrap (k:Int)=(k:Int):=IntWalk.i64_in _ (by omega)
   obtain ⟨⟨a1,a2⟩,ha⟩:∃x,hs[k]? = some x:=⟨_,List.getElem?_eq_getElem (by omega)⟩
   obtain ⟨⟨b1,b2⟩,hb⟩:∃x,hs[i]? = some x:=⟨_,List.getElem?_eq_getElem hlt⟩
   have HSt:Hid (nbr c e0 0 (hs.length-1)=if c k=0 then e0 else if c k<0 then 16 else nbr c e0 (k+1) (hs.length-1-(k+1))):=by
    show _=_
    rw [HP.out]
    obtain ⟨m,hm⟩:∃m,hs.length-1-k=m+1:=⟨hs.length-1-k-1,by omega⟩
    rw [hm,show hs.length-1-(k+1)=m by omega]
    rfl
   obtain ⟨b0,o0,e⟩:=rd2_at H.out ha
   subst e
   have HR:Hid (∀n os,Rd (Go.Sort.grow (wr.drewN n) os) 2 (.slice (some ⟨b0,o0,none⟩) hs.length cp) hs.length (two Prod.fst Prod.snd hs)):=fun n os=>H.out.below (HG.out.grow n os).below
   have x0:∀n os,(Go.Sort.grow (wr.drewN n) os).cell? ⟨b0,o0+k*2,none⟩=some a1:=fun n os=>(rd2_cell (HR.out n os) ha).1
   have x1:∀n os,(Go.Sort.grow (wr.drewN n) os).cell? ⟨b0,o0+k*2+1,none⟩=some a2:=fun n os=>(rd2_cell (HR.out n os) ha).2
   have y0:∀n os,(Go.Sort.grow (wr.drewN n) os).cell? ⟨b0,o0+i*2,none⟩=some b1:=fun n os=>(rd2_cell (HR.out n os) hb).1
   have y1:∀n os,(Go.Sort.grow (wr.drewN n) os).cell? ⟨b0,o0+i*2+1,none⟩=some b2:=fun n os=>(rd2_cell (HR.out n os) hb).2
   have HXC:Hid (∀n os,Calls Tryz.prog g #[.agg #[b1,b2],.agg #[a1,a2]] (Go.Sort.grow (wr.drewN n) os) fun e w'=>e = .returned (.int .i64 (c k))∧∃q os',w'=Go.Sort.grow ((Go.Sort.grow (wr.drewN n) os).drewN q) os'):=fun n os=>HC.out k (a1,a2) (b1,b2) ha (by rw [← hik];exact hb) _ (HG.out.grow n os)
   have HIK:=Lib.hid hik
   clear ha hb HR HP hik hi
   generalize c k=o at *
   go_wp2_with fail
   have mixed : Tryz.prog.follows .mixedOrders=true:=by kernel_rfl
   go_quiet_grown (first | (go_at_fn g;exact Calls.grown_of (HXC.out _ _)))
   have HG4:Hid (Grw w (Go.Sort.grow (wr.drewN nq) osq)):=HG.out.grow nq osq
   clear x0 x1 y0 y1 HXC HG mixed hi1 hkl hwk
   show Exit.then _ _ _ _ (Go.Sort.grow (wr.drewN nq) osq)
   generalize Go.Sort.grow (wr.drewN nq) osq=w4 at *
   by_cases ho:o=0
   ·subst ho
    have HE:Hid (nbr c e0 0 (hs.length-1)=e0):=HSt.out
    clear HSt
    go_wp2_with fail
    try rw [Exit.noGoto_ret]
    go_ret
    exact ⟨by rw [HE.out];rfl,HG4.out⟩
   ·have hob:(o == 0)=false:=by rw [beq_eq_false_iff_ne];exact ho
    by_cases h2:o<0
    ·have HE:Hid (nbr c e0 0 (hs.length-1)=16):=by have:=HSt.out;rw [if_neg ho,if_pos h2] at this;exact this
     clear HSt
     go_wp2_with fail
     try rw [Exit.noGoto_ret]
     go_ret
     exact ⟨by rw [HE.out];rfl,HG4.out⟩
    ·have HE:Hid (nbr c e0 0 (hs.length-1)=nbr c e0 i (hs.length-1-i)):=by have:=HSt.out;rw [if_neg ho,if_neg h2,← HIK.out] at this;exact this
     clear HSt
     go_wp2_with fail
     go_round
     case rel=>exact ⟨i+1,i,rfl,Or.inl (by omega),rfl,by go_num,HE.out,HG4.out⟩
     case measure=>simp [intOf];omega
  ·have hlt':¬(i:Int)<(hs.length:Int):=by omega
   have HE:Hid (nbr c e0 0 (hs.length-1)=0):=by
    show _=_
    rw [HP.out,show hs.length-1-k=0 by omega]
    rfl
   clear hik hi
   go_wp2_with fail
   try rw [Exit.noGoto_ret]
   go_ret
   exact ⟨by rw [HE.out];rfl,HG.out⟩
set_option maxHeartbeats 1000000 in
theorem checkLabel_any (n v:ByteArray) (w:World) (hn:n.size≤9223372036854775807) (hv:v.size≤9223372036854775807) :
  Calls Tryz.prog 126 #[.agg #[.string n,.string v]] w fun e w'=>e = .returned (.int .i64 (oneL (n,v):Int))∧Below w.heap.size w w':=by
 have hB:Below w.heap.size w (w.alloc (.cells #[.string n,.string v] 108)):=(Below.refl _ w).alloc (Nat.le_refl _) _
 have HEm:=Lib.hid (empty_size n)
 by_cases h0:n.size=0
 ·have hE:n.toList.isEmpty=true:=by rw [HEm.out];simpa using h0
  have HO:Hid (oneL (n,v)=17):=if_pos h0
  rw [HO.out]
  go_enter Tryz.func126,Tryz.ntmps126
  go_wp2_with fail
  go_ret
  exact ⟨rfl,hB⟩
 ·have hE:n.toList.isEmpty=false:=by rw [HEm.out];simpa using h0
  by_cases h1:(65535:Int)<(n.size:Int)
  ·have HO:Hid (oneL (n,v)=7):=by show _=_;rw [oneL,if_neg h0,if_pos (Or.inl (by show 65535<n.size;omega))]
   rw [HO.out]
   clear h0
   go_enter Tryz.func126,Tryz.ntmps126
   go_wp2_with fail
   go_ret
   exact ⟨rfl,hB⟩
  ·have hd1:decide ((65535:Int)<(n.size:Int))=false:=by simpa using h1
   by_cases h2:(65535:Int)<(v.size:Int)
   ·have hd2:decide ((65535:Int)<(v.size:Int))=true:=by simpa using h2
    have HO:Hid (oneL (n,v)=7):=by show _=_;rw [oneL,if_neg h0,if_pos (Or.inr (by show 65535<v.size;omega))]
    rw [HO.out]
    clear h0
    go_enter Tryz.func126,Tryz.ntmps126
    go_wp2_with fail
    go_ret
    exact ⟨rfl,hB⟩
   ·have hd2:decide ((65535:Int)<(v.size:Int))=false:=by simpa using h2
    have HO:Hid (oneL (n,v)=0):=by
     show _=_
     rw [oneL,if_neg h0,if_neg]
     rintro (e | e)
     ·exact h1 (by have:65535<n.size:=e;omega)
     ·exact h2 (by have:65535<v.size:=e;omega)
    rw [HO.out]
    clear h0
    go_enter Tryz.func126,Tryz.ntmps126
    go_wp2_with fail
    go_ret
    exact ⟨rfl,hB⟩
theorem ltS_empty (n:ByteArray):ltS n ⟨#[]⟩=false:=by
 unfold ltS
 have:(⟨#[]⟩:ByteArray).toList=[]:=by simp [ByteArray.toList_eq]
 rw [this]
 cases n.toList<;>rfl
theorem ltS_of_empty {n:ByteArray} (h:n.size≠0):ltS ⟨#[]⟩ n=true:=by
 rcases Bool.eq_false_or_eq_true (ltS ⟨#[]⟩ n) with e | e
 ·exact e
 ·have:=ltS_ok.tot _ _ e (ltS_empty n)
  subst this
  exact absurd rfl h
theorem checkNext_ord {p:Option ByteArray} {x:Lab} {r:Nat} (h:oneL x=0) :
  checkNext p x r=if ordS x.1 (p.getD ⟨#[]⟩)=0 then 18 else if ordS x.1 (p.getD ⟨#[]⟩)<0 then 16 else r:=by
 have hs:x.1.size≠0:=fun e=>by rw [oneL,if_pos e] at h;cases h
 cases p with
 | none=>
  have ho:ordS x.1 ⟨#[]⟩=1:=by rw [ordS,ordB,if_neg (by rw [ltS_empty];simp),if_pos (ltS_of_empty hs)]
  show r=if ordS x.1 ⟨#[]⟩=0 then 18 else if ordS x.1 ⟨#[]⟩<0 then 16 else r
  rw [ho];rfl
 | some n=>
  show (if x.1=n then 18 else if ltS x.1 n then 16 else r)=if ordS x.1 n=0 then 18 else if ordS x.1 n<0 then 16 else r
  by_cases h1:x.1=n
  ·rw [if_pos h1,if_pos ((ordS_ok.eq _ _).2 h1)]
  ·rw [if_neg h1,if_neg (fun e=>h1 ((ordS_ok.eq _ _).1 e))]
   by_cases h2:ltS x.1 n=true
   ·have:ordS x.1 n = -1:=if_pos h2
    rw [if_pos h2,if_pos (by omega)]
   ·rw [if_neg h2,if_neg]
    have:ordS x.1 n=if ltS n x.1 then 1 else 0:=if_neg h2
    rw [this]
    split<;>decide
theorem prevN_next {l:List Lab} {i:Nat} {x:Lab} (hx:l[i]? = some x):(prevN l (i+1)).getD ⟨#[]⟩=x.1:=by
 rw [prevN,if_neg (by omega),Nat.add_sub_cancel,hx];rfl
set_option maxHeartbeats 4000000 in
theorem labCheck_any (lv:Value) (l:List Lab) (w:World) (hl:Rd w 2 lv l.length (labCells l)) (hs:∀x∈l,x.1.size≤9223372036854775807∧x.2.size≤9223372036854775807) (hn:l.length≤1000000) :
  Calls Tryz.prog 90 #[lv] w fun e w'=>e = .returned (.int .i64 (checkL l:Int))∧Below w.heap.size w w':=by
 have HL:=Lib.hid hl;have HS:=Lib.hid hs
 obtain ⟨pl,cl,hv⟩:=hl.shape
 subst hv
 have hmx:(l.length:Int)≤1000000:=by omega
 have HB1:Hid (Below w.heap.size w (w.alloc (.cells #[.string ⟨#[]⟩,.string ⟨#[]⟩] 108))):=(Below.refl _ w).alloc (Nat.le_refl _) _
 have HK1:Hid (Blk (w.alloc (.cells #[.string ⟨#[]⟩,.string ⟨#[]⟩] 108)) w.heap.size [.string ⟨#[]⟩,.string ⟨#[]⟩]):=Blk.new w _ _
 clear hl hs hn
 go_enter Tryz.func90,Tryz.ntmps90
 go_wp2_with fail
 go_loopw [10] (fun iv wr=>∃(i:Nat) (bn bv:ByteArray),i≤l.length∧iv = .int .i64 (i:Int)∧Hid (checkL l=checkFrom (prevN l i) (l.drop i))∧Hid ((prevN l i).getD ⟨#[]⟩=bn)∧Hid (Blk wr w.heap.size [.string bn,.string bv])∧Hid (Below w.heap.size w wr)) (fun iv _=>l.length-(intOf iv).toNat)
 case atStart=>exact ⟨0,⟨#[]⟩,⟨#[]⟩,Nat.zero_le _,rfl,rfl,rfl,HK1.out,HB1.out⟩
 case round=>
  obtain ⟨i,bn,bv,hi,rfl,HC,HP,HK,HB⟩:=hrel
  by_cases hlt:i<l.length
  ·have hlt':(i:Int)<(l.length:Int):=by omega
   have him:(i:Int)≤1000000:=by omega
   obtain ⟨⟨n,v⟩,hx⟩:∃x,l[i]? = some x:=⟨_,List.getElem?_eq_getElem hlt⟩
   obtain ⟨b,off,e⟩:=rd2_at HL.out hx
   subst e
   obtain ⟨c0,c1⟩:=rd2_cell (HL.out.below HB.out) hx
   have HOn:=Lib.hid (fun w'=>checkLabel_any n v w' (HS.out _ (List.mem_of_getElem? hx)).1 (HS.out _ (List.mem_of_getElem? hx)).2)
   have HSt:=Lib.hid (check_step hx HC.out)
   have HNx:=Lib.hid (prevN_next hx)
   have HB2:Hid (Below w.heap.size w (wr.alloc (.cells #[.string n,.string v] 108))):=HB.out.trans (((Below.refl _ wr).alloc (Nat.le_refl _) _).mono HB.out.size)
   have HK2:Hid (Blk (wr.alloc (.cells #[.string n,.string v] 108)) w.heap.size [.string bn,.string bv]):=HK.out.alloc _
   have HX2:Hid (Blk (wr.alloc (.cells #[.string n,.string v] 108)) wr.heap.size [.string n,.string v]):=Blk.new wr _ _
   have HZ:Hid (w.heap.size<wr.heap.size):=HK.out.lt
   clear hx HC HB HK
   go_wp2_with fail
   refine (HOn.out _).mono ?_
   rintro e w3 ⟨rfl,hB⟩
   have HB3:=Lib.hid (HB2.out.trans (hB.mono HB2.out.size))
   have HK3:Hid (Blk w3 w.heap.size [.string bn,.string bv]):=HK2.out.of_same (hB.block _ HK2.out.lt)
   have HX3:Hid (Blk w3 wr.heap.size [.string n,.string v]):=HX2.out.of_same (hB.block _ HX2.out.lt)
   clear c0 c1 hB HOn HB2 HK2 HX2
   generalize wr.heap.size=h2 at *
   by_cases he:oneL (n,v)=0
   ·rw [if_neg (not_not_intro he)] at HSt
    have HSt2:Hid (checkL l=if ordS n bn=0 then 18 else if ordS n bn<0 then 16 else checkFrom (prevN l (i+1)) (l.drop (i+1))):=by
     show _=_
     rw [HSt.out,checkNext_ord he,HP.out]
    rw [he]
    clear he HSt
    have x0:=HX3.out.cell 0
    have x1:=HX3.out.cell 1
    have b0:=HK3.out.cell 0
    have b1:=HK3.out.cell 1
    simp only [List.getElem?_cons_zero,List.getElem?_cons_succ] at x0 x1 b0 b1
    have HCm:=Lib.hid (compareNames_any (n,v) (bn,bv) w3)
    go_wp2_with fail
    refine HCm.out.mono ?_
    rintro e w4 ⟨rfl,hG⟩
    have HB4:=Lib.hid (HB3.out.trans (hG.below.mono HB3.out.size))
    have HK4:=Lib.hid (hG.blk HK3.out)
    have HX4:=Lib.hid (hG.blk HX3.out)
    clear x0 x1 b0 b1 hG HCm HB3 HK3 HX3
    show _
    have hnv:ordS (n,v).1 (bn,bv).1=ordS n bn:=rfl
    rw [hnv]
    clear hnv
    generalize ordS n bn=o at *
    by_cases ho:o=0
    ·subst ho
     rw [if_pos rfl] at HSt2
     go_wp2_with fail
     go_ret
     exact ⟨by rw [HSt2.out];rfl,HB4.out⟩
    ·have hob:(o == 0)=false:=by rw [beq_eq_false_iff_ne];exact ho
     rw [if_neg ho] at HSt2
     by_cases ho2:o<0
     ·rw [if_pos ho2] at HSt2
      go_wp2_with fail
      go_ret
      exact ⟨by rw [HSt2.out];rfl,HB4.out⟩
     ·rw [if_neg ho2] at HSt2
      have x0:=HX4.out.cell 0
      have x1:=HX4.out.cell 1
      have b0:=HK4.out.cell 0
      have b1:=HK4.out.cell 1
      simp only [List.getElem?_cons_zero,List.getElem?_cons_succ] at x0 x1 b0 b1
      have f0:=HK4.out.free 0
      have f1:=HK4.out.free 1
      have HK5:Hid (Blk ((w4.setCell ⟨w.heap.size,0,none⟩ (.string n)).setCell ⟨w.heap.size,1,none⟩ (.string v)) w.heap.size [.string n,.string v]):=(HK4.out.set 0 _).set 1 _
      have HB5:Hid (Below w.heap.size w ((w4.setCell ⟨w.heap.size,0,none⟩ (.string n)).setCell ⟨w.heap.size,1,none⟩ (.string v))):=
       HB4.out.trans (((Mods.set (fun k=>k=w.heap.size) w4 ⟨w.heap.size,0,none⟩ _ (fun _=>rfl)).trans (Mods.set (fun k=>k=w.heap.size) _ ⟨w.heap.size,1,none⟩ _ (fun _=>rfl)) (fun _ _ e=>e)).below HB4.out.size (fun k hk e=>by omega))
      clear HB4 HK4 HX4
      go_wp2_with fail
      go_round
      case rel=>exact ⟨i+1,n,v,by omega,by go_num,HSt2.out,HNx.out,HK5.out,HB5.out⟩
      case measure=>simp [intOf];omega
   ·have he1:¬(oneL (n,v):Int)=0:=by omega
    have heb:((oneL (n,v):Int) == 0)=false:=by rw [beq_eq_false_iff_ne];exact he1
    rw [if_pos he] at HSt
    clear he
    generalize oneL (n,v)=e at *
    go_wp2_with fail
    go_ret
    exact ⟨by rw [HSt.out];rfl,HB3.out⟩
  ·have hlt':¬(i:Int)<(l.length:Int):=by omega
   have HE:Hid (checkL l=0):=by
    show _=_
    rw [HC.out,List.drop_of_length_le (by omega)]
    cases prevN l i<;>rfl
   go_wp2_with fail
   go_ret
   exact ⟨by rw [HE.out];rfl,HB.out⟩
def samHd (x:Sam):Hd:=(.int .i64 x.1,.int .u64 (x.2:Int))
theorem samCells_hd (l:List Sam):samCells l=two Prod.fst Prod.snd (l.map samHd):=by
 rw [samCells_two]
 induction l with
 | nil=>rfl
 | cons x l ih=>
  show _::_::two _ _ l=_::_::two Prod.fst Prod.snd (l.map samHd)
  rw [ih];rfl
theorem neighTimes (lv:Value) (l:List Sam) (w:World) (h:Rd w 2 lv l.length (samCells l)) (hn:l.length≤1000000) :
  Calls Tryz.prog 91 #[lv,.func (.func 92) #[] #[],.int .i64 20] w fun e w'=>e = .returned (.int .i64 (timesL l:Int))∧Grw w w':=by
 have hl:(l.map samHd).length=l.length:=List.length_map ..
 have hc:=neighS_any lv (l.map samHd) 92 (cOf (fun x y:Sam=>ordI x.1 y.1) l) 20 w (by rw [hl,← samCells_hd];exact h) (by omega) (fun _ _=>rfl) (fun i a b ha hb w' _=>by
  rw [List.getElem?_map] at ha hb
  obtain ⟨x,hx,rfl⟩:=Option.map_eq_some_iff.1 ha
  obtain ⟨y,hy,rfl⟩:=Option.map_eq_some_iff.1 hb
  rw [cOf_at _ hx hy]
  exact compareTimes_any y x w')
 rw [hl,nbr_list,times_nbr] at hc
 exact hc
theorem neighSers (lv:Value) (hs:List Hd) (b:List Ser) (w:World) (h:Rd w 2 lv hs.length (two Prod.fst Prod.snd hs)) (hlen:hs.length=b.length) (hser:∀(i:Nat) (h:Hd) (s:Ser),hs[i]? = some h→b[i]? = some s→SerAt w h s) (hn:b.length≤1000000) (hb:∀s∈b,s.1.length≤1000000) :
  Calls Tryz.prog 59 #[lv,.func (.func 60) #[] #[],.int .i64 19] w fun e w'=>e = .returned (.int .i64 (nbrL (fun x y:Ser=>cmpLabs x.1 y.1) 19 b))∧Grw w w':=by
 have hc:=neighB_any lv hs 60 (cOf (fun x y:Ser=>cmpLabs x.1 y.1) b) 19 w h (by omega) (fun _ _=>rfl) (fun i x y hx hy w' hg=>by
  obtain ⟨s,hs1⟩:∃s,b[i]? = some s:=⟨_,List.getElem?_eq_getElem (by have:=(List.getElem?_eq_some_iff.1 hx).1;omega)⟩
  obtain ⟨t,ht⟩:∃t,b[i+1]? = some t:=⟨_,List.getElem?_eq_getElem (by have:=(List.getElem?_eq_some_iff.1 hy).1;omega)⟩
  rw [cOf_at _ hs1 ht]
  exact compareSeries_any y x t s w' ((hser _ _ _ hy ht).below hg.below) ((hser _ _ _ hx hs1).below hg.below) (hb _ (List.mem_of_getElem? ht)) (hb _ (List.mem_of_getElem? hs1)))
 rw [hlen,nbr_list] at hc
 exact hc
set_option maxHeartbeats 2000000 in
theorem checkSeries_any (x:Hd) (s:Ser) (w:World) (h:SerAt w x s) (hz:SerSized s) (hl:s.1.length≤1000000) (hs:s.2.length≤1000000) :
  Calls Tryz.prog 58 #[.agg #[x.1,x.2]] w fun e w'=>e = .returned (.int .i64 (serErr s:Int))∧Below w.heap.size w w':=by
 obtain ⟨x1,x2⟩:=x
 obtain ⟨ls,ss⟩:=s
 obtain ⟨p1,c1,e1⟩:=h.1.shape
 obtain ⟨p2,c2,e2⟩:=h.2.shape
 simp only at e1 e2 hl hs
 subst e1 e2
 obtain ⟨w1,hw1⟩:∃w1,w1=w.alloc (.cells #[.slice p1 ls.length c1,.slice p2 ss.length c2] 51):=⟨_,rfl⟩
 have HW:Hid (w.alloc (.cells #[.slice p1 ls.length c1,.slice p2 ss.length c2] 51)=w1):=hw1.symm
 have HB1:Hid (Below w.heap.size w w1):=by show Below _ _ _;rw [hw1];exact (Below.refl _ w).alloc (Nat.le_refl _) _
 have HK1:Hid (Blk w1 w.heap.size [.slice p1 ls.length c1,.slice p2 ss.length c2]):=by show Blk _ _ _;rw [hw1];exact Blk.new w _ _
 have HC:=Lib.hid (labCheck_any _ ls w1 (h.1.below HB1.out) hz.1 hl)
 have HS:=Lib.hid (h.2.below HB1.out)
 have hsi:(ss.length:Int)≤1000000:=by omega
 have HSn:Hid (ss.length≤1000000):=hs
 simp only at HC HS
 clear hw1 h hz hl hs
 go_enter Tryz.func58,Tryz.ntmps58
 go_wp2_with fail
 rw [HW.out]
 refine HC.out.mono ?_
 rintro e w2 ⟨rfl,hB⟩
 have HB2:Hid (Below w.heap.size w w2):=HB1.out.trans (hB.mono HB1.out.size)
 have HK2:Hid (Blk w2 w.heap.size [.slice p1 ls.length c1,.slice p2 ss.length c2]):=HK1.out.of_same (hB.block _ HK1.out.lt)
 have HS2:=Lib.hid (HS.out.below hB)
 clear hB HC HS HW
 by_cases hc:checkL ls=0
 ·rw [hc]
  have k1:w2.cell? ⟨w.heap.size,1,none⟩=some (.slice p2 ss.length c2):=by rw [HK2.out.cell];rfl
  by_cases h0:ss.length=0
  ·have HE:Hid (serErr (ls,ss)=21):=by show _=_;unfold serErr;rw [if_neg (not_not_intro hc),if_pos (List.eq_nil_of_length_eq_zero h0)]
   have h0b:((ss.length:Int) == 0)=true:=by rw [beq_iff_eq];omega
   clear hc h0
   go_wp2_with fail
   go_ret
   exact ⟨by rw [HE.out];rfl,HB2.out⟩
  ·have HE:Hid (serErr (ls,ss)=timesL ss):=by show _=_;unfold serErr;rw [if_neg (not_not_intro hc),if_neg (fun e:ss=[]=>h0 (by rw [e];rfl))]
   have h0b:((ss.length:Int) == 0)=false:=by rw [beq_eq_false_iff_ne];omega
   have HN:=Lib.hid (neighTimes _ ss w2 HS2.out HSn.out)
   clear hc h0
   go_wp2_with fail
   refine HN.out.mono ?_
   rintro e w3 ⟨rfl,hG⟩
   have HB3:Hid (Below w.heap.size w w3):=HB2.out.trans (hG.below.mono HB2.out.size)
   clear hG HN k1
   go_wp2_with fail
   go_ret
   exact ⟨by rw [HE.out];rfl,HB3.out⟩
 ·have hcb:((checkL ls:Int) == 0)=false:=by rw [beq_eq_false_iff_ne];omega
  have HE:Hid (serErr (ls,ss)=checkL ls):=by show _=_;unfold serErr;rw [if_pos hc]
  clear hc
  generalize checkL ls=ce at *
  go_wp2_with fail
  go_ret
  exact ⟨by rw [HE.out];rfl,HB2.out⟩
end Go.Proofs.YtdcgbgecbeegmaaGreatDoor
end
section
namespace Go.Proofs.YtdcgbgecbeegmaaGreatDoor
open Go Go.RowKit
section
variable {α:Type} [Inhabited α] (enc:α→List Value) (k:Nat)
omit [Inhabited α] in
theorem flatEnc_get (hk:∀x,(enc x).length=k) (hk0:0<k) (l:List α):∀(t:Nat),(l.flatMap enc)[t]? = (l[t / k]?).bind (fun x=>(enc x)[t % k]?):=by
 induction l with
 | nil=>intro t;simp
 | cons x l ih=>
  intro t
  rw [List.flatMap_cons]
  by_cases ht:t<k
  ·rw [List.getElem?_append_left (by rw [hk];exact ht),Nat.div_eq_of_lt ht,Nat.mod_eq_of_lt ht];rfl
  ·have hge:k≤t:=Nat.le_of_not_lt ht
   rw [List.getElem?_append_right (by rw [hk];exact hge),hk,ih (t-k),Nat.mod_eq_sub_mod hge]
   have:t / k=(t-k) / k+1:=Nat.div_eq_sub_div hk0 hge
   rw [this,List.getElem?_cons_succ]
theorem flatK_get (hk:∀x,(enc x).length=k) (hk0:0<k) (d:Array α) (t:Nat) (ht:t<d.size*k):(d.toList.flatMap enc)[t]? = some (Go.Sort.flatK enc k d)[t]!:=by
 rw [flatEnc_get enc k hk hk0]
 have h1:t / k<d.size:=Nat.div_lt_of_lt_mul (by rwa [Nat.mul_comm])
 have h2:t % k<k:=Nat.mod_lt _ hk0
 rw [Go.Sort.get_flatK enc k d t ht,List.getElem?_eq_getElem (by simpa using h1)]
 show (enc d.toList[t / k])[t % k]? = _
 have h3:d[t / k]! = d.toList[t / k]'(by simpa using h1):=by rw [getElem!_pos d _ h1];simp
 rw [h3,List.getElem?_eq_getElem (by rw [hk];exact h2),getElem!_pos]
omit [Inhabited α] in
theorem flatEnc_length (hk:∀x,(enc x).length=k) (l:List α):(l.flatMap enc).length=l.length*k:=by
 induction l with
 | nil=>simp
 | cons x l ih=>rw [List.flatMap_cons,List.length_append,ih,hk,List.length_cons,Nat.add_mul];omega
theorem holdsK_of_block (hk:∀x,(enc x).length=k) (hk0:0<k) {w:World} {g:Nat} {cur:Array Value} {e:TypeId} {l:List α} (hb:w.heap[g]? = some (.cells cur e (0,0))) (ht:cur.toList.take (l.length*k)=l.flatMap enc):Go.Sort.HoldsK enc k w g 0 l.toArray:=by
 intro j hj
 have hj':j<l.length*k:=by simpa using hj
 refine ⟨?_,by simp [World.frozen?,hb]⟩
 have h1:(cur.toList.take (l.length*k))[j]? = (l.flatMap enc)[j]?:=by rw [ht]
 rw [List.getElem?_take_of_lt hj'] at h1
 have h2:=flatK_get enc k hk hk0 l.toArray j (by simpa using hj')
 simp only at h2
 simp only [World.cell?,hb,Nat.zero_add]
 simp only [Option.isSome_none,Bool.false_eq_true,if_false]
 rw [← Array.getElem?_toList,h1,h2]
 rfl
theorem heap_sortedK {w:World} {g n:Nat} {os:Array Obj} {cur:Array Value} {e:TypeId} {fr:Nat × Nat} (F:Array Value) (hb:w.heap[g]? = some (.cells cur e fr)) :
  (Go.Sort.grow (Go.Sort.putRow id (Go.Sort.ahead w n) g 0 F) os).heap[g]? = some (.cells (Go.Sort.putCells id 0 F cur) e fr):=by
 have hg:g<w.heap.size:=(Array.getElem?_eq_some_iff.1 hb).1
 rw [Go.Sort.heap_grow_old _ _ (by simpa using hg)]
 simp [Go.Sort.putRow,Go.Sort.mapBlock,Go.Sort.ahead,Array.getElem?_modify,hb,Go.Sort.onCells]
theorem mods_sortedK {w:World} {g n:Nat} {os:Array Obj} (F:Array Value):Mods (fun j=>j=g) w (Go.Sort.grow (Go.Sort.putRow id (Go.Sort.ahead w n) g 0 F) os):=by
 refine ⟨rfl,rfl,rfl,by simp,fun j hj hne=>?_⟩
 rw [Go.Sort.heap_grow_old _ _ (by simpa using hj)]
 have:g≠j:=fun e=>hne e.symm
 simp [Go.Sort.putRow,Go.Sort.mapBlock,Go.Sort.ahead,Array.getElem?_modify,this]
theorem take_putK (hk:∀x,(enc x).length=k) (hk0:0<k) (cur:Array Value) (d:Array α) (h:d.size*k≤cur.size):(Go.Sort.putCells id 0 (Go.Sort.flatK enc k d) cur).toList.take (d.size*k)=d.toList.flatMap enc:=by
 apply List.ext_getElem?
 intro j
 by_cases hj:j<d.size*k
 ·rw [List.getElem?_take_of_lt hj,Array.getElem?_toList,flatK_get enc k hk hk0 d j hj]
  simp [Go.Sort.putCells,hj,show j<cur.size by omega]
 ·rw [List.getElem?_take_eq_none (by omega),List.getElem?_eq_none (by rw [flatEnc_length enc k hk];simp;omega)]
theorem ownsRow_sortedK (hk:∀x,(enc x).length=k) (hk0:0<k) {w:World} {base g cap n m:Nat} {e:TypeId} {os:Array Obj} {cur:Array Value} {d:Array α} (hl:d.size=m) (hbase:base≤g) (hb:w.heap[g]? = some (.cells cur e (0,0)))
  (h1:m≤cap) (h2:cap≤maxLen) (h3:cur.size=cap*k) :
  (sortWorldK enc k w g 0 n d os).ownsRow base e k (.slice (some ⟨g,0,none⟩) m cap) m (d.toList.flatMap enc):=by
 subst hl
 refine ⟨by rw [flatEnc_length enc k hk];simp,.inr ⟨g,cap,_,rfl,hbase,heap_sortedK (Go.Sort.flatK enc k d) hb,h1,h2,by simp [Go.Sort.putCells,h3],?_⟩⟩
 exact take_putK enc k hk hk0 cur d (by rw [h3];exact Nat.mul_le_mul_right k h1)
end
end Go.Proofs.YtdcgbgecbeegmaaGreatDoor
end
section
set_option maxRecDepth 20000
namespace Go.Proofs.YtdcgbgecbeegmaaGreatDoor
open Go Go.RowKit
def renSortSam:Go.Shelf.Ren:=⟨fun | 6=>120 | 14=>159 | 15=>122 | 20=>209 | 21=>210 | 22=>211 | 23=>212 | 24=>213 | 25=>214 | 26=>215 | 27=>216 | 28=>168 | 29=>169 | 46=>256 | 47=>218 | 48=>219 | 49=>257 | 50=>258 | 57=>288 | n=>n,fun | 0=>0 | 3=>3 | 4=>4 | 5=>5 | 9=>9 | 22=>49 | 24=>110 | 25=>143 | 39=>177 | 45=>223 | 46=>224 | 50=>158 | 53=>139 | 55=>81 | 66=>267 | 70=>271 | 76=>321 | 77=>210 | n=>n,fun n=>n⟩
theorem laysSortSam:Go.Proofs.SlLaysF0.n6 Tryz.prog renSortSam:={ mixed:=by kernel_rfl,f6:=⟨ "slices.SortFunc[[]tsblock/api.Sample,tsblock/api.Sample]",by decide,Tryz.func120.trans (congrArg some (by kernel_rfl))⟩,f14:=⟨ "slices.pdqsortCmpFunc[tsblock/api.Sample]",by decide,Tryz.func159.trans (congrArg some (by kernel_rfl))⟩,f15:=Tryz.func122.trans (congrArg some (by kernel_rfl)),f20:=⟨ "slices.insertionSortCmpFunc[tsblock/api.Sample]",by decide,Tryz.func209.trans (congrArg some (by kernel_rfl))⟩,f21:=⟨ "slices.heapSortCmpFunc[tsblock/api.Sample]",by decide,Tryz.func210.trans (congrArg some (by kernel_rfl))⟩,f22:=⟨ "slices.breakPatternsCmpFunc[tsblock/api.Sample]",by decide,Tryz.func211.trans (congrArg some (by kernel_rfl))⟩,f23:=⟨ "slices.choosePivotCmpFunc[tsblock/api.Sample]",by decide,Tryz.func212.trans (congrArg some (by kernel_rfl))⟩,f24:=⟨ "slices.reverseRangeCmpFunc[tsblock/api.Sample]",by decide,Tryz.func213.trans (congrArg some (by kernel_rfl))⟩,f25:=⟨ "slices.partialInsertionSortCmpFunc[tsblock/api.Sample]",by decide,Tryz.func214.trans (congrArg some (by kernel_rfl))⟩,f26:=⟨ "slices.partitionEqualCmpFunc[tsblock/api.Sample]",by decide,Tryz.func215.trans (congrArg some (by kernel_rfl))⟩,f27:=⟨ "slices.partitionCmpFunc[tsblock/api.Sample]",by decide,Tryz.func216.trans (congrArg some (by kernel_rfl))⟩,f28:=Tryz.func168.trans (congrArg some (by kernel_rfl)),f29:=Tryz.func169.trans (congrArg some (by kernel_rfl)),f46:=⟨ "slices.siftDownCmpFunc[tsblock/api.Sample]",by decide,Tryz.func256.trans (congrArg some (by kernel_rfl))⟩,f47:=Tryz.func218.trans (congrArg some (by kernel_rfl)),f48:=Tryz.func219.trans (congrArg some (by kernel_rfl)),f49:=⟨ "slices.medianAdjacentCmpFunc[tsblock/api.Sample]",by decide,Tryz.func257.trans (congrArg some (by kernel_rfl))⟩,f50:=⟨ "slices.medianCmpFunc[tsblock/api.Sample]",by decide,Tryz.func258.trans (congrArg some (by kernel_rfl))⟩,f57:=⟨ "slices.order2CmpFunc[tsblock/api.Sample]",by decide,Tryz.func288.trans (congrArg some (by kernel_rfl))⟩,t0:=Tryz.underlying0,a0:=Tryz.isAgg0,z0:=Tryz.sizeOf0,v0:=Tryz.zeroValue0,t3:=Tryz.underlying3,a3:=Tryz.isAgg3,z3:=Tryz.sizeOf3,v3:=Tryz.zeroValue3,t4:=Tryz.underlying4,a4:=Tryz.isAgg4,z4:=Tryz.sizeOf4,v4:=Tryz.zeroValue4,t5:=Tryz.underlying5,a5:=Tryz.isAgg5,z5:=Tryz.sizeOf5,v5:=Tryz.zeroValue5,t9:=Tryz.underlying9,a9:=Tryz.isAgg9,z9:=Tryz.sizeOf9,v9:=Tryz.zeroValue9,t22:=Tryz.underlying49,a22:=Tryz.isAgg49,z22:=Tryz.sizeOf49,v22:=Tryz.zeroValue49,t25:=Tryz.underlying143,a25:=Tryz.isAgg143,z25:=Tryz.sizeOf143,v25:=Tryz.zeroValue143,t39:=Tryz.underlying177,a39:=Tryz.isAgg177,z39:=Tryz.sizeOf177,v39:=Tryz.zeroValue177,t45:=Tryz.underlying223,a45:=Tryz.isAgg223,z45:=Tryz.sizeOf223,v45:=Tryz.zeroValue223,t46:=Tryz.underlying224,a46:=Tryz.isAgg224,z46:=Tryz.sizeOf224,v46:=Tryz.zeroValue224,t50:=Tryz.underlying158,a50:=Tryz.isAgg158,z50:=Tryz.sizeOf158,v50:=Tryz.zeroValue158,t53:=Tryz.underlying139,a53:=Tryz.isAgg139,z53:=Tryz.sizeOf139,v53:=Tryz.zeroValue139,t55:=Tryz.underlying81,a55:=Tryz.isAgg81,z55:=Tryz.sizeOf81,v55:=Tryz.zeroValue81,t66:=Tryz.underlying267,a66:=Tryz.isAgg267,z66:=Tryz.sizeOf267,v66:=Tryz.zeroValue267,t70:=Tryz.underlying271,a70:=Tryz.isAgg271,z70:=Tryz.sizeOf271,v70:=Tryz.zeroValue271,t76:=Tryz.underlying321,a76:=Tryz.isAgg321,z76:=Tryz.sizeOf321,v76:=Tryz.zeroValue321,t77:=Tryz.underlying210,a77:=Tryz.isAgg210,z77:=Tryz.sizeOf210,v77:=Tryz.zeroValue210 }
theorem ltOf_ltT:ltOf (fun x y:Sam=>ordI x.1 y.1)=ltT:=by
 funext x y
 show decide (ordI x.1 y.1<0)=decide (x.1<y.1)
 rw [decide_eq_decide]
 exact ordI_neg _ _
theorem swo_ltT:Go.Sort.SWO ltT:=⟨fun x=>ltT_ok.irr x,fun x y z=>ltT_ok.tr x y z,fun x y z h1 h2=>by
 simp [ltT] at *;omega⟩
def encSm (x:Sam):List Value:=[.int .i64 x.1,.int .u64 (x.2:Int)]
theorem sort_sam (w:World) (base:Nat) (v:Value) (l:List Sam) (h:w.ownsRow base 110 2 v l.length (samCells l)) (hn:l.length≤1000000) :
  Calls Tryz.prog 120 #[v,.func (.func 92) #[] #[]] w fun e w'=>e = .returned (.tuple #[])∧∃l',List.Perm l' l∧SrtE ltT l'∧w'.ownsRow base 110 2 v l.length (samCells l')∧Mods (fun k=>v.ownBlock=some k) w w':=by
 rcases h.2 with ⟨rfl,h0⟩ | ⟨g,cap,cur,rfl,hbase,hgb,r1,r2,r3,r4⟩
 ·refine (AnyF.slices_SortFunc_none laysSortSam none 0 _ w).mono ?_
  rintro e w' ⟨rfl,rfl⟩
  obtain rfl:l=[]:=List.eq_nil_of_length_eq_zero h0
  exact ⟨rfl,[],List.Perm.refl _,List.Pairwise.nil,h,Mods.refl _ _⟩
 ·have hk:∀x:Sam,(encSm x).length=2:=fun _=>rfl
  have hH:Go.Sort.HoldsK encSm 2 w g 0 l.toArray:=holdsK_of_block encSm 2 hk (by decide) hgb r4
  have hC:=AnyQ.slices_SortFunc laysSortSam 2 Tryz.isAgg110 Tryz.sizeOf110 encSm hk (fun x v hv=>by simp only [encSm,List.mem_cons,List.not_mem_nil,or_false] at hv;rcases hv with rfl | rfl<;>rfl) (fun x y:Sam=>ordI x.1 y.1) (by rw [ltOf_ltT];exact swo_ltT) 92 #[] g 0 cap l.toArray w
   (fun _ _=>rfl) (fun m os dk _ x y=>compareTimes_any x y _) hH (Array.getElem?_eq_some_iff.1 hgb).1 (by simp;omega)
  have hsz:l.toArray.size=l.length:=by simp
  rw [hsz] at hC
  refine hC.mono ?_
  rintro e w' ⟨rfl,d',n,os,hp,hs,rfl⟩
  have hds:d'.size=l.length:=by rw [hp.1];simp
  refine ⟨rfl,d'.toList,?_,?_,?_,(mods_sortedK (Go.Sort.flatK encSm 2 d')).mono (fun k _ e=>by show some g=some k;rw [show k=g from e])⟩
  ·have h3:=hp.2.2
   rw [show d'.extract 0 l.length=d' by rw [← hds];exact Array.extract_size] at h3
   rw [show l.toArray.extract 0 l.length=l.toArray by rw [← hsz];exact Array.extract_size] at h3
   exact h3
  ·refine List.pairwise_iff_getElem.2 ?_
   intro i j hi hj hij
   have h4:=hs i j (Nat.zero_le _) hij (by rw [← hds];simpa using hj)
   rw [ltOf_ltT,getElem!_pos d' i (by simpa using hi),getElem!_pos d' j (by simpa using hj)] at h4
   simpa using h4
  ·exact ownsRow_sortedK encSm 2 hk (by decide) hds hbase hgb r1 r2 r3
def renSortLab:Go.Shelf.Ren:=⟨fun | 6=>158 | 14=>208 | 15=>122 | 20=>248 | 21=>249 | 22=>250 | 23=>251 | 24=>252 | 25=>253 | 26=>254 | 27=>255 | 28=>168 | 29=>169 | 46=>285 | 47=>218 | 48=>219 | 49=>286 | 50=>287 | 57=>299 | n=>n,fun | 0=>0 | 3=>3 | 4=>4 | 5=>5 | 9=>9 | 22=>48 | 24=>108 | 25=>163 | 39=>177 | 45=>223 | 46=>224 | 50=>158 | 53=>139 | 55=>81 | 66=>267 | 70=>271 | 76=>321 | 77=>210 | n=>n,fun n=>n⟩
theorem laysSortLab:Go.Proofs.SlLaysF0.n6 Tryz.prog renSortLab:={ mixed:=by kernel_rfl,f6:=⟨ "slices.SortFunc[[]tsblock/api.Label,tsblock/api.Label]",by decide,Tryz.func158.trans (congrArg some (by kernel_rfl))⟩,f14:=⟨ "slices.pdqsortCmpFunc[tsblock/api.Label]",by decide,Tryz.func208.trans (congrArg some (by kernel_rfl))⟩,f15:=Tryz.func122.trans (congrArg some (by kernel_rfl)),f20:=⟨ "slices.insertionSortCmpFunc[tsblock/api.Label]",by decide,Tryz.func248.trans (congrArg some (by kernel_rfl))⟩,f21:=⟨ "slices.heapSortCmpFunc[tsblock/api.Label]",by decide,Tryz.func249.trans (congrArg some (by kernel_rfl))⟩,f22:=⟨ "slices.breakPatternsCmpFunc[tsblock/api.Label]",by decide,Tryz.func250.trans (congrArg some (by kernel_rfl))⟩,f23:=⟨ "slices.choosePivotCmpFunc[tsblock/api.Label]",by decide,Tryz.func251.trans (congrArg some (by kernel_rfl))⟩,f24:=⟨ "slices.reverseRangeCmpFunc[tsblock/api.Label]",by decide,Tryz.func252.trans (congrArg some (by kernel_rfl))⟩,f25:=⟨ "slices.partialInsertionSortCmpFunc[tsblock/api.Label]",by decide,Tryz.func253.trans (congrArg some (by kernel_rfl))⟩,f26:=⟨ "slices.partitionEqualCmpFunc[tsblock/api.Label]",by decide,Tryz.func254.trans (congrArg some (by kernel_rfl))⟩,f27:=⟨ "slices.partitionCmpFunc[tsblock/api.Label]",by decide,Tryz.func255.trans (congrArg some (by kernel_rfl))⟩,f28:=Tryz.func168.trans (congrArg some (by kernel_rfl)),f29:=Tryz.func169.trans (congrArg some (by kernel_rfl)),f46:=⟨ "slices.siftDownCmpFunc[tsblock/api.Label]",by decide,Tryz.func285.trans (congrArg some (by kernel_rfl))⟩,f47:=Tryz.func218.trans (congrArg some (by kernel_rfl)),f48:=Tryz.func219.trans (congrArg some (by kernel_rfl)),f49:=⟨ "slices.medianAdjacentCmpFunc[tsblock/api.Label]",by decide,Tryz.func286.trans (congrArg some (by kernel_rfl))⟩,f50:=⟨ "slices.medianCmpFunc[tsblock/api.Label]",by decide,Tryz.func287.trans (congrArg some (by kernel_rfl))⟩,f57:=⟨ "slices.order2CmpFunc[tsblock/api.Label]",by decide,Tryz.func299.trans (congrArg some (by kernel_rfl))⟩,t0:=Tryz.underlying0,a0:=Tryz.isAgg0,z0:=Tryz.sizeOf0,v0:=Tryz.zeroValue0,t3:=Tryz.underlying3,a3:=Tryz.isAgg3,z3:=Tryz.sizeOf3,v3:=Tryz.zeroValue3,t4:=Tryz.underlying4,a4:=Tryz.isAgg4,z4:=Tryz.sizeOf4,v4:=Tryz.zeroValue4,t5:=Tryz.underlying5,a5:=Tryz.isAgg5,z5:=Tryz.sizeOf5,v5:=Tryz.zeroValue5,t9:=Tryz.underlying9,a9:=Tryz.isAgg9,z9:=Tryz.sizeOf9,v9:=Tryz.zeroValue9,t22:=Tryz.underlying48,a22:=Tryz.isAgg48,z22:=Tryz.sizeOf48,v22:=Tryz.zeroValue48,t25:=Tryz.underlying163,a25:=Tryz.isAgg163,z25:=Tryz.sizeOf163,v25:=Tryz.zeroValue163,t39:=Tryz.underlying177,a39:=Tryz.isAgg177,z39:=Tryz.sizeOf177,v39:=Tryz.zeroValue177,t45:=Tryz.underlying223,a45:=Tryz.isAgg223,z45:=Tryz.sizeOf223,v45:=Tryz.zeroValue223,t46:=Tryz.underlying224,a46:=Tryz.isAgg224,z46:=Tryz.sizeOf224,v46:=Tryz.zeroValue224,t50:=Tryz.underlying158,a50:=Tryz.isAgg158,z50:=Tryz.sizeOf158,v50:=Tryz.zeroValue158,t53:=Tryz.underlying139,a53:=Tryz.isAgg139,z53:=Tryz.sizeOf139,v53:=Tryz.zeroValue139,t55:=Tryz.underlying81,a55:=Tryz.isAgg81,z55:=Tryz.sizeOf81,v55:=Tryz.zeroValue81,t66:=Tryz.underlying267,a66:=Tryz.isAgg267,z66:=Tryz.sizeOf267,v66:=Tryz.zeroValue267,t70:=Tryz.underlying271,a70:=Tryz.isAgg271,z70:=Tryz.sizeOf271,v70:=Tryz.zeroValue271,t76:=Tryz.underlying321,a76:=Tryz.isAgg321,z76:=Tryz.sizeOf321,v76:=Tryz.zeroValue321,t77:=Tryz.underlying210,a77:=Tryz.isAgg210,z77:=Tryz.sizeOf210,v77:=Tryz.zeroValue210 }
theorem ltOf_names (x y:Lab):ltOf (fun x y:Lab=>ordS x.1 y.1) x y=ltN x y:=by
 show decide (ordS x.1 y.1<0)=ltS x.1 y.1
 rcases Bool.eq_false_or_eq_true (ltS x.1 y.1) with e | e
 ·have:ordS x.1 y.1 = -1:=if_pos e
  rw [this,e];rfl
 ·have:ordS x.1 y.1=if ltS y.1 x.1 then 1 else 0:=if_neg (by rw [e];simp)
  rw [this,e]
  split<;>rfl
theorem ltOf_ltN:ltOf (fun x y:Lab=>ordS x.1 y.1)=ltN:=by
 funext x y;exact ltOf_names x y
theorem swo_ltN:Go.Sort.SWO ltN:=⟨fun x=>ltN_ok.irr x,fun x y z=>ltN_ok.tr x y z,fun x y z h1 h2=>by
 rcases Bool.eq_false_or_eq_true (ltN x z) with e | e
 ·have:=ltS_ok.le_tr (a:=y.1) (b:=x.1) (c:=z.1) h1 e
  rw [show ltS y.1 z.1=ltN y z from rfl,h2] at this
  cases this
 ·exact e⟩
def encL (x:Lab):List Value:=[.string x.1,.string x.2]
theorem sort_lab (w:World) (base:Nat) (v:Value) (l:List Lab) (h:w.ownsRow base 108 2 v l.length (labCells l)) (hn:l.length≤1000000) :
  Calls Tryz.prog 158 #[v,.func (.func 127) #[] #[]] w fun e w'=>e = .returned (.tuple #[])∧∃l',List.Perm l' l∧l'.Pairwise (fun a b=>ltN b a=false)∧w'.ownsRow base 108 2 v l.length (labCells l')∧Mods (fun k=>v.ownBlock=some k) w w':=by
 rcases h.2 with ⟨rfl,h0⟩ | ⟨g,cap,cur,rfl,hbase,hgb,r1,r2,r3,r4⟩
 ·refine (AnyF.slices_SortFunc_none laysSortLab none 0 _ w).mono ?_
  rintro e w' ⟨rfl,rfl⟩
  obtain rfl:l=[]:=List.eq_nil_of_length_eq_zero h0
  exact ⟨rfl,[],List.Perm.refl _,List.Pairwise.nil,h,Mods.refl _ _⟩
 ·have hk:∀x:Lab,(encL x).length=2:=fun _=>rfl
  have hH:Go.Sort.HoldsK encL 2 w g 0 l.toArray:=holdsK_of_block encL 2 hk (by decide) hgb r4
  have hC:=AnyQ.slices_SortFunc laysSortLab 2 Tryz.isAgg108 Tryz.sizeOf108 encL hk (fun x v hv=>by simp only [encL,List.mem_cons,List.not_mem_nil,or_false] at hv;rcases hv with rfl | rfl<;>rfl) (fun x y:Lab=>ordS x.1 y.1) (by rw [ltOf_ltN];exact swo_ltN) 127 #[] g 0 cap l.toArray w
   (fun _ _=>rfl) (fun m os dk _ x y=>compareNames_any x y _) hH (Array.getElem?_eq_some_iff.1 hgb).1 (by simp;omega)
  have hsz:l.toArray.size=l.length:=by simp
  rw [hsz] at hC
  refine hC.mono ?_
  rintro e w' ⟨rfl,d',n,os,hp,hs,rfl⟩
  have hds:d'.size=l.length:=by rw [hp.1];simp
  refine ⟨rfl,d'.toList,?_,?_,?_,(mods_sortedK (Go.Sort.flatK encL 2 d')).mono (fun k _ e=>by show some g=some k;rw [show k=g from e])⟩
  ·have h3:=hp.2.2
   rw [show d'.extract 0 l.length=d' by rw [← hds];exact Array.extract_size] at h3
   rw [show l.toArray.extract 0 l.length=l.toArray by rw [← hsz];exact Array.extract_size] at h3
   exact h3
  ·rw [List.pairwise_iff_getElem]
   intro i j hi hj hij
   have h4:=hs i j (Nat.zero_le _) hij (by rw [← hds];simpa using hj)
   rw [ltOf_ltN,getElem!_pos d' i (by simpa using hi),getElem!_pos d' j (by simpa using hj)] at h4
   simpa using h4
  ·exact ownsRow_sortedK encL 2 hk (by decide) hds hbase hgb r1 r2 r3
end Go.Proofs.YtdcgbgecbeegmaaGreatDoor
end
