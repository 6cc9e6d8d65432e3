/- Texts 6. -/
import Derived.Test.YtdcgbgecbeegmaaGreatDoorMgL5
import Derived.Test.YtdcgbgecbeegmaaGreatDoorMgL4
set_option linter.unusedVariables false
set_option linter.unusedSimpArgs false
section
set_option maxRecDepth 20000
namespace Go.Proofs.YtdcgbgecbeegmaaGreatDoor
open Go Go.RowKit
def Stands {α:Type} (p:List Nat→Nat→Out α) (B:List Nat) (T:Out (List α)) (n i a:Nat) (acc:List α) (e:Int):Prop:=
 (e=0∧a≤B.length∧T=pMany p B (n-i) a acc)∨(∃k:Nat,k≠0∧e=(k:Int)∧T = .bad k)
def GotLs (w:World) (q:Nat) (v:Value) (B:List Nat) (o:Out (List Lab)) (en:Ending) (w':World):Prop:=match o with
 | .ok l b=>∃r,en = .returned r∧w'.ownsRow w.heap.size 108 2 r l.length (labCells l)∧RRd w' q v B b 0
 | .bad e=>(∃p n c,en = .returned (.slice p n c))∧∃a,RRd w' q v B a (e:Int)
theorem sym_bad {t:List ByteArray} {B:List Nat} {a e:Nat} (hB:∀c∈B,c<256) (ha:a≤B.length) (h:pSym t B a = .bad e):e≠0:=by
 rcases pNum_cases (fun n=>t[n]?) 14 hB ha with ⟨k,hk,_,hc⟩ | ⟨n,b,_,_,_,_,hc⟩
 ·rw [show pSym t B a = .bad k from hc] at h;cases h;exact hk
 ·have:pSym t B a=_:=hc
  rw [this] at h
  split at h<;>cases h
  decide
theorem sym_at {t:List ByteArray} {B:List Nat} {a b:Nat} {s:ByteArray} (hB:∀c∈B,c<256) (ha:a≤B.length) (h:pSym t B a = .ok s b):b≤B.length:=by
 rcases pNum_cases (fun n=>t[n]?) 14 hB ha with ⟨k,hk,_,hc⟩ | ⟨n,c,_,_,_,hb,hc⟩
 ·rw [show pSym t B a = .bad k from hc] at h;cases h
 ·have:pSym t B a=_:=hc
  rw [this] at h
  split at h<;>cases h
  exact hb
set_option maxHeartbeats 8000000 in
theorem rr_labels (q:Nat) (v:Value) (B:List Nat) (a:Nat) (tv:Value) (t:List ByteArray) (w:World) (h:RRd w q v B a 0) (hB:∀c∈B,c<256) (ha:a≤B.length) (hz:B.length≤100000000) (ht:Rd w 1 tv t.length (strs t)) (hn:t.length≤100000000) (htq:t≠[]→∀k,tv.ownBlock=some k→k≠q) (hvl:B≠[]→∀k,v.ownBlock=some k→k<w.heap.size) :
  Calls Tryz.prog 43 #[.pointer (some ⟨q,0,none⟩),tv] w fun en w'=>Mods (fun k=>k=q) w w'∧GotLs w q v B (pLabs t B a) en w':=by
 have HBl:=Lib.hid hB;have HT:=Lib.hid ht;have HTq:=Lib.hid htq;have HTn:=Lib.hid hn;have HQ:Hid (q<w.heap.size):=h.blk.lt
 have HZ:=Lib.hid hz
 have HCt:=Lib.hid (rr_count q v B a w h hB ha (by omega))
 have hpl:pLabs t B a=_:=pList_count 0 (pLab t) B a
 obtain ⟨T,hT⟩:∃T,pLabs t B a=T:=⟨_,rfl⟩
 rw [hT] at hpl ⊢
 have HV:=Lib.hid hvl
 clear hT hvl
 obtain ⟨p,c,hv⟩:=h.rd.shape
 subst hv
 obtain ⟨pt,ct,hv⟩:=ht.shape
 subst hv
 have hcs:=outCount_cases hB ha
 clear h ht htq hn hB hz
 go_enter Tryz.func43,Tryz.ntmps43
 go_wp2_with fail
 refine HCt.out.mono ?_
 rintro en w1 ⟨hm,hg⟩
 have HM1:=Lib.hid hm
 have HO1:Hid (w1.ownsRow w.heap.size 108 2 (.slice none 0 0) ([]:List Lab).length (labCells [])):=World.ownsRow_nil _ _ _ _
 clear HCt hm
 have key:∃(n b:Nat) (e:Int),en = .returned (.int .i64 (n:Int))∧n≤100000000∧(n≠0→e=0)∧RRd w1 q (.slice p B.length c) B b e∧Stands (pLab t) B T n 0 b [] e:=by
  have hpl':=hpl
  rcases hcs with ⟨e,he,_,hc⟩ | ⟨n,b,_,hnu,hab,hb,hc⟩
  ·rw [hc] at hg hpl'
   obtain ⟨rfl,a',hR⟩:=hg
   exact ⟨0,a',e,rfl,by omega,fun h=>absurd rfl h,hR,Or.inr ⟨e,he,rfl,hpl'⟩⟩
  ·by_cases hlt:B.length-b<n
   ·rw [if_pos hlt] at hc
    rw [hc] at hg hpl'
    obtain ⟨rfl,a',hR⟩:=hg
    exact ⟨0,a',(3:Nat),rfl,by omega,fun h=>absurd rfl h,hR,Or.inr ⟨3,by decide,rfl,hpl'⟩⟩
   ·rw [if_neg hlt] at hc
    rw [hc] at hg hpl'
    obtain ⟨rfl,hR⟩:=hg
    simp only [ne_eq,not_true_eq_false,false_and,if_false] at hpl'
    exact ⟨n,b,0,rfl,by have:=HZ.out;omega,fun _=>rfl,hR,Or.inl ⟨rfl,hb,hpl'⟩⟩
 obtain ⟨n,b0,e0,rfl,hn6,_,hR,hSt⟩:=key
 have HR1:=Lib.hid hR;have HS1:=Lib.hid hSt
 clear hg hcs hpl hR hSt ha
 have hni:(n:Int)≤100000000:=by omega
 go_wp2_with fail
 go_loopw [5,7] (fun vv iv wr=>∃(i x:Nat) (e:Int) (acc:List Lab),i≤n∧iv = .int .i64 (i:Int)∧Hid (acc.length=i)∧Hid (wr.ownsRow w.heap.size 108 2 vv acc.length (labCells acc))∧Hid (Mods (fun k=>k=q) w wr)∧Hid (RRd wr q (.slice p B.length c) B x e)∧Hid (Stands (pLab t) B T n i x acc e)) (fun _ iv _=>n-(intOf iv).toNat)
 case atStart=>exact ⟨0,b0,e0,[],Nat.zero_le _,rfl,rfl,HO1.out,HM1.out,HR1.out,HS1.out⟩
 case round=>
  obtain ⟨i,x,e,acc,hi,rfl,HL,HO,HM,HR,HS⟩:=hrel
  have him:(i:Int)≤100000000:=by omega
  obtain ⟨pv,cv,hvv⟩:=(Rd.of_owns HO.out).shape
  subst hvv
  obtain ⟨c0,c1,c2,f1,f2⟩:=HR.out.cells
  by_cases hlt:i<n
  ·have hlt':(i:Int)<(n:Int):=by omega
   by_cases he:e=0
   ·subst he
    have HSa:Hid (x≤B.length∧T=pMany (pLab t) B (n-i) x acc):=by
     rcases HS.out with ⟨_,h1,h2⟩ | ⟨k,hk,h1,_⟩
     ·exact ⟨h1,h2⟩
     ·omega
    have HSy:=Lib.hid (rr_symbol q (.slice p B.length c) B x (.slice pt t.length ct) t wr HR.out HBl.out HSa.out.1 (HT.out.mods' HM.out (fun e=>HTq.out (strs_ne e))) HTn.out HTq.out)
    go_wp2_with fail
    refine HSy.out.mono ?_
    rintro en w2 ⟨hm,hg⟩
    have HM2:=Lib.hid (HM.out.trans hm (fun _ _ e=>e))
    have HO2:Hid (w2.ownsRow w.heap.size 108 2 (.slice pv acc.length cv) acc.length (labCells acc)):=hm.owns HO.out (fun k hk e=>by have:=(HO.out.lt k hk).1;have:=HQ.out;omega)
    have hpost:∃(s1:ByteArray) (x2:Nat) (e2:Int),en = .returned (.string s1)∧RRd w2 q (.slice p B.length c) B x2 e2∧((e2=0∧x2≤B.length∧pSym t B x = .ok s1 x2)∨(∃k:Nat,k≠0∧e2=(k:Int)∧pSym t B x = .bad k)):=by
     obtain ⟨o,ho⟩:∃o,pSym t B x=o:=⟨_,rfl⟩
     rw [ho] at hg ⊢
     cases o with
     | ok s b=>exact ⟨s,b,0,hg.1,hg.2,Or.inl ⟨rfl,sym_at HBl.out HSa.out.1 ho,rfl⟩⟩
     | bad k=>
      obtain ⟨h1,a',h2⟩:=hg
      exact ⟨_,a',k,h1,h2,Or.inr ⟨k,sym_bad HBl.out HSa.out.1 ho,rfl,rfl⟩⟩
    obtain ⟨s1,x2,e2,rfl,hR2,hS2⟩:=hpost
    have HR2:=Lib.hid hR2;have HS2:=Lib.hid hS2
    clear hm hg hR2 hS2 HSy HO HM HR c0 c1 c2 f1 f2
    have HC2:Hid (Calls Tryz.prog 83 #[.pointer (some ⟨q,0,none⟩),.slice pt t.length ct] w2 fun en w'=>∃(s2:ByteArray) (x3:Nat) (e3:Int),en = .returned (.string s2)∧Mods (fun k=>k=q) w2 w'∧RRd w' q (.slice p B.length c) B x3 e3∧Stands (pLab t) B T n (i+1) x3 (acc++[(s1,s2)]) e3):=by
     show Calls _ _ _ _ _
     rcases HS2.out with ⟨rfl,hx2,ho⟩ | ⟨k,hk,rfl,ho⟩
     ·refine (rr_symbol q (.slice p B.length c) B x2 (.slice pt t.length ct) t w2 HR2.out HBl.out hx2 (HT.out.mods' HM2.out (fun e=>HTq.out (strs_ne e))) HTn.out HTq.out).mono ?_
      rintro en w' ⟨hm,hg⟩
      obtain ⟨o,ho2⟩:∃o,pSym t B x2=o:=⟨_,rfl⟩
      rw [ho2] at hg
      cases o with
      | ok s b=>
       refine ⟨s,b,0,hg.1,hm,hg.2,Or.inl ⟨rfl,sym_at HBl.out hx2 ho2,?_⟩⟩
       exact many_ok hlt HSa.out.2 (pair_ok ho ho2)
      | bad k=>
       obtain ⟨h1,a',h2⟩:=hg
       refine ⟨_,a',k,h1,hm,h2,Or.inr ⟨k,sym_bad HBl.out hx2 ho2,rfl,?_⟩⟩
       exact many_no hlt HSa.out.2 (pair_no2 ho ho2)
     ·refine (rr_symbol_err q (.slice p B.length c) B x2 (k:Int) (.slice pt t.length ct) t w2 HR2.out (by omega) (HT.out.mods' HM2.out (fun e=>HTq.out (strs_ne e)))).mono ?_
      rintro en w' ⟨rfl,m,rfl⟩
      exact ⟨_,x2,k,rfl,Mods.drewN _ _ _,HR2.out.drewN m,Or.inr ⟨k,hk,rfl,many_no hlt HSa.out.2 (pair_no1 ho)⟩⟩
    clear HS2 HR2 HSa HS
    go_wp2_with fail
    refine HC2.out.mono ?_
    rintro en w3 ⟨s2,x3,e3,rfl,hm,hR3,hS3⟩
    have HM3:=Lib.hid (HM2.out.trans hm (fun _ _ e=>e))
    have HO3:Hid (w3.ownsRow w.heap.size 108 2 (.slice pv acc.length cv) acc.length (labCells acc)):=hm.owns HO2.out (fun k hk e=>by have:=(HO2.out.lt k hk).1;have:=HQ.out;omega)
    have HOz:Hid (w3.ownsRow 0 108 2 (.slice pv acc.length cv) acc.length (labCells acc)):=owns_rebase HO3.out (fun _ _=>Nat.zero_le _)
    have HR3:=Lib.hid hR3;have HS3:=Lib.hid hS3
    have HLb:Hid ((acc.length+1)*32≤140737488355328∧acc.length+1≤maxLen):=by show _∧_;have:=HL.out;unfold maxLen;omega
    clear hm hR3 hS3 HC2 HO2 HM2
    go_wp2_with (at_builtin;refine wpList_push elemLab _ #[.string s1,.string s2] _ _ _ HOz.out rfl (by simp [Value.oneCell']) HLb.out rfl _ _ rfl rfl rfl ?_)
    intro v4 w4 k1 m1 f1
    have HO4:Hid (w4.ownsRow w.heap.size 108 2 v4 (acc++[(s1,s2)]).length (labCells (acc++[(s1,s2)]))):=by
     show World.ownsRow _ _ _ _ _ _ _
     rw [List.length_append,labCells_append]
     refine owns_rebase k1 (fun k hk=>?_)
     rcases f1 k hk with e | e
     ·exact (HO3.out.lt k e).1
     ·have:=HM3.out.size;omega
    have hof:∀k,(Value.slice pv acc.length cv).ownBlock=some k→k≠q∧w.heap.size≤k:=fun k hk=>by have:=(HO3.out.lt k hk).1;have:=HQ.out;omega
    have HM4:Hid (Mods (fun k=>k=q) w w4):=HM3.out.trans m1 (fun j hj e=>by have:=(hof j e).2;omega)
    have HR4:Hid (RRd w4 q (.slice p B.length c) B x3 e3):=by
     refine HR3.out.mods' m1 (fun e=>(hof q e).1 rfl) (fun hne k hk e=>by have:=(hof k e).2;have:=HV.out hne k hk;omega)
    have HL4:Hid ((acc++[(s1,s2)]).length=i+1):=by show _=_;rw [List.length_append,HL.out];rfl
    obtain ⟨p4,c4,hv4⟩:=(Rd.of_owns HO4.out).shape
    subst hv4
    clear k1 m1 f1 hof HOz HO3 HM3 HR3
    generalize acc++[(s1,s2)]=acc2 at *
    go_wp2_with fail
    go_round
    case rel=>exact ⟨i+1,x3,e3,acc2,by omega,by go_num,HL4.out,HO4.out,HM4.out,HR4.out,HS3.out⟩
    case measure=>simp [intOf];omega
   ·have heb:(e == 0)=false:=by rw [beq_eq_false_iff_ne];exact he
    have HE:Hid (∃k:Nat,e=(k:Int)∧T = .bad k):=by
     rcases HS.out with ⟨h0,_⟩ | ⟨k,_,h1,h2⟩
     ·exact absurd h0 he
     ·exact ⟨k,h1,h2⟩
    clear HS
    go_wp2_with fail
    go_ret
    refine ⟨HM.out,?_⟩
    obtain ⟨k,h1,h2⟩:=HE.out
    rw [h2]
    exact ⟨⟨_,_,_,rfl⟩,x,by rw [← h1];exact HR.out⟩
  ·have hlt':¬(i:Int)<(n:Int):=by omega
   clear c0 c1 c2 f1 f2
   go_wp2_with fail
   go_ret
   refine ⟨HM.out,?_⟩
   rcases HS.out with ⟨h0,_,h2⟩ | ⟨k,_,h1,h2⟩
   ·subst h0
    rw [many_end (by omega) h2]
    exact ⟨_,rfl,HO.out,HR.out⟩
   ·rw [h2]
    exact ⟨⟨_,_,_,rfl⟩,x,by rw [← h1];exact HR.out⟩
theorem rr_count_err (q:Nat) (v:Value) (B:List Nat) (a:Nat) (e:Int) (w:World) (h:RRd w q v B a e) (he:e≠0) :
  Calls Tryz.prog 42 #[.pointer (some ⟨q,0,none⟩)] w fun en w'=>en = .returned (.int .i64 0)∧∃n,w'=w.drewN n:=by
 have HU:=Lib.hid (rr_uint_err q v B a e (.int .u64 18446744073709551615) w h he)
 obtain ⟨c0,c1,c2,f1,f2⟩:=h.cells
 obtain ⟨p,c,hv⟩:=h.rd.shape
 subst hv
 have heb:(e == 0)=false:=by rw [beq_eq_false_iff_ne];exact he
 clear h
 go_enter Tryz.func42,Tryz.ntmps42
 go_wp2_with fail
 refine HU.out.mono ?_
 rintro en w1 ⟨rfl,rfl⟩
 clear HU
 go_wp2_with fail
 go_quiet (fail)
 have c2':(w.drewN nq).cell? ⟨q,2,none⟩=some (.int .i64 e):=c2
 have HW:Hid (∃n,w.drewN nq=w.drewN n):=⟨_,rfl⟩
 clear c0 c1 c2 f1 f2
 generalize w.drewN nq=w2 at *
 go_wp2_with fail
 go_ret
 exact ⟨rfl,HW.out⟩
theorem rr_count_any (q:Nat) (v:Value) (B:List Nat) (a:Nat) (e:Int) (w:World) (h:RRd w q v B a e) (hB:∀c∈B,c<256) (ha:e=0→a≤B.length) (hz:B.length≤100000000) :
  Calls Tryz.prog 42 #[.pointer (some ⟨q,0,none⟩)] w fun en w'=>Mods (fun k=>k=q) w w'∧∃(n b:Nat) (e':Int),en = .returned (.int .i64 (n:Int))∧n≤100000000∧RRd w' q v B b e'∧
   ((e=0∧e'=0∧b≤B.length∧outCount B a = .ok n b)∨(e=0∧n=0∧∃k:Nat,k≠0∧e'=(k:Int)∧outCount B a = .bad k)∨(e≠0∧n=0∧e'=e)):=by
 by_cases he:e=0
 ·subst he
  have ha:=ha rfl
  refine (rr_count q v B a w h hB ha (by omega)).mono ?_
  rintro en w' ⟨hm,hg⟩
  refine ⟨hm,?_⟩
  rcases outCount_cases hB ha with ⟨k,hk,_,hc⟩ | ⟨n,b,_,hnu,hab,hb,hc⟩
  ·rw [hc] at hg
   obtain ⟨rfl,a',hR⟩:=hg
   exact ⟨0,a',k,rfl,by omega,hR,Or.inr (Or.inl ⟨rfl,rfl,k,hk,rfl,hc⟩)⟩
  ·by_cases hlt:B.length-b<n
   ·rw [if_pos hlt] at hc
    rw [hc] at hg
    obtain ⟨rfl,a',hR⟩:=hg
    exact ⟨0,a',(3:Nat),rfl,by omega,hR,Or.inr (Or.inl ⟨rfl,rfl,3,by decide,rfl,hc⟩)⟩
   ·rw [if_neg hlt] at hc
    rw [hc] at hg
    obtain ⟨rfl,hR⟩:=hg
    exact ⟨n,b,0,rfl,by omega,hR,Or.inl ⟨rfl,rfl,hb,hc⟩⟩
 ·refine (rr_count_err q v B a e w h he).mono ?_
  rintro en w' ⟨rfl,n,rfl⟩
  exact ⟨Mods.drewN _ _ _,0,a,e,rfl,by omega,h.drewN n,Or.inr (Or.inr ⟨he,rfl,rfl⟩)⟩
theorem elemRec13:Elem Tryz.prog 41 61 2 48:=Elem.mk' (z:=.agg #[.slice none 0 0,.slice none 0 0]) Tryz.underlying41 (by kernel_rfl) rfl (by decide)
theorem elemInt13:Elem Tryz.prog 59 3 1 8:=Elem.mk' (z:=.int .i64 0) Tryz.underlying59 (by kernel_rfl) rfl (by decide)
structure GotRc (w:World) (o:Nat × List Rec) (e:Ending) (w':World):Prop where
 res:∃r,e = .returned (.tuple #[r,.int .i64 (o.1:Int)])∧RdR w' r o.2∧(∀k,r.ownBlock=some k→w.heap.size≤k)
 bel:Below w.heap.size w w'
theorem RdR.nil (w:World):RdR w (.slice none 0 0) []:=⟨⟨[],Rd.nil _ _,rfl,fun i h s hi _=>by simp at hi⟩⟩
theorem rr_uint_any (q:Nat) (v:Value) (B:List Nat) (a:Nat) (w:World) (h:RRd w q v B a 0) (hB:∀c∈B,c<256) (ha:a≤B.length) :
  Calls Tryz.prog 45 #[.pointer (some ⟨q,0,none⟩),.int .u64 18446744073709551615] w fun en w'=>Mods (fun k=>k=q) w w'∧∃(n b:Nat) (e':Int),en = .returned (.int .u64 (n:Int))∧n<18446744073709551616∧RRd w' q v B b e'∧
   ((e'=0∧b≤B.length∧pLen B a=if 1≤n∧n≤2147483647 then .ok (n:Int) b else .bad 23)∨(n=0∧∃k:Nat,k≠0∧e'=(k:Int)∧pLen B a = .bad k)):=by
 refine (rr_uint q v B a 18446744073709551615 w h hB ha (by decide)).mono ?_
 rintro en w' ⟨hm,hg⟩
 refine ⟨hm,?_⟩
 rcases pNum_cases (fun n=>if 1≤n∧n≤2147483647 then some (n:Int) else none) 23 hB ha with ⟨k,hk,ho,hc⟩ | ⟨n,b,ho,hnu,hab,hb,hc⟩
 ·rw [ho] at hg
  obtain ⟨rfl,hR⟩:=hg
  exact ⟨0,a,k,rfl,by omega,hR,Or.inr ⟨rfl,k,hk,rfl,hc⟩⟩
 ·rw [ho] at hg
  obtain ⟨rfl,hR⟩:=hg
  refine ⟨n,b,0,rfl,hnu,hR,Or.inl ⟨rfl,hb,?_⟩⟩
  have:pLen B a=_:=hc
  rw [this]
  by_cases h1:1≤n∧n≤2147483647
  ·rw [if_pos h1,if_pos h1]
  ·rw [if_neg h1,if_neg h1]
structure DcIn (t:TypeId) (w:World) (q:Nat) (wr:World) (hs:List Hd) (acc:List Rec) (vv:Value):Prop where
 nr:NrAt t w wr hs acc vv
 vq:∀k,vv.ownBlock=some k→k≠q
 hq:∀(i:Nat) (h:Hd) (s:Rec),hs[i]? = some h→acc[i]? = some s→RecOff (fun k=>k=q) h s
theorem DcIn.mods {t:TypeId} {w:World} {q:Nat} {wr w':World} {hs:List Hd} {acc:List Rec} {vv:Value} (h:DcIn t w q wr hs acc vv) (hm:Mods (fun k=>k=q) wr w') (hq:w.heap.size≤q):DcIn t w q w' hs acc vv:=
 ⟨⟨⟨hm.owns h.nr.row.row (fun k hk e=>h.vq k hk e),h.nr.row.bel.trans (hm.below h.nr.row.bel.size (fun k hk e=>by omega))⟩,h.nr.len,fun i g s hi hj=>⟨(h.nr.ser i g s hi hj).1.mods hm (h.hq i g s hi hj),(h.nr.ser i g s hi hj).2⟩⟩,h.vq,h.hq⟩
theorem DcIn.below {t:TypeId} {w:World} {q:Nat} {wr w':World} {hs:List Hd} {acc:List Rec} {vv:Value} (h:DcIn t w q wr hs acc vv) (hb:Below wr.heap.size wr w'):DcIn t w q w' hs acc vv:=⟨h.nr.below hb,h.vq,h.hq⟩
theorem DcIn.turn {t:TypeId} {w:World} {q:Nat} {wr w':World} {hs:List Hd} {acc:List Rec} {vv:Value} (h:DcIn t w q wr hs acc vv) (hm:Mods (fun k=>k=q∨wr.heap.size≤k) wr w') (hq:w.heap.size≤q):DcIn t w q w' hs acc vv:=
 h.mods (hm.mono (fun k hk e=>by rcases e with e | e<;>first | exact e | omega)) hq
def recOut (l:List Lab) (o:Out (List Int)):Out Rec:=match o with
 | .ok cs b=>.ok (l,cs) b
 | .bad e=>.bad e
def StandsR (B:List Nat) (R:Out Rec) (n j x:Nat) (l:List Lab) (cs:List Int) (e:Int):Prop:=
 (e=0∧x≤B.length∧R=recOut l (pMany pLen B (n-j) x cs))∨(∃k:Nat,k≠0∧e=(k:Int)∧R = .bad k)
def endRc (n:Nat):Out (List Rec)→Nat × List Rec
 | .bad e=>(e,[])
 | .ok x b=>if b<n then (4,[]) else (0,x)
set_option maxHeartbeats 16000000 in
theorem ref_decode13 (tv bv:Value) (t:List ByteArray) (B:List Nat) (w:World) (ht:Rd w 1 tv t.length (strs t)) (hn:t.length≤100000000) (hta:AscB ltS t) (hl:Rd w 1 bv B.length (u8s B)) (hB:∀c∈B,c<256) (hz:B.length≤100000000) :
  Calls Tryz.prog 20 #[tv,bv] w (GotRc w (decRc t B)):=by
 have HBl:=Lib.hid hB;have HT:=Lib.hid ht;have HTn:=Lib.hid hn;have HZ:=Lib.hid hz
 have HLs:=Lib.hid (reads_labs (asc_nodup hta) (by omega))
 obtain ⟨T,hT⟩:∃T,pRecs t B 0=T:=⟨_,rfl⟩
 have HD:Hid (decRc t B=endRc B.length T):=by show decRc t B=_;rw [← hT];unfold decRc pAll;cases pRecs t B 0<;>rfl
 have hpl:T=_:=hT.symm.trans (pList_count 0 (pRec t) B 0)
 have HP:=Lib.hid hpl
 have HVl:Hid (B≠[]→∀k,bv.ownBlock=some k→k<w.heap.size):=fun hne=>hl.lt (fun e=>hne (List.eq_nil_of_length_eq_zero (by have:=congrArg List.length e;rw [u8s_length] at this;exact this)))
 have HTl:Hid (t≠[]→∀k,tv.ownBlock=some k→k<w.heap.size):=fun hne=>ht.lt (fun e=>hne (List.eq_nil_of_length_eq_zero (by have:=congrArg List.length e;rw [strs_length] at this;exact this)))
 have HB1:Hid (Below w.heap.size w (w.alloc (.cells #[bv,.int .i64 0,.int .i64 0] 77))):=(Below.refl _ w).alloc (Nat.le_refl _) _
 have HR1:Hid (RRd (w.alloc (.cells #[bv,.int .i64 0,.int .i64 0] 77)) w.heap.size bv B 0 0):=⟨Blk.new w _ _,hl.below HB1.out,fun hne k hk e=>by have:=HVl.out hne k hk;omega⟩
 obtain ⟨q,hq⟩:∃q,w.heap.size=q:=⟨_,rfl⟩
 have HTq:Hid (t≠[]→∀k,tv.ownBlock=some k→k≠q):=fun hne k hk e=>by have:=HTl.out hne k hk;omega
 have HQ:=Lib.hid hq
 rw [hq] at HR1
 obtain ⟨pb,cb,hv⟩:=hl.shape
 subst hv
 obtain ⟨pt,ct,hv⟩:=ht.shape
 subst hv
 clear hl ht hn hB hz hta hpl hT
 go_enter Tryz.func20,Tryz.ntmps20
 go_wp2_with fail
 clear hq
 generalize w.alloc (.cells #[.slice pb B.length cb,.int .i64 0,.int .i64 0] 77)=w1 at *
 refine (rr_count_any q _ B 0 0 w1 HR1.out HBl.out (fun _=>Nat.zero_le _) HZ.out).mono ?_
 rintro en w2 ⟨hm,n,b0,e0,rfl,hn6,hR,hcase⟩
 have HM2:Hid (Below w.heap.size w w2):=HB1.out.trans (hm.below HB1.out.size (fun k hk e=>by have:=HQ.out;omega))
 have HR2:=Lib.hid hR
 have HS2:Hid (Stands (pRec t) B T n 0 b0 [] e0):=by
  rcases hcase with ⟨_,rfl,hb,hc⟩ | ⟨_,rfl,k,hk,rfl,hc⟩ | ⟨h,_⟩
  ·have h:=HP.out
   rw [hc] at h
   simp only [ne_eq,not_true_eq_false,false_and,if_false] at h
   exact Or.inl ⟨rfl,hb,h⟩
  ·have h:=HP.out
   rw [hc] at h
   exact Or.inr ⟨k,hk,rfl,h⟩
  ·exact absurd rfl h
 clear hm hR hcase HB1 HR1 HP
 have hni:(n:Int)≤100000000:=by omega
 go_wp2_with fail
 go_loopw [8,9] (fun vv iv wr=>∃(i x:Nat) (e:Int) (acc:List Rec) (hs:List Hd),i≤n∧iv = .int .i64 (i:Int)∧Hid (Below w.heap.size w wr)∧Hid (RRd wr q (.slice pb B.length cb) B x e)∧Hid (Stands (pRec t) B T n i x acc e)∧Hid (e=0→acc.length=i∧DcIn 61 w q wr hs acc vv)) (fun _ iv _=>n-(intOf iv).toNat)
 case atStart=>exact ⟨0,b0,e0,[],[],Nat.zero_le _,rfl,HM2.out,HR2.out,HS2.out,fun _=>⟨rfl,(⟨⟨⟨World.ownsRow_nil _ _ _ _,HM2.out⟩,rfl,fun i h s hi _=>by simp at hi⟩,(fun k hk=>by cases hk),fun i h s hi _=>by simp at hi⟩:DcIn _ w q w2 [] [] _)⟩⟩
 case round=>
  obtain ⟨i,x,e,acc,hs,hi,rfl,HBw,HR,HS,HI⟩:=hrel
  have him:(i:Int)≤100000000:=by omega
  obtain ⟨c0,c1,c2,f1,f2⟩:=HR.out.cells
  by_cases hlt:i<n
  ·have hlt':(i:Int)<(n:Int):=by omega
   by_cases he:e=0
   ·subst he
    have HSa:Hid (x≤B.length∧T=pMany (pRec t) B (n-i) x acc):=by
     rcases HS.out with ⟨_,h1,h2⟩ | ⟨k,hk,h1,_⟩
     ·exact ⟨h1,h2⟩
     ·omega
    have HL:=Lib.hid (HI.out rfl).1
    have HDc:=Lib.hid (HI.out rfl).2
    obtain ⟨pv,cv,hvv⟩:=HDc.out.nr.row.rd.shape
    subst hvv
    have HTw:Hid (∀w',Below w.heap.size w w'→Rd w' 1 (.slice pt t.length ct) t.length (strs t)):=fun w' hb=>HT.out.below hb
    have HLb:=Lib.hid (rr_labels q (.slice pb B.length cb) B x (.slice pt t.length ct) t wr HR.out HBl.out HSa.out.1 HZ.out (HTw.out wr HBw.out) HTn.out HTq.out (fun hne k hk=>Nat.lt_of_lt_of_le (HVl.out hne k hk) HBw.out.size))
    clear HS HI
    go_wp2_with fail
    refine HLb.out.mono ?_
    rintro en w2' ⟨hm,hg⟩
    have hpost:∃(lp:Option Addr) (ln lc x2:Nat) (e2:Int) (l:List Lab),en = .returned (.slice lp ln lc)∧RRd w2' q (.slice pb B.length cb) B x2 e2∧
      ((e2=0∧x2≤B.length∧pLabs t B x = .ok l x2∧w2'.ownsRow wr.heap.size 108 2 (.slice lp ln lc) l.length (labCells l))∨(∃k:Nat,k≠0∧e2=(k:Int)∧pLabs t B x = .bad k)):=by
     obtain ⟨o,ho⟩:∃o,pLabs t B x=o:=⟨_,rfl⟩
     rw [ho] at hg ⊢
     cases o with
     | ok l b=>
      obtain ⟨r,h1,h2,h3⟩:=hg
      obtain ⟨p,c,e⟩:=(Rd.of_owns h2).shape
      subst e
      exact ⟨p,l.length,c,b,0,l,h1,h3,Or.inl ⟨rfl,(HLs.out.inv HBl.out HSa.out.1 ho).2.2.2,rfl,h2⟩⟩
     | bad k=>
      obtain ⟨⟨p,m,c,h1⟩,a',h2⟩:=hg
      exact ⟨p,m,c,a',k,[],h1,h2,Or.inr ⟨k,HLs.out.bad HBl.out HSa.out.1 ho,rfl,rfl⟩⟩
    obtain ⟨lp,ln,lc,x2,e2,l,rfl,hR2',hcase⟩:=hpost
    have HM3:=Lib.hid hm
    have HDc2:=Lib.hid (HDc.out.mods hm (by have:=HQ.out;omega))
    have HB2:Hid (Below w.heap.size w w2'):=HDc2.out.nr.row.bel
    have HZs:Hid (wr.heap.size≤w2'.heap.size∧q<wr.heap.size):=⟨hm.size,HR.out.blk.lt⟩
    have HDv:Hid (∀k,(Value.slice pv hs.length cv).ownBlock=some k→k<wr.heap.size):=fun k hk=>(HDc.out.nr.row.row.lt k hk).2
    have HCs:=Lib.hid hcase
    have HR2':=Lib.hid hR2'
    have HDcO:=Lib.hid HDc.out
    clear hm hg hcase hR2' HLb HR HDc c0 c1 c2 f1 f2
    obtain ⟨Z0,hZ0⟩:∃Z0,wr.heap.size=Z0:=⟨_,rfl⟩
    have HZ0:=Lib.hid hZ0
    rw [hZ0] at HZs HDv HCs
    clear hZ0
    have HG:Hid (Blk (w2'.alloc (.cells #[.slice lp ln lc,.slice none 0 0] 61)) w2'.heap.size [.slice lp ln lc,.slice none 0 0]):=Blk.new _ _ _
    have HA:Hid (Below w2'.heap.size w2' (w2'.alloc (.cells #[.slice lp ln lc,.slice none 0 0] 61))):=(Below.refl _ _).alloc (Nat.le_refl _) _
    have hsz3:(w2'.alloc (.cells #[.slice lp ln lc,.slice none 0 0] 61)).heap.size=w2'.heap.size+1:=by simp
    have HSz3:=Lib.hid hsz3
    clear hsz3
    go_wp2_with fail
    generalize w2'.alloc (.cells #[.slice lp ln lc,.slice none 0 0] 61)=w3 at *
    obtain ⟨g,hg⟩:∃g,w2'.heap.size=g:=⟨_,rfl⟩
    have HGz:=Lib.hid hg
    rw [hg] at HG HSz3 ⊢
    clear hg
    have HR3:=Lib.hid (HR2'.out.below HA.out)
    refine (rr_count_any q _ B x2 e2 w3 HR3.out HBl.out (fun h0=>by
     rcases HCs.out with ⟨_,h1,_⟩ | ⟨k,hk,h1,_⟩
     ·exact h1
     ·omega) HZ.out).mono ?_
    rintro en w4 ⟨hm,n2,b4,e4,rfl,hn26,hR4,hcase⟩
    have HR4:=Lib.hid hR4
    have HM4:=Lib.hid hm
    have HG4:=Lib.hid (hm.blk HG.out (fun e=>by have:=HZs.out;have:=HGz.out;omega))
    have hpl2:pLens B x2=_:=pList_count 23 pLen B x2
    obtain ⟨R,hR⟩:∃R,pRec t B x=R:=⟨_,rfl⟩
    have HRe:=Lib.hid hR
    have HS4:Hid ((n2=0→∃k:Nat,k≠0∧(if e4=0 then (23:Int) else e4)=(k:Int)∧R = .bad k)∧(n2≠0→StandsR B R n2 0 b4 l [] e4)):=by
     show _∧_
     rcases HCs.out with ⟨h0,hx2,ho,hown⟩ | ⟨k,hk,h0,ho⟩
     ·rcases hcase with ⟨_,h4,hb,hc⟩ | ⟨_,hn0,k,hk,h4,hc⟩ | ⟨hne,_⟩
      ·rw [hc] at hpl2
       refine ⟨fun hz0=>?_,fun hz0=>?_⟩
       ·rw [if_pos h4]
        refine ⟨23,by decide,rfl,?_⟩
        simp only [hz0] at hpl2
        rw [← hR]
        exact pair_no2 ho hpl2
       ·simp only [ne_eq,hz0,and_false,if_false] at hpl2
        refine Or.inl ⟨h4,hb,?_⟩
        rw [← hR,pRec,pPair,ho]
        simp only
        rw [hpl2]
        show _=recOut l (pMany pLen B n2 b4 [])
        unfold recOut
        cases pMany pLen B n2 b4 []<;>rfl
      ·refine ⟨fun _=>⟨k,hk,by rw [if_neg (by omega)];exact h4,?_⟩,fun h=>absurd hn0 h⟩
       rw [hc] at hpl2
       rw [← hR]
       exact pair_no2 ho hpl2
      ·exact absurd h0 hne
     ·have hbad:R = .bad k:=by rw [← hR];exact pair_no1 ho
      rcases hcase with ⟨h0',_⟩ | ⟨h0',_⟩ | ⟨hne,hn0,h4⟩
      ·omega
      ·omega
      ·exact ⟨fun _=>⟨k,hk,by rw [if_neg (by omega),h4,h0],hbad⟩,fun h=>absurd hn0 h⟩
    clear hm hR4 hcase hpl2 hR HR3 HG
    have hn2i:(n2:Int)≤100000000:=by omega
    have HGw:Hid (w.heap.size≤g):=by show _≤_;have:=HZs.out;have:=HGz.out;have:=HBw.out.size;have:=HZ0.out;omega
    have HDc3:=Lib.hid (HDc2.out.below HA.out)
    have HDc4:=Lib.hid (HDc3.out.mods HM4.out (by have:=HQ.out;omega))
    have HB4:Hid (Below w.heap.size w w4):=HDc4.out.nr.row.bel
    have HGl:Hid (g<w4.heap.size∧q<w4.heap.size∧q<g∧Z0≤g):=by
     have h1:=HSz3.out;have h2:=HM4.out.size;have h3:=HZs.out;have h4:=HGz.out
     show _∧_∧_∧_
     omega
    have HCw:Hid ((ln=l.length∧w4.ownsRow Z0 108 2 (.slice lp ln lc) l.length (labCells l)∧∀k,(Value.slice lp ln lc).ownBlock=some k→k≠q∧k≠g)∨(∃k:Nat,R = .bad k)):=by
     rcases HCs.out with ⟨_,_,_,hown⟩ | ⟨k,hk,_,ho⟩
     ·left
      have hlt:=hown.lt
      refine ⟨?_,HM4.out.owns ((Mods.of_below HA.out (fun _=>False)).owns hown (fun _ _ e=>e)) (fun k hk e=>?_),fun k hk=>?_⟩
      ·obtain ⟨p,c,e⟩:=(Rd.of_owns hown).shape
       simp only [Value.slice.injEq] at e
       exact e.2.1
      ·have:=hlt k hk;have:=HZs.out;omega
      ·have:=hlt k hk;have:=HZs.out;have:=HGz.out;omega
     ·exact Or.inr ⟨k,by rw [← HRe.out];exact pair_no1 ho⟩
    have HMo:Hid (∀W,Mods (fun k=>k=q∨k=g) w4 W→DcIn 61 w q W hs acc (.slice pv hs.length cv)):=fun W hm=>
     HDcO.out.turn ((((HM3.out.mono (fun k _ e=>Or.inl e)).trans (Mods.of_below HA.out (fun _=>False)) (fun _ _ e=>e.elim)).trans HM4.out (fun k _ e=>Or.inl e)).trans hm (fun k hk e=>by
      rcases e with e | e
      ·exact Or.inl e
      ·subst e;have:=HGl.out;have:=HZ0.out;exact Or.inr (by omega))) (by have:=HQ.out;omega)
    clear HA HR2' HDc2 HDc3 HDcO
    by_cases hz0:n2=0
    ·have HSa4:=Lib.hid (HS4.out.1 hz0)
     clear HS4
     subst hz0
     go_wp2_with fail
     refine (rr_fail q _ B b4 e4 23 w4 HR4.out).mono ?_
     rintro en w5 ⟨rfl,hR,hm⟩
     have HR5:=Lib.hid hR
     have HG5:=Lib.hid (hm.blk HG4.out (fun e=>by have:=HGl.out;omega))
     have HDc5:=Lib.hid (HDc4.out.mods hm (by have:=HQ.out;omega))
     obtain ⟨e5,he5⟩:∃e5,(if e4=0 then (23:Int) else e4)=e5:=⟨_,rfl⟩
     rw [he5] at HR5 HSa4
     have HS5:Hid (e5≠0∧∃k:Nat,k≠0∧e5=(k:Int)∧R = .bad k):=by obtain ⟨k,h1,h2,h3⟩:=HSa4.out;exact ⟨by omega,k,h1,h2,h3⟩
     have HT5:Hid (Stands (pRec t) B T n (i+1) b4 (acc++[(l,[])]) e5):=by
      obtain ⟨_,k,h1,h2,h3⟩:=HS5.out
      exact Or.inr ⟨k,h1,h2,many_no hlt HSa.out.2 (HRe.out.trans h3)⟩
     have HV5:Hid (e5=0→ln=l.length∧w5.ownsRow Z0 108 2 (.slice lp ln lc) l.length (labCells l)∧w5.ownsRow Z0 3 1 (.slice none 0 0) ([]:List Int).length (i64s [])):=fun h=>absurd h HS5.out.1
     clear hR hm HSa4 he5 HR4 HM4 HDc4
     go_wp2_with fail
     go_loopw [12] (fun jv wr2=>jv = .int .i64 0∧wr2=w5) (fun _ _=>0)
     case atStart=>exact ⟨rfl,rfl⟩
     case round=>
      obtain ⟨rfl,rfl⟩:=hrel
      obtain ⟨c0,c1,c2,f1,f2⟩:=HR5.out.cells
      have HOz:=Lib.hid HDc5.out.nr.row.base0
      have HLz:Hid ((hs.length+1)*48≤140737488355328∧hs.length+1≤maxLen):=by show _∧_;have h1:=HDc5.out.nr.len;have h2:=HL.out;unfold maxLen;omega
      have x0:wr.cell? ⟨g,0,none⟩=some (.slice lp ln lc):=by rw [HG5.out.cell];rfl
      have x1:wr.cell? ⟨g,1,none⟩=some (.slice none 0 0):=by rw [HG5.out.cell];rfl
      have HZq:Hid (q<wr.heap.size):=HR5.out.blk.lt
      go_wp2_with (at_builtin;refine wpList_push elemRec13 _ #[.slice lp ln lc,.slice none 0 0] _ _ _ HOz.out rfl (by simp [Value.oneCell']) HLz.out rfl _ _ rfl rfl rfl ?_)
      intro v8 w8 k1 m1 f1
      have hvb:∀k,(Value.slice pv hs.length cv).ownBlock=some k→w.heap.size≤k∧k≠q:=fun k hk=>⟨(HDc5.out.nr.row.row.lt k hk).1,HDc5.out.vq k hk⟩
      have HB8:Hid (Below w.heap.size w w8):=HDc5.out.nr.row.bel.trans (m1.below HDc5.out.nr.row.bel.size (fun k hk e=>by have:=(hvb k e).1;omega))
      have HR8:=Lib.hid (HR5.out.mods' m1 (fun e=>(hvb q e).2 rfl) (fun hne k hk e=>by have:=(hvb k e).1;have:=HVl.out hne k hk;omega))
      have HI8:Hid (e5=0→(acc++[(l,[])]).length=i+1∧DcIn 61 w q w8 (hs++[(.slice lp ln lc,.slice none 0 0)]) (acc++[(l,[])]) v8):=by
       intro h0
       obtain ⟨hw,ho1,ho2⟩:=HV5.out h0
       refine ⟨by rw [List.length_append,HL.out];rfl,⟨?_,fun k hk=>?_,fun i' h' s' hi' hj'=>?_⟩⟩
       ·exact HDc5.out.nr.pushed (h:=(.slice lp ln lc,.slice none 0 0)) (s:=(l,[])) ⟨by rw [hw] at ho1 ⊢;exact Rd.of_owns ho1,Rd.of_owns ho2⟩ ⟨fun _ k hk e=>by have:=(ho1.lt k hk).1;have:=HDv.out k e;omega,fun _ k hk e=>by have:=(ho2.lt k hk).1;have:=HDv.out k e;omega⟩ k1 m1 f1
       ·rcases f1 k hk with e | e
        ·exact (hvb k e).2
        ·have:=HZq.out;omega
       ·rcases getElem?_snoc hi' with e | ⟨e,rfl⟩
        ·rcases getElem?_snoc hj' with f | ⟨f,_⟩
         ·exact HDc5.out.hq i' h' s' e f
         ·have:=(List.getElem?_eq_some_iff.1 e).1;have:=HDc5.out.nr.len;omega
        ·rcases getElem?_snoc hj' with f | ⟨_,rfl⟩
         ·have:=(List.getElem?_eq_some_iff.1 f).1;have:=HDc5.out.nr.len;omega
         ·exact ⟨fun _ k hk e=>by have:=(ho1.lt k hk).1;have:=HZs.out;omega,fun _ k hk e=>by have:=(ho2.lt k hk).1;have:=HZs.out;omega⟩
      clear k1 m1 f1 hvb HOz HLz x0 x1
      go_wp2_with fail
      go_round
      case rel=>exact ⟨i+1,b4,e5,acc++[(l,[])],hs++[((Value.slice lp ln lc,Value.slice none 0 0):Hd)],by omega,by go_num,HB8.out,HR8.out,HT5.out,HI8.out⟩
      case measure=>simp [intOf];omega
    ·have HSb4:=Lib.hid (HS4.out.2 hz0)
     clear HS4
     have hzb:((n2:Int) == 0)=false:=by rw [beq_eq_false_iff_ne];omega
     have HO4:Hid (w4.ownsRow w4.heap.size 3 1 (.slice none 0 0) ([]:List Int).length (i64s [])):=World.ownsRow_nil _ _ _ _
     go_wp2_with fail
     clear hzb
     go_loopw [12] (fun jv wr2=>∃(j x:Nat) (e:Int) (cs:List Int) (cp:Option Addr) (cc:Nat),j≤n2∧jv = .int .i64 (j:Int)∧Hid (Blk wr2 g [.slice lp ln lc,.slice cp cs.length cc])∧Hid (wr2.ownsRow w4.heap.size 3 1 (.slice cp cs.length cc) cs.length (i64s cs))∧Hid (cs.length=j)∧Hid (Mods (fun k=>k=q∨k=g) w4 wr2)∧Hid (RRd wr2 q (.slice pb B.length cb) B x e)∧Hid (StandsR B R n2 j x l cs e)) (fun jv _=>n2-(intOf jv).toNat)
     case atStart=>exact ⟨0,b4,e4,[],none,0,Nat.zero_le _,rfl,HG4.out,HO4.out,rfl,Mods.refl _ _,HR4.out,HSb4.out⟩
     case round=>
      obtain ⟨j,x5,e5,cs,cp,cc,hj,rfl,HG5,HO5,HLc,HM5,HR5,HS5⟩:=hrel
      have hjm:(j:Int)≤100000000:=by omega
      obtain ⟨c0,c1,c2,f1,f2⟩:=HR5.out.cells
      by_cases hlj:j<n2∧e5=0
      ·obtain ⟨hlj1,h50⟩:=hlj
       subst h50
       have hlj':(j:Int)<(n2:Int):=by omega
       have HSb:Hid (x5≤B.length∧R=recOut l (pMany pLen B (n2-j) x5 cs)):=by
        rcases HS5.out with ⟨_,h1,h2⟩ | ⟨k,hk,h1,_⟩
        ·exact ⟨h1,h2⟩
        ·omega
       have HU:=Lib.hid (rr_uint_any q _ B x5 wr HR5.out HBl.out HSb.out.1)
       clear HS5
       go_wp2_with fail
       refine HU.out.mono ?_
       rintro en w6 ⟨hm,m,b6,e6,rfl,hmu,hR6,hcase⟩
       have HR6:=Lib.hid hR6
       have HG6:=Lib.hid (hm.blk HG5.out (fun e=>by have:=HGl.out;omega))
       have HM6:Hid (Mods (fun k=>k=q∨k=g) w4 w6):=HM5.out.trans hm (fun k hk e=>Or.inl e)
       have HO6:=Lib.hid (hm.owns HO5.out (fun k hk e=>by have:=(HO5.out.lt k hk).1;have:=HGl.out;omega))
       have hmi:(m:Int)<18446744073709551616:=by omega
       obtain ⟨wm,hwm⟩:∃wm,IntKind.i64.wrap (m:Int)=wm:=⟨_,rfl⟩
       clear hm hR6 HU HR5 HG5 HM5 HO5 c0 c1 c2 f1 f2
       by_cases hin:e6=0∧1≤m∧m≤2147483647
       ·obtain ⟨h60,h1m,hm2⟩:=hin
        subst h60
        have a1:¬(m:Int)<1:=by omega
        have a2:¬(2147483647:Int)<(m:Int):=by omega
        have ham:wm=(m:Int):=by rw [← hwm,IntKind.wrap_i64];omega
        have HS6:Hid (StandsR B R n2 (j+1) b6 l (cs++[wm]) 0):=by
         rcases hcase with ⟨_,hb,hp⟩ | ⟨hm0,_⟩
         ·rw [if_pos ⟨h1m,hm2⟩] at hp
          refine Or.inl ⟨rfl,hb,?_⟩
          rw [HSb.out.2,many_ok (n:=n2) (i:=j) hlj1 rfl hp,ham]
         ·omega
        have b1:decide ((m:Int)<1)=false:=by simpa using a1
        have b2:decide ((2147483647:Int)<(m:Int))=false:=by simpa using a2
        clear hcase ham h1m hm2 a1 a2
        have HOz:Hid (w6.ownsRow 0 3 1 (.slice cp cs.length cc) cs.length (i64s cs)):=owns_rebase HO6.out (fun _ _=>Nat.zero_le _)
        have HLz:Hid ((cs.length+1)*8≤140737488355328∧cs.length+1≤maxLen):=by show _∧_;have h2:=HLc.out;unfold maxLen;omega
        have x1:w6.cell? ⟨g,1,none⟩=some (.slice cp cs.length cc):=by rw [HG6.out.cell];rfl
        go_wp2_with (at_builtin;refine wpList_push elemInt13 _ #[.int .i64 wm] _ _ _ HOz.out rfl (by simp [Value.oneCell']) HLz.out rfl _ _ rfl rfl rfl ?_)
        intro v8 w8 k1 m1 f1
        have hvb:∀k,(Value.slice cp cs.length cc).ownBlock=some k→w4.heap.size≤k:=fun k hk=>(HO6.out.lt k hk).1
        have hgz:=HGl.out
        have hm8:Mods (fun k=>k=q∨k=g) w4 w8:=HM6.out.trans m1 (fun k hk e=>by have:=hvb k e;omega)
        have hG8:Blk w8 g [.slice lp ln lc,.slice cp cs.length cc]:=m1.blk HG6.out (fun e=>by have:=hvb g e;omega)
        have hR8:=HR6.out.mods' m1 (fun e=>by have:=hvb q e;omega) (fun hne k hk e=>by have:=hvb k e;have:=HVl.out hne k hk;have:=HB4.out.size;omega)
        obtain ⟨cp2,cc2,hv8⟩:∃p c,v8 = .slice p (cs++[wm]).length c:=by rw [List.length_append];exact (Rd.of_owns k1).shape
        subst hv8
        have hset:Mods (fun k=>k=g) w8 (w8.setCell ⟨g,1,none⟩ (.slice cp2 (cs++[wm]).length cc2)):=Mods.set _ _ _ _ (fun _=>rfl)
        have hO8:w8.ownsRow w4.heap.size 3 1 (.slice cp2 (cs++[wm]).length cc2) (cs++[wm]).length (i64s (cs++[wm])):=by
         rw [i64s_append]
         rw [List.length_append] at k1 f1 ⊢
         refine owns_rebase k1 (fun k hk=>?_)
         rcases f1 k hk with e | e
         ·exact hvb k e
         ·have:=HM6.out.size;omega
        have HG9:Hid (Blk (w8.setCell ⟨g,1,none⟩ (.slice cp2 (cs++[wm]).length cc2)) g [.slice lp ln lc,.slice cp2 (cs++[wm]).length cc2]):=hG8.set 1 _
        have HO9:=Lib.hid (hset.owns hO8 (fun k hk e=>by have:=(hO8.lt k hk).1;omega))
        have HM9:Hid (Mods (fun k=>k=q∨k=g) w4 (w8.setCell ⟨g,1,none⟩ (.slice cp2 (cs++[wm]).length cc2))):=hm8.trans hset (fun k hk e=>Or.inr e)
        have HR9:=Lib.hid (hR8.mods' hset (fun e=>by omega) (fun hne k hk e=>by have:=HVl.out hne k hk;have:=HB4.out.size;have:=HGw.out;omega))
        have y1:w8.cell? ⟨g,1,none⟩=some (.slice cp cs.length cc):=by rw [hG8.cell];rfl
        have z1:w8.frozen? ⟨g,1,none⟩=false:=hG8.free 1
        have HL9:Hid ((cs++[wm]).length=j+1):=by show _=_;rw [List.length_append,HLc.out];rfl
        clear k1 m1 f1 hvb hgz hm8 hG8 hR8 hset hO8 HOz HLz x1
        generalize cs++[wm]=cs2 at *
        go_wp2_with fail
        go_round
        case rel=>exact ⟨j+1,b6,0,cs2,cp2,cc2,by omega,by go_num,HG9.out,HO9.out,HL9.out,HM9.out,HR9.out,HS6.out⟩
        case measure=>simp [intOf];omega
       ·have hfl:Hid (∃k:Nat,k≠0∧(if e6=0 then (23:Int) else e6)=(k:Int)∧R = .bad k):=by
         rcases hcase with ⟨h60,hb,hp⟩ | ⟨hm0,k,hk,h6,hp⟩
         ·rw [if_neg (fun h=>hin ⟨h60,h⟩)] at hp
          refine ⟨23,by decide,by rw [if_pos h60];rfl,?_⟩
          rw [HSb.out.2,many_no (n:=n2) (i:=j) hlj1 rfl hp];rfl
         ·refine ⟨k,hk,by rw [if_neg (by omega)];exact h6,?_⟩
          rw [HSb.out.2,many_no (n:=n2) (i:=j) hlj1 rfl hp];rfl
        have hout:m<1∨2147483647<m:=by
         rcases hcase with ⟨h60,_⟩ | ⟨hm0,_⟩
         ·by_cases h1:1≤m
          ·exact Or.inr (by
            by_cases h2:m≤2147483647
            ·exact absurd ⟨h60,h1,h2⟩ hin
            ·omega)
          ·exact Or.inl (by omega)
         ·exact Or.inl (by omega)
        clear hcase hin
        obtain ⟨e7,he7⟩:∃e7,(if e6=0 then (23:Int) else e6)=e7:=⟨_,rfl⟩
        rw [he7] at hfl
        have HF:=Lib.hid (rr_fail q _ B b6 e6 23 w6 HR6.out)
        rw [he7] at HF
        have HS7:Hid (StandsR B R n2 (j+1) b6 l (cs++[wm]) e7):=by
         obtain ⟨k,h1,h2,h3⟩:=hfl.out
         exact Or.inr ⟨k,h1,h2,h3⟩
        clear hfl he7
        rcases hout with a1 | a2
        ·have a1':(m:Int)<1:=by omega
         go_wp2_with fail
         refine HF.out.mono ?_
         rintro en w7 ⟨rfl,hR,hm⟩
         have HR7:=Lib.hid hR
         have HG7:=Lib.hid (hm.blk HG6.out (fun e=>by have:=HGl.out;omega))
         have HM7:Hid (Mods (fun k=>k=q∨k=g) w4 w7):=HM6.out.trans hm (fun k hk e=>Or.inl e)
         have HO7:=Lib.hid (hm.owns HO6.out (fun k hk e=>by have:=(HO6.out.lt k hk).1;have:=HGl.out;omega))
         clear hm hR HF HR6 HG6 HM6 HO6
         have HOz:Hid (w7.ownsRow 0 3 1 (.slice cp cs.length cc) cs.length (i64s cs)):=owns_rebase HO7.out (fun _ _=>Nat.zero_le _)
         have HLz:Hid ((cs.length+1)*8≤140737488355328∧cs.length+1≤maxLen):=by show _∧_;have h2:=HLc.out;unfold maxLen;omega
         have x1:w7.cell? ⟨g,1,none⟩=some (.slice cp cs.length cc):=by rw [HG7.out.cell];rfl
         go_wp2_with (at_builtin;refine wpList_push elemInt13 _ #[.int .i64 wm] _ _ _ HOz.out rfl (by simp [Value.oneCell']) HLz.out rfl _ _ rfl rfl rfl ?_)
         intro v8 w8 k1 m1 f1
         have hvb:∀k,(Value.slice cp cs.length cc).ownBlock=some k→w4.heap.size≤k:=fun k hk=>(HO7.out.lt k hk).1
         have hgz:=HGl.out
         have hm8:Mods (fun k=>k=q∨k=g) w4 w8:=HM7.out.trans m1 (fun k hk e=>by have:=hvb k e;omega)
         have hG8:Blk w8 g [.slice lp ln lc,.slice cp cs.length cc]:=m1.blk HG7.out (fun e=>by have:=hvb g e;omega)
         have hR8:=HR7.out.mods' m1 (fun e=>by have:=hvb q e;omega) (fun hne k hk e=>by have:=hvb k e;have:=HVl.out hne k hk;have:=HB4.out.size;omega)
         obtain ⟨cp2,cc2,hv8⟩:∃p c,v8 = .slice p (cs++[wm]).length c:=by rw [List.length_append];exact (Rd.of_owns k1).shape
         subst hv8
         have hset:Mods (fun k=>k=g) w8 (w8.setCell ⟨g,1,none⟩ (.slice cp2 (cs++[wm]).length cc2)):=Mods.set _ _ _ _ (fun _=>rfl)
         have hO8:w8.ownsRow w4.heap.size 3 1 (.slice cp2 (cs++[wm]).length cc2) (cs++[wm]).length (i64s (cs++[wm])):=by
          rw [i64s_append]
          rw [List.length_append] at k1 f1 ⊢
          refine owns_rebase k1 (fun k hk=>?_)
          rcases f1 k hk with e | e
          ·exact hvb k e
          ·have:=HM7.out.size;omega
         have HG9:Hid (Blk (w8.setCell ⟨g,1,none⟩ (.slice cp2 (cs++[wm]).length cc2)) g [.slice lp ln lc,.slice cp2 (cs++[wm]).length cc2]):=hG8.set 1 _
         have HO9:=Lib.hid (hset.owns hO8 (fun k hk e=>by have:=(hO8.lt k hk).1;omega))
         have HM9:Hid (Mods (fun k=>k=q∨k=g) w4 (w8.setCell ⟨g,1,none⟩ (.slice cp2 (cs++[wm]).length cc2))):=hm8.trans hset (fun k hk e=>Or.inr e)
         have HR9:=Lib.hid (hR8.mods' hset (fun e=>by omega) (fun hne k hk e=>by have:=HVl.out hne k hk;have:=HB4.out.size;have:=HGw.out;omega))
         have y1:w8.cell? ⟨g,1,none⟩=some (.slice cp cs.length cc):=by rw [hG8.cell];rfl
         have z1:w8.frozen? ⟨g,1,none⟩=false:=hG8.free 1
         have HL9:Hid ((cs++[wm]).length=j+1):=by show _=_;rw [List.length_append,HLc.out];rfl
         clear k1 m1 f1 hvb hgz hm8 hG8 hR8 hset hO8 HOz HLz x1
         generalize cs++[wm]=cs2 at *
         go_wp2_with fail
         go_round
         case rel=>exact ⟨j+1,b6,e7,cs2,cp2,cc2,by omega,by go_num,HG9.out,HO9.out,HL9.out,HM9.out,HR9.out,HS7.out⟩
         case measure=>simp [intOf];omega
        ·have a1':¬(m:Int)<1:=by omega
         have a2':(2147483647:Int)<(m:Int):=by omega
         go_wp2_with fail
         refine HF.out.mono ?_
         rintro en w7 ⟨rfl,hR,hm⟩
         have HR7:=Lib.hid hR
         have HG7:=Lib.hid (hm.blk HG6.out (fun e=>by have:=HGl.out;omega))
         have HM7:Hid (Mods (fun k=>k=q∨k=g) w4 w7):=HM6.out.trans hm (fun k hk e=>Or.inl e)
         have HO7:=Lib.hid (hm.owns HO6.out (fun k hk e=>by have:=(HO6.out.lt k hk).1;have:=HGl.out;omega))
         clear hm hR HF HR6 HG6 HM6 HO6
         have HOz:Hid (w7.ownsRow 0 3 1 (.slice cp cs.length cc) cs.length (i64s cs)):=owns_rebase HO7.out (fun _ _=>Nat.zero_le _)
         have HLz:Hid ((cs.length+1)*8≤140737488355328∧cs.length+1≤maxLen):=by show _∧_;have h2:=HLc.out;unfold maxLen;omega
         have x1:w7.cell? ⟨g,1,none⟩=some (.slice cp cs.length cc):=by rw [HG7.out.cell];rfl
         go_wp2_with (at_builtin;refine wpList_push elemInt13 _ #[.int .i64 wm] _ _ _ HOz.out rfl (by simp [Value.oneCell']) HLz.out rfl _ _ rfl rfl rfl ?_)
         intro v8 w8 k1 m1 f1
         have hvb:∀k,(Value.slice cp cs.length cc).ownBlock=some k→w4.heap.size≤k:=fun k hk=>(HO7.out.lt k hk).1
         have hgz:=HGl.out
         have hm8:Mods (fun k=>k=q∨k=g) w4 w8:=HM7.out.trans m1 (fun k hk e=>by have:=hvb k e;omega)
         have hG8:Blk w8 g [.slice lp ln lc,.slice cp cs.length cc]:=m1.blk HG7.out (fun e=>by have:=hvb g e;omega)
         have hR8:=HR7.out.mods' m1 (fun e=>by have:=hvb q e;omega) (fun hne k hk e=>by have:=hvb k e;have:=HVl.out hne k hk;have:=HB4.out.size;omega)
         obtain ⟨cp2,cc2,hv8⟩:∃p c,v8 = .slice p (cs++[wm]).length c:=by rw [List.length_append];exact (Rd.of_owns k1).shape
         subst hv8
         have hset:Mods (fun k=>k=g) w8 (w8.setCell ⟨g,1,none⟩ (.slice cp2 (cs++[wm]).length cc2)):=Mods.set _ _ _ _ (fun _=>rfl)
         have hO8:w8.ownsRow w4.heap.size 3 1 (.slice cp2 (cs++[wm]).length cc2) (cs++[wm]).length (i64s (cs++[wm])):=by
          rw [i64s_append]
          rw [List.length_append] at k1 f1 ⊢
          refine owns_rebase k1 (fun k hk=>?_)
          rcases f1 k hk with e | e
          ·exact hvb k e
          ·have:=HM7.out.size;omega
         have HG9:Hid (Blk (w8.setCell ⟨g,1,none⟩ (.slice cp2 (cs++[wm]).length cc2)) g [.slice lp ln lc,.slice cp2 (cs++[wm]).length cc2]):=hG8.set 1 _
         have HO9:=Lib.hid (hset.owns hO8 (fun k hk e=>by have:=(hO8.lt k hk).1;omega))
         have HM9:Hid (Mods (fun k=>k=q∨k=g) w4 (w8.setCell ⟨g,1,none⟩ (.slice cp2 (cs++[wm]).length cc2))):=hm8.trans hset (fun k hk e=>Or.inr e)
         have HR9:=Lib.hid (hR8.mods' hset (fun e=>by omega) (fun hne k hk e=>by have:=HVl.out hne k hk;have:=HB4.out.size;have:=HGw.out;omega))
         have y1:w8.cell? ⟨g,1,none⟩=some (.slice cp cs.length cc):=by rw [hG8.cell];rfl
         have z1:w8.frozen? ⟨g,1,none⟩=false:=hG8.free 1
         have HL9:Hid ((cs++[wm]).length=j+1):=by show _=_;rw [List.length_append,HLc.out];rfl
         clear k1 m1 f1 hvb hgz hm8 hG8 hR8 hset hO8 HOz HLz x1
         generalize cs++[wm]=cs2 at *
         go_wp2_with fail
         go_round
         case rel=>exact ⟨j+1,b6,e7,cs2,cp2,cc2,by omega,by go_num,HG9.out,HO9.out,HL9.out,HM9.out,HR9.out,HS7.out⟩
         case measure=>simp [intOf];omega
      ·have HRk:Hid (e5=0→R = .ok (l,cs) x5):=by
        intro h0
        rcases HS5.out with ⟨_,hx,h2⟩ | ⟨k,hk,h1,h2⟩
        ·have hjn:n2≤j:=by
          by_cases h:j<n2
          ·exact absurd ⟨h,h0⟩ hlj
          ·omega
         have h3:pMany pLen B (n2-j) x5 cs = .ok cs x5:=by rw [show n2-j=0 by omega,pMany]
         rw [h3] at h2
         exact h2
        ·omega
       have HV5:Hid (e5=0→ln=l.length∧wr.ownsRow Z0 108 2 (.slice lp ln lc) l.length (labCells l)∧wr.ownsRow Z0 3 1 (.slice cp cs.length cc) cs.length (i64s cs)):=by
        intro h0
        rcases HCw.out with ⟨h1,h2,h3⟩ | ⟨k,h1⟩
        ·exact ⟨h1,HM5.out.owns h2 (fun k hk e=>by have:=h3 k hk;omega),owns_rebase HO5.out (fun k hk=>by have:=(HO5.out.lt k hk).1;have:=HGl.out;omega)⟩
        ·rw [HRk.out h0] at h1;cases h1
       have HT5:Hid (Stands (pRec t) B T n (i+1) x5 (acc++[(l,cs)]) e5):=by
        rcases HS5.out with ⟨h0,hx,h2⟩ | ⟨k,hk,h1,h2⟩
        ·exact Or.inl ⟨h0,hx,many_ok hlt HSa.out.2 (HRe.out.trans (HRk.out h0))⟩
        ·exact Or.inr ⟨k,hk,h1,many_no hlt HSa.out.2 (HRe.out.trans h2)⟩
       have HDc5:=Lib.hid (HMo.out _ HM5.out)
       clear HRk HS5
       by_cases hj2:j<n2
       ·have hj2':(j:Int)<(n2:Int):=by omega
        have heb:(e5 == 0)=false:=by rw [beq_eq_false_iff_ne];exact fun h=>hlj ⟨hj2,h⟩
        clear hlj hj2
        have HOz:=Lib.hid HDc5.out.nr.row.base0
        have HLz:Hid ((hs.length+1)*48≤140737488355328∧hs.length+1≤maxLen):=by show _∧_;have h1:=HDc5.out.nr.len;have h2:=HL.out;unfold maxLen;omega
        have x0:wr.cell? ⟨g,0,none⟩=some (.slice lp ln lc):=by rw [HG5.out.cell];rfl
        have x1:wr.cell? ⟨g,1,none⟩=some (.slice cp cs.length cc):=by rw [HG5.out.cell];rfl
        have HZq:Hid (q<wr.heap.size):=HR5.out.blk.lt
        go_wp2_with (at_builtin;refine wpList_push elemRec13 _ #[.slice lp ln lc,.slice cp cs.length cc] _ _ _ HOz.out rfl (by simp [Value.oneCell']) HLz.out rfl _ _ rfl rfl rfl ?_)
        intro v8 w8 k1 m1 f1
        have hvb:∀k,(Value.slice pv hs.length cv).ownBlock=some k→w.heap.size≤k∧k≠q:=fun k hk=>⟨(HDc5.out.nr.row.row.lt k hk).1,HDc5.out.vq k hk⟩
        have HB8:Hid (Below w.heap.size w w8):=HDc5.out.nr.row.bel.trans (m1.below HDc5.out.nr.row.bel.size (fun k hk e=>by have:=(hvb k e).1;omega))
        have HR8:=Lib.hid (HR5.out.mods' m1 (fun e=>(hvb q e).2 rfl) (fun hne k hk e=>by have:=(hvb k e).1;have:=HVl.out hne k hk;omega))
        have HI8:Hid (e5=0→(acc++[(l,cs)]).length=i+1∧DcIn 61 w q w8 (hs++[(.slice lp ln lc,.slice cp cs.length cc)]) (acc++[(l,cs)]) v8):=by
         intro h0
         obtain ⟨hw,ho1,ho2⟩:=HV5.out h0
         refine ⟨by rw [List.length_append,HL.out];rfl,⟨?_,fun k hk=>?_,fun i' h' s' hi' hj'=>?_⟩⟩
         ·exact HDc5.out.nr.pushed (h:=(.slice lp ln lc,.slice cp cs.length cc)) (s:=(l,cs)) ⟨by rw [hw] at ho1 ⊢;exact Rd.of_owns ho1,Rd.of_owns ho2⟩ ⟨fun _ k hk e=>by have:=(ho1.lt k hk).1;have:=HDv.out k e;omega,fun _ k hk e=>by have:=(ho2.lt k hk).1;have:=HDv.out k e;omega⟩ k1 m1 f1
         ·rcases f1 k hk with e | e
          ·exact (hvb k e).2
          ·have:=HZq.out;omega
         ·rcases getElem?_snoc hi' with e | ⟨e,rfl⟩
          ·rcases getElem?_snoc hj' with f | ⟨f,_⟩
           ·exact HDc5.out.hq i' h' s' e f
           ·have:=(List.getElem?_eq_some_iff.1 e).1;have:=HDc5.out.nr.len;omega
          ·rcases getElem?_snoc hj' with f | ⟨_,rfl⟩
           ·have:=(List.getElem?_eq_some_iff.1 f).1;have:=HDc5.out.nr.len;omega
           ·exact ⟨fun _ k hk e=>by have:=(ho1.lt k hk).1;have:=HZs.out;omega,fun _ k hk e=>by have:=(ho2.lt k hk).1;have:=HZs.out;omega⟩
        clear k1 m1 f1 hvb HOz HLz x0 x1
        go_wp2_with fail
        go_round
        case rel=>exact ⟨i+1,x5,e5,acc++[(l,cs)],hs++[((Value.slice lp ln lc,Value.slice cp cs.length cc):Hd)],by omega,by go_num,HB8.out,HR8.out,HT5.out,HI8.out⟩
        case measure=>simp [intOf];omega
       ·have hj2':¬(j:Int)<(n2:Int):=by omega
        clear hlj hj2
        have HOz:=Lib.hid HDc5.out.nr.row.base0
        have HLz:Hid ((hs.length+1)*48≤140737488355328∧hs.length+1≤maxLen):=by show _∧_;have h1:=HDc5.out.nr.len;have h2:=HL.out;unfold maxLen;omega
        have x0:wr.cell? ⟨g,0,none⟩=some (.slice lp ln lc):=by rw [HG5.out.cell];rfl
        have x1:wr.cell? ⟨g,1,none⟩=some (.slice cp cs.length cc):=by rw [HG5.out.cell];rfl
        have HZq:Hid (q<wr.heap.size):=HR5.out.blk.lt
        go_wp2_with (at_builtin;refine wpList_push elemRec13 _ #[.slice lp ln lc,.slice cp cs.length cc] _ _ _ HOz.out rfl (by simp [Value.oneCell']) HLz.out rfl _ _ rfl rfl rfl ?_)
        intro v8 w8 k1 m1 f1
        have hvb:∀k,(Value.slice pv hs.length cv).ownBlock=some k→w.heap.size≤k∧k≠q:=fun k hk=>⟨(HDc5.out.nr.row.row.lt k hk).1,HDc5.out.vq k hk⟩
        have HB8:Hid (Below w.heap.size w w8):=HDc5.out.nr.row.bel.trans (m1.below HDc5.out.nr.row.bel.size (fun k hk e=>by have:=(hvb k e).1;omega))
        have HR8:=Lib.hid (HR5.out.mods' m1 (fun e=>(hvb q e).2 rfl) (fun hne k hk e=>by have:=(hvb k e).1;have:=HVl.out hne k hk;omega))
        have HI8:Hid (e5=0→(acc++[(l,cs)]).length=i+1∧DcIn 61 w q w8 (hs++[(.slice lp ln lc,.slice cp cs.length cc)]) (acc++[(l,cs)]) v8):=by
         intro h0
         obtain ⟨hw,ho1,ho2⟩:=HV5.out h0
         refine ⟨by rw [List.length_append,HL.out];rfl,⟨?_,fun k hk=>?_,fun i' h' s' hi' hj'=>?_⟩⟩
         ·exact HDc5.out.nr.pushed (h:=(.slice lp ln lc,.slice cp cs.length cc)) (s:=(l,cs)) ⟨by rw [hw] at ho1 ⊢;exact Rd.of_owns ho1,Rd.of_owns ho2⟩ ⟨fun _ k hk e=>by have:=(ho1.lt k hk).1;have:=HDv.out k e;omega,fun _ k hk e=>by have:=(ho2.lt k hk).1;have:=HDv.out k e;omega⟩ k1 m1 f1
         ·rcases f1 k hk with e | e
          ·exact (hvb k e).2
          ·have:=HZq.out;omega
         ·rcases getElem?_snoc hi' with e | ⟨e,rfl⟩
          ·rcases getElem?_snoc hj' with f | ⟨f,_⟩
           ·exact HDc5.out.hq i' h' s' e f
           ·have:=(List.getElem?_eq_some_iff.1 e).1;have:=HDc5.out.nr.len;omega
          ·rcases getElem?_snoc hj' with f | ⟨_,rfl⟩
           ·have:=(List.getElem?_eq_some_iff.1 f).1;have:=HDc5.out.nr.len;omega
           ·exact ⟨fun _ k hk e=>by have:=(ho1.lt k hk).1;have:=HZs.out;omega,fun _ k hk e=>by have:=(ho2.lt k hk).1;have:=HZs.out;omega⟩
        clear k1 m1 f1 hvb HOz HLz x0 x1
        go_wp2_with fail
        go_round
        case rel=>exact ⟨i+1,x5,e5,acc++[(l,cs)],hs++[((Value.slice lp ln lc,Value.slice cp cs.length cc):Hd)],by omega,by go_num,HB8.out,HR8.out,HT5.out,HI8.out⟩
        case measure=>simp [intOf];omega
   ·have heb:(e == 0)=false:=by rw [beq_eq_false_iff_ne];exact he
    obtain ⟨k,hk,hek,hTk⟩:∃k:Nat,k≠0∧e=(k:Int)∧T = .bad k:=by
     rcases HS.out with ⟨h0,_⟩ | h
     ·exact absurd h0 he
     ·exact h
    have HEk:=Lib.hid hek
    have HTk:=Lib.hid hTk
    clear hek hTk hk
    have HT9:Hid (decRc t B=(k,[])):=by
     show _=_
     rw [HD.out,HTk.out];rfl
    have HEn:=Lib.hid (fun W h=>rr_end q (.slice pb B.length cb) B x e W h)
    have hee:(if e=0∧x<B.length then (4:Int) else e)=e:=by rw [if_neg (fun h=>he h.1)]
    rw [hee] at HEn
    have hnz:¬(e:Int)=0:=by omega
    have hnb:((e:Int) == 0)=false:=by rw [beq_eq_false_iff_ne];exact hnz
    clear hee
    go_wp2_with fail
    clear c0 c1 c2 f1 f2
    refine (HEn.out wr HR.out).mono ?_
    rintro en w3 ⟨rfl,m,rfl⟩
    have HR3:=Lib.hid (HR.out.drewN m)
    have HB3:Hid (Below w.heap.size w (wr.drewN m)):=HBw.out.trans ⟨rfl,rfl,rfl,Nat.le_refl _,fun _ _=>rfl⟩
    generalize wr.drewN m=w4 at *
    go_wp2_with fail
    refine (HEn.out w4 HR3.out).mono ?_
    rintro en w5 ⟨rfl,m',rfl⟩
    have HB5:Hid (Below w.heap.size w (w4.drewN m')):=HB3.out.trans ⟨rfl,rfl,rfl,Nat.le_refl _,fun _ _=>rfl⟩
    generalize w4.drewN m'=w6 at *
    go_wp2_with fail
    go_ret2
    exact ⟨by rw [HT9.out];exact ⟨_,by have h:=HEk.out;subst h;rfl,RdR.nil _,fun k e=>by cases e⟩,HB5.out⟩
  ·have hlt':¬(i:Int)<(n:Int):=by omega
   by_cases he:e=0
   ·have hTo:T = .ok acc x:=by
     rcases HS.out with ⟨_,_,h⟩ | ⟨k,hk,h,_⟩
     ·exact many_end (by omega) h
     ·omega
    by_cases hx:x<B.length
    ·have HT9:Hid (decRc t B=(4,[])):=by
      show _=_
      rw [HD.out,hTo];exact if_pos hx
     have HEn:=Lib.hid (fun W h=>rr_end q (.slice pb B.length cb) B x e W h)
     have hee:(if e=0∧x<B.length then (4:Int) else e)=(4:Int):=by rw [if_pos ⟨he,hx⟩]
     rw [hee] at HEn
     have hnz:¬((4:Int):Int)=0:=by omega
     have hnb:(((4:Int):Int) == 0)=false:=by rw [beq_eq_false_iff_ne];exact hnz
     clear hee
     go_wp2_with fail
     clear c0 c1 c2 f1 f2
     refine (HEn.out wr HR.out).mono ?_
     rintro en w3 ⟨rfl,m,rfl⟩
     have HR3:=Lib.hid (HR.out.drewN m)
     have HB3:Hid (Below w.heap.size w (wr.drewN m)):=HBw.out.trans ⟨rfl,rfl,rfl,Nat.le_refl _,fun _ _=>rfl⟩
     generalize wr.drewN m=w4 at *
     go_wp2_with fail
     refine (HEn.out w4 HR3.out).mono ?_
     rintro en w5 ⟨rfl,m',rfl⟩
     have HB5:Hid (Below w.heap.size w (w4.drewN m')):=HB3.out.trans ⟨rfl,rfl,rfl,Nat.le_refl _,fun _ _=>rfl⟩
     generalize w4.drewN m'=w6 at *
     go_wp2_with fail
     go_ret2
     exact ⟨by rw [HT9.out];exact ⟨_,rfl,RdR.nil _,fun k e=>by cases e⟩,HB5.out⟩
    ·have HT9:Hid (decRc t B=(0,acc)):=by show _=_;rw [HD.out,hTo];exact if_neg hx
     have HEn:=Lib.hid (fun W h=>rr_end q (.slice pb B.length cb) B x e W h)
     have hee:(if e=0∧x<B.length then (4:Int) else e)=0:=by rw [if_neg (fun h=>hx h.2)];exact he
     rw [hee] at HEn
     have HDf:=Lib.hid (HI.out he).2
     clear hee c0 c1 c2 f1 f2 hTo hx
     go_wp2_with fail
     refine (HEn.out wr HR.out).mono ?_
     rintro en w3 ⟨rfl,m,rfl⟩
     have HB3:Hid (Below wr.heap.size wr (wr.drewN m)):=⟨rfl,rfl,rfl,Nat.le_refl _,fun _ _=>rfl⟩
     have HD3:=Lib.hid (HDf.out.below HB3.out)
     generalize wr.drewN m=w4 at *
     go_wp2_with fail
     go_ret2
     exact ⟨by rw [HT9.out];exact ⟨_,rfl,HD3.out.nr.rd,fun k hk=>(HD3.out.nr.row.row.lt k hk).1⟩,HD3.out.nr.row.bel⟩
   ·obtain ⟨k,hk,hek,hTk⟩:∃k:Nat,k≠0∧e=(k:Int)∧T = .bad k:=by
     rcases HS.out with ⟨h0,_⟩ | h
     ·exact absurd h0 he
     ·exact h
    have HEk:=Lib.hid hek
    have HTk:=Lib.hid hTk
    clear hek hTk hk
    have HT9:Hid (decRc t B=(k,[])):=by
     show _=_
     rw [HD.out,HTk.out];rfl
    have HEn:=Lib.hid (fun W h=>rr_end q (.slice pb B.length cb) B x e W h)
    have hee:(if e=0∧x<B.length then (4:Int) else e)=e:=by rw [if_neg (fun h=>he h.1)]
    rw [hee] at HEn
    have hnz:¬(e:Int)=0:=by omega
    have hnb:((e:Int) == 0)=false:=by rw [beq_eq_false_iff_ne];exact hnz
    clear hee
    go_wp2_with fail
    clear c0 c1 c2 f1 f2
    refine (HEn.out wr HR.out).mono ?_
    rintro en w3 ⟨rfl,m,rfl⟩
    have HR3:=Lib.hid (HR.out.drewN m)
    have HB3:Hid (Below w.heap.size w (wr.drewN m)):=HBw.out.trans ⟨rfl,rfl,rfl,Nat.le_refl _,fun _ _=>rfl⟩
    generalize wr.drewN m=w4 at *
    go_wp2_with fail
    refine (HEn.out w4 HR3.out).mono ?_
    rintro en w5 ⟨rfl,m',rfl⟩
    have HB5:Hid (Below w.heap.size w (w4.drewN m')):=HB3.out.trans ⟨rfl,rfl,rfl,Nat.le_refl _,fun _ _=>rfl⟩
    generalize w4.drewN m'=w6 at *
    go_wp2_with fail
    go_ret2
    exact ⟨by rw [HT9.out];exact ⟨_,by have h:=HEk.out;subst h;rfl,RdR.nil _,fun k e=>by cases e⟩,HB5.out⟩
end Go.Proofs.YtdcgbgecbeegmaaGreatDoor
end
section
set_option maxRecDepth 20000
namespace Go.Proofs.YtdcgbgecbeegmaaGreatDoor
open Go Go.RowKit
variable {w wi w1 W W':World} {Z q g:Nat} {hs:List Hd} {acc:List Rec} {lv sv sv0 labv cv:Value} {out:List Nat} {lens:List Int}
end Go.Proofs.YtdcgbgecbeegmaaGreatDoor
end
