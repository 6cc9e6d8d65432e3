/- Texts 20. -/
import Derived.Test.YtdcgbgecbeegmaaGreatDoorMgL2
import Derived.Test.YtdcgbgecbeegmaaGreatDoorMgL3
import Derived.Test.YtdcgbgecbeegmaaGreatDoorMgL19
import Derived.Test.YtdcgbgecbeegmaaGreatDoorMgL8
import Derived.Test.YtdcgbgecbeegmaaGreatDoorMgL1
import Derived.Laws.CopyRow
import Derived.Laws.CopyOwn
import Derived.Laws.IdiomCopy
import Derived.OwnWalk
import Derived.Test.YtdcgbgecbeegmaaGreatDoorMgL9
import Derived.Test.YtdcgbgecbeegmaaGreatDoorMgL13
import Derived.Shelf.SlSortCmp.NoneTotal
import Derived.Test.YtdcgbgecbeegmaaGreatDoorMgL18
set_option linter.unusedVariables false
set_option linter.unusedSimpArgs false
section
namespace Go.Proofs.YtdcgbgecbeegmaaGreatDoor
open Go Go.RowKit
theorem check_sorted (l:List Lab):∀(p:Option ByteArray),(∀x∈l,oneL x=0)→l.Pairwise (fun a b=>ltN b a=false)→(∀n,p=some n→∀x∈l,ltS x.1 n=false)→
  (checkFrom p l=0∧AscB ltN l∧(∀n,p=some n→∀x∈l,ltS n x.1=true))∨(checkFrom p l=18∧¬(p.toList++namesL l).Nodup):=by
 induction l with
 | nil=>intro p _ _ _;exact Or.inl ⟨rfl,List.Pairwise.nil,fun _ _ _ h=>by cases h⟩
 | cons x l ih=>
  intro p ho hs hp
  obtain ⟨h1,h2⟩:=List.pairwise_cons.1 hs
  have hx:=ho x (by simp)
  have ih':=ih (some x.1) (fun y hy=>ho y (by simp [hy])) h2 (fun n hn y hy=>by cases hn;exact h1 y hy)
  have hasc:(∀n,some x.1=some n→∀y∈l,ltS n y.1=true)→AscB ltN l→AscB ltN (x::l):=fun h k=>List.pairwise_cons.2 ⟨fun y hy=>h x.1 rfl y hy,k⟩
  have hnn:namesL (x::l)=x.1::namesL l:=rfl
  cases p with
  | none=>
   rw [checkFrom,if_neg (not_not_intro hx)]
   rcases ih' with ⟨a,b,c⟩ | ⟨a,b⟩
   ·exact Or.inl ⟨a,hasc c b,fun _ h=>by cases h⟩
   ·exact Or.inr ⟨a,by simpa [hnn] using b⟩
  | some n=>
   have hlt:=hp n rfl x (by simp)
   rw [checkFrom,if_neg (not_not_intro hx)]
   by_cases he:x.1=n
   ·rw [if_pos he]
    refine Or.inr ⟨rfl,fun hd=>?_⟩
    rw [hnn,he] at hd
    simp at hd
   ·rw [if_neg he,if_neg (by rw [hlt];simp)]
    have hnx:ltS n x.1=true:=by
     rcases Bool.eq_false_or_eq_true (ltS n x.1) with e | e
     ·exact e
     ·exact absurd (ltS_ok.tot _ _ hlt e) he
    rcases ih' with ⟨a,b,c⟩ | ⟨a,b⟩
    ·refine Or.inl ⟨a,hasc c b,fun m hm y hy=>?_⟩
     cases hm
     rcases List.mem_cons.1 hy with e | e
     ·subst e;exact hnx
     ·exact ltS_ok.tr _ _ _ hnx (c x.1 rfl y e)
    ·refine Or.inr ⟨a,fun hd=>b ?_⟩
     rw [hnn] at hd
     simp only [Option.toList_some,List.singleton_append,List.nodup_cons] at hd ⊢
     exact hd.2
theorem norm_sorted {l l':List Lab} (h0:firstErr l=0) (hp:List.Perm l' l) (hs:l'.Pairwise (fun a b=>ltN b a=false)) :
  (checkL l'=0∧normL l=(0,l'))∨(checkL l'=18∧normL l=(18,[])):=by
 have ho:=(firstErr_zero l).1 h0
 have ho':∀x∈l',oneL x=0:=fun x hx=>ho x (hp.mem_iff.1 hx)
 have hnp:=norm_perm hp
 rcases check_sorted l' none ho' hs (fun _ h=>by cases h) with ⟨a,b,_⟩ | ⟨a,b⟩
 ·refine Or.inl ⟨a,?_⟩
  have h1:=norm_of_asc b ho'
  have h2:(normL l).1=0:=hnp.1.1 (by rw [h1])
  have h3:(normL l).2=l':=by rw [← hnp.2,h1]
  exact Prod.ext h2 h3
 ·refine Or.inr ⟨a,?_⟩
  have h1:¬(normL l).1=0:=fun e=>by
   have:=(normL_ok.1 (hnp.1.2 e)).2
   exact b (by simpa using this)
  unfold normL at h1 ⊢
  rw [if_neg (not_not_intro h0)] at h1 ⊢
  split
  ·rfl
  ·next r hr=>rw [hr] at h1;exact absurd rfl h1
set_option maxHeartbeats 400000 in
theorem clone_lab (v:Value) (l:List Lab) (w:World) (h:Rd w 2 v l.length (labCells l)) (hn:l.length≤4398046511104) :
  Calls Tryz.prog 157 #[v] w fun e w'=>∃r,e = .returned r∧Made w w' 108 2 r l.length (labCells l):=by
 have hq:∀(w:World) (a:Option Addr) (n c n' c':Nat),(binOp .eql 48 (.slice a n c) (.slice none n' c')).run Tryz.prog w = .ok (.bool a.isNone) w:=fun w a n c n' c'=>Lib.run_eql_slice_nil w _ _ a n c n' c' Tryz.underlying48
 obtain ⟨p,c,hv⟩:=h.shape
 subst hv
 cases p with
 | none=>
  obtain ⟨_,_,e,hl,_,_,hnil,_⟩:=h
  simp only [Value.slice.injEq] at e
  obtain ⟨rfl,_,rfl⟩:=e
  obtain ⟨h0,rfl⟩:=hnil rfl
  obtain rfl:l=[]:=List.eq_nil_of_length_eq_zero h0
  go_enter Tryz.func157,Tryz.ntmps157
  go_wp2
  go_ret
  exact ⟨_,rfl,World.ownsRow_nil _ _ _ _,Below.refl _ _⟩
 | some ad=>
  have HB:Hid (Below w.heap.size w (w.alloc (.cells #[] 108))):=(Below.refl _ _).alloc (Nat.le_refl _) _
  have HR:=Lib.hid (h.below HB.out)
  clear h
  have HO:Hid ((w.alloc (.cells #[] 108)).ownsRow 0 108 2 (.slice (some ⟨w.heap.size,0,none⟩) 0 0) 0 []):=World.ownsRow_lit (base:=0) w #[] 0 (Nat.zero_le _) (by simp [maxLen]) (by simp)
  have HL:Hid ((0+l.length)*32≤140737488355328∧0+l.length≤maxLen):=by show _∧_;unfold maxLen;omega
  go_enter Tryz.func157,Tryz.ntmps157
  go_wp2_with (at_builtin;refine wpList_extend elemLab _ _ _ _ _ _ _ HO.out HR.out (labCells_one _) HL.out rfl _ _ rfl rfl rfl ?_)
  intro v' w1 hown hmods hfr
  have HM:Hid (Made w w1 108 2 v' l.length (labCells l)):=by
   refine ⟨?_,HB.out.trans (hmods.below HB.out.size (fun k hk e=>by simp [Value.ownBlock] at e;omega))⟩
   try simp only [List.nil_append,Nat.zero_add] at hown
   exact owns_rebase hown (fun k hk=>by
    rcases hfr k hk with e | e
    ·simp [Value.ownBlock] at e;omega
    ·have:=HB.out.size;omega)
  clear hown hmods hfr
  go_wp2
  go_ret
  exact ⟨_,rfl,HM.out⟩
end Go.Proofs.YtdcgbgecbeegmaaGreatDoor
end
section
set_option maxRecDepth 20000
namespace Go.Proofs.YtdcgbgecbeegmaaGreatDoor
open Go Go.RowKit
set_option maxHeartbeats 4000000 in
theorem labNorm_any (lv:Value) (l:List Lab) (w:World) (hl:Rd w 2 lv l.length (labCells l)) (hs:∀x∈l,x.1.size≤9223372036854775807∧x.2.size≤9223372036854775807) (hn:l.length≤100000) :
  Calls Tryz.prog 118 #[lv] w (GotLb w (normL l)):=by
 have HL:=Lib.hid hl;have HS:=Lib.hid hs;have HNn:=Lib.hid hn
 obtain ⟨pl,cl,hv⟩:=hl.shape
 subst hv
 have hmx:(l.length:Int)≤100000:=by omega
 clear hl hs hn
 go_enter Tryz.func118,Tryz.ntmps118
 go_wp2_with fail
 go_loopw [11] (fun iv wr=>∃(i:Nat),i≤l.length∧iv = .int .i64 (i:Int)∧Hid (∀x∈l.take i,oneL x=0)∧Hid (Below w.heap.size w wr)) (fun iv _=>l.length-(intOf iv).toNat)
 case atStart=>exact ⟨0,Nat.zero_le _,rfl,(by intro x hx;simp at hx),Below.refl _ _⟩
 case round=>
  obtain ⟨i,hi,rfl,HF,HB⟩:=hrel
  have him:(i:Int)≤100000:=by omega
  by_cases hlt:i<l.length
  ·have hlt':(i:Int)<(l.length:Int):=by omega
   obtain ⟨⟨n,v⟩,hx⟩:∃x,l[i]? = some x:=⟨_,List.getElem?_eq_getElem hlt⟩
   obtain ⟨b,off,e⟩:=rd2_at HL.out hx
   subst e
   obtain ⟨c0,c1⟩:=rd2_cell (HL.out.below HB.out) hx
   have HOn:=Lib.hid (fun w'=>checkLabel_any n v w' (HS.out _ (List.mem_of_getElem? hx)).1 (HS.out _ (List.mem_of_getElem? hx)).2)
   have HX:=Lib.hid hx
   have HB2:Hid (Below w.heap.size w (wr.alloc (.cells #[.string n,.string v] 108))):=HB.out.trans (((Below.refl _ wr).alloc (Nat.le_refl _) _).mono HB.out.size)
   clear hx
   go_wp2_with fail
   refine (HOn.out _).mono ?_
   rintro e w2 ⟨rfl,hB⟩
   have HBw:=Lib.hid (HB2.out.trans (hB.mono HB2.out.size))
   clear c0 c1 hB HOn HB2
   by_cases he:oneL (n,v)=0
   ·have HF2:Hid (∀x∈l.take (i+1),oneL x=0):=by
     intro x hx
     rw [List.take_add_one,HX.out] at hx
     rcases List.mem_append.1 hx with e | e
     ·exact HF.out x e
     ·simp at e;subst e;exact he
    rw [he]
    clear he
    go_wp2_with fail
    go_round
    case rel=>exact ⟨i+1,by omega,by go_num,HF2.out,HBw.out⟩
    case measure=>simp [intOf];omega
   ·have he1:¬(oneL (n,v):Int)=0:=by omega
    have heb:((oneL (n,v):Int) == 0)=false:=by rw [beq_eq_false_iff_ne];exact he1
    have HE:Hid (normL l=(oneL (n,v),[])):=by
     show _=_
     have h:=firstErr_at HF.out HX.out he
     rw [normL,h,if_pos he]
    clear he
    generalize oneL (n,v)=e at *
    go_wp2_with fail
    go_ret2
    exact GotLb.fails HBw.out HE.out
  ·have hlt':¬(i:Int)<(l.length:Int):=by omega
   have HE0:Hid (firstErr l=0):=by
    show _=_
    have h:=HF.out
    rw [List.take_of_length_le (by omega)] at h
    exact (firstErr_zero l).2 h
   have HCl:=Lib.hid (clone_lab (.slice pl l.length cl) l wr (HL.out.below HB.out) (by have:=HNn.out;omega))
   go_wp2_with fail
   refine HCl.out.mono ?_
   rintro e w2 ⟨r,rfl,hM⟩
   have HO2:=Lib.hid hM.1
   have HB2:=Lib.hid (HB.out.trans (hM.2.mono HB.out.size))
   have HFar:Hid (∀k,r.ownBlock=some k→w.heap.size≤k):=fun k hk=>Nat.le_trans HB.out.size (hM.1.lt k hk).1
   obtain ⟨p,c,hv⟩:=(Rd.of_owns hM.1).shape
   subst hv
   clear hM HCl
   have HSo:=Lib.hid (sort_lab w2 _ _ l HO2.out (by have:=HNn.out;omega))
   go_wp2_with fail
   refine HSo.out.mono ?_
   rintro e w3 ⟨rfl,l',hp,hs,hO,hM⟩
   have HP:=Lib.hid hp
   have HLn:Hid (l'.length=l.length):=hp.length_eq
   have HO3:=Lib.hid hO
   have HB3:=Lib.hid (HB2.out.trans (hM.below HB2.out.size (fun k hk e=>by have:=HFar.out k e;omega)))
   have HNs:=Lib.hid (norm_sorted HE0.out hp hs)
   have HCk:=Lib.hid (labCheck_any (.slice p l.length c) l' w3 (by have h:=Rd.of_owns hO;rwa [← HLn.out] at h ⊢) (fun x hx=>HS.out x (hp.mem_iff.1 hx)) (by have:=HNn.out;have:=HLn.out;omega))
   clear hp hs hO hM HSo HO2 HB2
   go_wp2_with fail
   refine HCk.out.mono ?_
   rintro e w4 ⟨rfl,hB⟩
   have HB4:=Lib.hid (HB3.out.trans (hB.mono HB3.out.size))
   have HR4:=Lib.hid ((Rd.of_owns HO3.out).below hB)
   clear hB HCk HB3 HO3
   rcases HNs.out with ⟨h1,h2⟩ | ⟨h1,h2⟩
   ·have HN:=Lib.hid h2
    rw [h1]
    clear h1 h2
    go_wp2_with fail
    go_ret2
    refine ⟨⟨_,?_,?_,HFar.out⟩,HB4.out⟩
    ·rw [HN.out];rfl
    ·rw [HN.out]
     show Rd _ _ _ l'.length _
     rw [HLn.out]
     exact HR4.out
   ·have HN:=Lib.hid h2
    rw [h1]
    clear h1 h2
    go_wp2_with fail
    go_ret2
    exact GotLb.fails HB4.out HN.out
end Go.Proofs.YtdcgbgecbeegmaaGreatDoor
end
section
namespace Go.Proofs.YtdcgbgecbeegmaaGreatDoor
open Go Go.RowKit
theorem run_copy_rowK {P:Program} (w:World) (dT sT ty elem:TypeId) (sz g n dCap:Nat) (a:Addr) (sCap:Nat) (cur:Array Value) (t:TypeId) (cs:List Value)
  (hu:P.underlying dT=some (.slice elem)) (hs:(P.info? elem).map (·.size)=some sz)
  (hg:w.heap[g]? = some (.cells cur t (0,0))) (hn:cs.length=n*sz)
  (hsrc:∀j v,cs[j]? = some v→w.cell? (a.add j)=some v) (hfit:cur.size=cs.length) (h1:∀v∈cs,v.oneCell'=true) :
  (Builtin.copy_ #[dT,sT] ty #[.slice (some ⟨g,0,none⟩) n dCap,.slice (some a) n sCap]).run P w = .ok (goInt n) (w.setRow g cs.toArray):=by
 have hl:=run_loadCells_list (P:=P) w a cs hsrc
 have hst:=run_storeCells_at P g 0 t cs 0 cur w hg (by simp;omega) h1
 have he:(cur.toList.take (0+0)++cs++cur.toList.drop (0+0+cs.length)).toArray=cs.toArray:=by
  simp [List.drop_of_length_le (show cur.toList.length≤cs.length by simp [hfit])]
 rw [he] at hst
 cases hq:P.info? elem with
 | none=>simp [hq] at hs
 | some i=>
  have hi:i.size=sz:=by simpa [hq] using hs
  simp [Builtin.copy_,run_underlying hu,Builtin.lenOf,Builtin.firstCells,sizeOf,typeInfo,hq,hi,← hn,hl,hst]
theorem run_copy_noneK {P:Program} (w:World) (dT sT ty elem:TypeId) (sz:Nat) (d a:Option Addr) (dCap sCap:Nat) (hu:P.underlying dT=some (.slice elem)) (hs:(P.info? elem).map (·.size)=some sz) :
  (Builtin.copy_ #[dT,sT] ty #[.slice d 0 dCap,.slice a 0 sCap]).run P w = .ok (goInt 0) w:=by
 cases hq:P.info? elem with
 | none=>simp [hq] at hs
 | some i=>
  have hl:∀(x:Addr),(loadCells x 0).run P w = .ok #[] w:=fun x=>by simpa using run_loadCells_list (P:=P) w x [] (by simp)
  cases d<;>cases a<;>simp [Builtin.copy_,run_underlying hu,Builtin.lenOf,Builtin.firstCells,sizeOf,typeInfo,hq,storeCells,hl]
theorem row_of_fullK {w:World} {base g n sz:Nat} {t:TypeId} {xs:List Value} (h:w.ownsRow base t sz (.slice (some ⟨g,0,none⟩) n n) n xs):w.heap[g]? = some (.cells xs.toArray t (0,0)):=by
 rcases h.2 with ⟨e,_⟩ | ⟨g',cap,cur,e,_,hg,_,_,hs,ht⟩
 ·cases e
 ·simp only [Value.slice.injEq,Option.some.injEq,Addr.mk.injEq,and_true,true_and] at e
  obtain ⟨rfl,rfl⟩:=e
  rw [hg,← ht,List.take_of_length_le (by simp [hs])]
theorem full_of_rowK {w:World} {base g n sz:Nat} {t:TypeId} {xs:List Value} (h:w.heap[g]? = some (.cells xs.toArray t (0,0))) (hb:base≤g) (hl:xs.length=n*sz) (hn:n≤maxLen):w.ownsRow base t sz (.slice (some ⟨g,0,none⟩) n n) n xs:=
 ⟨hl,Or.inr ⟨g,n,xs.toArray,rfl,hb,h,Nat.le_refl _,hn,by simp [hl],by simp [← hl]⟩⟩
theorem below_rowK {B g:Nat} {w0 w:World} (hb:Below B w0 w) (hg:B≤g) (cs:Array Value):Below B w0 (w.setRow g cs):=
 hb.trans ⟨rfl,rfl,rfl,by simp [World.setRow],fun k hk=>setRow_other w g k cs (by omega)⟩
end Go.Proofs.YtdcgbgecbeegmaaGreatDoor
end
section
set_option maxRecDepth 100000
namespace Go.Proofs.YtdcgbgecbeegmaaGreatDoor
open Go Go.RowKit
theorem infoCpS:(Tryz.prog.info? 110).map (fun i=>(i.zero,i.size,i.bytes))=some (some (.agg #[.int .i64 0,.int .u64 0]),2,16):=by kernel_rfl
set_option maxHeartbeats 2000000 in
theorem copyS_any (v:Value) (n:Nat) (cs:List Value) (w:World) (h:Rd w 2 v n cs) (hn:n≤1000000) (h1:∀v∈cs,v.oneCell'=true) :
  Calls Tryz.prog 119 #[v] w fun e w'=>e = .returned (.slice (some ⟨w.heap.size,0,none⟩) n n)∧w'.ownsRow w.heap.size 110 2 (.slice (some ⟨w.heap.size,0,none⟩) n n) n cs∧Below w.heap.size w w':=by
 have H:=Lib.hid h;have HV:=Lib.hid h1
 obtain ⟨p,c,e⟩:=h.shape
 subst e
 have HLn:Hid (cs.length=n*2):=h.len
 obtain ⟨i0,hi0,hz0,hz1,hz2⟩:=info_parts infoCpS
 have HI:=Lib.hid hi0;have HZ:=Lib.hid hz0;have HZ1:=Lib.hid hz1
 have HZ2:Hid (i0.bytes*n≤281474976710656∧n≤maxLen):=by show _∧_;unfold maxLen;rw [hz2];omega
 have HSz:Hid ((Tryz.prog.info? 110).map (·.size)=some 2):=by show _=_;rw [hi0];simp [hz1]
 have hni:(n:Int)≤1000000:=by omega
 clear h hn h1 hi0 hz0 hz1 hz2
 go_enter Tryz.func119,Tryz.ntmps119
 go_wp2_with (refine wpList_make_full _ rfl _ _ _ rfl w.heap.size 110 i0 (.agg #[.int .i64 0,.int .u64 0]) 2 Tryz.underlying49 HI.out HZ.out HZ1.out _ _ _ _ n rfl rfl rfl rfl HZ2.out.1 HZ2.out.2 (Nat.le_refl _) ?_)
 intro w4 hown hgr
 have HR4:=Lib.hid (row_of_fullK hown)
 have HLm:Hid ((madeCells #[.int .i64 0,.int .u64 0] (n*2)).toList.toArray.size=n*2):=by show _=_;simp [madeCells]
 have HB4:Hid (Below w.heap.size w w4):=(Mods.of_grown hgr).below (Nat.le_refl _) (fun k _ e=>by cases e)
 clear hown hgr
 by_cases h0:n=0
 ·subst h0
  have hcs:cs=[]:=List.eq_nil_of_length_eq_zero (by have:=HLn.out;omega)
  have HRow:Hid (w4.ownsRow w.heap.size 110 2 (.slice (some ⟨w.heap.size,0,none⟩) 0 0) 0 cs):=by
   show World.ownsRow _ _ _ _ _ _ _
   rw [hcs]
   have h:=HR4.out
   rw [show (madeCells #[.int .i64 0,.int .u64 0] (0*2)).toList=[] from List.eq_nil_of_length_eq_zero (by simp [madeCells])] at h
   exact full_of_rowK h (Nat.le_refl _) rfl (by unfold maxLen;omega)
  have hrun:=run_copy_noneK (P:=Tryz.prog) w4 49 49 3 110 2 (some ⟨w.heap.size,0,none⟩) p 0 c Tryz.underlying49 HSz.out
  clear hcs
  go_wp2_with fail
  go_ret
  exact ⟨rfl,HRow.out,HB4.out⟩
 ·obtain ⟨b,off,c',e,_,_,hcl⟩:=H.out.at (fun e=>by have:=HLn.out;rw [e] at this;simp at this;omega)
  simp only [Value.slice.injEq] at e
  obtain ⟨rfl,_,rfl⟩:=e
  have hrun:=run_copy_rowK (P:=Tryz.prog) w4 49 49 3 110 2 w.heap.size n n ⟨b,off,none⟩ c _ _ cs Tryz.underlying49 HSz.out HR4.out HLn.out
   (fun j v hj=>by
    have h3:=hcl j v hj
    have h4:(⟨b,off,none⟩:Addr).add j=⟨b,off+j,none⟩:=by unfold Addr.add;split<;>simp_all
    rw [h4]
    exact (HB4.out.cell (World.block_lt_of_cell? w _ h3)).trans h3) (by rw [HLm.out,HLn.out]) HV.out
  generalize hw5:w4.setRow _ _=w5 at hrun
  have HRow:Hid (w5.ownsRow w.heap.size 110 2 (.slice (some ⟨w.heap.size,0,none⟩) n n) n cs):=by
   show World.ownsRow _ _ _ _ _ _ _
   refine full_of_rowK ?_ (Nat.le_refl _) HLn.out HZ2.out.2
   rw [← hw5,setRow_heap w4 w.heap.size _ _ _ _ HR4.out]
  have HB5:Hid (Below w.heap.size w w5):=by rw [← hw5];exact below_rowK HB4.out (Nat.le_refl _) _
  clear hw5 h0 hcl
  go_wp2_with fail
  go_ret
  exact ⟨rfl,HRow.out,HB5.out⟩
end Go.Proofs.YtdcgbgecbeegmaaGreatDoor
end
section
set_option maxRecDepth 20000
namespace Go.Proofs.YtdcgbgecbeegmaaGreatDoor
open Go Go.RowKit
theorem strSer:Str Tryz.prog 51 2 [.slice none 0 0,.slice none 0 0]:=Str.mk' Tryz.underlying51 rfl (by kernel_rfl) rfl
def resS (s:Ser):Ser:=if nErr s=0 then nSer s else ([],[])
def GotS1 (w:World) (s:Ser) (e:Ending) (w':World):Prop:=∃y:Hd,e = .returned (.tuple #[.agg #[y.1,y.2],.int .i64 (nErr s:Int)])∧SerAt w' y (resS s)∧((∀k,y.1.ownBlock=some k→w.heap.size≤k)∧(∀k,y.2.ownBlock=some k→w.heap.size≤k))∧Below w.heap.size w w'
theorem GotS1.fails {w w':World} {s:Ser} {en:Nat} (hb:Below w.heap.size w w') (he:nErr s=en) (h0:en≠0):GotS1 w s (.returned (.tuple #[.agg #[.slice none 0 0,.slice none 0 0],.int .i64 (en:Int)])) w':=by
 subst he
 refine ⟨(.slice none 0 0,.slice none 0 0),rfl,?_,⟨(fun k e=>by cases e),(fun k e=>by cases e)⟩,hb⟩
 rw [resS,if_neg h0]
 exact ⟨Rd.nil _ _,Rd.nil _ _⟩
theorem below_set2 {w0 w:World} {g:Nat} (hb:Below w0.heap.size w0 w) (hg:w0.heap.size≤g) (x y:Value):Below w0.heap.size w0 ((w.setCell ⟨g,0,none⟩ x).setCell ⟨g,1,none⟩ y):=
 hb.trans (((Mods.set (fun k=>k=g) w ⟨g,0,none⟩ x (fun _=>rfl)).trans (Mods.set (fun k=>k=g) _ ⟨g,1,none⟩ y (fun _=>rfl)) (fun _ _ e=>e)).below hb.size (fun k _ e=>by have:k=g:=e;omega))
theorem samOne (l:List Sam):∀v∈samCells l,v.oneCell'=true:=by
 induction l with
 | nil=>intro v hv;cases hv
 | cons x l ih=>
  intro v hv
  have e:samCells (x::l) = .int .i64 x.1 :: .int .u64 (x.2:Int)::samCells l:=rfl
  rw [e] at hv
  rcases List.mem_cons.1 hv with rfl | hv
  ·rfl
  ·rcases List.mem_cons.1 hv with rfl | hv
   ·rfl
   ·exact ih v hv
set_option maxHeartbeats 4000000 in
theorem normSer_any (x:Hd) (s:Ser) (w:World) (h:SerAt w x s) (hz:SerSized s) (hl:s.1.length≤100000) (hs:s.2.length≤1000000) :
  Calls Tryz.prog 81 #[.agg #[x.1,x.2]] w (GotS1 w s):=by
 obtain ⟨x1,x2⟩:=x
 obtain ⟨ls,ss⟩:=s
 obtain ⟨p1,c1,e1⟩:=h.1.shape
 obtain ⟨p2,c2,e2⟩:=h.2.shape
 simp only at e1 e2 hl hs
 subst e1 e2
 obtain ⟨W2,hW2⟩:∃W2,W2=(w.alloc (.cells #[.slice p1 ls.length c1,.slice p2 ss.length c2] 51)).alloc (.cells #[.slice none 0 0,.slice none 0 0] 51):=⟨_,rfl⟩
 have HW:Hid ((w.alloc (.cells #[.slice p1 ls.length c1,.slice p2 ss.length c2] 51)).alloc (.cells #[.slice none 0 0,.slice none 0 0] 51)=W2):=hW2.symm
 have HSz2:Hid (W2.heap.size=w.heap.size+2):=by show _=_;rw [hW2];simp
 have HB2:Hid (Below w.heap.size w W2):=by show Below _ _ _;rw [hW2];exact ((Below.refl _ w).alloc (Nat.le_refl _) _).alloc (by simp) _
 have HA2:Hid (Blk W2 w.heap.size [.slice p1 ls.length c1,.slice p2 ss.length c2]):=by show Blk _ _ _;rw [hW2];exact (Blk.new w _ _).alloc _
 have HR2:Hid (Blk W2 (w.heap.size+1) [.slice none 0 0,.slice none 0 0]):=by
  have h:=Blk.new (w.alloc (.cells #[.slice p1 ls.length c1,.slice p2 ss.length c2] 51)) #[.slice none 0 0,.slice none 0 0] 51
  rw [← hW2] at h
  rwa [show (w.alloc (.cells #[.slice p1 ls.length c1,.slice p2 ss.length c2] 51)).heap.size=w.heap.size+1 by simp] at h
 have HN:=Lib.hid (labNorm_any _ ls W2 (h.1.below HB2.out) hz.1 hl)
 have HS:=Lib.hid (h.2.below HB2.out)
 have hsi:(ss.length:Int)≤1000000:=by omega
 have HSn:Hid (ss.length≤1000000):=hs
 simp only at HN HS
 clear hW2 h hz hl hs
 go_enter Tryz.func81,Tryz.ntmps81
 go_wp2_with fail
 rw [HW.out]
 refine HN.out.mono ?_
 rintro e w3 hG
 obtain ⟨r,rfl,hRd,hFar⟩:=hG.res
 obtain ⟨pr,cr,e⟩:=hRd.shape
 subst e
 have HB3:Hid (Below w.heap.size w w3):=HB2.out.trans (hG.bel.mono HB2.out.size)
 have HA3:Hid (Blk w3 w.heap.size [.slice p1 ls.length c1,.slice p2 ss.length c2]):=HA2.out.of_same (hG.bel.block _ HA2.out.lt)
 have HR3:Hid (Blk w3 (w.heap.size+1) [.slice none 0 0,.slice none 0 0]):=HR2.out.of_same (hG.bel.block _ HR2.out.lt)
 have HS3:=Lib.hid (HS.out.below hG.bel)
 have HFr:Hid (∀k,(Value.slice pr (normL ls).2.length cr).ownBlock=some k→w.heap.size+2≤k):=fun k hk=>by have:=hFar k hk;have:=HSz2.out;omega
 have HRd3:=Lib.hid hRd
 have HSz3:Hid (w.heap.size+2≤w3.heap.size):=by show _≤_;have:=hG.bel.size;have:=HSz2.out;omega
 have HNe:Hid (nErr (ls,ss)=if (normL ls).1≠0 then (normL ls).1 else if ss=[] then 21 else timesL (sortE ltT ss)):=rfl
 have HNs:Hid (nSer (ls,ss)=((normL ls).2,sortE ltT ss)):=rfl
 clear hG hRd hFar HN HS HW HB2 HA2 HR2 HSz2
 generalize (normL ls).1=ne at *
 generalize (normL ls).2=nl at *
 by_cases hc:ne=0
 ·subst hc
  have k1:w3.cell? ⟨w.heap.size,1,none⟩=some (.slice p2 ss.length c2):=by rw [HA3.out.cell];rfl
  by_cases h0:ss.length=0
  ·have HE:Hid (nErr (ls,ss)=21):=by show _=_;rw [HNe.out,if_neg (by simp),if_pos (List.eq_nil_of_length_eq_zero h0)]
   have h0b:((ss.length:Int) == 0)=true:=by rw [beq_iff_eq];omega
   obtain ⟨⟨d0,d1⟩,f0,f1⟩:=HR3.out.two
   clear h0
   go_wp2_with fail
   refine bodyPost_ret (resultsS2 (p:=2) (u:=3) strSer (by kernel_rfl) _ (w.heap.size+1) rfl [.slice none 0 0,.slice none 0 0] (HR3.out.set2 _ _) rfl) rfl ?_
   exact GotS1.fails (en:=21) (below_set2 HB3.out (by omega) _ _) HE.out (by decide)
  ·have HNe2:Hid (nErr (ls,ss)=timesL (sortE ltT ss)):=by show _=_;rw [HNe.out,if_neg (by simp),if_neg (fun e:ss=[]=>h0 (by rw [e];rfl))]
   have h0b:((ss.length:Int) == 0)=false:=by rw [beq_eq_false_iff_ne];omega
   have HCp:=Lib.hid (copyS_any _ ss.length (samCells ss) w3 HS3.out HSn.out (samOne ss))
   clear h0
   go_wp2_with fail
   refine HCp.out.mono ?_
   rintro e w4 ⟨rfl,hO,hB⟩
   have HB4:Hid (Below w.heap.size w w4):=HB3.out.trans (hB.mono HB3.out.size)
   have HR4:Hid (Blk w4 (w.heap.size+1) [.slice none 0 0,.slice none 0 0]):=HR3.out.of_same (hB.block _ HR3.out.lt)
   have HRd4:=Lib.hid (HRd3.out.below hB)
   have HSo:=Lib.hid (sort_sam w4 w3.heap.size _ ss hO HSn.out)
   obtain ⟨g3,hg3⟩:∃g3,w3.heap.size=g3:=⟨_,rfl⟩
   have HG3:Hid (w.heap.size+2≤g3):=by rw [← hg3];exact HSz3.out
   have HLt:Hid (nl≠[]→∀k,(Value.slice pr nl.length cr).ownBlock=some k→k<g3):=fun e k hk=>by rw [← hg3];exact HRd3.out.lt (labCells_ne' e) k hk
   rw [hg3] at HSo ⊢
   clear hO hB HCp k1 hg3
   go_wp2_with fail
   refine HSo.out.mono ?_
   rintro e w5 ⟨rfl,l',hp,hs,hO,hM⟩
   have HB5:Hid (Below w.heap.size w w5):=HB4.out.trans (hM.below HB4.out.size (fun k hk e=>by have h1:g3=k:=(by simpa [Value.ownBlock] using e);have:=HG3.out;omega))
   have HR5:Hid (Blk w5 (w.heap.size+1) [.slice none 0 0,.slice none 0 0]):=hM.blk HR4.out (fun e=>by
    have:g3=w.heap.size+1:=by simpa [Value.ownBlock] using e
    have:=HG3.out;omega)
   have HRd5:=Lib.hid (HRd4.out.mods' hM (fun e k hk e2=>by
    have h1:=HLt.out (labCells_ne e) k hk
    have:g3=k:=by simpa [Value.ownBlock] using e2
    omega))
   have HLn:Hid (l'.length=ss.length):=hp.length_eq
   have HSr:=Lib.hid (sorted_sam hp hs)
   have hRd:Rd w5 2 (.slice (some ⟨g3,0,none⟩) ss.length ss.length) l'.length (samCells l'):=by rw [HLn.out];exact Rd.of_owns hO
   have HRl:=Lib.hid hRd
   have HNt:=Lib.hid (neighTimes _ l' w5 hRd (by have:=HLn.out;have:=HSn.out;omega))
   clear hp hs hO hM hRd HSo HR4 HRd4 HB4
   go_wp2_with fail
   refine HNt.out.mono ?_
   rintro e w6 ⟨rfl,hG⟩
   have HB6:Hid (Below w.heap.size w w6):=HB5.out.trans (hG.below.mono HB5.out.size)
   have HR6:Hid (Blk w6 (w.heap.size+1) [.slice none 0 0,.slice none 0 0]):=hG.blk HR5.out
   have HRd6:=Lib.hid (HRd5.out.grw hG)
   have HRl6:=Lib.hid (HRl.out.grw hG)
   obtain ⟨⟨d0,d1⟩,f0,f1⟩:=HR6.out.two
   clear hG HNt HR5 HRd5 HRl HB5
   by_cases ht:timesL l'=0
   ·have HEr:Hid (nErr (ls,ss)=0):=by show _=_;rw [HNe2.out,← HSr.out.1];exact ht
    have HEl:Hid (l'=sortE ltT ss):=HSr.out.2 ht
    rw [ht]
    clear ht
    go_wp2_with fail
    refine bodyPost_ret (resultsS2 (p:=2) (u:=3) strSer (by kernel_rfl) _ (w.heap.size+1) rfl [.slice pr nl.length cr,.slice (some ⟨g3,0,none⟩) ss.length ss.length] (HR6.out.set2 _ _) rfl) rfl ?_
    refine ⟨(.slice pr nl.length cr,.slice (some ⟨g3,0,none⟩) ss.length ss.length),by rw [HEr.out];rfl,?_,⟨fun k e=>by have:=HFr.out k e;omega,fun k e=>?_⟩,below_set2 HB6.out (by omega) _ _⟩
    ·have hm:Mods (fun k=>k=w.heap.size+1) w6 ((w6.setCell ⟨w.heap.size+1,0,none⟩ (.slice pr nl.length cr)).setCell ⟨w.heap.size+1,1,none⟩ (.slice (some ⟨g3,0,none⟩) ss.length ss.length)):=
      (Mods.set (fun k=>k=w.heap.size+1) w6 ⟨w.heap.size+1,0,none⟩ _ (fun _=>rfl)).trans (Mods.set (fun k=>k=w.heap.size+1) _ ⟨w.heap.size+1,1,none⟩ _ (fun _=>rfl)) (fun _ _ e=>e)
     have hr:resS (ls,ss)=(nl,l'):=by rw [resS,if_pos HEr.out,HNs.out,HEl.out]
     rw [hr]
     refine ⟨HRd6.out.mods hm (fun k hk e=>by have h1:=HFr.out k hk;have h2:k=w.heap.size+1:=e;omega),?_⟩
     have h3:=HRl6.out.mods hm (fun k hk e=>by have h1:g3=k:=(by simpa [Value.ownBlock] using hk);have h2:k=w.heap.size+1:=e;have:=HG3.out;omega)
     exact h3
    ·have:g3=k:=by simpa [Value.ownBlock] using e
     have:=HG3.out
     omega
   ·have HE:Hid (nErr (ls,ss)=timesL l'):=by show _=_;rw [HNe2.out,HSr.out.1]
    have htb:((timesL l':Int) == 0)=false:=by rw [beq_eq_false_iff_ne];omega
    have HT0:Hid (timesL l'≠0):=ht
    clear ht
    generalize timesL l'=te at *
    go_wp2_with fail
    refine bodyPost_ret (resultsS2 (p:=2) (u:=3) strSer (by kernel_rfl) _ (w.heap.size+1) rfl [.slice none 0 0,.slice none 0 0] (HR6.out.set2 _ _) rfl) rfl ?_
    exact GotS1.fails (en:=te) (below_set2 HB6.out (by omega) _ _) HE.out HT0.out
 ·have hcb:((ne:Int) == 0)=false:=by rw [beq_eq_false_iff_ne];omega
  have HE:Hid (nErr (ls,ss)=ne):=by show _=_;rw [HNe.out,if_pos hc]
  have HC0:Hid (ne≠0):=hc
  obtain ⟨⟨d0,d1⟩,f0,f1⟩:=HR3.out.two
  clear hc
  go_wp2_with fail
  refine bodyPost_ret (resultsS2 (p:=2) (u:=3) strSer (by kernel_rfl) _ (w.heap.size+1) rfl [.slice none 0 0,.slice none 0 0] (HR3.out.set2 _ _) rfl) rfl ?_
  exact GotS1.fails (en:=ne) (below_set2 HB3.out (by omega) _ _) HE.out HC0.out
end Go.Proofs.YtdcgbgecbeegmaaGreatDoor
end
section
set_option maxRecDepth 20000
namespace Go.Proofs.YtdcgbgecbeegmaaGreatDoor
open Go Go.RowKit
def renSortSer:Go.Shelf.Ren:=⟨fun | 6=>82 | 14=>121 | 15=>122 | 20=>160 | 21=>161 | 22=>162 | 23=>163 | 24=>164 | 25=>165 | 26=>166 | 27=>167 | 28=>168 | 29=>169 | 46=>217 | 47=>218 | 48=>219 | 49=>220 | 50=>221 | 57=>259 | n=>n,fun | 0=>0 | 3=>3 | 4=>4 | 5=>5 | 9=>9 | 22=>22 | 24=>51 | 25=>97 | 39=>177 | 45=>223 | 46=>224 | 50=>158 | 53=>139 | 55=>81 | 66=>267 | 70=>271 | 76=>321 | 77=>210 | n=>n,fun n=>n⟩
theorem laysSortSer:Go.Proofs.SlLaysF0.n6 Tryz.prog renSortSer:={ mixed:=by kernel_rfl,f6:=⟨ "slices.SortFunc[[]tsblock/api.Series,tsblock/api.Series]",by decide,Tryz.func82.trans (congrArg some (by kernel_rfl))⟩,f14:=⟨ "slices.pdqsortCmpFunc[tsblock/api.Series]",by decide,Tryz.func121.trans (congrArg some (by kernel_rfl))⟩,f15:=Tryz.func122.trans (congrArg some (by kernel_rfl)),f20:=⟨ "slices.insertionSortCmpFunc[tsblock/api.Series]",by decide,Tryz.func160.trans (congrArg some (by kernel_rfl))⟩,f21:=⟨ "slices.heapSortCmpFunc[tsblock/api.Series]",by decide,Tryz.func161.trans (congrArg some (by kernel_rfl))⟩,f22:=⟨ "slices.breakPatternsCmpFunc[tsblock/api.Series]",by decide,Tryz.func162.trans (congrArg some (by kernel_rfl))⟩,f23:=⟨ "slices.choosePivotCmpFunc[tsblock/api.Series]",by decide,Tryz.func163.trans (congrArg some (by kernel_rfl))⟩,f24:=⟨ "slices.reverseRangeCmpFunc[tsblock/api.Series]",by decide,Tryz.func164.trans (congrArg some (by kernel_rfl))⟩,f25:=⟨ "slices.partialInsertionSortCmpFunc[tsblock/api.Series]",by decide,Tryz.func165.trans (congrArg some (by kernel_rfl))⟩,f26:=⟨ "slices.partitionEqualCmpFunc[tsblock/api.Series]",by decide,Tryz.func166.trans (congrArg some (by kernel_rfl))⟩,f27:=⟨ "slices.partitionCmpFunc[tsblock/api.Series]",by decide,Tryz.func167.trans (congrArg some (by kernel_rfl))⟩,f28:=Tryz.func168.trans (congrArg some (by kernel_rfl)),f29:=Tryz.func169.trans (congrArg some (by kernel_rfl)),f46:=⟨ "slices.siftDownCmpFunc[tsblock/api.Series]",by decide,Tryz.func217.trans (congrArg some (by kernel_rfl))⟩,f47:=Tryz.func218.trans (congrArg some (by kernel_rfl)),f48:=Tryz.func219.trans (congrArg some (by kernel_rfl)),f49:=⟨ "slices.medianAdjacentCmpFunc[tsblock/api.Series]",by decide,Tryz.func220.trans (congrArg some (by kernel_rfl))⟩,f50:=⟨ "slices.medianCmpFunc[tsblock/api.Series]",by decide,Tryz.func221.trans (congrArg some (by kernel_rfl))⟩,f57:=⟨ "slices.order2CmpFunc[tsblock/api.Series]",by decide,Tryz.func259.trans (congrArg some (by kernel_rfl))⟩,t0:=Tryz.underlying0,a0:=Tryz.isAgg0,z0:=Tryz.sizeOf0,v0:=Tryz.zeroValue0,t3:=Tryz.underlying3,a3:=Tryz.isAgg3,z3:=Tryz.sizeOf3,v3:=Tryz.zeroValue3,t4:=Tryz.underlying4,a4:=Tryz.isAgg4,z4:=Tryz.sizeOf4,v4:=Tryz.zeroValue4,t5:=Tryz.underlying5,a5:=Tryz.isAgg5,z5:=Tryz.sizeOf5,v5:=Tryz.zeroValue5,t9:=Tryz.underlying9,a9:=Tryz.isAgg9,z9:=Tryz.sizeOf9,v9:=Tryz.zeroValue9,t22:=Tryz.underlying22,a22:=Tryz.isAgg22,z22:=Tryz.sizeOf22,v22:=Tryz.zeroValue22,t25:=Tryz.underlying97,a25:=Tryz.isAgg97,z25:=Tryz.sizeOf97,v25:=Tryz.zeroValue97,t39:=Tryz.underlying177,a39:=Tryz.isAgg177,z39:=Tryz.sizeOf177,v39:=Tryz.zeroValue177,t45:=Tryz.underlying223,a45:=Tryz.isAgg223,z45:=Tryz.sizeOf223,v45:=Tryz.zeroValue223,t46:=Tryz.underlying224,a46:=Tryz.isAgg224,z46:=Tryz.sizeOf224,v46:=Tryz.zeroValue224,t50:=Tryz.underlying158,a50:=Tryz.isAgg158,z50:=Tryz.sizeOf158,v50:=Tryz.zeroValue158,t53:=Tryz.underlying139,a53:=Tryz.isAgg139,z53:=Tryz.sizeOf139,v53:=Tryz.zeroValue139,t55:=Tryz.underlying81,a55:=Tryz.isAgg81,z55:=Tryz.sizeOf81,v55:=Tryz.zeroValue81,t66:=Tryz.underlying267,a66:=Tryz.isAgg267,z66:=Tryz.sizeOf267,v66:=Tryz.zeroValue267,t70:=Tryz.underlying271,a70:=Tryz.isAgg271,z70:=Tryz.sizeOf271,v70:=Tryz.zeroValue271,t76:=Tryz.underlying321,a76:=Tryz.isAgg321,z76:=Tryz.sizeOf321,v76:=Tryz.zeroValue321,t77:=Tryz.underlying210,a77:=Tryz.isAgg210,z77:=Tryz.sizeOf210,v77:=Tryz.zeroValue210 }
abbrev SerEl (w:World) (g:Nat):Type:={p:Hd × Ser // SerAt w p.1 p.2∧SerOff (fun k=>k=g) p.1 p.2∧p.2.1.length≤1000000}
instance (w:World) (g:Nat):Inhabited (SerEl w g):=⟨⟨((.slice none 0 0,.slice none 0 0),([],[])),⟨Rd.nil _ _,Rd.nil _ _⟩,⟨fun e=>absurd rfl e,fun e=>absurd rfl e⟩,by simp⟩⟩
section
variable {w:World} {g:Nat}
def encSe (x:SerEl w g):List Value:=[x.1.1.1,x.1.1.2]
theorem encSe_one (x:SerEl w g):∀v∈encSe x,v.oneCell'=true:=by
 intro v hv
 obtain ⟨p1,c1,e1⟩:=x.2.1.1.shape
 obtain ⟨p2,c2,e2⟩:=x.2.1.2.shape
 simp only [encSe,List.mem_cons,List.not_mem_nil,or_false] at hv
 rcases hv with rfl | rfl
 ·rw [e1];rfl
 ·rw [e2];rfl
def cmpSe (x y:SerEl w g):Int:=cmpLabs x.1.2.1 y.1.2.1
theorem ltOf_cmpSe:ltOf (cmpSe (w:=w) (g:=g))=fun x y=>ltB x.1.2 y.1.2:=by
 funext x y
 show decide (cmpLabs x.1.2.1 y.1.2.1<0)=decide (cmpLabs x.1.2.1 y.1.2.1 = -1)
 rw [decide_eq_decide]
 have:=cmpLabs_ok.dom x.1.2.1 y.1.2.1
 omega
theorem swo_cmpSe:Go.Sort.SWO (ltOf (cmpSe (w:=w) (g:=g))):=by
 rw [ltOf_cmpSe]
 refine ⟨fun x=>ltB_ok.irr _,fun x y z=>ltB_ok.tr _ _ _,fun x y z h1 h2=>?_⟩
 rcases Bool.eq_false_or_eq_true (ltB x.1.2 z.1.2) with e | e
 ·rcases ltB_ok.co x.1.2 y.1.2 z.1.2 e with f | f
  ·rw [h1] at f;cases f
  ·rw [h2] at f;cases f
 ·exact e
theorem encSe_flat (l:List (SerEl w g)):l.flatMap encSe=two Prod.fst Prod.snd (l.map fun x=>x.1.1):=by
 induction l with
 | nil=>rfl
 | cons x l ih=>rw [List.flatMap_cons,ih];rfl
end
theorem sort_ser (w0 w:World) (v:Value) (hs:List Hd) (b:List Ser) (h:NmAt w0 w hs b v) (hn:b.length≤1000000) (hl:∀s∈b,s.1.length≤1000000) :
  Calls Tryz.prog 82 #[v,.func (.func 60) #[] #[]] w fun e w'=>e = .returned (.tuple #[])∧∃hs' b',List.Perm b' b∧SrtE ltB b'∧NmAt w0 w' hs' b' v∧Mods (fun k=>v.ownBlock=some k) w w':=by
 have hrow:=h.row.row
 rcases hrow.2 with ⟨hv,h0⟩ | ⟨g,cap,cur,hv,hbase,hgb,r1,r2,r3,r4⟩
 ·subst hv
  refine (AnyF.slices_SortFunc_none laysSortSer none 0 _ w).mono ?_
  rintro e w' ⟨rfl,rfl⟩
  have hb0:b=[]:=List.eq_nil_of_length_eq_zero (by rw [← h.len];exact h0)
  exact ⟨rfl,hs,b,List.Perm.refl _,by rw [hb0];exact List.Pairwise.nil,h,Mods.refl _ _⟩
 ·subst hv
  have hall:∀p∈hs.zip b,SerAt w p.1 p.2∧SerOff (fun k=>k=g) p.1 p.2∧p.2.1.length≤1000000:=by
   intro p hp
   obtain ⟨i,hi⟩:=List.mem_iff_getElem?.1 hp
   obtain ⟨h1,h2⟩:=List.getElem?_zip_eq_some.1 hi
   obtain ⟨a1,a2⟩:=h.ser i p.1 p.2 h1 h2
   exact ⟨a1,⟨fun e k hk hg=>a2.1 e k hk (by rw [hg];rfl),fun e k hk hg=>a2.2 e k hk (by rw [hg];rfl)⟩,hl _ (List.mem_of_getElem? h2)⟩
  obtain ⟨l,hlm⟩:∃l:List (SerEl w g),l.map Subtype.val=hs.zip b:=⟨(hs.zip b).pmap (fun p h=>⟨p,h⟩) hall,by rw [List.map_pmap];exact (List.pmap_eq_map (f:=id) _).trans (List.map_id _)⟩
  have hl1:l.map (fun x=>x.1.1)=hs:=by
   have:l.map (fun x=>x.1.1)=(l.map Subtype.val).map Prod.fst:=by rw [List.map_map];rfl
   rw [this,hlm,List.map_fst_zip (by rw [h.len];exact Nat.le_refl _)]
  have hl2:l.map (fun x=>x.1.2)=b:=by
   have:l.map (fun x=>x.1.2)=(l.map Subtype.val).map Prod.snd:=by rw [List.map_map];rfl
   rw [this,hlm,List.map_snd_zip (by rw [h.len];exact Nat.le_refl _)]
  have hln:hs.length=l.length:=by rw [← hl1,List.length_map]
  rw [← hl1,← encSe_flat,List.length_map] at r4
  have hk:∀x:SerEl w g,(encSe x).length=2:=fun _=>rfl
  have hH:Go.Sort.HoldsK encSe 2 w g 0 l.toArray:=holdsK_of_block encSe 2 hk (by decide) hgb r4
  have hC:=AnyQ.slices_SortFunc laysSortSer 2 Tryz.isAgg51 Tryz.sizeOf51 encSe hk encSe_one cmpSe swo_cmpSe 60 #[] g 0 cap l.toArray w
   (fun _ _=>rfl) (fun m os dk _ x y=>compareSeries_any x.1.1 y.1.1 x.1.2 y.1.2 _ (x.2.1.mods (mods_sortedK (Go.Sort.flatK encSe 2 dk)) x.2.2.1) (y.2.1.mods (mods_sortedK (Go.Sort.flatK encSe 2 dk)) y.2.2.1) x.2.2.2 y.2.2.2) hH (Array.getElem?_eq_some_iff.1 hgb).1 (by simp;have:=h.len;omega)
  have hsz:l.toArray.size=l.length:=by simp
  rw [hsz,← hln] at hC
  refine hC.mono ?_
  rintro e w' ⟨rfl,d',n,os,hp,hsr,rfl⟩
  have hds:d'.size=hs.length:=by rw [hp.1,hsz,hln]
  have hm:=mods_sortedK (w:=w) (g:=g) (n:=n) (os:=os) (Go.Sort.flatK encSe 2 d')
  have h3:d'.toList.Perm l:=by
   have h3:=hp.2.2
   rw [show d'.extract 0 hs.length=d' by rw [← hds];exact Array.extract_size] at h3
   rw [hln,show l.toArray.extract 0 l.length=l.toArray by rw [← hsz];exact Array.extract_size] at h3
   exact h3
  have hbg:w0.heap.size≤g:=hbase
  refine ⟨rfl,d'.toList.map (fun x=>x.1.1),d'.toList.map (fun x=>x.1.2),?_,?_,⟨⟨?_,?_⟩,by simp,?_⟩,hm.mono (fun k _ e=>by show some g=some k;rw [show k=g from e])⟩
  ·rw [← hl2];exact h3.map _
  ·refine List.pairwise_map.2 (List.pairwise_iff_getElem.2 ?_)
   intro i j hi hj hij
   have h4:=hsr i j (Nat.zero_le _) hij (by rw [← hds];simpa using hj)
   rw [ltOf_cmpSe,getElem!_pos d' i (by simpa using hi),getElem!_pos d' j (by simpa using hj)] at h4
   simpa using h4
  ·have h5:=ownsRow_sortedK encSe 2 hk (by decide) (n:=n) (os:=os) (d:=d') hds hbase hgb r1 r2 r3
   rw [encSe_flat] at h5
   rw [List.length_map,show d'.toList.length=hs.length by rw [← hds];simp]
   exact h5
  ·exact h.row.bel.trans (hm.below h.row.bel.size (fun k hk e=>by have:k=g:=e;omega))
  ·intro i hd s hi hj
   rw [List.getElem?_map] at hi hj
   obtain ⟨x,hx⟩:∃x,d'.toList[i]? = some x:=by
    cases hq:d'.toList[i]? with
    | none=>rw [hq] at hi;cases hi
    | some x=>exact ⟨x,rfl⟩
   rw [hx] at hi hj
   cases hi;cases hj
   refine ⟨x.2.1.mods hm x.2.2.1,⟨fun e k hk hg=>x.2.2.1.1 e k hk ?_,fun e k hk hg=>x.2.2.1.2 e k hk ?_⟩⟩
   ·simpa [Value.ownBlock] using hg.symm
   ·simpa [Value.ownBlock] using hg.symm
end Go.Proofs.YtdcgbgecbeegmaaGreatDoor
end
section
set_option maxRecDepth 100000
namespace Go.Proofs.YtdcgbgecbeegmaaGreatDoor
open Go Go.RowKit
theorem infoCpB:(Tryz.prog.info? 51).map (fun i=>(i.zero,i.size,i.bytes))=some (some (.agg #[.slice none 0 0,.slice none 0 0]),2,48):=by kernel_rfl
end Go.Proofs.YtdcgbgecbeegmaaGreatDoor
end
section
set_option maxRecDepth 20000
namespace Go.Proofs.YtdcgbgecbeegmaaGreatDoor
open Go Go.RowKit
abbrev nilHd:Hd:=(.slice none 0 0,.slice none 0 0)
theorem made_ser (n:Nat):(madeCells #[.slice none 0 0,.slice none 0 0] (n*2)).toList=two Prod.fst Prod.snd (List.replicate n nilHd):=by
 refine List.ext_getElem? fun j=>?_
 by_cases hj:j<n*2
 ·obtain ⟨g1,g2⟩:=two_get (f1:=(Prod.fst:Hd→Value)) (f2:=Prod.snd) (List.replicate n nilHd) (j / 2) nilHd (by rw [List.getElem?_replicate,if_pos (by omega)])
  have hl:(madeCells #[Value.slice none 0 0,.slice none 0 0] (n*2)).toList[j]? = some (#[Value.slice none 0 0,.slice none 0 0][j % 2]!):=by
   simp [madeCells,hj]
  rw [hl]
  rcases Nat.mod_two_eq_zero_or_one j with h | h
  ·rw [h,show j=j / 2*2 by omega,g1];rfl
  ·rw [h,show j=j / 2*2+1 by omega,g2];rfl
 ·rw [List.getElem?_eq_none (by simp [madeCells];omega),List.getElem?_eq_none (by rw [two_length];simp;omega)]
def prg (f:Ser→Ser) (l:List Ser) (i:Nat):List Ser:=(l.take i).map f++List.replicate (l.length-i) ([],[])
theorem prg_length (f:Ser→Ser) (l:List Ser) (i:Nat) (h:i≤l.length):(prg f l i).length=l.length:=by
 rw [prg,List.length_append,List.length_map,List.length_take,List.length_replicate];omega
theorem prg_zero (f:Ser→Ser) (l:List Ser):prg f l 0=List.replicate l.length ([],[]):=by simp [prg]
theorem prg_all (f:Ser→Ser) (l:List Ser):prg f l l.length=l.map f:=by simp [prg]
theorem prg_set (f:Ser→Ser) {l:List Ser} {i:Nat} {s:Ser} (h:l[i]? = some s):(prg f l i).set i (f s)=prg f l (i+1):=by
 have hlt:=(List.getElem?_eq_some_iff.1 h).1
 have hl:((l.take i).map f).length=i:=by rw [List.length_map,List.length_take];omega
 rw [prg,prg,List.set_append_right _ _ (by omega),hl,Nat.sub_self,List.take_add_one,h,List.map_append,List.append_assoc]
 obtain ⟨m,hm⟩:∃m,l.length-i=m+1:=⟨l.length-i-1,by omega⟩
 rw [hm,show l.length-(i+1)=m by omega]
 rfl
theorem nmAt_made {w w1 w4:World} {n:Nat} (hb:Below w.heap.size w w1) (hb4:Below w1.heap.size w1 w4) (h:w4.ownsRow w1.heap.size 51 2 (.slice (some ⟨w1.heap.size,0,none⟩) n n) n (madeCells #[.slice none 0 0,.slice none 0 0] (n*2)).toList) :
  NmAt w w4 (List.replicate n nilHd) (List.replicate n ([],[])) (.slice (some ⟨w1.heap.size,0,none⟩) n n):=by
 rw [made_ser] at h
 refine ⟨⟨?_,hb.trans (hb4.mono hb.size)⟩,by simp,fun i x s hx hs=>?_⟩
 ·rw [List.length_replicate]
  exact owns_rebase h (fun k hk=>Nat.le_trans hb.size (h.lt k hk).1)
 ·rw [List.getElem?_replicate] at hx hs
  split at hx
  ·next h1=>
   rw [if_pos h1] at hs
   cases hx;cases hs
   exact ⟨⟨Rd.nil _ _,Rd.nil _ _⟩,⟨fun e=>absurd rfl e,fun e=>absurd rfl e⟩⟩
  ·cases hx
set_option maxHeartbeats 8000000 in
theorem modNorm_any (lv:Value) (l:List Ser) (w:World) (h:RdB w lv l) (hz:Sized l) (hs:Small l) :
  Calls Tryz.prog 39 #[lv] w (GotN w (normB l)):=by
 have H:=Lib.hid h;have HSm:=Lib.hid hs;have HZ:=Lib.hid hz
 have HLg:=Lib.hid (modLarge_any lv l w h hs.mid)
 obtain ⟨p,c,hv⟩:=h.shape
 subst hv
 have hmx:(l.length:Int)≤300:=by have:=hs.len;omega
 obtain ⟨i0,hi0,hz0,hz1,hz2⟩:=info_parts infoCpB
 have HI:=Lib.hid hi0;have HZ0:=Lib.hid hz0;have HZ1:=Lib.hid hz1
 have HZ2:Hid (i0.bytes*l.length≤281474976710656∧l.length≤maxLen):=by show _∧_;unfold maxLen;rw [hz2];omega
 clear h hs hz hi0 hz0 hz1 hz2
 go_enter Tryz.func39,Tryz.ntmps39
 go_wp2_with fail
 refine HLg.out.mono ?_
 rintro e w1 ⟨rfl,hG1⟩
 have HB1:Hid (Below w.heap.size w w1):=hG1.below
 clear hG1 HLg
 go_wp2_with (refine wpList_make_full _ rfl _ _ _ rfl w1.heap.size 51 i0 (.agg #[.slice none 0 0,.slice none 0 0]) 2 Tryz.underlying22 HI.out HZ0.out HZ1.out _ _ _ _ l.length rfl rfl rfl rfl HZ2.out.1 HZ2.out.2 (Nat.le_refl _) ?_)
 intro w4 hown hgr
 have HN4:Hid (NmAt w w4 (List.replicate l.length nilHd) (prg nSer l 0) (.slice (some ⟨w1.heap.size,0,none⟩) l.length l.length)):=by
  show NmAt _ _ _ _ _
  rw [prg_zero]
  exact nmAt_made HB1.out ((Mods.of_grown hgr).below (Nat.le_refl _) (fun k _ e=>by cases e)) hown
 have HGs:Hid (w.heap.size≤w1.heap.size):=HB1.out.size
 clear hown hgr HB1 HI HZ0 HZ1 HZ2
 generalize w1.heap.size=g at *
 go_wp2_with fail
 go_loopw [16] (fun iv wr=>∃(i:Nat) (hs:List Hd),i≤l.length∧iv = .int .i64 (i:Int)∧Hid (NmAt w wr hs (prg nSer l i) (.slice (some ⟨g,0,none⟩) l.length l.length))∧Hid (∀x∈l.take i,nErr x=0)) (fun iv _=>l.length-(intOf iv).toNat)
 case atStart=>exact ⟨0,_,Nat.zero_le _,rfl,HN4.out,by intro x hx;simp at hx⟩
 case round=>
  obtain ⟨i,hs,hi,rfl,HN,HF⟩:=hrel
  clear HN4
  have him:(i:Int)≤300:=by omega
  by_cases hlt:i<l.length
  ·have hlt':(i:Int)<(l.length:Int):=by omega
   obtain ⟨s,hx⟩:∃s,l[i]? = some s:=⟨_,List.getElem?_eq_getElem hlt⟩
   obtain ⟨blk,off,h1,h2,e,⟨p1,k1,e1⟩,⟨p2,k2,e2⟩,hal⟩:=H.out.always hx
   subst e
   subst e1
   subst e2
   have HB:=Lib.hid HN.out.row.bel
   have hmem:=List.mem_of_getElem? hx
   have HL1:Hid (s.1.length≤200∧s.2.length≤3000):=⟨HSm.out.lab _ hmem,HSm.out.mem hmem⟩
   obtain ⟨c1,c2,_⟩:=hal wr HB.out
   obtain ⟨w2,hw2⟩:∃w2,w2=wr.alloc (.cells #[.slice p1 s.1.length k1,.slice p2 s.2.length k2] 51):=⟨_,rfl⟩
   have HW:Hid (wr.alloc (.cells #[.slice p1 s.1.length k1,.slice p2 s.2.length k2] 51)=w2):=hw2.symm
   have hB2:Below wr.heap.size wr w2:=by rw [hw2];exact (Below.refl _ wr).alloc (Nat.le_refl _) _
   have HB2:Hid (Below w.heap.size w w2):=HB.out.trans (hB2.mono HB.out.size)
   have HN2:=Lib.hid (HN.out.below hB2)
   have HK2:Hid (Blk w2 wr.heap.size [.slice p1 s.1.length k1,.slice p2 s.2.length k2]):=by show Blk _ _ _;rw [hw2];exact Blk.new wr _ _
   have HCk:=Lib.hid (normSer_any (.slice p1 s.1.length k1,.slice p2 s.2.length k2) s w2 (hal w2 HB2.out).2.2 (HZ.out _ hmem) (by have:=HL1.out.1;omega) (by have:=HL1.out.2;omega))
   have HFl:Hid (nErr s≠0→normB l=(nErr s,[])):=fun e=>normB_fails HF.out hx e
   have HFn:Hid (nErr s=0→∀x∈l.take (i+1),nErr x=0):=fun e x hxm=>by
    rw [List.take_add_one,hx] at hxm
    rcases List.mem_append.1 hxm with f | f
    ·exact HF.out x f
    ·simp at f;subst f;exact e
   have HSet:Hid (nErr s=0→(prg nSer l i).set i (resS s)=prg nSer l (i+1)):=fun e=>by rw [resS,if_pos e];exact prg_set nSer hx
   have HLn:Hid (hs.length=l.length):=by show _=_;rw [HN.out.len,prg_length _ _ _ (by omega)]
   have HI2:Hid (i<l.length):=hlt
   simp only at HCk
   clear hx hal hmem hw2 hB2 HN HF
   go_wp2_with fail
   rw [HW.out]
   have q1:w2.cell? ⟨wr.heap.size,0,none⟩=some (.slice p1 s.1.length k1):=by rw [HK2.out.cell];rfl
   have q2:w2.cell? ⟨wr.heap.size,1,none⟩=some (.slice p2 s.2.length k2):=by rw [HK2.out.cell];rfl
   clear c1 c2
   try go_wp2_with fail
   refine HCk.out.mono ?_
   rintro e w3 ⟨⟨y1,y2⟩,rfl,hsr,⟨hf1,hf2⟩,hB3⟩
   have HN3:=Lib.hid (HN2.out.below hB3)
   obtain ⟨z,hz⟩:∃z,hs[i]? = some z:=⟨_,List.getElem?_eq_getElem (by have:=HLn.out;omega)⟩
   obtain ⟨⟨d0,d1⟩,f0,f1⟩:=HN3.out.row.cell hz
   have hgl:g<w2.heap.size:=(HN2.out.row.row.lt g rfl).2
   have HNs:Hid (NmAt w ((w3.setCell ⟨g,i*2,none⟩ y1).setCell ⟨g,i*2+1,none⟩ y2) (hs.set i (y1,y2)) ((prg nSer l i).set i (resS s)) (.slice (some ⟨g,0,none⟩) l.length l.length)):=
    HN3.out.stored (h:=(y1,y2)) hsr ⟨fun _ k hk e=>by have:=hf1 k hk;have:k=g:=e;omega,fun _ k hk e=>by have:=hf2 k hk;have:k=g:=e;omega⟩ rfl rfl
   obtain ⟨py1,cy1,ey1⟩:=hsr.1.shape
   obtain ⟨py2,cy2,ey2⟩:=hsr.2.shape
   simp only at ey1 ey2
   subst ey1 ey2
   clear hB3 HCk HB2 HK2 q1 q2 HW hsr hf1 hf2 hgl HN2 HN3 hz
   by_cases hc:nErr s=0
   ·have HSe:=HSet.out hc
    have HNr:=Lib.hid HNs.out
    rw [HSe] at HNr
    have HF2:=Lib.hid (HFn.out hc)
    rw [hc]
    clear hc HSet HFn HFl HNs HSe
    generalize (resS s).1.length=m1 at *
    generalize (resS s).2.length=m2 at *
    go_wp2_with fail
    go_round
    case rel=>exact ⟨i+1,_,by omega,by go_num,HNr.out,HF2.out⟩
    case measure=>simp [intOf];omega
   ·have HE:=Lib.hid (HFl.out hc)
    have hcb:((nErr s:Int) == 0)=false:=by rw [beq_eq_false_iff_ne];omega
    clear hc HSet HFn HFl
    generalize nErr s=ce at *
    generalize (resS s).1.length=m1 at *
    generalize (resS s).2.length=m2 at *
    go_wp2_with fail
    go_ret2
    exact GotN.fails HNs.out.row.bel HE.out
  ·have hlt':¬(i:Int)<(l.length:Int):=by omega
   have hil:i=l.length:=by omega
   subst hil
   have HNa:Hid (NmAt w wr hs (l.map nSer) (.slice (some ⟨g,0,none⟩) l.length l.length)):=by have:=HN.out;rwa [prg_all] at this
   have HE0:Hid (firstErrB l=0):=by show _=_;rw [firstErrB_zero];have:=HF.out;rwa [List.take_length] at this
   have HLl:Hid (∀s∈l.map nSer,s.1.length≤1000000):=by
    intro s hs
    obtain ⟨x,hx,rfl⟩:=List.mem_map.1 hs
    have h1:=(norm_le x.1).2
    have h2:=HSm.out.lab x hx
    show (normL x.1).2.length≤1000000
    omega
   have HLm:Hid ((l.map nSer).length≤300):=by show _≤_;rw [List.length_map];exact HSm.out.len
   have HSo:=Lib.hid (sort_ser w wr _ hs (l.map nSer) HNa.out (by have:=HLm.out;omega) HLl.out)
   clear HN HF him
   go_wp2_with fail
   refine HSo.out.mono ?_
   rintro e w5 ⟨rfl,hs',b',hp,hsr,hN,hM⟩
   have HN5:=Lib.hid hN
   have HSs:=Lib.hid (sorted_ser hp hsr)
   have HNb:=Lib.hid (adj_nbr hsr)
   have HRd:Hid (Rd w5 2 (.slice (some ⟨g,0,none⟩) l.length l.length) hs'.length (two Prod.fst Prod.snd hs')):=hN.row.rd
   have HNt:=Lib.hid (neighSers _ hs' b' w5 HRd.out hN.len (fun i h s a b=>(hN.ser i h s a b).1) (by have:=hp.length_eq;have:=HLm.out;omega) (fun s hs=>HLl.out s (hp.mem_iff.1 hs)))
   rw [HNb.out] at HNt
   clear hp hsr hN hM HSo HNa HRd HNb
   go_wp2_with fail
   by_cases ha:adjB b'=true
   ·have HE:Hid (normB l=(19,[])):=by
     show _=_
     unfold normB
     rw [HE0.out,if_neg (by simp),if_pos (by rw [← HSs.out.1];exact ha)]
    rw [if_pos ha] at HNt
    refine HNt.out.mono ?_
    rintro e w6 ⟨rfl,hG⟩
    have HN6:=Lib.hid (HN5.out.below hG.below)
    clear hG HNt ha HN5
    go_wp2_with fail
    go_ret2
    exact GotN.fails (en:=19) HN6.out.row.bel HE.out
   ·have ha':adjB b'=false:=by simpa using ha
    have HE:Hid (normB l=(0,b')):=by
     show _=_
     unfold normB
     rw [HE0.out,if_neg (by simp),if_neg (by rw [← HSs.out.1,ha'];decide),HSs.out.2 ha']
    rw [if_neg ha] at HNt
    refine HNt.out.mono ?_
    rintro e w6 ⟨rfl,hG⟩
    have HN6:=Lib.hid (HN5.out.below hG.below)
    clear hG HNt ha ha' HN5
    go_wp2_with fail
    go_ret2
    rw [HE.out]
    exact ⟨_,rfl,HN6.out.rd,HN6.out.row.bel⟩
end Go.Proofs.YtdcgbgecbeegmaaGreatDoor
end
