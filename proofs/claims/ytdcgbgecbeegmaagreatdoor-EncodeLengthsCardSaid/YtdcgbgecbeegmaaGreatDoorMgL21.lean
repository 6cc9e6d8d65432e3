/- Texts 21. -/
import Derived.Test.YtdcgbgecbeegmaaGreatDoorMgL10
import Derived.Test.YtdcgbgecbeegmaaGreatDoorMgL18
import Derived.Test.YtdcgbgecbeegmaaGreatDoorMgL20
import Derived.Test.YtdcgbgecbeegmaaGreatDoorMgL4
import Derived.Test.YtdcgbgecbeegmaaGreatDoorMgL7
import Derived.Test.YtdcgbgecbeegmaaGreatDoorMgL9
import Derived.Test.YtdcgbgecbeegmaaGreatDoorMgL3
import Derived.Test.YtdcgbgecbeegmaaGreatDoorMgL2
import Derived.Shelf.SlicesE.Compact
import Derived.Shelf.Spec.SearchS
import Derived.Sort.Walk0
import Derived.Sort.OwnSorted
import Derived.Shelf.SortM.Plain
import Derived.Shelf.SortM.SortNone
set_option linter.unusedVariables false
set_option linter.unusedSimpArgs false
section
set_option maxRecDepth 100000
namespace Go.Proofs.YtdcgbgecbeegmaaGreatDoor
open Go Go.RowKit Go.Shelf
attribute [local go_sem] Oper.semAt_some
theorem infoRec17:(Tryz.prog.info? 146).map (fun i=>(i.zero,i.size,i.bytes))=some (some (.agg #[.slice none 0 0,.slice none 0 0]),2,48):=by kernel_rfl
theorem wpListIn_makeC {ops:Array Oper} {rest:List Oper} {o:Oper} {a:Act} {Q:Exit→Act→World→Prop} {W:World} {m:Nat} (n:Nat) (hn:n≤1000000) (l c:Operand) (hg:Region.wanted o (yielded ops a.tmps)=true) (hop:o.op=Op.makeSlice 98 l c) (hl:a.eval l = .int .i64 (n:Int)) (hc:a.eval c = .int .i64 (n:Int))
  (h:∀w2,w2.ownsRow W.heap.size 146 2 (.slice (some ⟨W.heap.size,0,none⟩) n n) n (two Prod.fst Prod.snd (List.replicate n nilHd))→W.grownBy w2 none→W.heap.size<w2.heap.size→wpListIn Fence.wide m Tryz.prog ops Q rest (a.put o.dst (.slice (some ⟨W.heap.size,0,none⟩) n n)) w2) :
  wpListIn Fence.wide m Tryz.prog ops Q (o::rest) a W:=by
 obtain ⟨i0,hi0,hz0,hz1,hz2⟩:=info_parts infoRec17
 obtain ⟨w2,hrun,hown,hgr⟩:=run_make_full (P:=Tryz.prog) W W.heap.size 98 146 i0 (.agg #[.slice none 0 0,.slice none 0 0]) 2 Tryz.underlying98 hi0 hz0 hz1 .i64 .i64 n (by rw [hz2];omega) (by unfold maxLen;omega) (Nat.le_refl _)
 refine wpListIn_run hg (.slice (some ⟨W.heap.size,0,none⟩) n n) w2 ?_ (h w2 ?_ hgr (hown.lt _ rfl).2)
 ·unfold execOp
  simp only [hop,hl,hc]
  simp [hrun,Result.andThen]
 ·rw [← made_ser]
  exact hown
set_option maxHeartbeats 8000000 in
theorem collect_met (bv:Value) (b:List Ser) (w:World) (hR:RdB w bv b) (hT:T9 w) (hm:Mid b) (hz:Sized b) (hne:∀s∈b,s.2≠[]) :
  Calls Tryz.prog 62 #[bv] w fun e w'=>∃lv sv,e = .returned (.tuple #[lv,sv])∧RdR w' lv (b.map recE)∧Rd w' 1 sv (chunksB b).length (u8s (chunksB b))∧(∀k,sv.ownBlock=some k→w.heap.size≤k)∧Below w.heap.size w w':=by
 have HR:=Lib.hid hR;have HT:=Lib.hid hT;have HM:=Lib.hid hm;have HZ:=Lib.hid hz;have HNe:=Lib.hid hne
 obtain ⟨pb,cb,hv⟩:=hR.shape
 subst hv
 have hn:b.length≤1000000:=by have:=hm.len;omega
 have hni:(b.length:Int)≤20000:=by have:=hm.len;omega
 clear hR hT hm hz hne
 refine (callsIn_wide (n:=9)).1 ?_
 refine callsIn_of_wp_marks Tryz.func62 rfl trivial ?_ rfl
 simp only [Tryz.ntmps62,List.size_toArray,List.length_cons,List.length_nil,Nat.reduceAdd,Nat.reduceSub,Array.replicate_succ,Array.replicate_zero,List.push_toArray,List.append_toArray,List.nil_append,List.cons_append]
 gi_wp2_with (refine wpListIn_makeC b.length hn (.tmp 10) (.tmp 10) rfl rfl rfl rfl ?_)
 intro w2 hown hgr hlt
 obtain ⟨W3,hW3⟩:∃W3,(((w2.alloc (.cells #[.slice (some ⟨w.heap.size+1,0,none⟩) b.length b.length] 98)).alloc (.cells #[.slice none 0 0] 25)).alloc (.cells #[.func (.func 96) #[] #[.pointer (some ⟨w.heap.size,0,none⟩),.pointer (some ⟨w2.heap.size,0,none⟩),.pointer (some ⟨w2.heap.size+1,0,none⟩)]] 147))=W3:=⟨_,rfl⟩
 have hB2:Below w.heap.size w w2:=((Below.refl _ w).alloc (Nat.le_refl _) (.cells #[.slice pb b.length cb] 22)).trans ((Mods.of_grown hgr).below (by simp) (fun k _ e=>by cases e))
 have hbb2:Blk w2 w.heap.size [.slice pb b.length cb]:=(Mods.of_grown hgr).blk (Blk.new w #[.slice pb b.length cb] 22) (fun e=>by cases e)
 have hls:w.heap.size+1<w2.heap.size:=by simpa using hlt
 have hown':w2.ownsRow w.heap.size 146 2 (.slice (some ⟨w.heap.size+1,0,none⟩) b.length b.length) b.length (two Prod.fst Prod.snd (List.replicate b.length nilHd)):=by
  have h:=owns_rebase hown (base':=w.heap.size) (fun k hk=>by have:=(hown.lt k hk).1;omega)
  simpa using h
 have hbb3:Blk W3 w.heap.size [.slice pb b.length cb]:=by rw [← hW3];exact ((hbb2.alloc _).alloc _).alloc _
 have hcb:=hbb3.cell 0
 simp only [List.getElem?_cons_zero] at hcb
 clear hown hgr hlt
 gi_wp2_with (refine ⟨trivial,?_⟩;gi_at_call 98;refine (new_parts pb b.length cb _ _).mono ?_;rintro e w' ⟨rfl,rfl⟩)
 obtain ⟨W4,hW4⟩:∃W4,W3.alloc (.cells #[.slice pb b.length cb] 22)=W4:=⟨_,rfl⟩
 have hs3:W3.heap.size=w2.heap.size+3:=by rw [← hW3];simp
 have hs4:W4.heap.size=w2.heap.size+4:=by rw [← hW4];simp [hs3]
 have up3:∀{k:Nat} {cs:List Value},Blk W3 k cs→Blk W4 k cs:=fun h=>by rw [← hW4];exact h.alloc _
 have hbL:Blk W4 w2.heap.size [.slice (some ⟨w.heap.size+1,0,none⟩) b.length b.length]:=up3 (by rw [← hW3];exact ((Blk.new w2 _ _).alloc _).alloc _)
 have hbc:Blk W4 (w2.heap.size+1) [.slice none 0 0]:=up3 (by
  rw [← hW3]
  have h:=Blk.new (w2.alloc (.cells #[.slice (some ⟨w.heap.size+1,0,none⟩) b.length b.length] 98)) #[.slice none 0 0] 25
  rw [World.size_alloc] at h
  exact h.alloc _)
 have hba:Blk W4 (w2.heap.size+1+1) [.func (.func 96) #[] #[.pointer (some ⟨w.heap.size,0,none⟩),.pointer (some ⟨w2.heap.size,0,none⟩),.pointer (some ⟨w2.heap.size+1,0,none⟩)]]:=up3 (by
  rw [← hW3]
  have h:=Blk.new ((w2.alloc (.cells #[.slice (some ⟨w.heap.size+1,0,none⟩) b.length b.length] 98)).alloc (.cells #[.slice none 0 0] 25)) #[.func (.func 96) #[] #[.pointer (some ⟨w.heap.size,0,none⟩),.pointer (some ⟨w2.heap.size,0,none⟩),.pointer (some ⟨w2.heap.size+1,0,none⟩)]] 147
  rw [World.size_alloc,World.size_alloc] at h
  exact h)
 have hb5:W4.cell? ⟨W3.heap.size,0,none⟩=some (.slice pb b.length cb):=by
  have h:=(Blk.new W3 #[.slice pb b.length cb] 22).cell 0
  rw [hW4] at h
  simpa using h
 have hB23:Below w2.heap.size w2 W4:=by
  rw [← hW4,← hW3]
  exact ((((Below.refl _ w2).alloc (Nat.le_refl _) _).alloc (by simp) _).alloc (by simp;omega) _).alloc (by simp;omega) _
 have hB4:Below w.heap.size w W4:=hB2.trans (hB23.mono hB2.size)
 obtain ⟨K,hK⟩:∃K:Nat→Prop,(fun j=>j<w.heap.size∨j=W3.heap.size)=K:=⟨_,rfl⟩
 have hK1:∀j,K j→j<w.heap.size∨j=w2.heap.size+3:=fun j hj=>by rw [← hK] at hj;rw [← hs3];exact hj
 have HGV:=Lib.hid (parts_gives 8 (by omega) W3.heap.size (.slice pb b.length cb) b w W4 HR.out HM.out hB4 hb5)
 rw [hK] at HGV
 obtain ⟨ga,hga⟩:∃ga,w2.heap.size+1+1=ga:=⟨_,rfl⟩
 have HC0:Hid (CoAt w w.heap.size w2.heap.size (w2.heap.size+1) (w.heap.size+1) (.slice pb b.length cb) b.length (recsK b 0) (chunksK b 0) (fun j=>K j∨j=ga) W4 (List.replicate b.length nilHd) (.slice none 0 0)):=by
  have nil0:∀{i:Nat} {h:Hd},(List.replicate b.length nilHd)[i]? = some h→h=nilHd:=fun {i h} e=>by
   rw [List.getElem?_replicate] at e
   split at e
   ·cases e;rfl
   ·cases e
  have no:∀{i:Nat} {h:Hd} {j:Nat},(List.replicate b.length nilHd)[i]? = some h→h.2.ownBlock=some j→False:=fun {i h j} e f=>by
   rw [nil0 e] at f
   simp [nilHd,Value.ownBlock] at f
  have nilr:∀{i:Nat} {r:Rec},(recsK b 0)[i]? = some r→r=([],[]):=fun {i r} e=>by
   rw [recsK_zero,List.getElem?_replicate] at e
   split at e
   ·cases e;rfl
   ·cases e
  refine ⟨hB4,up3 hbb3,hbL,hbc,(Mods.of_below hB23 (fun _=>False)).owns hown' (fun _ _ e=>e),List.length_replicate,recsK_len b 0,by rw [chunksK_zero];exact World.ownsRow_nil _ _ _ _,fun i h r hi hr=>?_,fun i h r hi hr=>?_,fun i h hi j e=>(no hi e).elim,fun i k h x _ hi _ j e=>(no hi e).elim,fun j e=>by simp [Value.ownBlock] at e,⟨by omega,by omega,by omega,by omega,by omega⟩,⟨Nat.le_refl _,by omega,by omega⟩,fun j hj hN=>?_,fun j hj=>?_⟩
  ·rw [nil0 hi,nilr hr]
   exact ⟨Rd.nil _ _,fun e=>absurd rfl e⟩
  ·rw [nil0 hi,nilr hr]
   exact World.ownsRow_nil _ _ _ _
  ·have h1:j<w.heap.size∨j=w2.heap.size+3∨j=ga:=by
    rcases hN with e | e
    ·rcases hK1 j e with f | f
     ·exact Or.inl f
     ·exact Or.inr (Or.inl f)
    ·exact Or.inr (Or.inr e)
   rcases hj with e | e | e | e | e | ⟨y,hy,e⟩
   ·omega
   ·omega
   ·omega
   ·omega
   ·simp [Value.ownBlock] at e
   ·obtain ⟨i,hi⟩:=List.getElem?_of_mem hy
    exact no hi e
  ·rcases hj with e | e
   ·rcases hK1 j e with f | f<;>omega
   ·omega
 have HKl:Hid (∀k,K k→k<W4.heap.size):=fun k hk=>by rcases hK1 k hk with f | f<;>omega
 have HBa:Hid (Blk W4 ga [.func (.func 96) #[] #[.pointer (some ⟨w.heap.size,0,none⟩),.pointer (some ⟨w2.heap.size,0,none⟩),.pointer (some ⟨w2.heap.size+1,0,none⟩)]]):=by rw [← hga];exact hba
 have HSz:Hid (w.heap.size≤W4.heap.size∧w.heap.size≤ga):=by show _∧_;omega
 rw [hga]
 try rw [hW4]
 clear hcb hbb3 hbb2 hB2 hB23 hB4 up3 hbL hbc hba hb5 hown' hK hK1 hW3 hW4 hls
 generalize w2.heap.size=gL at *
 generalize W3.heap.size=g5 at *
 clear hs3 hs4 hga
 refine wpIn_rangeFunc_made rfl (by omega) (gf:=141) (lb:=#[.pointer (some ⟨g5,0,none⟩)]) rfl trivial (enters_of Tryz.func141 (by kernel_rfl) rfl)
  HGV.out (Below.refl _ _) (fun _ _=>rfl) ?rx
  (fun k N W=>(∃hs sv,CoAt w w.heap.size gL (gL+1) (w.heap.size+1) (.slice pb b.length cb) b.length (recsK b k) (chunksK b k) (fun j=>N j∨j=ga) W hs sv)∧Blk W ga [.func (.func 96) #[] #[.pointer (some ⟨w.heap.size,0,none⟩),.pointer (some ⟨gL,0,none⟩),.pointer (some ⟨gL+1,0,none⟩)]])
  ?ib ?ip HKl.out ⟨⟨_,_,HC0.out⟩,HBa.out⟩
  (fun x v=>{ tmps:=#[.slice pb b.length cb,.pointer (some ⟨w.heap.size,0,none⟩),.slice none 0 0,.slice none 0 0,.pointer (some ⟨gL,0,none⟩),.pointer (some ⟨gL+1,0,none⟩),.pointer (some ⟨ga,0,none⟩),.int .i64 (x.1:Int),v,.slice pb b.length cb,.int .i64 (b.length:Int),.slice (some ⟨w.heap.size+1,0,none⟩) b.length b.length,.func (.func 96) #[] #[.pointer (some ⟨w.heap.size,0,none⟩),.pointer (some ⟨gL,0,none⟩),.pointer (some ⟨gL+1,0,none⟩)],.slice pb b.length cb,.func (.func 141) #[] #[.pointer (some ⟨g5,0,none⟩)],.int .i64 (x.1:Int),v,undef,undef,undef,undef,undef,undef],defers:=[] })
  ?assign ?body ?done
 case rx=>
  intro x v W l o o' hr ho hc
  exact rd_abides hr (grownBy_putObj' W l o') (fun r e=>by cases e;exact ⟨o,ho,hc⟩)
 case ib=>
  rintro k N N' W W' ⟨⟨hs,sv,hC⟩,hb⟩ hB hj
  refine ⟨⟨hs,sv,hC.joins hB (fun j hj'=>?_)⟩,hb.of_same (hB.block _ hb.lt)⟩
  rcases hj' with e | e
  ·rcases hj j e with f | f
   ·exact Or.inl (Or.inl f)
   ·exact Or.inr f
  ·exact Or.inl (Or.inr e)
 case ip=>
  rintro k N W l o o' ⟨⟨hs,sv,hC⟩,hb⟩ hl hN ho hc
  refine ⟨⟨hs,sv,hC.put (Nat.le_trans HSz.out.1 hl) ho hc o'⟩,?_⟩
  refine (mods_put (Mods.refl (fun k=>k=l) W) (Or.inl rfl) o').blk hb (fun e=>?_)
  obtain ⟨t,ht⟩:=hb
  rw [e,ho] at ht
  cases ht
  cases hc
 case assign=>
  intro l x v W G hG
  simp only [List.zip_toArray,List.zip_cons_cons,List.zip_nil_right,List.foldl_toArray,List.foldl_cons,List.foldl_nil,List.setIfInBounds_toArray,List.set_cons_zero,List.set_cons_succ]
  gi_wp2
  exact hG
 case body=>
  rintro l k x v N W ⟨⟨hs,sv,hC⟩,hb⟩ hx hr
  have hr':Rd W 2 v x.2.length (samCells x.2):=hr
  obtain ⟨s,hsx,hw⟩:=picB_mem (List.mem_of_getElem? hx)
  have hwm:=winE_mem hw
  have hT:T9 W:=HT.out.keeps (S:=fun k=>w.heap.size≤k) ⟨hC.bel.os,hC.bel.tape,hC.bel.output,hC.bel.size,fun k hk hs=>hC.bel.block k (by omega)⟩ (fun k hlt e=>by have:=HT.out.low;omega)
  have hkl:k<(picB b).length:=(List.getElem?_eq_some_iff.1 hx).1
  have hpl:=picB_len17 HM.out
  have hAdd:=add_met hC hT HR.out rfl HM.out.len hsx hr' (fun y hy=>(HZ.out s (List.mem_of_getElem? hsx)).2 y (hwm.2.2 y hy)) (by have:=hwm.2.1;omega) (fun r h=>by have:=recsK_lens b k r h;omega) (by have:=chunksK_len17 HM.out k;omega)
  have hrec:(recsK b k).set x.1 (s.1,(((recsK b k)[x.1]?).getD ([],[])).2++[((encC x.2).1.length:Int)])=recsK b (k+1):=by rw [recsK_step hx,recAdd,hsx];rfl
  rw [hrec,← chunksK_step hx] at hAdd
  have HAdd:=Lib.hid hAdd
  have HC:=Lib.hid hC;have HBg:=Lib.hid hb
  obtain ⟨pv,cv,hvv⟩:=hr'.shape
  subst hvv
  have c0:=hb.cell 0
  simp only [List.getElem?_cons_zero] at c0
  clear hC hb hx hr hr' hsx hw hwm hT hkl hpl hAdd hrec
  refine wpIn_block ?_
  gi_wp2_with fail
  refine ⟨trivial,(CallsIn.inRound l (callsIn_wide.2 HAdd.out)).mono ?_⟩
  rintro e W' ⟨⟨u,rfl⟩,hs',sv',hC',hM'⟩
  gi_wp2_with fail
  refine ⟨(KeepsOthers.of_mods hM' (fun j o hj ho=>HC.out.isCells hj ho)).from _,hM'.mono (fun j _ hj e=>HC.out.off j hj (Or.inl e)),⟨hs',sv',hC'⟩,hM'.blk HBg.out (fun e=>HC.out.off ga e (Or.inr rfl))⟩
 case done=>
  rintro D N W hD ⟨⟨hs,sv,hC⟩,hb⟩ hK
  rw [recsK_all HNe.out,chunksK_all] at hC
  have hC2:=(hC.below (below_drewC W)).put (Nat.le_trans HSz.out.1 hD) (show W.drew.heap[D]? = _ from hK) rfl (.deferred none)
  have HC2:=Lib.hid hC2
  obtain ⟨ps,cs,hse⟩:=(Rd.of_owns hC.own).shape
  subst hse
  have c0:=hC.bL.cell 0
  have c1:=hC.bc.cell 0
  simp only [List.getElem?_cons_zero] at c0 c1
  clear hC hC2 hb
  gi_wp2_with fail
  refine wpIn_wide.2 (wp_normal ?_)
  have HS:Hid (∀w':World,(w'.cell? ⟨gL,0,none⟩=some (.slice (some ⟨w.heap.size+1,0,none⟩) b.length b.length)∧w'.cell? ⟨gL+1,0,none⟩=some (.slice ps (chunksB b).length cs)∧True)→(w'.cell? ⟨gL,0,none⟩=some (.slice (some ⟨w.heap.size+1,0,none⟩) b.length b.length)∧w'.cell? ⟨gL+1,0,none⟩=some (.slice ps (chunksB b).length cs)∧True)):=fun _ h=>h
  refine wp_region_takeH (fun w':World=>w'.cell? ⟨gL,0,none⟩=some (.slice (some ⟨w.heap.size+1,0,none⟩) b.length b.length)∧w'.cell? ⟨gL+1,0,none⟩=some (.slice ps (chunksB b).length cs)∧True) [] [0,1,2,3] (by kernel_rfl) (by kernel_rfl) (by kernel_rfl) ?_ ?_ ?_
  ·intro c a a' w hd h;cases h.1
  ·exact ⟨c0,c1,trivial⟩
  clear c0 c1
  simp only [taken,List.map_cons,List.map_nil,List.getElem?_cons_succ,List.getElem?_cons_zero,Option.getD_some]
  repeat (first
        | (refine takeH_skip rfl ?_; simp only [Act.put, List.setIfInBounds_toArray, List.set_cons_succ, List.set_cons_zero])
        | (refine takeH_blind rfl rfl ?_; apply Exists.intro; refine ⟨fun w => ?_, ?_⟩; (go_simp; try with_reducible rfl); simp only [Act.put, List.setIfInBounds_toArray, List.set_cons_succ, List.set_cons_zero])
        | (refine takeH_reads rfl rfl ?_; apply Exists.intro; refine ⟨fun w' hS => ?_, ?_⟩; (obtain ⟨d0, d1, d2⟩ := HS.out w' hS; go_simp; try with_reducible rfl); simp only [Act.put, List.setIfInBounds_toArray, List.set_cons_succ, List.set_cons_zero]))
  refine takeH_nil ⟨rfl,?_⟩
  gi_wp2_with fail
  refine ⟨by simp,.inl ⟨_,_,rfl,run_takeDeferred (show W.drew.heap[D]? = _ from hK),?_⟩⟩
  refine ⟨_,results_tmp2 (t:=2) (u:=3) rfl _ _ _,.slice (some ⟨w.heap.size+1,0,none⟩) b.length b.length,.slice ps (chunksB b).length cs,rfl,HC2.out.rdR,Rd.of_owns HC2.out.own,fun k hk=>(HC2.out.own.lt k hk).1,HC2.out.bel⟩
end Go.Proofs.YtdcgbgecbeegmaaGreatDoor
end
section
set_option maxRecDepth 20000
namespace Go.Proofs.YtdcgbgecbeegmaaGreatDoor
open Go Go.RowKit
theorem elemLabsP17:Elem Tryz.prog 68 48 1 24:=Elem.mk' (z:=.slice none 0 0) Tryz.underlying68 (by kernel_rfl) rfl (by decide)
set_option maxHeartbeats 4000000 in
theorem labelSets_met (bv:Value) (b:List Ser) (w:World) (hb:RdB w bv b) (hn:b.length≤1000000) :
  Calls Tryz.prog 67 #[bv] w fun e w'=>∃v,e = .returned v∧∃hs,LbAt 48 w w' hs (b.map Prod.fst) v:=by
 have HL:=Lib.hid hb;have HN:=Lib.hid hn
 obtain ⟨pb,cb,hv⟩:=hb.shape
 subst hv
 have hni:(b.length:Int)≤1000000:=by omega
 clear hb hn
 go_enter Tryz.func67,Tryz.ntmps67
 go_wp2_with fail
 go_loopw [3,8] (fun vv iv wr=>∃(i:Nat) (hs:List Value),i≤b.length∧iv = .int .i64 (i:Int)∧Hid (LbAt 48 w wr hs ((b.take i).map Prod.fst) vv)) (fun _ iv _=>b.length-(intOf iv).toNat)
 case atStart=>exact ⟨0,[],Nat.zero_le _,rfl,LbAt.nil w⟩
 case round=>
  obtain ⟨i,hs,hi,rfl,HA⟩:=hrel
  have him:(i:Int)≤1000000:=by omega
  obtain ⟨pv,cv,hvv⟩:=HA.out.row.rd.shape
  subst hvv
  by_cases hlt:i<b.length
  ·have hlt':(i:Int)<(b.length:Int):=by omega
   obtain ⟨s,hs'⟩:∃s,b[i]? = some s:=⟨_,List.getElem?_eq_getElem hlt⟩
   obtain ⟨blk,off,h1,h2,rfl,⟨p1,c1,rfl⟩,⟨p2,c2,rfl⟩,hal⟩:=HL.out.always hs'
   obtain ⟨d0,d1,hsr⟩:=hal wr HA.out.row.bel
   have hw0:=hal w (Below.refl _ _)
   have HTk:Hid ((b.take (i+1)).map Prod.fst=(b.take i).map Prod.fst++[s.1]):=by show _=_;rw [List.take_add_one,hs',List.map_append];rfl
   have HSr:=Lib.hid hsr.1
   have HOf:Hid (LabOff (fun j=>(Value.slice pv hs.length cv).ownBlock=some j) (.slice p1 s.1.length c1) s.1):=fun hne j hj hv=>by
    have a:=hw0.2.2.1.lt hne j hj
    have c:=(HA.out.row.row.lt j hv).1
    omega
   obtain ⟨w2,hw2⟩:∃w2,wr.alloc (.cells #[.slice p1 s.1.length c1,.slice p2 s.2.length c2] 51)=w2:=⟨_,rfl⟩
   have hB2:Below wr.heap.size wr w2:=by rw [← hw2];exact (Below.refl _ wr).alloc (Nat.le_refl _) _
   have hK2:Blk w2 wr.heap.size [.slice p1 s.1.length c1,.slice p2 s.2.length c2]:=by rw [← hw2];exact Blk.new wr _ _
   have q1:=hK2.cell 0
   have q2:=hK2.cell 1
   simp only [List.getElem?_cons_zero,List.getElem?_cons_succ] at q1 q2
   have HA2:=Lib.hid (HA.out.below hB2)
   have HSr2:=Lib.hid (hsr.1.below hB2)
   have HOz:Hid (w2.ownsRow 0 48 1 (.slice pv hs.length cv) hs.length hs):=by
    show World.ownsRow _ _ _ _ _ _ _
    have h:=HA2.out.row.base0
    rwa [List.map_id'] at h
   have HLz:Hid ((hs.length+1)*24≤140737488355328∧hs.length+1≤maxLen):=by
    show _∧_
    have h:=HA.out.len
    rw [List.length_map,List.length_take] at h
    have:=HN.out
    unfold maxLen
    omega
   clear hs' hal hsr hw0 hB2 hK2
   go_wp2_with (at_builtin;refine wpList_push elemLabsP17 w2 #[.slice p1 s.1.length c1] _ _ _ HOz.out rfl (by simp [Value.oneCell']) HLz.out rfl _ _ rfl rfl rfl ?_)
   intro v4 w4 k1 m1 f1
   have HA4:Hid (LbAt 48 w w4 (hs++[.slice p1 s.1.length c1]) ((b.take (i+1)).map Prod.fst) v4):=by
    show LbAt _ _ _ _ _ _
    rw [HTk.out]
    exact HA2.out.pushed (h:=.slice p1 s.1.length c1) (s:=s.1) HSr2.out HOf.out k1 m1 f1
   clear k1 m1 f1 HOz HLz HA HA2 HSr HSr2 HOf d0 d1 q1 q2 hw2
   obtain ⟨p4,c4,hv4⟩:=HA4.out.row.rd.shape
   subst hv4
   go_wp2_with fail
   go_round
   case rel=>exact ⟨i+1,_,by omega,by go_num,HA4.out⟩
   case measure=>simp [intOf];omega
  ·have hlt':¬(i:Int)<(b.length:Int):=by omega
   have HA2:Hid (LbAt 48 w wr hs (b.map Prod.fst) (.slice pv hs.length cv)):=by
    have h:=HA.out
    rw [List.take_of_length_le (by omega)] at h
    exact h
   go_wp2_with fail
   go_ret
   exact ⟨_,rfl,hs,HA2.out⟩
set_option maxHeartbeats 2000000 in
theorem labStrings_any (lv:Value) (l:List Lab) (w:World) (hl:Rd w 2 lv l.length (labCells l)) (hn:l.length≤1000000) :
  Calls Tryz.prog 94 #[lv] w fun e w'=>∃r,e = .returned r∧Own1 9 Value.string w w' (stringsL l) r:=by
 have HL:=Lib.hid hl
 obtain ⟨pl,cl,hv⟩:=hl.shape
 subst hv
 have hmx:(l.length:Int)≤1000000:=by omega
 clear hl hn
 go_enter Tryz.func94,Tryz.ntmps94
 go_wp2_with fail
 go_loopw [3,8] (fun vv iv wr=>∃(i:Nat),i≤l.length∧iv = .int .i64 (i:Int)∧Hid (Own1 9 Value.string w wr (stringsL (l.take i)) vv)) (fun _ iv _=>l.length-(intOf iv).toNat)
 case atStart=>exact ⟨0,Nat.zero_le _,rfl,Own1.nil w⟩
 case round=>
  obtain ⟨i,hi,rfl,HO⟩:=hrel
  have him:(i:Int)≤1000000:=by omega
  by_cases hlt:i<l.length
  ·have hlt':(i:Int)<(l.length:Int):=by omega
   obtain ⟨⟨yn,yv⟩,hx⟩:∃x,l[i]? = some x:=⟨_,List.getElem?_eq_getElem hlt⟩
   obtain ⟨b,off,e⟩:=rd2_at HL.out hx
   subst e
   obtain ⟨c0,c1⟩:=rd2_cell (HL.out.below HO.out.bel) hx
   have HSt:=Lib.hid (stringsL_step hx)
   have hl1:(stringsL (l.take i)).length≤2000000:=by rw [stringsL_len,List.length_take];omega
   have HXx:=Lib.hid hx
   clear hx
   obtain ⟨pv,cv,hvv⟩:=HO.out.shape
   subst hvv
   have HBd:Hid (((stringsL (l.take i)).length+2)*16≤140737488355328∧(stringsL (l.take i)).length+2≤maxLen):=by show _∧_;unfold maxLen;omega
   clear hl1
   have HA:=Lib.hid (HO.out.below (((Below.refl _ wr).alloc (Nat.le_refl _) (.cells #[.string yn,.string yv] 108))))
   generalize stringsL (l.take i)=acc at *
   obtain ⟨w1,hw1⟩:∃w1,w1=wr.alloc (.cells #[.string yn,.string yv] 108):=⟨_,rfl⟩
   have HS1:Hid (w1.heap.size=wr.heap.size+1):=by show _=_;rw [hw1];simp
   rw [← hw1] at HA
   have HO2:Hid (Own1 9 Value.string w (w1.alloc (.cells #[.string yn,.string yv] 9)) acc (.slice pv acc.length cv)):=HA.out.below ((Below.refl _ w1).alloc (Nat.le_refl _) _)
   have hlit:=Rd.of_owns (World.ownsRow_lit (base:=0) w1 #[.string yn,.string yv] 2 (Nat.zero_le _) (by simp [maxLen]) (by simp) (e:=9) (size:=1))
   rw [HS1.out] at hlit
   rw [hw1] at hlit HO2
   have HLit:=Lib.hid hlit
   have HOb:=Lib.hid HO2.out.base0
   clear hlit HS1 HA hw1 w1
   go_wp2_with (refine wpList_extend Tryz.elemStr _ _ _ _ _ _ _ HOb.out HLit.out (strs_one [yn,yv]) HBd.out rfl _ _ rfl rfl rfl ?_)
   intro v3 w3 k1 k2 k3
   have HO4:Hid (Own1 9 Value.string w w3 (stringsL (l.take (i+1))) v3):=by show Own1 _ _ _ _ _ _;rw [HSt.out];exact HO2.out.extended (e:=[yn,yv]) k1 k2 (by simpa using k3)
   obtain ⟨p3,c3,hv3⟩:∃p c,v3 = .slice p (acc.length+2) c:=(Rd.of_owns k1).shape
   subst hv3
   clear k1 k2 k3 HOb HLit HO2
   go_wp2_with fail
   go_round
   case rel=>exact ⟨i+1,by omega,by go_num,HO4.out⟩
   case measure=>simp [intOf];omega
  ·have hlt':¬(i:Int)<(l.length:Int):=by omega
   rw [List.take_of_length_le (by omega)] at HO
   obtain ⟨pv,cv,hvv⟩:=HO.out.shape
   subst hvv
   go_wp2_with fail
   go_ret
   exact ⟨_,rfl,HO.out⟩
end Go.Proofs.YtdcgbgecbeegmaaGreatDoor
end
section
set_option maxRecDepth 100000
namespace Go.Proofs.YtdcgbgecbeegmaaGreatDoor
open Go Go.RowKit Go.Shelf
attribute [local go_sem] Oper.semAt_some
theorem new_values (p:Option Addr) (m c:Nat) (w:World) (n:Nat) :
  CallsIn Fence.wide n Tryz.prog 133 #[.slice p m c] w fun e w'=>e = .returned (.func (.func 179) #[] #[.pointer (some ⟨w.heap.size,0,none⟩)])∧w'=w.alloc (.cells #[.slice p m c] 44):=by
 refine callsIn_wide.2 ?_
 go_enter Tryz.func133,Tryz.ntmps133
 go_wp2_with fail
 go_ret
 exact ⟨rfl,rfl⟩
def KeepB (b:Nat) (lv:Value) (ls:List ByteArray):Nat→Prop:=fun k=>k=b∨(ls≠[]∧lv.ownBlock=some k)
theorem keepB_lt {b:Nat} {lv:Value} {ls:List ByteArray} {w:World} (hb:b<w.heap.size) (hl:Rd w 1 lv ls.length (strs ls)):∀k,KeepB b lv ls k→k<w.heap.size:=fun k hk=>by
 rcases hk with e | ⟨h,e⟩
 ·omega
 ·exact hl.lt (fun e=>h (by have:=congrArg List.length e;rw [strs_length] at this;exact List.eq_nil_of_length_eq_zero this)) k e
set_option maxHeartbeats 1000000 in
theorem values_gives (n:Nat) (hn:1≤n) (b:Nat) (lv:Value) (ls:List ByteArray) (w:World) (hc:w.cell? ⟨b,0,none⟩=some lv) (hl:Rd w 1 lv ls.length (strs ls)) :
  SeqStopsK Fence.wide n Tryz.prog 179 #[.pointer (some ⟨b,0,none⟩)] (fun x:ByteArray=>#[.string x]) (KeepAt (KeepB b lv ls)) (fun ys=>ys=ls) (fun _=>True) ls.length w:=by
 intro l J Jx W hW hJ hJx hY h0
 have hb:b<w.heap.size:=World.block_lt_of_cell? w _ hc
 have HK0:Hid (KeepAt (KeepB b lv ls) w W):=fun k hk=>hW.block k (keepB_lt hb hl k hk)
 have HC:=Lib.hid hc;have HL:=Lib.hid hl
 have HY:=Lib.hid hY
 have hmax:(ls.length:Int)≤9223372036854775807:=by have:=hl.le;unfold maxLen at this;omega
 clear hc hY
 obtain ⟨p,c,hv⟩:=hl.shape
 subst hv
 clear hl
 obtain ⟨K,hK⟩:∃K:Nat→Prop,KeepB b (.slice p ls.length c) ls=K:=⟨_,rfl⟩
 have HKb:Hid (K b):=by rw [← hK];exact Or.inl rfl
 have HKv:Hid (ls≠[]→∀k,(Value.slice p ls.length c).ownBlock=some k→K k):=by rw [← hK];exact fun h k hk=>Or.inr ⟨h,hk⟩
 rw [hK] at HK0 HY
 clear hK
 have cb:=(HK0.out.cell HKb.out 0).trans HC.out
 refine callsIn_of_wp Tryz.func179 rfl trivial ?_ rfl
 simp only [Tryz.ntmps179,List.size_toArray,List.length_cons,List.length_nil,Nat.reduceAdd,Nat.reduceSub,Array.replicate_succ,Array.replicate_zero,List.push_toArray,List.append_toArray,List.nil_append,List.cons_append]
 gi_wp2
 clear cb
 gi_loopw [7] (fun iv wr=>∃(i:Nat),i≤ls.length∧iv = .int .i64 (i:Int)∧Hid (J (ls.take i) wr∧KeepAt K w wr)) (fun iv _=>ls.length-(intOf iv).toNat)
 case atStart=>exact ⟨0,Nat.zero_le _,rfl,by simpa using h0,HK0.out⟩
 case round=>
  obtain ⟨i,hi,rfl,HI⟩:=hrel
  by_cases h:i<ls.length
  ·have hlt:(i:Int)<(ls.length:Int):=by omega
   have hne:ls≠[]:=fun e=>by rw [e] at h;simp at h
   have HR:=Lib.hid (HI.out.2.rd HL.out (HKv.out hne))
   obtain ⟨b0,off,c',e,_,_,hcl⟩:=HR.out.at (fun e=>hne (by have:=congrArg List.length e;rw [strs_length] at this;exact List.eq_nil_of_length_eq_zero this))
   simp only [Value.slice.injEq] at e
   obtain ⟨rfl,_,rfl⟩:=e
   have c1:=hcl i (.string ls[i]) (strs_get ls i h)
   have HLi:Hid (ls.take (i+1)=ls.take i++[ls[i]]):=by show _=_;rw [List.take_add_one,List.getElem?_eq_getElem h];rfl
   generalize ls[i]=t at *
   clear hcl HR
   obtain ⟨fn,tmps,assign,body,hyl,hR⟩:=HY.out (ls.take i) t wr HI.out.1 (by rw [List.length_take];omega)
   have hRH:=Lib.hid hR
   clear hR hne
   gi_wp2
   refine hRH.out.mono ?_
   rintro e W3 (⟨rfl,hJ3,hk3⟩ | ⟨rfl,hJx3⟩)
   ·have HI3:Hid (J (ls.take (i+1)) W3∧KeepAt K w W3):=⟨by rw [HLi.out];exact hJ3,keepAt_t HI.out.2 hk3⟩
    clear hJ3 hk3 c1
    gi_wp2
    go_roundw
    case rel=>exact ⟨i+1,by omega,by go_num,HI3.out⟩
    case measure=>simp [intOf];omega
   ·gi_wp2
    refine bodyPost_ret (results_none rfl _ _ _) rfl ?_
    exact ⟨⟨_,rfl⟩,.inr ⟨_,trivial,hJx3⟩⟩
  ·have hlt:¬(i:Int)<(ls.length:Int):=by omega
   have HE:Hid (ls.take i=ls):=List.take_of_length_le (by omega)
   gi_wp2
   go_end0
   refine ⟨⟨_,rfl⟩,.inl ?_⟩
   have:=HI.out.1
   rw [HE.out] at this
   exact this
end Go.Proofs.YtdcgbgecbeegmaaGreatDoor
end
section
namespace Go.Proofs.YtdcgbgecbeegmaaGreatDoor
open Go Go.RowKit Go.Lib
def atOr (t:List ByteArray) (s:ByteArray) (j:Nat):ByteArray:=(t[j]?).getD s
def posS (t:List ByteArray) (s:ByteArray):Nat:=t.findIdx (fun a=>!ltS a s)
theorem posS_le (t:List ByteArray) (s:ByteArray):posS t s≤t.length:=List.findIdx_le_length
theorem posS_low {t:List ByteArray} {s:ByteArray} (j:Nat) (h:j<posS t s):ltS (atOr t s j) s=true:=by
 have hl:=posS_le t s
 rw [atOr,List.getElem?_eq_getElem (by omega),Option.getD_some]
 have:=List.not_of_lt_findIdx h
 simpa using this
theorem posS_high {t:List ByteArray} (ha:AscB ltS t) {s:ByteArray} (j:Nat) (h:posS t s≤j):ltS (atOr t s j) s=false:=by
 by_cases hj:j<t.length
 ·rw [atOr,List.getElem?_eq_getElem hj,Option.getD_some]
  have hk:posS t s<t.length:=by omega
  have h1:ltS t[posS t s] s=false:=by
   have h0:(!ltS t[posS t s] s)=true:=List.findIdx_getElem (w:=hk)
   simpa using h0
  rcases Nat.lt_or_eq_of_le h with e | e
  ·have h2:=ascB_get ha e hj
   rcases Bool.eq_false_or_eq_true (ltS t[j] s) with f | f
   ·rw [ltS_ok.tr _ _ _ h2 f] at h1;cases h1
   ·exact f
  ·simp only [← e];exact h1
 ·rw [atOr,List.getElem?_eq_none (by omega)]
  exact ltS_ok.irr s
end Go.Proofs.YtdcgbgecbeegmaaGreatDoor
end
section
namespace Go.Proofs.YtdcgbgecbeegmaaGreatDoor
open Go Go.RowKit Go.Lib Go.Sort
def kOf (a:ByteArray):List UInt8:=a.data.toList
def ofK (l:List UInt8):ByteArray:=⟨l.toArray⟩
theorem ofK_kOf (a:ByteArray):ofK (kOf a)=a:=by cases a;simp [ofK,kOf]
theorem kOf_ofK (l:List UInt8):kOf (ofK l)=l:=by simp [ofK,kOf]
theorem ltS_ofK (x y:List UInt8):ltS (ofK x) (ofK y)=bLt x y:=by
 have h:∀l:List UInt8,(ofK l).toList=l:=fun l=>by rw [Lib.toList_data];simp [ofK]
 rw [ltS,h,h];rfl
theorem bLt_ok:LtOk bLt:=⟨⟨bLt_irr,bLt_tr⟩,bLt_tot⟩
theorem enc_kOf (l:List ByteArray):(l.map kOf).map encStr=strs l:=by
 rw [List.map_map,strs]
 refine List.map_congr_left fun a _=>?_
 cases a
 simp [encStr,kOf]
theorem enc_ofK (l:List (List UInt8)):l.map encStr=strs (l.map ofK):=by
 rw [strs,List.map_map];rfl
section
variable {α:Type} [Inhabited α] [DecidableEq α] {lt:α→α→Bool}
theorem compact_mem (d:Array α) (m:Nat) (x:α):x∈compactUpTo d m↔∃j,j<m∧d[j]! = x:=by
 induction m with
 | zero=>simp [compactUpTo]
 | succ m ih=>
  rw [compactUpTo_succ,List.mem_append,ih]
  constructor
  ·rintro (⟨j,h1,h2⟩ | h)
   ·exact ⟨j,by omega,h2⟩
   ·by_cases hk:keeps d m=true
    ·rw [if_pos hk] at h
     exact ⟨m,by omega,(List.mem_singleton.1 h).symm⟩
    ·rw [if_neg hk] at h;cases h
  ·rintro ⟨j,h1,h2⟩
   by_cases hj:j<m
   ·exact Or.inl ⟨j,hj,h2⟩
   ·obtain rfl:j=m:=by omega
    by_cases hk:keeps d j=true
    ·exact Or.inr (by rw [if_pos hk,h2];exact List.mem_singleton.2 rfl)
    ·have:¬(j=0∨d[j]!≠d[j-1]!):=by simpa [keeps] using hk
     exact Or.inl ⟨j-1,by omega,by rw [← h2];exact (Decidable.not_not.1 (fun e=>this (Or.inr e))).symm⟩
theorem compact_asc (h:LtOk lt) (d:Array α) (hs:∀i j,i<j→j<d.size→lt d[j]! d[i]! = false) (m:Nat) (hm:m≤d.size):AscB lt (compactUpTo d m):=by
 induction m with
 | zero=>exact List.Pairwise.nil
 | succ m ih=>
  rw [compactUpTo_succ]
  refine List.pairwise_append.2 ⟨ih (by omega),?_,fun a ha b hb=>?_⟩
  ·split
   ·exact List.pairwise_singleton _ _
   ·exact List.Pairwise.nil
  ·by_cases hk:keeps d m=true
   ·rw [if_pos hk] at hb
    obtain rfl:=List.mem_singleton.1 hb
    obtain ⟨i,hi,rfl⟩:=(compact_mem d m a).1 ha
    have hne:d[m]!≠d[m-1]!:=by
     have:m=0∨d[m]!≠d[m-1]!:=by simpa [keeps] using hk
     rcases this with e | e
     ·omega
     ·exact e
    have h1:lt d[m-1]! d[m]! = true:=by
     rcases Bool.eq_false_or_eq_true (lt d[m-1]! d[m]!) with e | e
     ·exact e
     ·exact absurd (h.tot _ _ (hs (m-1) m (by omega) (by omega)) e) hne
    by_cases he:i=m-1
    ·rw [he];exact h1
    ·exact h.le_tr (hs i (m-1) (by omega) (by omega)) h1
   ·rw [if_neg hk] at hb;cases hb
end
def srt (l:List ByteArray):List (List UInt8):=(l.map kOf).mergeSort (fun x y=>decide (x≤y))
theorem srt_perm (l:List ByteArray):(srt l).Perm (l.map kOf):=List.mergeSort_perm _ _
theorem srt_length (l:List ByteArray):(srt l).length=l.length:=by rw [(srt_perm l).length_eq,List.length_map]
theorem le_bLt (x y:List UInt8):decide (x≤y) = !bLt y x:=by
 rw [bLt,bytesLess_eq]
 by_cases h:y<x
 ·rw [decide_eq_true h,decide_eq_false (List.not_le.2 h)];rfl
 ·rw [decide_eq_false h,decide_eq_true (List.not_lt.1 h)];rfl
theorem srt_sorted (l:List ByteArray):(srt l).Pairwise (fun x y=>bLt y x=false):=by
 have h:=List.pairwise_mergeSort (le:=fun x y:List UInt8=>decide (x≤y)) (fun a b c h1 h2=>by
  rw [le_bLt,Bool.not_eq_true'] at *
  rcases Bool.eq_false_or_eq_true (bLt c a) with e | e
  ·exact absurd (bLt_ok.le_tr h2 e) (by rw [h1];decide)
  ·exact e) (fun a b=>by
  rw [le_bLt,le_bLt]
  rcases Bool.eq_false_or_eq_true (bLt b a) with e | e
  ·rw [bLt_ok.asy e];simp
  ·rw [e];rfl) (l.map kOf)
 exact h.imp (fun {a b} h=>by rw [le_bLt,Bool.not_eq_true'] at h;exact h)
theorem compact_tab (l:List ByteArray):(compactUpTo (srt l).toArray l.length).map ofK=tabS l:=by
 have hget:∀j (h:j<(srt l).length),(srt l).toArray[j]! = (srt l)[j]:=fun j h=>by rw [getElem!_pos _ j (by simpa using h)];simp
 refine ascB_ext ltS_ok.toLtPre _ _ ?_ (tabB_asc ltS_ok l) (fun x=>?_)
 ·refine List.pairwise_map.2 ((compact_asc bLt_ok (srt l).toArray (fun i j hij hj=>?_) l.length (by simp [srt_length])).imp (fun {a b} h=>by rw [ltS_ofK];exact h))
  have hj':j<(srt l).length:=by simpa using hj
  rw [hget j hj',hget i (by omega)]
  exact List.pairwise_iff_getElem.1 (srt_sorted l) i j (by omega) hj' hij
 ·rw [tabS,tabB_mem ltS_ok,List.mem_map]
  constructor
  ·rintro ⟨k,hk,rfl⟩
   obtain ⟨j,hj,rfl⟩:=(compact_mem _ _ _).1 hk
   have hj':j<(srt l).length:=by rw [srt_length];exact hj
   rw [hget j hj']
   obtain ⟨a,ha,he⟩:=List.mem_map.1 ((srt_perm l).mem_iff.1 (List.getElem_mem hj'))
   rw [← he,ofK_kOf]
   exact ha
  ·intro hx
   have h1:kOf x∈srt l:=(srt_perm l).mem_iff.2 (List.mem_map.2 ⟨x,hx,rfl⟩)
   obtain ⟨j,hj,he⟩:=List.getElem_of_mem h1
   refine ⟨kOf x,(compact_mem _ _ _).2 ⟨j,by rw [← srt_length];exact hj,by rw [hget j hj];exact he⟩,ofK_kOf x⟩
theorem compact_len (ts:List (List UInt8)) (m:Nat):(compactUpTo ts.toArray m).length≤m:=by
 unfold compactUpTo
 rw [List.length_map]
 exact Nat.le_trans (List.length_filter_le _ _) (by simp)
end Go.Proofs.YtdcgbgecbeegmaaGreatDoor
end
section
set_option maxRecDepth 20000
namespace Go.Proofs.YtdcgbgecbeegmaaGreatDoor
open Go Go.RowKit
def renSortS:Go.Shelf.Ren:=⟨fun | 6=>178 | 8=>122 | 9=>223 | 19=>168 | 20=>169 | 21=>260 | 22=>261 | 23=>262 | 24=>263 | 25=>264 | 26=>265 | 27=>197 | 28=>266 | 29=>267 | 31=>218 | 32=>219 | 36=>289 | 37=>290 | 38=>291 | 39=>243 | 41=>300 | n=>n,fun | 0=>0 | 3=>3 | 4=>4 | 5=>5 | 9=>9 | 26=>44 | 27=>44 | 29=>9 | 32=>177 | 35=>223 | 36=>224 | 41=>158 | 44=>139 | 46=>81 | 53=>267 | 57=>271 | 63=>321 | 64=>210 | n=>n,fun n=>n⟩
theorem laysSortS:Go.Proofs.SlLaysM.n6 Tryz.prog renSortS:={ mixed:=by kernel_rfl,f6:=⟨ "slices.Sort[[]string,string]",by decide,Tryz.func178.trans (congrArg some (by kernel_rfl))⟩,f8:=Tryz.func122.trans (congrArg some (by kernel_rfl)),f9:=⟨ "slices.pdqsortOrdered[string]",by decide,Tryz.func223.trans (congrArg some (by kernel_rfl))⟩,f19:=Tryz.func168.trans (congrArg some (by kernel_rfl)),f20:=Tryz.func169.trans (congrArg some (by kernel_rfl)),f21:=⟨ "slices.insertionSortOrdered[string]",by decide,Tryz.func260.trans (congrArg some (by kernel_rfl))⟩,f22:=⟨ "slices.heapSortOrdered[string]",by decide,Tryz.func261.trans (congrArg some (by kernel_rfl))⟩,f23:=⟨ "slices.breakPatternsOrdered[string]",by decide,Tryz.func262.trans (congrArg some (by kernel_rfl))⟩,f24:=⟨ "slices.choosePivotOrdered[string]",by decide,Tryz.func263.trans (congrArg some (by kernel_rfl))⟩,f25:=⟨ "slices.reverseRangeOrdered[string]",by decide,Tryz.func264.trans (congrArg some (by kernel_rfl))⟩,f26:=⟨ "slices.partialInsertionSortOrdered[string]",by decide,Tryz.func265.trans (congrArg some (by kernel_rfl))⟩,f27:=⟨ "cmp.Less[string]",by decide,Tryz.func197.trans (congrArg some (by kernel_rfl))⟩,f28:=⟨ "slices.partitionEqualOrdered[string]",by decide,Tryz.func266.trans (congrArg some (by kernel_rfl))⟩,f29:=⟨ "slices.partitionOrdered[string]",by decide,Tryz.func267.trans (congrArg some (by kernel_rfl))⟩,f31:=Tryz.func218.trans (congrArg some (by kernel_rfl)),f32:=Tryz.func219.trans (congrArg some (by kernel_rfl)),f36:=⟨ "slices.siftDownOrdered[string]",by decide,Tryz.func289.trans (congrArg some (by kernel_rfl))⟩,f37:=⟨ "slices.medianAdjacentOrdered[string]",by decide,Tryz.func290.trans (congrArg some (by kernel_rfl))⟩,f38:=⟨ "slices.medianOrdered[string]",by decide,Tryz.func291.trans (congrArg some (by kernel_rfl))⟩,f39:=⟨ "cmp.isNaN[string]",by decide,Tryz.func243.trans (congrArg some (by kernel_rfl))⟩,f41:=⟨ "slices.order2Ordered[string]",by decide,Tryz.func300.trans (congrArg some (by kernel_rfl))⟩,t0:=Tryz.underlying0,a0:=Tryz.isAgg0,z0:=Tryz.sizeOf0,v0:=Tryz.zeroValue0,t3:=Tryz.underlying3,a3:=Tryz.isAgg3,z3:=Tryz.sizeOf3,v3:=Tryz.zeroValue3,t4:=Tryz.underlying4,a4:=Tryz.isAgg4,z4:=Tryz.sizeOf4,v4:=Tryz.zeroValue4,t5:=Tryz.underlying5,a5:=Tryz.isAgg5,z5:=Tryz.sizeOf5,v5:=Tryz.zeroValue5,t9:=Tryz.underlying9,a9:=Tryz.isAgg9,z9:=Tryz.sizeOf9,v9:=Tryz.zeroValue9,t26:=Tryz.underlying44,a26:=Tryz.isAgg44,z26:=Tryz.sizeOf44,v26:=Tryz.zeroValue44,t27:=Tryz.underlying44,a27:=Tryz.isAgg44,z27:=Tryz.sizeOf44,v27:=Tryz.zeroValue44,t29:=Tryz.underlying9,a29:=Tryz.isAgg9,z29:=Tryz.sizeOf9,v29:=Tryz.zeroValue9,t32:=Tryz.underlying177,a32:=Tryz.isAgg177,z32:=Tryz.sizeOf177,v32:=Tryz.zeroValue177,t35:=Tryz.underlying223,a35:=Tryz.isAgg223,z35:=Tryz.sizeOf223,v35:=Tryz.zeroValue223,t36:=Tryz.underlying224,a36:=Tryz.isAgg224,z36:=Tryz.sizeOf224,v36:=Tryz.zeroValue224,t41:=Tryz.underlying158,a41:=Tryz.isAgg158,z41:=Tryz.sizeOf158,v41:=Tryz.zeroValue158,t44:=Tryz.underlying139,a44:=Tryz.isAgg139,z44:=Tryz.sizeOf139,v44:=Tryz.zeroValue139,t46:=Tryz.underlying81,a46:=Tryz.isAgg81,z46:=Tryz.sizeOf81,v46:=Tryz.zeroValue81,t53:=Tryz.underlying267,a53:=Tryz.isAgg267,z53:=Tryz.sizeOf267,v53:=Tryz.zeroValue267,t57:=Tryz.underlying271,a57:=Tryz.isAgg271,z57:=Tryz.sizeOf271,v57:=Tryz.zeroValue271,t63:=Tryz.underlying321,a63:=Tryz.isAgg321,z63:=Tryz.sizeOf321,v63:=Tryz.zeroValue321,t64:=Tryz.underlying210,a64:=Tryz.isAgg210,z64:=Tryz.sizeOf210,v64:=Tryz.zeroValue210 }
def renCompactS:Go.Shelf.Ren:=⟨fun | 43=>131 | n=>n,fun | 0=>0 | 3=>3 | 4=>4 | 22=>44 | 23=>9 | n=>n,fun n=>n⟩
theorem laysCompactS:Go.Proofs.SlLaysE.n43 Tryz.prog renCompactS:={ mixed:=by kernel_rfl,f43:=⟨ "slices.Compact[[]string,string]",by decide,Tryz.func131.trans (congrArg some (by kernel_rfl))⟩,t0:=Tryz.underlying0,a0:=Tryz.isAgg0,z0:=Tryz.sizeOf0,v0:=Tryz.zeroValue0,t3:=Tryz.underlying3,a3:=Tryz.isAgg3,z3:=Tryz.sizeOf3,v3:=Tryz.zeroValue3,t4:=Tryz.underlying4,a4:=Tryz.isAgg4,z4:=Tryz.sizeOf4,v4:=Tryz.zeroValue4,t22:=Tryz.underlying44,a22:=Tryz.isAgg44,z22:=Tryz.sizeOf44,v22:=Tryz.zeroValue44,a23:=Tryz.isAgg9,z23:=Tryz.sizeOf9 }
theorem srt_row (w:World) (base:Nat) (v:Value) (l:List ByteArray) (h:w.ownsRow base 9 1 v l.length (strs l)) (hn:l.length≤1000000) :
  Calls Tryz.prog 178 #[v] w fun e w'=>e = .returned (.tuple #[])∧w'.ownsRow base 9 1 v l.length ((srt l).map encStr)∧Mods (fun k=>v.ownBlock=some k) w w':=by
 have hl:(l.map kOf).length=l.length:=List.length_map ..
 rcases h.2 with ⟨rfl,h0⟩ | ⟨g,cap,cur,rfl,hbase,hgb,r1,r2,r3,r4⟩
 ·refine (AnyM.slices_Sort_string_none laysSortS none 0 w).mono ?_
  rintro e w' ⟨rfl,rfl⟩
  obtain rfl:l=[]:=List.eq_nil_of_length_eq_zero h0
  exact ⟨rfl,by simpa [srt,strs] using h,Mods.refl _ _⟩
 ·have hH:Go.Sort.Holds encStr w g 0 (l.map kOf).toArray:=holds_of_block hgb (by rw [hl,enc_kOf,← r4,Nat.mul_one])
  have hC:=AnyM.slices_Sort_string laysSortS g 0 cap (l.map kOf) w hH (Array.getElem?_eq_some_iff.1 hgb).1 (by omega)
  rw [hl] at hC
  refine hC.mono ?_
  rintro e w' ⟨rfl,n,os,rfl⟩
  have hs:(srt l).length=(l.map kOf).length:=by rw [srt_length,hl]
  have hrow:=ownsRow_sorted (n:=n) (os:=os) (ts:=srt l) (ss:=l.map kOf) hs hbase hgb (by rw [hl];exact r1) r2 r3
  rw [hl] at hrow
  exact ⟨rfl,hrow,(Mods.of_grown (grownBy_sorted _)).mono (fun k _ e=>e)⟩
theorem owns_take {w:World} {base:Nat} {e:TypeId} {n c m:Nat} {p:Option Addr} {xs:List Value} (h:w.ownsRow base e 1 (.slice p n c) n xs) (hm:m≤n):w.ownsRow base e 1 (.slice p m c) m (xs.take m):=by
 have hx:=h.1
 refine ⟨by rw [List.length_take];omega,?_⟩
 rcases h.2 with ⟨e,h0⟩ | ⟨g,cap,cur,e,hb,hg,hn,hmx,hs,ht⟩
 ·simp only [Value.slice.injEq] at e
  obtain ⟨rfl,_,rfl⟩:=e
  obtain rfl:m=0:=by omega
  exact Or.inl ⟨rfl,rfl⟩
 ·simp only [Value.slice.injEq] at e
  obtain ⟨rfl,_,rfl⟩:=e
  refine Or.inr ⟨g,c,cur,rfl,hb,hg,by omega,hmx,hs,?_⟩
  rw [← ht,List.take_take,Nat.mul_one,Nat.mul_one,Nat.min_eq_left hm]
theorem eql_k (T:TypeId):EqlAt Tryz.prog T encStr (fun x y=>decide (x=y)):=by
 have h:=EqlAt.string Tryz.prog T
 refine ⟨fun x y w=>?_,fun op a b x y w=>h.2 op a b _ _ w⟩
 have hb:((ofK x).toList == (ofK y).toList)=decide (x=y):=by rw [Lib.toList_data,Lib.toList_data];show (kOf (ofK x) == kOf (ofK y))=_;rw [kOf_ofK,kOf_ofK];by_cases e:x=y<;>simp [e]
 have h2:=h.1 (ofK x) (ofK y) w
 simp only [hb] at h2
 exact h2
theorem neq_k (T:TypeId):NeqAt Tryz.prog T encStr (fun x y=>decide (x=y)):=by
 have h:=NeqAt.string Tryz.prog T
 refine ⟨fun x y w=>?_,fun op a b x y w=>h.2 op a b _ _ w⟩
 have hb:((ofK x).toList == (ofK y).toList)=decide (x=y):=by rw [Lib.toList_data,Lib.toList_data];show (kOf (ofK x) == kOf (ofK y))=_;rw [kOf_ofK,kOf_ofK];by_cases e:x=y<;>simp [e]
 have h2:=h.1 (ofK x) (ofK y) w
 simp only [hb] at h2
 exact h2
theorem compact_nil (w:World):Calls Tryz.prog 131 #[.slice none 0 0] w fun e w'=>e = .returned (.slice none 0 0)∧w'=w:=by
 go_enter Tryz.func131,Tryz.ntmps131
 go_wp2_with fail
 go_ret
 exact ⟨rfl,rfl⟩
theorem compact_row (w:World) (base:Nat) (v:Value) (ts:List (List UInt8)) (h:w.ownsRow base 9 1 v ts.length (ts.map encStr)) (hn:ts.length≤1000000) :
  Calls Tryz.prog 131 #[v] w fun e w'=>∃r,e = .returned r∧w'.ownsRow base 9 1 r (Lib.compactUpTo ts.toArray ts.length).length ((Lib.compactUpTo ts.toArray ts.length).map encStr)∧Mods (fun k=>v.ownBlock=some k) w w':=by
 rcases h.2 with ⟨rfl,h0⟩ | ⟨g,cap,cur,rfl,hbase,hgb,r1,r2,r3,r4⟩
 ·refine (compact_nil w).mono ?_
  rintro e w' ⟨rfl,rfl⟩
  obtain rfl:ts=[]:=List.eq_nil_of_length_eq_zero h0
  exact ⟨_,rfl,by simpa [Lib.compactUpTo] using h,Mods.refl _ _⟩
 ·have hH:Go.Sort.Holds encStr w g 0 ts.toArray:=holds_of_block hgb (by rw [← r4,Nat.mul_one])
  obtain ⟨C,hC⟩:∃C,Lib.compactUpTo ts.toArray ts.length=C:=⟨_,rfl⟩
  have hCl:C.length≤ts.length:=by rw [← hC];exact compact_len _ _
  have h1:=AnyE.slices_Compact laysCompactS encStr (fun _=>rfl) (eql_k _) (neq_k _) [] Tryz.zeroValue9 g 0 cap ts.toArray w hH (by simp;omega) (by simpa using r1)
  simp only [List.size_toArray] at h1
  rw [hC] at h1 ⊢
  refine h1.mono ?_
  rintro e w' ⟨rfl,q,rfl⟩
  have hs:(C++List.replicate (ts.length-C.length) []).length=ts.length:=by simp;omega
  have hrow:=ownsRow_sorted (n:=q) (os:=#[]) (ts:=C++List.replicate (ts.length-C.length) []) (ss:=ts) hs hbase hgb r1 r2 r3
  rw [Go.Sort.grow_empty] at hrow
  have h2:=owns_take hrow hCl
  rw [List.map_append,List.take_left' (by simp)] at h2
  have hg:=grownBy_sorted (w:=w) (g:=g) (n:=q) (os:=#[]) (C++List.replicate (ts.length-C.length) []).toArray
  rw [Go.Sort.grow_empty] at hg
  exact ⟨_,rfl,h2,(Mods.of_grown hg).mono (fun k _ e=>e)⟩
end Go.Proofs.YtdcgbgecbeegmaaGreatDoor
end
section
set_option maxRecDepth 100000
namespace Go.Proofs.YtdcgbgecbeegmaaGreatDoor
open Go Go.RowKit Go.Shelf
attribute [local go_sem] Oper.semAt_some
def ColS (g:Nat) (w:World) (pre:List ByteArray) (W:World):Prop:=
 ∃v',Blk W g [v']∧W.ownsRow g 9 1 v' pre.length (strs pre)∧v'.ownBlock≠some g∧Below g w W
theorem colS_own {B g:Nat} {w:World} (hB:g≤B):OwnFrom B (fun (pre:List ByteArray) W=>ColS g w pre W):=by
 rintro s W W' row ⟨v',h1,h2,h3,h4⟩ hg hr
 have hr':∀r,row=some r→∃o:Obj,W.heap[r]? = some o∧o.isCells=false:=fun r e=>(hr r e).2
 exact ⟨v',own_blk g (fun _:Unit=>[v']) () W W' row h1 hg hr',owns_abides h2 hg hr',h3,h4.grown hg (by have:=h1.lt;omega) (fun j e=>Nat.le_trans hB (hr j e).1)⟩
set_option maxHeartbeats 2000000 in
theorem appendSeq_strs (b:Nat) (lv:Value) (l:List ByteArray) (w:World) (hc:w.cell? ⟨b,0,none⟩=some lv) (hl:Rd w 1 lv l.length (strs l)) (hn:l.length≤1000000) :
  Calls Tryz.prog 222 #[.slice none 0 0,.func (.func 179) #[] #[.pointer (some ⟨b,0,none⟩)]] w fun e w'=>∃r,e = .returned r∧w'.ownsRow w.heap.size 9 1 r l.length (strs l)∧Below w.heap.size w w':=by
 have hb:b<w.heap.size:=World.block_lt_of_cell? w _ hc
 have HKW:=Lib.hid (keepB_lt hb hl)
 have HC:=Lib.hid hc;have HL:=Lib.hid hl;have HN:=Lib.hid hn
 clear hc hl hn
 refine (callsIn_wide (n:=9)).1 ?_
 refine callsIn_of_wp_marks Tryz.func222 rfl trivial ?_ rfl
 simp only [Tryz.ntmps222,List.size_toArray,List.length_cons,List.length_nil,Nat.reduceAdd,Nat.reduceSub,Array.replicate_succ,Array.replicate_zero,List.push_toArray,List.append_toArray,List.nil_append,List.cons_append]
 gi_wp2
 obtain ⟨W0,hW0⟩:∃W0,w.alloc (.cells #[.slice none 0 0] 44)=W0:=⟨_,rfl⟩
 have hs0:W0.heap.size=w.heap.size+1:=by rw [← hW0];simp
 have hB0:Below w.heap.size w W0:=by rw [← hW0];exact (Below.refl _ w).alloc (Nat.le_refl _) _
 have hX0:Blk W0 w.heap.size [.slice none 0 0]:=by rw [← hW0];exact Blk.new w _ _
 rw [hW0]
 clear hW0
 have HI0:Hid (ColS w.heap.size w [] W0):=⟨_,hX0,World.ownsRow_nil _ _ _ _,fun e=>by simp [Value.ownBlock] at e,hB0⟩
 have HGV:=Lib.hid (values_gives 8 (by omega) b lv l W0 ((hB0.cell hb).trans HC.out) (HL.out.below hB0))
 have HS0:=Lib.hid hs0
 clear hX0 hB0 hs0
 obtain ⟨K,hK⟩:∃K:Nat→Prop,KeepB b lv l=K:=⟨_,rfl⟩
 rw [hK] at HGV HKW
 clear hK
 refine wpIn_rangeFunc_ownG rfl (by omega) (gf:=179) (lb:=#[.pointer (some ⟨b,0,none⟩)]) rfl trivial (enters_of Tryz.func179 (by kernel_rfl) rfl)
  HGV.out (fun h k=>keepAt_t h k) (fun W l o o' h1 h2 h3 h4=>keepAt_b (w:=W0) (fun k hk=>by have:=HKW.out k hk;have:=HS0.out;omega) W l o o' h1 h2 h3 h4) (Below.refl _ _) (fun _=>rfl)
  (fun pre W=>ColS w.heap.size w pre W)
  (fun _ _ _=>False)
  (colS_own (by have:=HS0.out;omega))
  (fun _ _ _ _ _ hs _ _=>hs)
  HI0.out
  (fun x=>{ tmps:=#[.slice none 0 0,.func (.func 179) #[] #[.pointer (some ⟨b,0,none⟩)],.pointer (some ⟨w.heap.size,0,none⟩),undef,.slice none 0 0,.string x,.func (.func 179) #[] #[.pointer (some ⟨b,0,none⟩)],.string x,undef,undef,undef,undef,undef],defers:=[] })
  ?assign ?body ?done ?stop
 case assign=>
  intro l x W K hK
  simp only [List.zip_toArray,List.zip_cons_cons,List.zip_nil_right,List.foldl_toArray,List.foldl_cons,List.foldl_nil,List.setIfInBounds_toArray,List.set_cons_zero,List.set_cons_succ]
  gi_wp2
  exact hK
 case body=>
  rintro l' pre x W ⟨v',h1,h2,h4,h5⟩ hlen
  have hlm:pre.length≤1000000:=by have:=HN.out;omega
  have c0:W.cell? ⟨w.heap.size,0,none⟩=some v':=by rw [h1.cell];rfl
  have f0:=h1.free 0
  have HOw:Hid (W.ownsRow 0 9 1 v' pre.length (strs pre)):=owns_rebase h2 (fun _ _=>Nat.zero_le _)
  have HPre:Hid ((pre++[x]).length=pre.length+1∧strs (pre++[x])=strs pre++[.string x]):=⟨by simp,by rw [strs_append];rfl⟩
  obtain ⟨p1,c1,hv1⟩:=(Rd.of_owns h2).shape
  subst hv1
  have HB:Hid ((pre.length+1)*16≤140737488355328∧pre.length+1≤maxLen):=by show _∧_;unfold maxLen;omega
  have H1:=Lib.hid h1;have H2:=Lib.hid h2;have H4:=Lib.hid h4;have H5:=Lib.hid h5
  clear h1 h2 h4 h5 hlen
  generalize hpl:pre.length=pl at *
  clear hpl
  refine wpIn_block ?_
  refine wpIn_region_list ?_
  refine wpListIn_round not_letsOut_body _ _ _ (by simp) ?_
  go_wp2_with (at_builtin;refine wpList_push Tryz.elemStr W #[.string x] _ _ _ HOw.out rfl (by simp [Value.oneCell']) HB.out rfl _ _ rfl rfl rfl ?_)
  intro v2 w1 k1 k2 k3
  have b1:=k2.blk H1.out (fun e=>H4.out e)
  have c1':w1.cell? ⟨w.heap.size,0,none⟩=some (.slice p1 pl c1):=by rw [b1.cell];rfl
  have f1':=b1.free 0
  have hne:v2.ownBlock≠some w.heap.size:=fun e=>by
   rcases k3 _ e with e | e
   ·exact H4.out e
   ·have:=H1.out.lt;omega
  have hlo:∀k,v2.ownBlock=some k→w.heap.size≤k:=fun k hk=>by
   rcases k3 k hk with e | e
   ·exact (H2.out.lt k e).1
   ·have:=H1.out.lt;omega
  obtain ⟨p2,c2,hv2⟩:=(Rd.of_owns k1).shape
  subst hv2
  have HF:Hid (KeepsOthers W (w1.setCell ⟨w.heap.size,0,none⟩ (.slice p2 (pl+1) c2))∧KeepAt K W (w1.setCell ⟨w.heap.size,0,none⟩ (.slice p2 (pl+1) c2))∧ColS w.heap.size w (pre++[x]) (w1.setCell ⟨w.heap.size,0,none⟩ (.slice p2 (pl+1) c2))):=by
   have hs:Mods (fun k=>k=w.heap.size) w1 (w1.setCell ⟨w.heap.size,0,none⟩ (.slice p2 (pl+1) c2)):=Mods.set _ _ _ _ (fun _=>rfl)
   have hM:Mods (fun k=>k=w.heap.size∨(Value.slice p1 pl c1).ownBlock=some k) W (w1.setCell ⟨w.heap.size,0,none⟩ (.slice p2 (pl+1) c2)):=
    (k2.mono (fun _ _ e=>Or.inr e)).trans hs (fun _ _ e=>Or.inl e)
   have hlow:∀k,(k=w.heap.size∨(Value.slice p1 pl c1).ownBlock=some k)→w.heap.size≤k:=fun k e=>by
    rcases e with e | e
    ·omega
    ·exact (H2.out.lt k e).1
   refine ⟨KeepsOthers.of_mods hM (fun k o e ho=>?_),fun k hk=>hM.block k (by have:=HKW.out k hk;have:=H5.out.size;omega) (fun e=>by have:=HKW.out k hk;have:=hlow k e;omega),.slice p2 (pl+1) c2,?_,?_,hne,?_⟩
   ·rcases e with rfl | e
    ·obtain ⟨t,ht⟩:=H1.out
     rw [ht] at ho;cases ho;rfl
    ·exact owns_isCells H2.out k o e ho
   ·simpa using b1.set 0 (.slice p2 (pl+1) c2)
   ·rw [HPre.out.1,HPre.out.2]
    exact owns_rebase (hs.owns k1 (fun k hk e=>hne (by rw [hk,e]))) hlo
   ·exact H5.out.trans (hM.below (by have:=H1.out.lt;omega) (fun k hk e=>by have:=hlow k e;omega))
  clear k1 k2 k3 hne hlo b1 c0 f0
  go_wp2_with fail
  exact ⟨HF.out.1.from _,HF.out.2.1,HF.out.2.2⟩
 case done=>
  rintro D zs W hD rfl ⟨v',h1,h2,h4,h5⟩ hK
  have c0:W.cell? ⟨w.heap.size,0,none⟩=some v':=by rw [h1.cell];rfl
  obtain ⟨p1,c1,hv1⟩:=(Rd.of_owns h2).shape
  subst hv1
  have H2:=Lib.hid h2;have H5:=Lib.hid h5
  clear h1 h2 h4 h5 HGV
  gi_wp2
  refine ⟨by simp,.inl ⟨_,_,rfl,run_takeDeferred hK,?_⟩⟩
  refine ⟨_,results_tmp rfl _ _ _,_,rfl,?_,H5.out.trans (belowK_b (w:=w) (Nat.le_refl _) W D _ _ (by have:=HS0.out;omega) hK rfl rfl)⟩
  exact ownsRow_putObj H2.out (.deferred none) hK rfl
 case stop=>
  rintro D c pre W _ _ h _
  exact h.elim
theorem sorted_strs (b:Nat) (lv:Value) (l:List ByteArray) (w:World) (hc:w.cell? ⟨b,0,none⟩=some lv) (hl:Rd w 1 lv l.length (strs l)) (hn:l.length≤1000000) :
  Calls Tryz.prog 132 #[.func (.func 179) #[] #[.pointer (some ⟨b,0,none⟩)]] w fun e w'=>∃r,e = .returned r∧w'.ownsRow w.heap.size 9 1 r l.length ((srt l).map encStr)∧Below w.heap.size w w':=by
 have HA:=Lib.hid (appendSeq_strs b lv l w hc hl hn)
 have HN:=Lib.hid hn
 clear hc hl hn
 go_enter Tryz.func132,Tryz.ntmps132
 go_wp2_with fail
 go_enter Tryz.func177,Tryz.ntmps177
 go_wp2_with fail
 refine HA.out.mono ?_
 rintro e w1 ⟨r,rfl,hO,hB⟩
 obtain ⟨p1,c1,hv⟩:=(Rd.of_owns hO).shape
 subst hv
 have HS:=Lib.hid (srt_row w1 _ _ l hO HN.out)
 have HLo:Hid (∀k,(Value.slice p1 l.length c1).ownBlock=some k→w.heap.size≤k):=fun k hk=>(hO.lt k hk).1
 have HB:=Lib.hid hB
 clear hO hB HA
 go_wp2_with fail
 go_wp2_with fail
 refine HS.out.mono ?_
 rintro e w2 ⟨rfl,hO,hM⟩
 have HO:=Lib.hid hO
 have HB2:Hid (Below w.heap.size w w2):=HB.out.trans (hM.below HB.out.size (fun k hk e=>by have:=HLo.out k e;omega))
 clear hO hM HS
 go_wp2_with fail
 go_ret
 exact ⟨_,rfl,HO.out,HB2.out⟩
theorem table_met (lv:Value) (l:List ByteArray) (w:World) (hl:Rd w 1 lv l.length (strs l)) (hn:l.length≤1000000) :
  Calls Tryz.prog 95 #[lv] w fun e w'=>∃r,e = .returned r∧GotL w (tabS l) r w':=by
 obtain ⟨p,c,hv⟩:=hl.shape
 subst hv
 have HL:=Lib.hid hl;have HN:=Lib.hid hn
 clear hl hn
 go_enter Tryz.func95,Tryz.ntmps95
 go_wp2_with fail
 refine (callsIn_wide.1 (new_values p _ c w 9)).mono ?_
 rintro e w1 ⟨rfl,rfl⟩
 have hB0:Below w.heap.size w (w.alloc (.cells #[.slice p l.length c] 44)):=(Below.refl _ w).alloc (Nat.le_refl _) _
 have hx0:(w.alloc (.cells #[.slice p l.length c] 44)).cell? ⟨w.heap.size,0,none⟩=some (.slice p l.length c):=by rw [(Blk.new w #[.slice p l.length c] 44).cell];rfl
 have HA:=Lib.hid (sorted_strs w.heap.size _ l _ hx0 (HL.out.below hB0) HN.out)
 have HB0:=Lib.hid hB0
 clear hx0 hB0
 generalize w.alloc (.cells #[.slice p l.length c] 44)=w1 at *
 go_wp2_with fail
 refine HA.out.mono ?_
 rintro e w2 ⟨r,rfl,hO,hB⟩
 have hlen:l.length=(srt l).length:=(srt_length l).symm
 obtain ⟨pr,cr,hv⟩:=(Rd.of_owns hO).shape
 subst hv
 have hO2:w2.ownsRow w.heap.size 9 1 (.slice pr l.length cr) (srt l).length ((srt l).map encStr):=by rw [← hlen];exact owns_rebase hO (fun k hk=>Nat.le_trans HB0.out.size (hO.lt k hk).1)
 have HC:=Lib.hid (compact_row w2 _ _ (srt l) hO2 (by rw [← hlen];exact HN.out))
 have HLo:Hid (∀k,(Value.slice pr l.length cr).ownBlock=some k→w.heap.size≤k):=fun k hk=>(hO2.lt k hk).1
 have HB2:Hid (Below w.heap.size w w2):=HB0.out.trans (hB.mono HB0.out.size)
 clear hO hO2 hB HA hlen
 go_wp2_with fail
 refine HC.out.mono ?_
 rintro e w3 ⟨r,rfl,hO,hM⟩
 rw [enc_ofK,srt_length,compact_tab] at hO
 have hln:(Lib.compactUpTo (srt l).toArray l.length).length=(tabS l).length:=by rw [← compact_tab l,List.length_map]
 rw [hln] at hO
 obtain ⟨pc,cc,hv⟩:=(Rd.of_owns hO).shape
 subst hv
 have HO:=Lib.hid hO
 have HB3:Hid (Below w.heap.size w w3):=HB2.out.trans (hM.below HB2.out.size (fun k hk e=>by have:=HLo.out k e;omega))
 clear hO hM HC hln
 go_wp2_with fail
 go_ret
 exact ⟨_,rfl,Rd.of_owns HO.out,fun k hk=>(HO.out.lt k hk).1,HB3.out⟩
end Go.Proofs.YtdcgbgecbeegmaaGreatDoor
end
section
set_option maxRecDepth 20000
namespace Go.Proofs.YtdcgbgecbeegmaaGreatDoor
open Go Go.RowKit
set_option maxHeartbeats 2000000 in
theorem modSymbols_any (bv:Value) (b:List Ser) (w:World) (h:RdB w bv b) (hs:Mid b) :
  Calls Tryz.prog 61 #[bv] w fun e w'=>∃r,e = .returned r∧GotL w (tabS (symsB b)) r w':=by
 have H:=Lib.hid h;have HSm:=Lib.hid hs
 obtain ⟨p,c,hv⟩:=h.shape
 subst hv
 have hmx:(b.length:Int)≤20000:=by have:=hs.len;omega
 clear h hs
 go_enter Tryz.func61,Tryz.ntmps61
 go_wp2_with fail
 go_loopw [3,8] (fun vv iv wr=>∃(i:Nat),i≤b.length∧iv = .int .i64 (i:Int)∧Hid (OwnS w wr (symsB (b.take i)) vv)) (fun _ iv _=>b.length-(intOf iv).toNat)
 case atStart=>exact ⟨0,Nat.zero_le _,rfl,Own1.nil w⟩
 case round=>
  obtain ⟨i,hi,rfl,HO⟩:=hrel
  have him:(i:Int)≤20000:=by omega
  obtain ⟨pv,cv,hvv⟩:=HO.out.shape
  subst hvv
  by_cases hlt:i<b.length
  ·have hlt':(i:Int)<(b.length:Int):=by omega
   obtain ⟨⟨ls,ss⟩,hx⟩:∃s,b[i]? = some s:=⟨_,List.getElem?_eq_getElem hlt⟩
   obtain ⟨blk,off,h1,h2,e,⟨p1,k1,e1⟩,⟨p4,k4,e4⟩,hal⟩:=H.out.always hx
   subst e
   simp only at e1 e4
   subst e1 e4
   have hll:=HSm.out.lab _ (List.mem_of_getElem? hx)
   have HL1:Hid (ls.length≤60000):=hll
   have HSt:=Lib.hid (symsB_step hx)
   have HLn:Hid ((symsB (b.take i)).length≤120000):=by show _≤_;exact symsB_mid HSm.out i
   obtain ⟨c1,c2,_⟩:=hal wr HO.out.bel
   obtain ⟨w2,hw2⟩:∃w2,w2=wr.alloc (.cells #[.slice p1 ls.length k1,.slice p4 ss.length k4] 51):=⟨_,rfl⟩
   have HW:Hid (wr.alloc (.cells #[.slice p1 ls.length k1,.slice p4 ss.length k4] 51)=w2):=hw2.symm
   have hB2:Below wr.heap.size wr w2:=by rw [hw2];exact (Below.refl _ wr).alloc (Nat.le_refl _) _
   have HO1:=Lib.hid (HO.out.below hB2)
   have HStr:=Lib.hid (labStrings_any _ ls w2 (hal w2 (HO.out.bel.trans (hB2.mono HO.out.bel.size))).2.2.1 (by have:=HL1.out;omega))
   have HSl:=Lib.hid (stringsL_len ls)
   simp only at HStr
   clear hx hal hll hw2 hB2
   generalize symsB (b.take i)=D at *
   obtain ⟨dl,hdl⟩:∃dl,D.length=dl:=⟨_,rfl⟩
   have HDl:=Lib.hid hdl
   rw [hdl] at HO HO1 HLn ⊢
   clear hdl
   go_wp2_with fail
   rw [HW.out]
   clear HW HO
   refine HStr.out.mono ?_
   rintro e w3 ⟨r,rfl,hS⟩
   obtain ⟨p2,c2,hv2⟩:=hS.shape
   subst hv2
   have HO2:=Lib.hid (HO1.out.below hS.bel)
   have HS2:=Lib.hid hS.rd
   generalize stringsL ls=E at *
   obtain ⟨el,hel⟩:∃el,E.length=el:=⟨_,rfl⟩
   have HEl:=Lib.hid hel
   rw [hel] at HS2 HSl ⊢
   clear hS HO1 c1 hel
   have HOv:Hid (w3.ownsRow 0 9 1 (.slice pv dl cv) dl (strs D)):=by
    have h:=HO2.out.base0
    rw [HDl.out] at h
    exact h
   have HLb:Hid ((dl+el)*16≤140737488355328∧dl+el≤maxLen):=by show _∧_;have:=HSl.out;have:=HL1.out;have:=HLn.out;unfold maxLen;omega
   go_wp2_with (at_builtin;refine wpList_extend Tryz.elemStr _ _ _ _ _ _ _ HOv.out HS2.out (strs_one E) HLb.out rfl _ _ rfl rfl rfl ?_)
   intro v3 w4 k1 m1 f1
   have HO3:Hid (OwnS w w4 (symsB (b.take (i+1))) v3):=by
    show OwnS _ _ _ _
    rw [HSt.out]
    exact HO2.out.extended (by rw [HDl.out,HEl.out];exact k1) m1 f1
   obtain ⟨p3,c3,hv3⟩:=(Rd.of_owns k1).shape
   subst hv3
   clear k1 m1 f1 HO2 HOv
   go_wp2_with fail
   go_round
   case rel=>exact ⟨i+1,by omega,by go_num,HO3.out⟩
   case measure=>simp [intOf];omega
  ·have hlt':¬(i:Int)<(b.length:Int):=by omega
   have HE:Hid (b.take i=b):=List.take_of_length_le (by omega)
   have HLn:Hid ((symsB (b.take i)).length≤120000):=by show _≤_;exact symsB_mid HSm.out i
   have HT:=Lib.hid (table_met _ (symsB (b.take i)) wr HO.out.rd (by have:=HLn.out;omega))
   have HBel:=Lib.hid HO.out.bel
   rw [HE.out] at HT HO HLn ⊢
   clear HE HO
   go_wp2_with fail
   refine HT.out.mono ?_
   rintro e w2 ⟨r,rfl,hO⟩
   have HO2:Hid (GotL w (tabS (symsB b)) r w2):=⟨hO.rd,fun k hk=>by have:=hO.far k hk;have:=HBel.out.size;omega,HBel.out.trans (hO.bel.mono HBel.out.size)⟩
   obtain ⟨p2,c2,hv2⟩:=hO.rd.shape
   subst hv2
   clear hO HT
   go_wp2_with fail
   go_ret
   exact ⟨_,rfl,HO2.out⟩
end Go.Proofs.YtdcgbgecbeegmaaGreatDoor
end
