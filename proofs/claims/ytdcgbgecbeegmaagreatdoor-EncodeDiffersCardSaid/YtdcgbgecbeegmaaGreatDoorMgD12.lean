/- Texts 12. -/
import Derived.Test.YtdcgbgecbeegmaaGreatDoorMgD11
import Derived.Test.YtdcgbgecbeegmaaGreatDoorMgD10
import Derived.Test.YtdcgbgecbeegmaaGreatDoorMgD1
import Derived.Test.YtdcgbgecbeegmaaGreatDoorMgD2
import Derived.Test.YtdcgbgecbeegmaaGreatDoorMgD9
import Derived.Test.YtdcgbgecbeegmaaGreatDoorMgD5
import Derived.OwnWalk
import Derived.BigRegion
import Derived.Sort.AssemblyPlain
set_option linter.unusedVariables false
set_option linter.unusedSimpArgs false
section
namespace Go.Proofs.YtdcgbgecbeegmaaGreatDoor
open Go Go.RowKit Go.Shelf
attribute [local go_sem] Oper.semAt_some
set_option maxRecDepth 100000 in
set_option maxHeartbeats 1000000 in
theorem runval_size (lv:Value) (l:List Nat) (w:World) (hl:Rd w 1 lv l.length (u64s l)) (hok:∀t∈l,in64u t) (hz:71*l.length≤70368744177000) :
  Calls Tryz.prog 187 #[lv] w fun e w'=>e = .returned (.int .i64 ((encR l).length:Int))∧Below w.heap.size w w':=by
 obtain ⟨p,c,hv⟩:=hl.shape
 subst hv
 have HL:=Lib.hid hl;have HOk:=Lib.hid hok
 have HZ:Hid (71*(splitR l).length≤70368744177000):=by show _≤_;have:=splitR_len l;omega
 have HLT:Hid (l≠[]→∀k,(Value.slice p l.length c).ownBlock=some k→k<w.heap.size):=fun h=>hl.lt (fun e=>h (by simpa [u64s] using e))
 clear hl hok hz
 refine (callsIn_wide (n:=9)).1 ?_
 refine callsIn_of_wp_marks Tryz.func187 rfl trivial ?_ rfl
 simp only [Tryz.ntmps187,List.size_toArray,List.length_cons,List.length_nil,Nat.reduceAdd,Nat.reduceSub,Array.replicate_succ,Array.replicate_zero,List.push_toArray,List.append_toArray,List.nil_append,List.cons_append]
 gi_wp2_with (refine ⟨trivial,?_⟩;gi_at_call 233;refine (new_runs p _ c _ _).mono ?_;rintro e w' ⟨rfl,rfl⟩)
 obtain ⟨W0,hW0⟩:∃W0,(w.alloc (.cells #[.int .i64 0] 3)).alloc (.cells #[.slice p l.length c] 113)=W0:=⟨_,rfl⟩
 have hs0:W0.heap.size=w.heap.size+2:=by rw [← hW0];simp
 have hB0:Below w.heap.size w W0:=by rw [← hW0];exact ((Below.refl _ w).alloc (Nat.le_refl _) _).alloc (by simp) _
 have hn0:Blk W0 w.heap.size [.int .i64 0]:=by rw [← hW0];exact (Blk.new w _ _).alloc _
 have hx0:W0.cell? ⟨w.heap.size+1,0,none⟩=some (.slice p l.length c):=by
  have:=(Blk.new (w.alloc (.cells #[.int .i64 0] 3)) #[.slice p l.length c] 113).cell 0
  rw [hW0] at this
  simpa using this
 have hl0:=HL.out.below hB0
 have HKW:Hid (∀k,(k=w.heap.size+1∨(l≠[]∧(Value.slice p l.length c).ownBlock=some k))→k≠w.heap.size∧k<W0.heap.size):=fun k hk=>by
  rcases hk with e | ⟨h,e⟩
  ·omega
  ·have:=HLT.out h k e;omega
 have HGV:=Lib.hid (runs_gives 8 (by omega) (w.heap.size+1) _ l W0 hx0 hl0 HOk.out)
 rw [hW0]
 clear hW0 hx0 hl0
 obtain ⟨K,hK⟩:∃K:Nat→Prop,(fun k=>k=w.heap.size+1∨(l≠[]∧(Value.slice p l.length c).ownBlock=some k))=K:=⟨_,rfl⟩
 have HKW2:Hid (∀k,K k→k≠w.heap.size∧k<W0.heap.size):=by rw [← hK];exact HKW.out
 rw [hK] at HGV
 clear hK HKW
 have HE:Hid ((encR l).length=71*(splitR l).length):=by show _=_;rw [encR,encRuns_len]
 generalize splitR l=rs at *
 refine wpIn_rangeFunc_ownG rfl (by omega) (gf:=276) (lb:=#[.pointer (some ⟨w.heap.size+1,0,none⟩)]) rfl trivial (enters_of Tryz.func276 (by kernel_rfl) rfl)
  HGV.out (fun h k=>keepRun_t h k) (fun W l o o' h1 h2 h3 h4=>keepRun_b (fun k hk=>(HKW2.out k hk).2) W l o o' h1 h2 h3 h4) (Below.refl _ _) (fun _=>rfl)
  (fun pre W=>Blk W w.heap.size [.int .i64 ((71*pre.length:Nat):Int)]∧Mods (fun k=>k=w.heap.size) W0 W)
  (fun _ _ _=>False)
  (OwnFrom.and (Own.from (own_blk _ _) _) (ownFrom_mods (Nat.le_refl _)))
  (fun _ _ _ _ _ hs _ _=>hs)
  ⟨hn0,Mods.refl _ _⟩
  (fun x=>{ tmps:=#[.slice p l.length c,undef,.int .i64 0,.pointer (some ⟨w.heap.size,0,none⟩),.slice p l.length c,.func (.func 276) #[] #[.pointer (some ⟨w.heap.size+1,0,none⟩)],runV x,undef,undef,undef],defers:=[] }) ?assign ?body ?done ?stop
 case assign=>
  intro l x W K hK
  simp only [List.zip_toArray,List.zip_cons_cons,List.zip_nil_right,List.foldl_toArray,List.foldl_cons,List.foldl_nil,List.setIfInBounds_toArray,List.set_cons_zero,List.set_cons_succ]
  gi_wp2
  exact hK
 case body=>
  rintro l pre x W ⟨hn,hM0⟩ hlen
  obtain ⟨Z,hZe⟩:∃Z,71*pre.length=Z:=⟨_,rfl⟩
  have hZ:Z≤70368744177000:=by have:=HZ.out;omega
  have hZ2:((71*(pre++[x]).length:Nat):Int)=(Z:Int)+71:=by rw [List.length_append,List.length_singleton];omega
  have HZ2:=Lib.hid hZ2
  rw [hZe] at hn
  have c0:W.cell? ⟨w.heap.size,0,none⟩=some (.int .i64 (Z:Int)):=by rw [hn.cell];rfl
  have f0:=hn.free 0
  have HN:=Lib.hid hn;have HM0:=Lib.hid hM0
  clear hn hM0 hZ2 hZe
  gi_wp2
  have hM:Mods (fun k=>k=w.heap.size) W (W.setCell ⟨w.heap.size,0,none⟩ (.int .i64 ((Z:Int)+71))):=Mods.set (fun k=>k=w.heap.size) W ⟨w.heap.size,0,none⟩ _ (fun _=>rfl)
  refine ⟨(KeepsOthers.of_mods hM (fun k o hk ho=>?_)).from _,keepRun_mods hM HM0.out.size (fun k hk=>(HKW2.out k hk).2) (fun k hk=>(HKW2.out k hk).1) ?_,?_,?_⟩
  ·subst hk
   obtain ⟨t,ht⟩:=HN.out
   rw [ht] at ho
   cases ho;rfl
  ·rintro k rfl ⟨x,n,fz,e⟩
   obtain ⟨t,ht⟩:=HN.out
   rw [ht] at e
   simp at e
  ·rw [HZ2.out]
   simpa using HN.out.set 0 (.int .i64 ((Z:Int)+71))
  ·exact HM0.out.trans hM (fun _ _ e=>e)
 case done=>
  rintro D zs W hD hzs ⟨hn,hM0⟩ hK
  have HE2:Hid (((71*zs.length:Nat):Int)=((encR l).length:Int)):=by
   show _=_
   have:zs.length=rs.length:=by rw [← hzs];simp [rnsOf]
   rw [HE.out,this]
  have c0:W.cell? ⟨w.heap.size,0,none⟩=some (.int .i64 ((71*zs.length:Nat):Int)):=by rw [hn.cell];rfl
  clear hn HGV
  have hB:=hB0.trans (hM0.below (B:=w.heap.size) (by omega) (fun k hk e=>by omega))
  generalize ((71*zs.length:Nat):Int)=Z at *
  gi_wp2
  refine ⟨by simp,.inl ⟨_,_,rfl,run_takeDeferred hK,?_⟩⟩
  exact ⟨_,results_tmp rfl _ _ _,by rw [← HE2.out];rfl,hB.trans (belowK_b (w:=w) (Nat.le_refl _) W D _ _ (by omega) hK rfl rfl)⟩
 case stop=>
  rintro D c pre W _ _ h _
  exact h.elim
theorem isRun_of {W:World} {b:Nat} {x n:Int} {fz:Nat × Nat} (h:W.heap[b]? = some (.cells #[.int .u64 x,.int .i64 n] 301 fz)):IsRun W b:=⟨x,n,fz,h⟩
theorem owns_not_run {W:World} {base:Nat} {e:TypeId} {sz:Nat} {v:Value} {n:Nat} {xs:List Value} (h:W.ownsRow base e sz v n xs) (he:e≠301) {k:Nat} (hk:v.ownBlock=some k):¬IsRun W k:=by
 rintro ⟨x,m,fz,hr⟩
 rcases h.2 with ⟨rfl,_⟩ | ⟨g,cap,cur,rfl,_,hgb,_⟩
 ·simp [Value.ownBlock] at hk
 ·obtain rfl:g=k:=by simpa [Value.ownBlock] using hk
  rw [hgb] at hr
  simp at hr
  exact he hr.2.1
theorem writer_not_run {W:World} {p:Nat} {v:Value} {out:List Bool} (h:WriterIn W p v out):∀k,(k=p∨v.ownBlock=some k)→¬IsRun W k:=by
 rintro k (rfl | hk)
 ·rintro ⟨x,n,fz,hr⟩
  obtain ⟨t,ht⟩:=h.blk
  rw [ht] at hr
  simp at hr
 ·exact owns_not_run h.own (by decide) hk
def RunBox (W:World) (b:Nat) (r:Rn):Prop:=W.heap[b]? = some (.cells #[.int .u64 (r.1.1:Int),.int .i64 (r.1.2:Int)] 301 (0,0))
theorem RunBox.blk {W:World} {b:Nat} {r:Rn} (h:RunBox W b r):Blk W b [.int .u64 (r.1.1:Int),.int .i64 (r.1.2:Int)]:=⟨_,h⟩
theorem RunBox.is {W:World} {b:Nat} {r:Rn} (h:RunBox W b r):IsRun W b:=isRun_of h
theorem runBox_own {β:Type} {B:Nat} (b:Nat) (r:Rn):OwnFrom B (fun (_:β) W=>RunBox W b r):=fun _ W W' row h hg hr=>(hg.block b (Array.getElem?_eq_some_iff.1 h).1 (row_other h (fun j e=>(hr j e).2))).trans h
set_option maxRecDepth 100000 in
set_option maxHeartbeats 2000000 in
theorem runval_put (p:Nat) (v lv:Value) (bits:List Bool) (l:List Nat) (w:World) (hW:WriterIn w p v bits)
  (hl:Rd w 1 lv l.length (u64s l)) (hok:∀t∈l,in64u t) (hap:l≠[]→∀k,lv.ownBlock=some k→k≠p∧v.ownBlock≠some k) (hz:bits.length+71*l.length≤70368744177000) :
  Calls Tryz.prog 188 #[.pointer (some ⟨p,0,none⟩),lv] w fun e w'=>e = .returned (.int .i64 0)∧BitsPost p v (bits++encR l) w w':=by
 obtain ⟨q,c,hv⟩:=hl.shape
 subst hv
 have HL:=Lib.hid hl;have HOk:=Lib.hid hok;have HW:=Lib.hid hW;have HAp:=Lib.hid hap
 have HZ:Hid (bits.length+71*(splitR l).length≤70368744177000):=by show _≤_;have:=splitR_len l;omega
 have HLT:Hid (l≠[]→∀k,(Value.slice q l.length c).ownBlock=some k→k<w.heap.size):=fun h=>hl.lt (fun e=>h (by simpa [u64s] using e))
 clear hl hok hz hW hap
 refine (callsIn_wide (n:=9)).1 ?_
 refine callsIn_of_wp_marks Tryz.func188 rfl trivial ?_ rfl
 simp only [Tryz.ntmps188,List.size_toArray,List.length_cons,List.length_nil,Nat.reduceAdd,Nat.reduceSub,Array.replicate_succ,Array.replicate_zero,List.push_toArray,List.append_toArray,List.nil_append,List.cons_append]
 gi_wp2_with (refine ⟨trivial,?_⟩;gi_at_call 233;refine (new_runs q _ c _ _).mono ?_;rintro e w' ⟨rfl,rfl⟩)
 obtain ⟨w1,hw1⟩:∃w1,w.alloc (.cells #[.pointer (some ⟨p,0,none⟩)] 189)=w1:=⟨_,rfl⟩
 have hs1:w1.heap.size=w.heap.size+1:=by rw [← hw1];simp
 have hB1:Below w.heap.size w w1:=by rw [← hw1];exact (Below.refl _ w).alloc (Nat.le_refl _) _
 have hx1:Blk w1 w.heap.size [.pointer (some ⟨p,0,none⟩)]:=by rw [← hw1];exact Blk.new w _ _
 rw [hw1]
 clear hw1
 obtain ⟨W0,hW0⟩:∃W0,w1.alloc (.cells #[.slice q l.length c] 113)=W0:=⟨_,rfl⟩
 have hs0:W0.heap.size=w.heap.size+2:=by rw [← hW0];simp [hs1]
 have hB0:Below w.heap.size w W0:=by rw [← hW0];exact hB1.alloc (by omega) _
 have hX0:Blk W0 w.heap.size [.pointer (some ⟨p,0,none⟩)]:=by rw [← hW0];exact hx1.alloc _
 have hx0:W0.cell? ⟨w.heap.size+1,0,none⟩=some (.slice q l.length c):=by
  have:=(Blk.new w1 #[.slice q l.length c] 113).cell 0
  rw [hW0,hs1] at this
  simpa using this
 rw [hW0]
 clear hW0
 have HPl:Hid (p<w.heap.size∧∀k,v.ownBlock=some k→k<w.heap.size):=⟨HW.out.blk.lt,owns_lt HW.out.own⟩
 have HX0:=Lib.hid hX0;have HB0:=Lib.hid hB0;have HS0:=Lib.hid hs0
 have HW0:=Lib.hid (HW.out.below hB0)
 have HKW:Hid (∀k,(k=w.heap.size+1∨(l≠[]∧(Value.slice q l.length c).ownBlock=some k))→k≠p∧v.ownBlock≠some k∧k<W0.heap.size):=fun k hk=>by
  have h1:=HPl.out.1
  rcases hk with e | ⟨h,e⟩
  ·exact ⟨by omega,fun e2=>by have:=HPl.out.2 _ e2;omega,by omega⟩
  ·have:=HLT.out h k e
   exact ⟨(HAp.out h k e).1,(HAp.out h k e).2,by omega⟩
 have HGV:=Lib.hid (runs_gives 8 (by omega) (w.heap.size+1) _ l W0 hx0 (HL.out.below hB0) HOk.out)
 clear hx0 hX0 hx1 hB1 hB0 hs0 hs1
 obtain ⟨K,hK⟩:∃K:Nat→Prop,(fun k=>k=w.heap.size+1∨(l≠[]∧(Value.slice q l.length c).ownBlock=some k))=K:=⟨_,rfl⟩
 have HKW2:Hid (∀k,K k→k≠p∧v.ownBlock≠some k∧k<W0.heap.size):=by rw [← hK];exact HKW.out
 rw [hK] at HGV
 clear hK HKW
 have HXn:Hid (¬(w.heap.size=p∨v.ownBlock=some w.heap.size)):=fun e=>by
  have h1:=HPl.out
  rcases e with e | e
  ·omega
  ·have:=h1.2 _ e;omega
 have HE:Hid (encR l=(splitR l).flatMap encRun):=rfl
 generalize splitR l=rs at *
 refine wpIn_rangeFunc_ownH rfl (by omega) (gf:=276) (lb:=#[.pointer (some ⟨w.heap.size+1,0,none⟩)]) rfl trivial (enters_of Tryz.func276 (by kernel_rfl) rfl)
  HGV.out (fun h k=>keepRun_t h k) (fun W l o o' h1 h2 h3 h4=>keepRun_b (fun k hk=>(HKW2.out k hk).2.2) W l o o' h1 h2 h3 h4) (Below.refl _ _) (fun _=>rfl)
  (fun pre W=>PutIn p v W0 (bits++(rnsOf pre).flatMap encRun) W)
  (fun _ _ _=>False)
  (putIn_own (Nat.le_refl _) p v (fun pre:List Rn=>bits++(rnsOf pre).flatMap encRun))
  (fun _ _ _ _ _ hs _ _=>hs)
  ⟨v,by simpa [rnsOf] using HW0.out,Upd.refl _ _ _⟩
  (fun x a' W=>∃b,a'={ tmps:=#[.pointer (some ⟨p,0,none⟩),.slice q l.length c,.pointer (some ⟨w.heap.size,0,none⟩),undef,.int .i64 0,.pointer (some ⟨b,0,none⟩),.pointer (some ⟨p,0,none⟩),.bool false,.slice q l.length c,.func (.func 276) #[] #[.pointer (some ⟨w.heap.size+1,0,none⟩)],runV x,undef,undef,undef,undef,undef,undef,undef,undef,undef,undef],defers:=[] }∧RunBox W b x)
  ?ax ?assign ?body ?done ?stop
 case ax=>
  rintro x a' s W W' row ⟨b,h1,h2⟩ hg hr
  exact ⟨b,h1,runBox_own (β:=Unit) b x () W W' row h2 hg hr⟩
 case assign=>
  intro l pre x W K hI hK
  obtain ⟨⟨xv,xn⟩,hx⟩:=x
  simp only [runV,List.zip_toArray,List.zip_cons_cons,List.zip_nil_right,List.foldl_toArray,List.foldl_cons,List.foldl_nil,List.setIfInBounds_toArray,List.set_cons_zero,List.set_cons_succ]
  gi_wp2
  obtain ⟨v',hW',hU'⟩:=hI
  have hB:Below W.heap.size W (W.alloc (.cells #[.int .u64 (xv:Int),.int .i64 (xn:Int)] 301)):=(Below.refl _ W).alloc (Nat.le_refl _) _
  refine hK _ _ ((KeepsOthers.alloc W _).from _) (keepRun_mods (Mods.alloc (fun _=>False) W _) hU'.mods.size (fun k hk=>(HKW2.out k hk).2.2) (fun _ _ e=>e) (fun _ e=>e.elim)) ⟨v',hW'.below hB,hU'.trans ⟨Mods.of_below hB _,Fresh.refl _ _⟩⟩ ⟨W.heap.size,rfl,World.alloc_heap_new W _⟩
 case body=>
  rintro l pre x a' W hlw hrec ⟨v',hW',hU'⟩ ⟨b,rfl,hRB⟩ hlen
  obtain ⟨⟨xv,xn⟩,hx⟩:=x
  obtain ⟨m,rfl⟩:∃m,xn=m+1:=⟨xn-1,by have:=hx.1;simp at this;omega⟩
  have hm:m≤127:=by have:=hx.2.1;simp at this;omega
  have hxv:xv<18446744073709551616:=hx.2.2
  have hm':(m:Int)≤127:=by omega
  have hm0:(0:Int)≤(m:Int):=by omega
  have HPre:Hid (bits++(rnsOf (pre++[⟨(xv,m+1),hx⟩])).flatMap encRun=(bits++(rnsOf pre).flatMap encRun)++fieldBits xv 64++fieldBits m 7):=by
   show _=_
   rw [rnsOf_push,List.flatMap_append,List.flatMap_cons,List.flatMap_nil,List.append_nil,encRun];simp
  have hol:(bits++(rnsOf pre).flatMap encRun).length+200≤1125899906842624:=by
   rw [List.length_append,encRuns_len]
   have:(rnsOf pre).length=pre.length:=by simp [rnsOf]
   have:=HZ.out
   omega
  generalize bits++(rnsOf pre).flatMap encRun=out0 at *
  have HW':=Lib.hid hW';have HU':=Lib.hid hU';have HRB:=Lib.hid hRB
  have hXW:=hU'.mods.blk HX0.out HXn.out
  have HXW:=Lib.hid hXW
  have c0:W.cell? ⟨w.heap.size,0,none⟩=some (.pointer (some ⟨p,0,none⟩)):=by rw [hXW.cell];rfl
  have d0:W.cell? ⟨b,0,none⟩=some (.int .u64 (xv:Int)):=by rw [hRB.blk.cell];rfl
  have HWB:=Lib.hid (wbits p v' _ xv 64 W hW' (by omega) (by omega))
  have HNr:=Lib.hid (writer_not_run hW')
  have HXv:Hid (¬(w.heap.size=p∨v'.ownBlock=some w.heap.size)):=fun e=>by
   rcases e with e | e
   ·exact HXn.out (Or.inl e)
   ·rcases hU'.fresh _ e with e2 | e2
    ·exact HXn.out (Or.inr e2)
    ·have:=HX0.out.lt;omega
  clear hW' hU' hRB hXW
  gi_wp2_with fail
  refine ⟨trivial,(CallsIn.inRound l (callsIn_wide.2 HWB.out)).mono ?_⟩
  rintro e w5 ⟨rfl,v5,hW5,hU5⟩
  have hR5:RunBox w5 b ⟨(xv,m+1),hx⟩:=(hU5.mods.block b (Array.getElem?_eq_some_iff.1 HRB.out).1 (fun e=>HNr.out b e HRB.out.is)).trans HRB.out
  have hX5:=hU5.mods.blk HXW.out HXv.out
  have c5:w5.cell? ⟨w.heap.size,0,none⟩=some (.pointer (some ⟨p,0,none⟩)):=by rw [hX5.cell];rfl
  have d5:w5.cell? ⟨b,1,none⟩=some (.int .i64 ((m:Int)+1)):=by rw [hR5.blk.cell];rfl
  have HWB5:=Lib.hid (wbits p v5 _ m 7 w5 hW5 (by omega) (by rw [List.length_append,fieldBits_length];omega))
  have HU5:=Lib.hid hU5
  clear hW5 hU5 hR5 hX5 HWB c0 d0
  gi_wp2_with fail
  refine ⟨trivial,(CallsIn.inRound l (callsIn_wide.2 HWB5.out)).mono ?_⟩
  rintro e w6 ⟨rfl,v6,hW6,hU6⟩
  have HUf:Hid (Upd W w6 p v' v6):=HU5.out.trans hU6
  have HWf:=Lib.hid hW6
  clear hW6 hU6 HWB5 HU5
  gi_wp2_with fail
  refine ⟨(putIn_keeps HW'.out HUf.out.mods).from _,keepRun_mods HUf.out.mods HU'.out.mods.size (fun k hk=>(HKW2.out k hk).2.2) (fun k hk e=>?_) HNr.out,v6,?_,HU'.out.trans HUf.out⟩
  ·have h1:=HKW2.out k hk
   rcases e with e | e
   ·exact h1.1 e
   ·rcases HU'.out.fresh k e with e2 | e2
    ·exact h1.2.1 e2
    ·omega
  ·rw [HPre.out]
   exact HWf.out
 case done=>
  rintro D zs W hD hzs hI hK
  have HI:=Lib.hid hI
  have HE2:Hid (encR l=(rnsOf zs).flatMap encRun):=by show _=_;rw [HE.out,hzs]
  clear hI HGV hzs
  gi_wp2
  refine ⟨by simp,.inl ⟨_,_,rfl,run_takeDeferred hK,?_⟩⟩
  refine ⟨_,results_tmp rfl _ _ _,rfl,?_⟩
  obtain ⟨v',hW',hU'⟩:=putIn_own (β:=Unit) (Nat.le_refl W0.heap.size) p v (fun _=>bits++(rnsOf zs).flatMap encRun) () W (W.putObj D (.deferred none)) (some D) HI.out (grownBy_putObj' _ _ _) (fun r e=>by cases e;exact ⟨hD,_,hK,rfl⟩)
  have u1:Upd w W0 p v v:=⟨Mods.of_below HB0.out _,Fresh.refl _ _⟩
  rw [HE2.out]
  exact ⟨v',hW',u1.trans hU'⟩
 case stop=>
  rintro D c pre W _ _ h _
  exact h.elim
end Go.Proofs.YtdcgbgecbeegmaaGreatDoor
end
section
namespace Go.Proofs.YtdcgbgecbeegmaaGreatDoor
open Go Go.RowKit
section
variable {P:Program} (w:World)
end
section
variable {P:Program}
end
end Go.Proofs.YtdcgbgecbeegmaaGreatDoor
end
section
namespace Go.Proofs.YtdcgbgecbeegmaaGreatDoor
open Go Go.RowKit
theorem putD_ok {l:List Nat} (h:okD l=true):putD l=encD l:=if_pos h
theorem putD_no {l:List Nat} (h:okD l=false):putD l=[]:=by rw [putD,h];rfl
def sizeD (l:List Nat):Int:=if okD l then ((encD l).length:Int) else -1
theorem u64s_ltD {w:World} {lv:Value} {l:List Nat} (hl:Rd w 1 lv l.length (u64s l)):l≠[]→∀k,lv.ownBlock=some k→k<w.heap.size:=fun hne=>hl.lt (fun e=>hne (by simpa [u64s] using e))
def ltU (x y:Nat):Bool:=decide (x<y)
structure SU (w wr:World) (g n c:Nat) (d:Array Nat):Prop where
 sz:d.size=n
 row:wr.ownsRow 0 81 1 (.slice (some ⟨g,0,none⟩) n c) n (u64s d.toList)
 mods:Mods (fun k=>k=g) w wr
theorem u64s_at {d:Array Nat} {i:Nat} (h:i<d.size):(u64s d.toList)[i]? = some (.int .u64 (d[i]! : Int)):=by
 rw [u64s,List.getElem?_map,Array.getElem?_toList,Array.getElem?_eq_getElem h,getElem!_pos d i h];rfl
theorem SU.cell {w wr:World} {g n c:Nat} {d:Array Nat} (h:SU w wr g n c d) {i:Nat} (hi:i<n):wr.cell? ⟨g,i,none⟩=some (.int .u64 (d[i]! : Int)):=by
 rw [h.row.cellAt i (by omega),u64s_at (by rw [h.sz];exact hi)]
theorem SU.free {w wr:World} {g n c:Nat} {d:Array Nat} (h:SU w wr g n c d) (i:Nat):wr.frozen? ⟨g,i,none⟩=false:=h.row.frozenAt i
theorem SU.drewN {w wr:World} {g n c:Nat} {d:Array Nat} (h:SU w wr g n c d) (m:Nat):SU w (wr.drewN m) g n c d:=
 ⟨h.sz,(Mods.drewN (fun _=>False) wr m).owns h.row (fun _ _ e=>e),h.mods.trans (Mods.drewN _ wr m) (fun _ _ e=>e)⟩
theorem SU.swp {w wr:World} {g n c:Nat} {d:Array Nat} (h:SU w wr g n c d) {i j:Nat} (hi:i<n) (hj:j<n) :
  SU w ((wr.setCell ⟨g,i,none⟩ (.int .u64 (d[j]! : Int))).setCell ⟨g,j,none⟩ (.int .u64 (d[i]! : Int))).drew g n c (Sort.swp d i j):=by
 have h2:=((h.row.stored i (.int .u64 (d[j]! : Int))).1.stored j (.int .u64 (d[i]! : Int))).1
 have e:((u64s d.toList).set i (.int .u64 (d[j]! : Int))).set j (.int .u64 (d[i]! : Int))=u64s (Sort.swp d i j).toList:=by
  simp [u64s,Sort.swp,List.map_set]
 rw [e] at h2
 have hS:∀(wy:World) (o:Nat) (v:Value),Mods (fun k=>k=g) wy (wy.setCell ⟨g,o,none⟩ v):=fun wy o v=>Mods.set _ _ _ _ (fun _=>rfl)
 exact ⟨by rw [Sort.size_swp];exact h.sz,(Mods.drew (fun _=>False) _).owns h2 (fun _ _ e=>e),
  ((h.mods.trans (hS _ _ _) (fun _ _ e=>e)).trans (hS _ _ _) (fun _ _ e=>e)).trans (Mods.drew _ _) (fun _ _ e=>e)⟩
theorem SU.mid {w wr:World} {g n c:Nat} {d:Array Nat} (h:SU w wr g n c d) {i j:Nat} (hi:i<n) (hj:j<n) :
  (wr.setCell ⟨g,i,none⟩ (.int .u64 (d[j]! : Int))).drew.cell? ⟨g,j,none⟩=some (.int .u64 (d[j]! : Int))∧(wr.setCell ⟨g,i,none⟩ (.int .u64 (d[j]! : Int))).drew.frozen? ⟨g,j,none⟩=false:=by
 have h2:=(h.row.stored i (.int .u64 (d[j]! : Int))).1
 refine ⟨?_,h2.frozenAt j⟩
 have h3:=h2.cellAt j (by omega)
 refine h3.trans ?_
 by_cases e:i=j
 ·subst e
  rw [List.getElem?_set_self (by rw [u64s_length,Array.length_toList,h.sz];exact hi)]
 ·rw [List.getElem?_set_ne e,u64s_at (by rw [h.sz];exact hj)]
theorem SU.trans {w wr wz:World} {g n c:Nat} {d e:Array Nat} (h:SU w wr g n c d) (k:SU wr wz g n c e):SU w wz g n c e:=⟨k.sz,k.row,h.mods.trans k.mods (fun _ _ e=>e)⟩
theorem SU.here {w wr:World} {g n c:Nat} {d:Array Nat} (h:SU w wr g n c d):SU wr wr g n c d:=⟨h.sz,h.row,Mods.refl _ _⟩
theorem isnan_u64' (x:Nat) (w:World):Calls Tryz.prog 309 #[.int .u64 (x:Int)] w fun e w'=>e = .returned (.bool false)∧w'=w:=by
 go_enter Tryz.func309,Tryz.ntmps309
 go_wp2_with fail
 go_ret
 exact ⟨by simp,rfl⟩
theorem less_u64' (x y:Nat) (w:World):Calls Tryz.prog 296 #[.int .u64 (x:Int),.int .u64 (y:Int)] w fun e w'=>e = .returned (.bool (ltU x y))∧w'=w:=by
 go_enter Tryz.func296,Tryz.ntmps296
 go_wp2_with fail
 refine (isnan_u64' x w).mono ?_
 rintro e w1 ⟨rfl,rfl⟩
 go_wp2_with fail
 go_ret
 exact ⟨by simp [ltU],rfl⟩
end Go.Proofs.YtdcgbgecbeegmaaGreatDoor
end
section
set_option maxRecDepth 20000
namespace Go.Proofs.YtdcgbgecbeegmaaGreatDoor
open Go Go.RowKit
structure PInv (w wr:World) (g n c a b:Nat) (d x:Array Nat) (i j p:Nat):Prop where
 su:SU w wr g n c x
 perm:Sort.PermIn a b d x
 hp:x[a]! = p
 lo:∀k,a<k→k<i→x[k]! < p
 hi:∀k,j<k→k<b→p≤x[k]!
 b1:a<i
 b2:j<b
 b3:i≤j+1
section
variable {w wr wz:World} {g n c a b:Nat} {d x:Array Nat} {i j p q:Nat}
theorem PInv.drewN (h:PInv w wr g n c a b d x i j p) (m:Nat):PInv w (wr.drewN m) g n c a b d x i j p:=⟨h.su.drewN m,h.perm,h.hp,h.lo,h.hi,h.b1,h.b2,h.b3⟩
theorem PInv.up (h:PInv w wr g n c a b d x i j p) (hij:i≤j) (hl:ltU x[i]! p=true):PInv w wr g n c a b d x (i+1) j p:=
 ⟨h.su,h.perm,h.hp,fun k h1 h2=>by
  by_cases e:k=i
  ·subst e;simpa [ltU] using hl
  ·exact h.lo k h1 (by omega),h.hi,by have:=h.b1;omega,h.b2,by omega⟩
theorem PInv.down (h:PInv w wr g n c a b d x i (j+1) p) (hij:i≤j+1) (hl:ltU x[j+1]! p=false):PInv w wr g n c a b d x i j p:=
 ⟨h.su,h.perm,h.hp,h.lo,fun k h1 h2=>by
  by_cases e:k=j+1
  ·subst e;simpa [ltU] using hl
  ·exact h.hi k (by omega) h2,h.b1,by have:=h.b2;omega,hij⟩
theorem PInv.swap (h:PInv w wr g n c a b d x i (j+1) p) (hb:b≤n) (hij:i≤j+1) (hi:ltU x[i]! p=false) (hj:ltU x[j+1]! p=true) (hs:SU w wz g n c (Sort.swp x i (j+1))):i≤j∧PInv w wz g n c a b d (Sort.swp x i (j+1)) (i+1) j p:=by
 have hne:i≠j+1:=fun e=>by subst e;rw [hi] at hj;cases hj
 have hsz:=h.su.sz
 have h1:=h.b1;have h2:=h.b2
 have ei:(Sort.swp x i (j+1))[i]! = x[j+1]!:=Sort.swp_left x i (j+1) (by omega) hne
 have ej:(Sort.swp x i (j+1))[j+1]! = x[i]!:=Sort.swp_right x i (j+1) (by omega)
 have eo:∀k,k≠i→k≠j+1→(Sort.swp x i (j+1))[k]! = x[k]!:=fun k e1 e2=>Sort.swp_other x i (j+1) k e1 e2
 refine ⟨by omega,hs,Sort.permIn_trans _ _ _ _ _ h.perm (Sort.swp_permIn x a b i (j+1) (by omega) (by omega) (by omega) h2 (by omega)),?_,?_,?_,by omega,by omega,by omega⟩
 ·rw [eo a (by omega) (by omega)];exact h.hp
 ·intro k k1 k2
  by_cases e:k=i
  ·subst e;rw [ei];simpa [ltU] using hj
  ·rw [eo k e (by omega)];exact h.lo k k1 (by omega)
 ·intro k k1 k2
  by_cases e:k=j+1
  ·subst e;rw [ej];simpa [ltU] using hi
  ·rw [eo k (by omega) e];exact h.hi k (by omega) k2
structure Parted (w wr:World) (g n c a b:Nat) (d x:Array Nat) (m:Nat):Prop where
 su:SU w wr g n c x
 perm:Sort.PermIn a b d x
 b1:a≤m
 b2:m<b
 lo:∀k,a≤k→k<m→ltU x[k]! x[m]! = true
 hi:∀k,m<k→k<b→ltU x[k]! x[m]! = false
theorem PInv.parted (h:PInv w wr g n c a b d x i j p) (hb:b≤n) (hij:j<i) (hs:SU w wz g n c (Sort.swp x j a)):Parted w wz g n c a b d (Sort.swp x j a) j:=by
 have hsz:=h.su.sz
 have h1:=h.b1;have h2:=h.b2;have h3:=h.b3
 have ea:(Sort.swp x j a)[a]! = x[j]!:=Sort.swp_right x j a (by omega)
 have ej:(Sort.swp x j a)[j]! = p:=by
  by_cases e:j=a
  ·subst e;rw [ea];exact h.hp
  ·rw [Sort.swp_left x j a (by omega) e];exact h.hp
 have eo:∀k,k≠j→k≠a→(Sort.swp x j a)[k]! = x[k]!:=fun k e1 e2=>Sort.swp_other x j a k e1 e2
 refine ⟨hs,Sort.permIn_trans _ _ _ _ _ h.perm (Sort.swp_permIn x a b j a (by omega) h2 (Nat.le_refl _) (by omega) (by omega)),by omega,h2,?_,?_⟩
 ·intro k k1 k2
  rw [ej]
  by_cases e:k=a
  ·subst e;rw [ea];have:=h.lo j (by omega) (by omega);simpa [ltU] using this
  ·rw [eo k (by omega) e];have:=h.lo k (by omega) (by omega);simpa [ltU] using this
 ·intro k k1 k2
  rw [ej,eo k (by omega) (by omega)]
  have:=h.hi k k1 k2
  simpa [ltU] using this
theorem PInv.start (h:SU w wr g n c (Sort.swp d a q)) (hd:d.size=n) (hq:a≤q) (hqb:q<b) (hb:b≤n):PInv w wr g n c a b d (Sort.swp d a q) (a+1) (b-1) (Sort.swp d a q)[a]!:=
 ⟨h,Sort.swp_permIn d a b a q (Nat.le_refl _) (by omega) hq hqb (by omega),rfl,fun k k1 k2=>by omega,fun k k1 k2=>by omega,by omega,by omega,by omega⟩
end
set_option maxHeartbeats 80000000 in
theorem partition_u64 (g n c a b q:Nat) (d:Array Nat) (w:World) (h:SU w w g n c d) (hq:a≤q) (hqb:q<b) (hb:b≤n) (hn:n<4611686018427387904) :
  Calls Tryz.prog 308 #[.slice (some ⟨g,0,none⟩) n c,.int .i64 (a:Int),.int .i64 (b:Int),.int .i64 (q:Int)] w fun e w'=>∃(m:Nat) (r:Bool) (x:Array Nat),e = .returned (.tuple #[.int .i64 (m:Int),.bool r])∧Parted w w' g n c a b d x m:=by
 have HS:=Lib.hid h
 clear h
 have hci:=HS.out.cell (i:=a) (by omega)
 have hfi:=HS.out.free a
 have hcj:=HS.out.cell (i:=q) (by omega)
 have hfj:=HS.out.free q
 have hin:(a:Int)<(n:Int):=by omega
 have hjn:(q:Int)<(n:Int):=by omega
 have HS2:=Lib.hid (HS.out.swp (i:=a) (j:=q) (by omega) (by omega))
 go_enter Tryz.func308,Tryz.ntmps308
 obtain ⟨hmc,hmf⟩:=HS.out.mid (i:=a) (j:=q) (by omega) (by omega)
 go_wp2_with fail
 go_big_region
 obtain ⟨J,hJ⟩:∃J,b=J+1:=⟨b-1,by omega⟩
 have hJi:(b:Int)-1=(J:Int):=by omega
 have HP1:=Lib.hid (PInv.start HS2.out HS.out.sz hq hqb hb)
 rw [show b-1=J by omega] at HP1
 generalize World.drew _=w1 at *
 clear hci hfi hcj hfj hmc hmf HS HS2 hjn
 generalize Sort.swp d a q=x0 at *
 generalize x0[a]! = p at *
 go_wp2_with fail
 go_loopw [10] (fun iv wr=>∃i:Nat,iv = .int .i64 (i:Int)∧a+1≤i∧Hid (PInv w wr g n c a b d x0 i J p)) (fun iv _=>b+1-(intOf iv).toNat)
 case atStart=>exact ⟨a+1,by go_num,Nat.le_refl _,HP1.out⟩
 case round=>
  obtain ⟨i,rfl,hI0,HA⟩:=hrel
  have hb1:=HA.out.b1;have hb2:=HA.out.b2;have hb3:=HA.out.b3
  clear HP1
  by_cases hij:i≤J
  ·have hiji:(i:Int)≤(J:Int):=by omega
   have hgd:decide ((i:Int)≤(J:Int))=true:=decide_eq_true hiji
   have hci:=HA.out.su.cell (i:=i) (by omega)
   have hca:=HA.out.su.cell (i:=a) (by omega)
   rw [HA.out.hp] at hca
   have hin:(i:Int)<(n:Int):=by omega
   go_wp2_with fail
   go_quiet ((go_at_call 296;refine Calls.quiet_of_same (less_u64' _ _ _)))
   have HB:=Lib.hid (HA.out.drewN nq)
   generalize World.drewN _ nq=wq at *
   clear hci hca HA
   cases hl:ltU x0[i]! p with
   | true=>
    have HC:=Lib.hid (HB.out.up hij hl)
    go_wp2_with fail
    go_round
    case rel=>exact ⟨i+1,by go_num,by omega,HC.out⟩
    case measure=>simp [intOf]<;>omega
   | false=>
    have HF:Hid (i≤J→ltU x0[i]! p=false):=fun _=>hl
    clear hiji hgd hij hl
    go_wp2_with fail
    go_loopw [11] (fun jv wr=>∃j:Nat,jv = .int .i64 (j:Int)∧j≤J∧Hid (PInv w wr g n c a b d x0 i j p)) (fun jv _=>(intOf jv).toNat)
    case atStart=>exact ⟨J,by go_num,Nat.le_refl _,HB.out⟩
    case round=>
     obtain ⟨j,rfl,hjJ,HA⟩:=hrel
     have hc2:=HA.out.b2;have hc3:=HA.out.b3
     clear HB
     by_cases hij:i≤j
     ·obtain ⟨j,rfl⟩:∃z,j=z+1:=⟨j-1,by omega⟩
      have hiji:(i:Int)≤((j+1:Nat):Int):=by omega
      have hgd:decide ((i:Int)≤(j:Int)+1)=true:=decide_eq_true (by omega)
      have hcj:=HA.out.su.cell (i:=j+1) (by omega)
      have hca:=HA.out.su.cell (i:=a) (by omega)
      rw [HA.out.hp] at hca
      have hjn:(j:Int)+1<(n:Int):=by omega
      go_wp2_with fail
      go_quiet ((go_at_call 296;refine Calls.quiet_of_same (less_u64' _ _ _)))
      have HB:=Lib.hid (HA.out.drewN nq)
      generalize World.drewN _ nq=wq2 at *
      clear hcj hca HA
      cases hl:ltU x0[j+1]! p with
      | false=>
       have HC:=Lib.hid (HB.out.down hij hl)
       go_wp2_with fail
       go_round
       case rel=>exact ⟨j,by go_num,by omega,HC.out⟩
       case measure=>simp [intOf]<;>omega
      | true=>
       have hli:ltU x0[i]! p=false:=HF.out (by omega)
       have HJ:Hid (i≤j+1∧ltU x0[i]! p=false∧ltU x0[j+1]! p=true):=⟨hij,hli,hl⟩
       have hgt:¬((j+1:Nat):Int)<(i:Int):=by omega
       clear hgd hli hl hiji
       have hci:=HB.out.su.cell (i:=i) (by omega)
       have hfi:=HB.out.su.free i
       have hcj:=HB.out.su.cell (i:=j+1) (by omega)
       have hfj:=HB.out.su.free (j+1)
       have hin:(i:Int)<(n:Int):=by omega
       have hjn:(j:Int)+1<(n:Int):=by omega
       obtain ⟨hmc,hmf⟩:=HB.out.su.mid (i:=i) (j:=j+1) (by omega) (by omega)
       obtain ⟨hij2,hsw⟩:=HB.out.swap hb HJ.out.1 HJ.out.2.1 HJ.out.2.2 (HB.out.su.swp (i:=i) (j:=j+1) (by omega) (by omega))
       have HS3:=Lib.hid hsw
       clear hsw
       go_wp2_with fail
       go_big_region
       generalize World.drew _=w3 at *
       clear hci hcj hfi hfj hmc hmf HJ HB
       generalize Sort.swp x0 i (j+1)=y at *
       go_wp2_with fail
       go_loopw [10,11] (fun iv jv wr=>∃(i j:Nat) (z:Array Nat),iv = .int .i64 (i:Int)∧jv = .int .i64 (j:Int)∧Hid (PInv w wr g n c a b d z i j p)) (fun iv _ _=>b+1-(intOf iv).toNat)
       case atStart=>exact ⟨i+1,j,y,by go_num,by go_num,HS3.out⟩
       case round=>
        obtain ⟨i0,jJ,z,rfl,rfl,HS4⟩:=hrel
        clear HS3 HF hgt hij hij2 hc2 hc3 hb1 hb2 hb3 hI0
        have hbj:=HS4.out.b2
        go_wp2_with fail
        go_loopw [10] (fun iv wr=>∃i:Nat,iv = .int .i64 (i:Int)∧i0≤i∧Hid (PInv w wr g n c a b d z i jJ p)) (fun iv _=>b+1-(intOf iv).toNat)
        case atStart=>exact ⟨i0,by go_num,Nat.le_refl _,HS4.out⟩
        case round=>
         obtain ⟨i,rfl,hI0,HA⟩:=hrel
         have hb1:=HA.out.b1;have hb2:=HA.out.b2;have hb3:=HA.out.b3
         clear HS4
         by_cases hij:i≤jJ
         ·have hiji:(i:Int)≤(jJ:Int):=by omega
          have hgd:decide ((i:Int)≤(jJ:Int))=true:=decide_eq_true hiji
          have hci:=HA.out.su.cell (i:=i) (by omega)
          have hca:=HA.out.su.cell (i:=a) (by omega)
          rw [HA.out.hp] at hca
          have hin:(i:Int)<(n:Int):=by omega
          go_wp2_with fail
          go_quiet ((go_at_call 296;refine Calls.quiet_of_same (less_u64' _ _ _)))
          have HB:=Lib.hid (HA.out.drewN nq)
          generalize World.drewN _ nq=wq at *
          clear hci hca HA
          cases hl:ltU z[i]! p with
          | true=>
           have HC:=Lib.hid (HB.out.up hij hl)
           go_wp2_with fail
           go_round
           case rel=>exact ⟨i+1,by go_num,by omega,HC.out⟩
           case measure=>simp [intOf]<;>omega
          | false=>
           have HF:Hid (i≤jJ→ltU z[i]! p=false):=fun _=>hl
           clear hiji hgd hij hl
           go_wp2_with fail
           go_loopw [11] (fun jv wr=>∃j:Nat,jv = .int .i64 (j:Int)∧j≤jJ∧Hid (PInv w wr g n c a b d z i j p)) (fun jv _=>(intOf jv).toNat)
           case atStart=>exact ⟨jJ,by go_num,Nat.le_refl _,HB.out⟩
           case round=>
            obtain ⟨j,rfl,hjJ,HA⟩:=hrel
            have hc2:=HA.out.b2;have hc3:=HA.out.b3
            clear HB
            by_cases hij:i≤j
            ·obtain ⟨j,rfl⟩:∃z,j=z+1:=⟨j-1,by omega⟩
             have hiji:(i:Int)≤((j+1:Nat):Int):=by omega
             have hgd:decide ((i:Int)≤(j:Int)+1)=true:=decide_eq_true (by omega)
             have hcj:=HA.out.su.cell (i:=j+1) (by omega)
             have hca:=HA.out.su.cell (i:=a) (by omega)
             rw [HA.out.hp] at hca
             have hjn:(j:Int)+1<(n:Int):=by omega
             go_wp2_with fail
             go_quiet ((go_at_call 296;refine Calls.quiet_of_same (less_u64' _ _ _)))
             have HB:=Lib.hid (HA.out.drewN nq)
             generalize World.drewN _ nq=wq2 at *
             clear hcj hca HA
             cases hl:ltU z[j+1]! p with
             | false=>
              have HC:=Lib.hid (HB.out.down hij hl)
              go_wp2_with fail
              go_round
              case rel=>exact ⟨j,by go_num,by omega,HC.out⟩
              case measure=>simp [intOf]<;>omega
             | true=>
              have hli:ltU z[i]! p=false:=HF.out (by omega)
              have HJ:Hid (i≤j+1∧ltU z[i]! p=false∧ltU z[j+1]! p=true):=⟨hij,hli,hl⟩
              have hgt:¬((j+1:Nat):Int)<(i:Int):=by omega
              clear hgd hli hl hiji
              have hci:=HB.out.su.cell (i:=i) (by omega)
              have hfi:=HB.out.su.free i
              have hcj:=HB.out.su.cell (i:=j+1) (by omega)
              have hfj:=HB.out.su.free (j+1)
              have hin:(i:Int)<(n:Int):=by omega
              have hjn:(j:Int)+1<(n:Int):=by omega
              obtain ⟨hmc,hmf⟩:=HB.out.su.mid (i:=i) (j:=j+1) (by omega) (by omega)
              obtain ⟨hij2,hsw⟩:=HB.out.swap hb HJ.out.1 HJ.out.2.1 HJ.out.2.2 (HB.out.su.swp (i:=i) (j:=j+1) (by omega) (by omega))
              have HS3:=Lib.hid hsw
              clear hsw
              go_wp2_with fail
              go_big_region
              generalize World.drew _=w3 at *
              clear hci hcj hfi hfj hmc hmf HJ HB
              generalize Sort.swp z i (j+1)=y at *
              go_wp2_with fail
              go_round
              case rel=>exact ⟨i+1,j,y,by go_num,by go_num,HS3.out⟩
              case measure=>simp [intOf]<;>omega
            ·have hiji:¬(i:Int)≤(j:Int):=by omega
             have hgd:decide ((i:Int)≤(j:Int))=false:=decide_eq_false hiji
             go_wp2_with fail
             go_quiet ((go_at_call 296;refine Calls.quiet_of_same (less_u64' _ _ _)))
             have HB:=Lib.hid (HA.out.drewN nq)
             generalize World.drewN _ nq=wq2 at *
             clear HA hgd
             have hgt:(j:Int)<(i:Int):=by omega
             have hcj:=HB.out.su.cell (i:=j) (by omega)
             have hfj:=HB.out.su.free j
             have hca:=HB.out.su.cell (i:=a) (by omega)
             have hfa:=HB.out.su.free a
             have hjn:(j:Int)<(n:Int):=by omega
             obtain ⟨hmc,hmf⟩:=HB.out.su.mid (i:=j) (j:=a) (by omega) (by omega)
             have HE:=Lib.hid (HB.out.parted hb (by omega) (HB.out.su.swp (i:=j) (j:=a) (by omega) (by omega)))
             go_wp2_with fail
             go_big_region
             go_wp2_with fail
             go_ret2
             exact ⟨j,_,_,rfl,HE.out⟩
         ·have hiji:¬(i:Int)≤(jJ:Int):=by omega
          have hgd:decide ((i:Int)≤(jJ:Int))=false:=decide_eq_false hiji
          have HF:Hid (i≤jJ→ltU z[i]! p=false):=fun h=>absurd h hij
          go_wp2_with fail
          go_quiet ((go_at_call 296;refine Calls.quiet_of_same (less_u64' _ _ _)))
          have HB:=Lib.hid (HA.out.drewN nq)
          generalize World.drewN _ nq=wq at *
          clear HA hiji hgd hij
          go_wp2_with fail
          go_loopw [11] (fun jv wr=>∃j:Nat,jv = .int .i64 (j:Int)∧j≤jJ∧Hid (PInv w wr g n c a b d z i j p)) (fun jv _=>(intOf jv).toNat)
          case atStart=>exact ⟨jJ,by go_num,Nat.le_refl _,HB.out⟩
          case round=>
           obtain ⟨j,rfl,hjJ,HA⟩:=hrel
           have hc2:=HA.out.b2;have hc3:=HA.out.b3
           clear HB
           by_cases hij:i≤j
           ·obtain ⟨j,rfl⟩:∃z,j=z+1:=⟨j-1,by omega⟩
            have hiji:(i:Int)≤((j+1:Nat):Int):=by omega
            have hgd:decide ((i:Int)≤(j:Int)+1)=true:=decide_eq_true (by omega)
            have hcj:=HA.out.su.cell (i:=j+1) (by omega)
            have hca:=HA.out.su.cell (i:=a) (by omega)
            rw [HA.out.hp] at hca
            have hjn:(j:Int)+1<(n:Int):=by omega
            go_wp2_with fail
            go_quiet ((go_at_call 296;refine Calls.quiet_of_same (less_u64' _ _ _)))
            have HB:=Lib.hid (HA.out.drewN nq)
            generalize World.drewN _ nq=wq2 at *
            clear hcj hca HA
            cases hl:ltU z[j+1]! p with
            | false=>
             have HC:=Lib.hid (HB.out.down hij hl)
             go_wp2_with fail
             go_round
             case rel=>exact ⟨j,by go_num,by omega,HC.out⟩
             case measure=>simp [intOf]<;>omega
            | true=>
             have hli:ltU z[i]! p=false:=HF.out (by omega)
             have HJ:Hid (i≤j+1∧ltU z[i]! p=false∧ltU z[j+1]! p=true):=⟨hij,hli,hl⟩
             have hgt:¬((j+1:Nat):Int)<(i:Int):=by omega
             clear hgd hli hl hiji
             have hci:=HB.out.su.cell (i:=i) (by omega)
             have hfi:=HB.out.su.free i
             have hcj:=HB.out.su.cell (i:=j+1) (by omega)
             have hfj:=HB.out.su.free (j+1)
             have hin:(i:Int)<(n:Int):=by omega
             have hjn:(j:Int)+1<(n:Int):=by omega
             obtain ⟨hmc,hmf⟩:=HB.out.su.mid (i:=i) (j:=j+1) (by omega) (by omega)
             obtain ⟨hij2,hsw⟩:=HB.out.swap hb HJ.out.1 HJ.out.2.1 HJ.out.2.2 (HB.out.su.swp (i:=i) (j:=j+1) (by omega) (by omega))
             have HS3:=Lib.hid hsw
             clear hsw
             go_wp2_with fail
             go_big_region
             generalize World.drew _=w3 at *
             clear hci hcj hfi hfj hmc hmf HJ HB
             generalize Sort.swp z i (j+1)=y at *
             go_wp2_with fail
             go_round
             case rel=>exact ⟨i+1,j,y,by go_num,by go_num,HS3.out⟩
             case measure=>simp [intOf]<;>omega
           ·have hiji:¬(i:Int)≤(j:Int):=by omega
            have hgd:decide ((i:Int)≤(j:Int))=false:=decide_eq_false hiji
            go_wp2_with fail
            go_quiet ((go_at_call 296;refine Calls.quiet_of_same (less_u64' _ _ _)))
            have HB:=Lib.hid (HA.out.drewN nq)
            generalize World.drewN _ nq=wq2 at *
            clear HA hgd
            have hgt:(j:Int)<(i:Int):=by omega
            have hcj:=HB.out.su.cell (i:=j) (by omega)
            have hfj:=HB.out.su.free j
            have hca:=HB.out.su.cell (i:=a) (by omega)
            have hfa:=HB.out.su.free a
            have hjn:(j:Int)<(n:Int):=by omega
            obtain ⟨hmc,hmf⟩:=HB.out.su.mid (i:=j) (j:=a) (by omega) (by omega)
            have HE:=Lib.hid (HB.out.parted hb (by omega) (HB.out.su.swp (i:=j) (j:=a) (by omega) (by omega)))
            go_wp2_with fail
            go_big_region
            go_wp2_with fail
            go_ret2
            exact ⟨j,_,_,rfl,HE.out⟩
     ·have hiji:¬(i:Int)≤(j:Int):=by omega
      have hgd:decide ((i:Int)≤(j:Int))=false:=decide_eq_false hiji
      go_wp2_with fail
      go_quiet ((go_at_call 296;refine Calls.quiet_of_same (less_u64' _ _ _)))
      have HB:=Lib.hid (HA.out.drewN nq)
      generalize World.drewN _ nq=wq2 at *
      clear HA hgd
      have hgt:(j:Int)<(i:Int):=by omega
      have hcj:=HB.out.su.cell (i:=j) (by omega)
      have hfj:=HB.out.su.free j
      have hca:=HB.out.su.cell (i:=a) (by omega)
      have hfa:=HB.out.su.free a
      have hjn:(j:Int)<(n:Int):=by omega
      obtain ⟨hmc,hmf⟩:=HB.out.su.mid (i:=j) (j:=a) (by omega) (by omega)
      have HE:=Lib.hid (HB.out.parted hb (by omega) (HB.out.su.swp (i:=j) (j:=a) (by omega) (by omega)))
      go_wp2_with fail
      go_big_region
      go_wp2_with fail
      go_ret2
      exact ⟨j,_,_,rfl,HE.out⟩
  ·have hiji:¬(i:Int)≤(J:Int):=by omega
   have hgd:decide ((i:Int)≤(J:Int))=false:=decide_eq_false hiji
   have HF:Hid (i≤J→ltU x0[i]! p=false):=fun h=>absurd h hij
   go_wp2_with fail
   go_quiet ((go_at_call 296;refine Calls.quiet_of_same (less_u64' _ _ _)))
   have HB:=Lib.hid (HA.out.drewN nq)
   generalize World.drewN _ nq=wq at *
   clear HA hiji hgd hij
   go_wp2_with fail
   go_loopw [11] (fun jv wr=>∃j:Nat,jv = .int .i64 (j:Int)∧j≤J∧Hid (PInv w wr g n c a b d x0 i j p)) (fun jv _=>(intOf jv).toNat)
   case atStart=>exact ⟨J,by go_num,Nat.le_refl _,HB.out⟩
   case round=>
    obtain ⟨j,rfl,hjJ,HA⟩:=hrel
    have hc2:=HA.out.b2;have hc3:=HA.out.b3
    clear HB
    by_cases hij:i≤j
    ·obtain ⟨j,rfl⟩:∃z,j=z+1:=⟨j-1,by omega⟩
     have hiji:(i:Int)≤((j+1:Nat):Int):=by omega
     have hgd:decide ((i:Int)≤(j:Int)+1)=true:=decide_eq_true (by omega)
     have hcj:=HA.out.su.cell (i:=j+1) (by omega)
     have hca:=HA.out.su.cell (i:=a) (by omega)
     rw [HA.out.hp] at hca
     have hjn:(j:Int)+1<(n:Int):=by omega
     go_wp2_with fail
     go_quiet ((go_at_call 296;refine Calls.quiet_of_same (less_u64' _ _ _)))
     have HB:=Lib.hid (HA.out.drewN nq)
     generalize World.drewN _ nq=wq2 at *
     clear hcj hca HA
     cases hl:ltU x0[j+1]! p with
     | false=>
      have HC:=Lib.hid (HB.out.down hij hl)
      go_wp2_with fail
      go_round
      case rel=>exact ⟨j,by go_num,by omega,HC.out⟩
      case measure=>simp [intOf]<;>omega
     | true=>
      have hli:ltU x0[i]! p=false:=HF.out (by omega)
      have HJ:Hid (i≤j+1∧ltU x0[i]! p=false∧ltU x0[j+1]! p=true):=⟨hij,hli,hl⟩
      have hgt:¬((j+1:Nat):Int)<(i:Int):=by omega
      clear hgd hli hl hiji
      have hci:=HB.out.su.cell (i:=i) (by omega)
      have hfi:=HB.out.su.free i
      have hcj:=HB.out.su.cell (i:=j+1) (by omega)
      have hfj:=HB.out.su.free (j+1)
      have hin:(i:Int)<(n:Int):=by omega
      have hjn:(j:Int)+1<(n:Int):=by omega
      obtain ⟨hmc,hmf⟩:=HB.out.su.mid (i:=i) (j:=j+1) (by omega) (by omega)
      obtain ⟨hij2,hsw⟩:=HB.out.swap hb HJ.out.1 HJ.out.2.1 HJ.out.2.2 (HB.out.su.swp (i:=i) (j:=j+1) (by omega) (by omega))
      have HS3:=Lib.hid hsw
      clear hsw
      go_wp2_with fail
      go_big_region
      generalize World.drew _=w3 at *
      clear hci hcj hfi hfj hmc hmf HJ HB
      generalize Sort.swp x0 i (j+1)=y at *
      go_wp2_with fail
      go_loopw [10,11] (fun iv jv wr=>∃(i j:Nat) (z:Array Nat),iv = .int .i64 (i:Int)∧jv = .int .i64 (j:Int)∧Hid (PInv w wr g n c a b d z i j p)) (fun iv _ _=>b+1-(intOf iv).toNat)
      case atStart=>exact ⟨i+1,j,y,by go_num,by go_num,HS3.out⟩
      case round=>
       obtain ⟨i0,jJ,z,rfl,rfl,HS4⟩:=hrel
       clear HS3 HF hgt hij hij2 hc2 hc3 hb1 hb2 hb3 hI0
       have hbj:=HS4.out.b2
       go_wp2_with fail
       go_loopw [10] (fun iv wr=>∃i:Nat,iv = .int .i64 (i:Int)∧i0≤i∧Hid (PInv w wr g n c a b d z i jJ p)) (fun iv _=>b+1-(intOf iv).toNat)
       case atStart=>exact ⟨i0,by go_num,Nat.le_refl _,HS4.out⟩
       case round=>
        obtain ⟨i,rfl,hI0,HA⟩:=hrel
        have hb1:=HA.out.b1;have hb2:=HA.out.b2;have hb3:=HA.out.b3
        clear HS4
        by_cases hij:i≤jJ
        ·have hiji:(i:Int)≤(jJ:Int):=by omega
         have hgd:decide ((i:Int)≤(jJ:Int))=true:=decide_eq_true hiji
         have hci:=HA.out.su.cell (i:=i) (by omega)
         have hca:=HA.out.su.cell (i:=a) (by omega)
         rw [HA.out.hp] at hca
         have hin:(i:Int)<(n:Int):=by omega
         go_wp2_with fail
         go_quiet ((go_at_call 296;refine Calls.quiet_of_same (less_u64' _ _ _)))
         have HB:=Lib.hid (HA.out.drewN nq)
         generalize World.drewN _ nq=wq at *
         clear hci hca HA
         cases hl:ltU z[i]! p with
         | true=>
          have HC:=Lib.hid (HB.out.up hij hl)
          go_wp2_with fail
          go_round
          case rel=>exact ⟨i+1,by go_num,by omega,HC.out⟩
          case measure=>simp [intOf]<;>omega
         | false=>
          have HF:Hid (i≤jJ→ltU z[i]! p=false):=fun _=>hl
          clear hiji hgd hij hl
          go_wp2_with fail
          go_loopw [11] (fun jv wr=>∃j:Nat,jv = .int .i64 (j:Int)∧j≤jJ∧Hid (PInv w wr g n c a b d z i j p)) (fun jv _=>(intOf jv).toNat)
          case atStart=>exact ⟨jJ,by go_num,Nat.le_refl _,HB.out⟩
          case round=>
           obtain ⟨j,rfl,hjJ,HA⟩:=hrel
           have hc2:=HA.out.b2;have hc3:=HA.out.b3
           clear HB
           by_cases hij:i≤j
           ·obtain ⟨j,rfl⟩:∃z,j=z+1:=⟨j-1,by omega⟩
            have hiji:(i:Int)≤((j+1:Nat):Int):=by omega
            have hgd:decide ((i:Int)≤(j:Int)+1)=true:=decide_eq_true (by omega)
            have hcj:=HA.out.su.cell (i:=j+1) (by omega)
            have hca:=HA.out.su.cell (i:=a) (by omega)
            rw [HA.out.hp] at hca
            have hjn:(j:Int)+1<(n:Int):=by omega
            go_wp2_with fail
            go_quiet ((go_at_call 296;refine Calls.quiet_of_same (less_u64' _ _ _)))
            have HB:=Lib.hid (HA.out.drewN nq)
            generalize World.drewN _ nq=wq2 at *
            clear hcj hca HA
            cases hl:ltU z[j+1]! p with
            | false=>
             have HC:=Lib.hid (HB.out.down hij hl)
             go_wp2_with fail
             go_round
             case rel=>exact ⟨j,by go_num,by omega,HC.out⟩
             case measure=>simp [intOf]<;>omega
            | true=>
             have hli:ltU z[i]! p=false:=HF.out (by omega)
             have HJ:Hid (i≤j+1∧ltU z[i]! p=false∧ltU z[j+1]! p=true):=⟨hij,hli,hl⟩
             have hgt:¬((j+1:Nat):Int)<(i:Int):=by omega
             clear hgd hli hl hiji
             have hci:=HB.out.su.cell (i:=i) (by omega)
             have hfi:=HB.out.su.free i
             have hcj:=HB.out.su.cell (i:=j+1) (by omega)
             have hfj:=HB.out.su.free (j+1)
             have hin:(i:Int)<(n:Int):=by omega
             have hjn:(j:Int)+1<(n:Int):=by omega
             obtain ⟨hmc,hmf⟩:=HB.out.su.mid (i:=i) (j:=j+1) (by omega) (by omega)
             obtain ⟨hij2,hsw⟩:=HB.out.swap hb HJ.out.1 HJ.out.2.1 HJ.out.2.2 (HB.out.su.swp (i:=i) (j:=j+1) (by omega) (by omega))
             have HS3:=Lib.hid hsw
             clear hsw
             go_wp2_with fail
             go_big_region
             generalize World.drew _=w3 at *
             clear hci hcj hfi hfj hmc hmf HJ HB
             generalize Sort.swp z i (j+1)=y at *
             go_wp2_with fail
             go_round
             case rel=>exact ⟨i+1,j,y,by go_num,by go_num,HS3.out⟩
             case measure=>simp [intOf]<;>omega
           ·have hiji:¬(i:Int)≤(j:Int):=by omega
            have hgd:decide ((i:Int)≤(j:Int))=false:=decide_eq_false hiji
            go_wp2_with fail
            go_quiet ((go_at_call 296;refine Calls.quiet_of_same (less_u64' _ _ _)))
            have HB:=Lib.hid (HA.out.drewN nq)
            generalize World.drewN _ nq=wq2 at *
            clear HA hgd
            have hgt:(j:Int)<(i:Int):=by omega
            have hcj:=HB.out.su.cell (i:=j) (by omega)
            have hfj:=HB.out.su.free j
            have hca:=HB.out.su.cell (i:=a) (by omega)
            have hfa:=HB.out.su.free a
            have hjn:(j:Int)<(n:Int):=by omega
            obtain ⟨hmc,hmf⟩:=HB.out.su.mid (i:=j) (j:=a) (by omega) (by omega)
            have HE:=Lib.hid (HB.out.parted hb (by omega) (HB.out.su.swp (i:=j) (j:=a) (by omega) (by omega)))
            go_wp2_with fail
            go_big_region
            go_wp2_with fail
            go_ret2
            exact ⟨j,_,_,rfl,HE.out⟩
        ·have hiji:¬(i:Int)≤(jJ:Int):=by omega
         have hgd:decide ((i:Int)≤(jJ:Int))=false:=decide_eq_false hiji
         have HF:Hid (i≤jJ→ltU z[i]! p=false):=fun h=>absurd h hij
         go_wp2_with fail
         go_quiet ((go_at_call 296;refine Calls.quiet_of_same (less_u64' _ _ _)))
         have HB:=Lib.hid (HA.out.drewN nq)
         generalize World.drewN _ nq=wq at *
         clear HA hiji hgd hij
         go_wp2_with fail
         go_loopw [11] (fun jv wr=>∃j:Nat,jv = .int .i64 (j:Int)∧j≤jJ∧Hid (PInv w wr g n c a b d z i j p)) (fun jv _=>(intOf jv).toNat)
         case atStart=>exact ⟨jJ,by go_num,Nat.le_refl _,HB.out⟩
         case round=>
          obtain ⟨j,rfl,hjJ,HA⟩:=hrel
          have hc2:=HA.out.b2;have hc3:=HA.out.b3
          clear HB
          by_cases hij:i≤j
          ·obtain ⟨j,rfl⟩:∃z,j=z+1:=⟨j-1,by omega⟩
           have hiji:(i:Int)≤((j+1:Nat):Int):=by omega
           have hgd:decide ((i:Int)≤(j:Int)+1)=true:=decide_eq_true (by omega)
           have hcj:=HA.out.su.cell (i:=j+1) (by omega)
           have hca:=HA.out.su.cell (i:=a) (by omega)
           rw [HA.out.hp] at hca
           have hjn:(j:Int)+1<(n:Int):=by omega
           go_wp2_with fail
           go_quiet ((go_at_call 296;refine Calls.quiet_of_same (less_u64' _ _ _)))
           have HB:=Lib.hid (HA.out.drewN nq)
           generalize World.drewN _ nq=wq2 at *
           clear hcj hca HA
           cases hl:ltU z[j+1]! p with
           | false=>
            have HC:=Lib.hid (HB.out.down hij hl)
            go_wp2_with fail
            go_round
            case rel=>exact ⟨j,by go_num,by omega,HC.out⟩
            case measure=>simp [intOf]<;>omega
           | true=>
            have hli:ltU z[i]! p=false:=HF.out (by omega)
            have HJ:Hid (i≤j+1∧ltU z[i]! p=false∧ltU z[j+1]! p=true):=⟨hij,hli,hl⟩
            have hgt:¬((j+1:Nat):Int)<(i:Int):=by omega
            clear hgd hli hl hiji
            have hci:=HB.out.su.cell (i:=i) (by omega)
            have hfi:=HB.out.su.free i
            have hcj:=HB.out.su.cell (i:=j+1) (by omega)
            have hfj:=HB.out.su.free (j+1)
            have hin:(i:Int)<(n:Int):=by omega
            have hjn:(j:Int)+1<(n:Int):=by omega
            obtain ⟨hmc,hmf⟩:=HB.out.su.mid (i:=i) (j:=j+1) (by omega) (by omega)
            obtain ⟨hij2,hsw⟩:=HB.out.swap hb HJ.out.1 HJ.out.2.1 HJ.out.2.2 (HB.out.su.swp (i:=i) (j:=j+1) (by omega) (by omega))
            have HS3:=Lib.hid hsw
            clear hsw
            go_wp2_with fail
            go_big_region
            generalize World.drew _=w3 at *
            clear hci hcj hfi hfj hmc hmf HJ HB
            generalize Sort.swp z i (j+1)=y at *
            go_wp2_with fail
            go_round
            case rel=>exact ⟨i+1,j,y,by go_num,by go_num,HS3.out⟩
            case measure=>simp [intOf]<;>omega
          ·have hiji:¬(i:Int)≤(j:Int):=by omega
           have hgd:decide ((i:Int)≤(j:Int))=false:=decide_eq_false hiji
           go_wp2_with fail
           go_quiet ((go_at_call 296;refine Calls.quiet_of_same (less_u64' _ _ _)))
           have HB:=Lib.hid (HA.out.drewN nq)
           generalize World.drewN _ nq=wq2 at *
           clear HA hgd
           have hgt:(j:Int)<(i:Int):=by omega
           have hcj:=HB.out.su.cell (i:=j) (by omega)
           have hfj:=HB.out.su.free j
           have hca:=HB.out.su.cell (i:=a) (by omega)
           have hfa:=HB.out.su.free a
           have hjn:(j:Int)<(n:Int):=by omega
           obtain ⟨hmc,hmf⟩:=HB.out.su.mid (i:=j) (j:=a) (by omega) (by omega)
           have HE:=Lib.hid (HB.out.parted hb (by omega) (HB.out.su.swp (i:=j) (j:=a) (by omega) (by omega)))
           go_wp2_with fail
           go_big_region
           go_wp2_with fail
           go_ret2
           exact ⟨j,_,_,rfl,HE.out⟩
    ·have hiji:¬(i:Int)≤(j:Int):=by omega
     have hgd:decide ((i:Int)≤(j:Int))=false:=decide_eq_false hiji
     go_wp2_with fail
     go_quiet ((go_at_call 296;refine Calls.quiet_of_same (less_u64' _ _ _)))
     have HB:=Lib.hid (HA.out.drewN nq)
     generalize World.drewN _ nq=wq2 at *
     clear HA hgd
     have hgt:(j:Int)<(i:Int):=by omega
     have hcj:=HB.out.su.cell (i:=j) (by omega)
     have hfj:=HB.out.su.free j
     have hca:=HB.out.su.cell (i:=a) (by omega)
     have hfa:=HB.out.su.free a
     have hjn:(j:Int)<(n:Int):=by omega
     obtain ⟨hmc,hmf⟩:=HB.out.su.mid (i:=j) (j:=a) (by omega) (by omega)
     have HE:=Lib.hid (HB.out.parted hb (by omega) (HB.out.su.swp (i:=j) (j:=a) (by omega) (by omega)))
     go_wp2_with fail
     go_big_region
     go_wp2_with fail
     go_ret2
     exact ⟨j,_,_,rfl,HE.out⟩
end Go.Proofs.YtdcgbgecbeegmaaGreatDoor
end
