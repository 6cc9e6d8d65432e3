/- Texts 12. -/
import Derived.Test.YtdcgbgecbeegmaaGreatDoorMgL11
import Derived.Test.YtdcgbgecbeegmaaGreatDoorMgL4
import Derived.Test.YtdcgbgecbeegmaaGreatDoorMgL1
import Derived.Test.YtdcgbgecbeegmaaGreatDoorMgL9
import Derived.Shelf.Small.Bits
import Derived.Shelf.Spec.TrailingZeros
import Derived.BigQuiet
set_option linter.unusedVariables false
set_option linter.unusedSimpArgs false
section
namespace Go.Proofs.YtdcgbgecbeegmaaGreatDoor
open Go Go.RowKit Go.Shelf
attribute [local go_sem] Oper.semAt_some
theorem encX_mark (x:Int):encX x=fieldBits (markT (formT x)) (markLenT (formT x))++fieldBits (ofI x) (widthT (formT x)):=by
 rw [mark_bits (formT_le x)];rfl
theorem times_put_nil (p:Nat) (v lv:Value) (bits:List Bool) (w:World) (hW:WriterIn w p v bits) (h:Rd w 1 lv 0 []) :
  Calls Tryz.prog 138 #[.pointer (some ⟨p,0,none⟩),lv] w fun e w'=>e = .returned (.int .i64 0)∧BitsPost p v bits w w':=by
 have HW:=Lib.hid hW
 clear hW
 obtain ⟨q,c,hv⟩:=h.shape
 subst hv
 go_enter Tryz.func138,Tryz.ntmps138
 go_wp2_with fail
 go_ret
 refine ⟨rfl,v,HW.out.below ((Below.refl _ _).alloc (Nat.le_refl _) _),?_⟩
 exact ⟨Mods.alloc _ _ _,Fresh.refl _ _⟩
set_option maxRecDepth 100000 in
set_option maxHeartbeats 2000000 in
theorem times_put_cons (p:Nat) (v lv:Value) (bits:List Bool) (ls:List Int) (t0:Int) (tl:List Int) (els:ls=t0::tl) (w:World) (hT:TabF w) (hW:WriterIn w p v bits) (hgp : 1 + 1≤p) (hgv:∀k,v.ownBlock=some k→1 + 1≤k)
  (hl:Rd w 1 lv ls.length (i64s ls)) (hap:∀k,lv.ownBlock=some k→k≠p∧v.ownBlock≠some k) (hz:bits.length+68*ls.length≤70368744177000) :
  Calls Tryz.prog 138 #[.pointer (some ⟨p,0,none⟩),lv] w fun e w'=>e = .returned (.int .i64 0)∧BitsPost p v (bits++encT ls) w w':=by
 have HLT:=Lib.hid (i64s_lt hl)
 obtain ⟨b0,off,c,e,_,_,hcl⟩:=hl.at (by rw [els];simp [i64s])
 subst e
 have HL:=Lib.hid hl;have HT:=Lib.hid hT;have HEL:=Lib.hid els;have HW:=Lib.hid hW
 have hne:(ls.length:Int)≠0:=by rw [els];simp only [List.length_cons];omega
 have hpos:(0:Int)<(ls.length:Int):=by omega
 have hnb:((ls.length:Int) == 0)=false:=by rw [beq_eq_false_iff_ne];exact hne
 have HZ:Hid (bits.length+68*(changesT t0 0 tl).length+68≤70368744177000):=by show _≤_;rw [changesT_length];rw [els,List.length_cons] at hz;omega
 have hc0:w.cell? ⟨b0,off,none⟩=some (.int .i64 t0):=by have:=hcl 0 (.int .i64 t0) (by rw [els];rfl);simpa using this
 have HAp:Hid (b0≠p∧v.ownBlock≠some b0∧b0<w.heap.size):=⟨(hap b0 rfl).1,(hap b0 rfl).2,World.block_lt_of_cell? w _ hc0⟩
 have HG:Hid (1 + 1≤p∧∀k,v.ownBlock=some k→1 + 1≤k):=⟨hgp,hgv⟩
 have hwr:=wrap_ofI t0
 clear hl hT els hz hcl hW hap hgp hgv
 refine (callsIn_wide (n:=9)).1 ?_
 refine callsIn_of_wp_marks Tryz.func138 rfl trivial ?_ rfl
 simp only [Tryz.ntmps138,List.size_toArray,List.length_cons,List.length_nil,Nat.reduceAdd,Nat.reduceSub,Array.replicate_succ,Array.replicate_zero,List.push_toArray,List.append_toArray,List.nil_append,List.cons_append]
 gi_wp2_with fail
 obtain ⟨w1,hw1⟩:∃w1,w.alloc (.cells #[.pointer (some ⟨p,0,none⟩)] 189)=w1:=⟨_,rfl⟩
 have hs1:w1.heap.size=w.heap.size+1:=by rw [← hw1];simp
 have hB1:Below w.heap.size w w1:=by rw [← hw1];exact (Below.refl _ w).alloc (Nat.le_refl _) _
 have hx1:Blk w1 w.heap.size [.pointer (some ⟨p,0,none⟩)]:=by rw [← hw1];exact Blk.new w _ _
 rw [hw1]
 clear hw1
 have hW1:=HW.out.below hB1
 have HPl:Hid (p<w.heap.size∧∀k,v.ownBlock=some k→k<w.heap.size):=⟨HW.out.blk.lt,owns_lt HW.out.own⟩
 have HWB:=Lib.hid (wbits p v bits (ofI t0) 64 w1.drew (hW1.mods (Mods.drew (fun _=>False) w1) (fun e=>e) (fun _ _ e=>e)) (by omega) (by have:=HZ.out;omega))
 have d0:w1.cell? ⟨w.heap.size,0,none⟩=some (.pointer (some ⟨p,0,none⟩)):=by rw [hx1.cell];rfl
 have d1:w1.cell? ⟨b0,off,none⟩=some (.int .i64 t0):=(hB1.cell HAp.out.2.2).trans hc0
 have HD1:=Lib.hid d1
 have HX1:=Lib.hid hx1;have HS1:=Lib.hid hs1;have HB1:=Lib.hid hB1
 have HC:Hid (∀w':World,(w'.cell? ⟨w.heap.size,0,none⟩=some (.pointer (some ⟨p,0,none⟩))∧w'.cell? ⟨b0,off,none⟩=some (.int .i64 t0)∧True)→(w'.cell? ⟨w.heap.size,0,none⟩=some (.pointer (some ⟨p,0,none⟩))∧w'.cell? ⟨b0,off,none⟩=some (.int .i64 t0)∧True)):=fun _ h=>h
 clear hW1 hx1 hs1 hB1 hc0
 refine wpIn_wide.2 (wp_normal ?_)
 have hposN:0<ls.length:=by omega
 refine wp_region_takeH (fun w':World=>w'.cell? ⟨w.heap.size,0,none⟩=some (.pointer (some ⟨p,0,none⟩))∧w'.cell? ⟨b0,off,none⟩=some (.int .i64 t0)∧True) [5] [0,1,2,3,4,5] (by kernel_rfl) (by kernel_rfl) (by kernel_rfl) ?_ ?_ ?_
 ·intro c a a' w hd h;cases h.1
 ·exact ⟨d0,d1,trivial⟩
 clear d0 d1
 simp only [taken,List.map_cons,List.map_nil,List.getElem?_cons_succ,List.getElem?_cons_zero,Option.getD_some]
 repeat (first
        | (refine takeH_skip rfl ?_; simp only [Act.put, List.setIfInBounds_toArray, List.set_cons_succ, List.set_cons_zero])
        | (refine takeH_blind rfl rfl ?_; apply Exists.intro; refine ⟨fun w => ?_, ?_⟩; (go_simp; try with_reducible rfl); simp only [Act.put, List.setIfInBounds_toArray, List.set_cons_succ, List.set_cons_zero])
        | (refine takeH_reads rfl rfl ?_; apply Exists.intro; refine ⟨fun w' hS => ?_, ?_⟩; (obtain ⟨d0, d1, d2⟩ := HC.out w' hS; go_simp; try with_reducible rfl); simp only [Act.put, List.setIfInBounds_toArray, List.set_cons_succ, List.set_cons_zero]))
 refine takeH_call rfl rfl (fun K' hK=>?_)
 go_wp2_with fail
 refine HWB.out.mono ?_
 rintro e w2 ⟨rfl,v2,hW2,hU2⟩
 have HU2:Hid (Upd w1 w2 p v v2):=⟨(Mods.drew (fun k=>k=p∨v.ownBlock=some k) w1).trans hU2.mods (fun _ _ e=>e),hU2.fresh⟩
 have HW2:=Lib.hid hW2
 have hxb:¬(w.heap.size=p∨v.ownBlock=some w.heap.size):=fun e=>by
  rcases e with e | e
  ·have:=HPl.out.1;omega
  ·have:=HPl.out.2 _ e;omega
 have HX2:=Lib.hid (HU2.out.mods.blk HX1.out hxb)
 have HT2:Hid (TabF w2):=(HT.out.below HB1.out (Nat.le_refl _)).block (HU2.out.mods.block _ (by have:=HT.out.lt;have:=HS1.out;omega) (fun e=>by
  rcases e with e | e
  ·have:=HG.out.1;omega
  ·have:=HG.out.2 _ e;omega))
 have hlb:∀k,(Value.slice (some ⟨b0,off,none⟩) ls.length c).ownBlock=some k→¬(k=p∨v.ownBlock=some k):=fun k hk e=>by
  obtain rfl:b0=k:=by simpa [Value.ownBlock] using hk
  rcases e with e | e
  ·exact HAp.out.1 e
  ·exact HAp.out.2.1 e
 have HL2:=Lib.hid ((HL.out.below HB1.out).mods HU2.out.mods hlb)
 refine hK _ _ ⟨by rw [HX2.out.cell];rfl,?_,trivial⟩ ?_
 ·exact HU2.out.mods.cell HD1.out (hlb b0 rfl)
 clear hK K' hW2 hU2 HWB hxb hlb
 refine takeH_nil ⟨rfl,?_⟩
 gi_wp2_with (refine ⟨trivial,?_⟩;gi_at_call 182;refine (new_changes _ _ c _ _).mono ?_;rintro e w' ⟨rfl,rfl⟩)
 obtain ⟨W0,hW0⟩:∃W0,w2.alloc (.cells #[.slice (some ⟨b0,off,none⟩) ls.length c] 112)=W0:=⟨_,rfl⟩
 have hs0:W0.heap.size=w2.heap.size+1:=by rw [← hW0];simp
 have hB0:Below w2.heap.size w2 W0:=by rw [← hW0];exact (Below.refl _ w2).alloc (Nat.le_refl _) _
 have hx0:W0.cell? ⟨w2.heap.size,0,none⟩=some (.slice (some ⟨b0,off,none⟩) ls.length c):=by
  have:=(Blk.new w2 #[.slice (some ⟨b0,off,none⟩) ls.length c] 112).cell 0
  rw [hW0] at this
  simpa using this
 rw [hW0]
 clear hW0
 have HX0:=Lib.hid (HX2.out.of_same (hB0.block _ HX2.out.lt))
 have HT0:=Lib.hid (HT2.out.below hB0 (Nat.le_refl _))
 have HW0:=Lib.hid (HW2.out.below hB0)
 have HP2:Hid (p<w2.heap.size∧(∀k,v2.ownBlock=some k→k<w2.heap.size)∧w1.heap.size≤w2.heap.size):=⟨HW2.out.blk.lt,owns_lt HW2.out.own,HU2.out.mods.size⟩
 have HV2:Hid (∀k,v2.ownBlock=some k→v.ownBlock=some k∨w1.heap.size≤k):=fun k hk=>HU2.out.fresh k hk
 have HKW:Hid (∀k,(k=w2.heap.size∨(Value.slice (some ⟨b0,off,none⟩) ls.length c).ownBlock=some k)→k≠p∧v2.ownBlock≠some k∧k<W0.heap.size):=fun k hk=>by
  have h1:=HP2.out.1;have h2:=HPl.out.1;have h3:=HS1.out;have h4:=HP2.out.2.2;have h5:=HAp.out
  rcases hk with e | e
  ·exact ⟨by omega,fun e2=>by have:=HP2.out.2.1 k e2;omega,by omega⟩
  ·obtain rfl:b0=k:=by simpa [Value.ownBlock] using e
   refine ⟨h5.1,fun e2=>?_,by omega⟩
   rcases HV2.out b0 e2 with e3 | e3
   ·exact h5.2.1 e3
   ·omega
 have HXn:Hid (¬(w.heap.size=p∨v2.ownBlock=some w.heap.size)):=fun e=>by
  have h1:=HPl.out.1;have h3:=HS1.out
  rcases e with e | e
  ·omega
  ·rcases HV2.out _ e with e3 | e3
   ·have:=HPl.out.2 _ e3;omega
   ·omega
 have HGn:Hid (¬(1 = p∨v2.ownBlock=some 1)):=fun e=>by
  have h1:=HG.out.1;have h3:=HS1.out;have h4:=HT.out.lt
  rcases e with e | e
  ·omega
  ·rcases HV2.out _ e with e3 | e3
   ·have:=HG.out.2 _ e3;omega
   ·omega
 have HGV:=Lib.hid (changes_gives 8 (by omega) w2.heap.size _ ls t0 tl HEL.out W0 hx0 (HL2.out.below hB0))
 have HS0:=Lib.hid hs0;have HB0:=Lib.hid hB0
 clear hx0 hs0 hB0
 obtain ⟨K,hK⟩:∃K:Nat→Prop,(fun k=>k=w2.heap.size∨(Value.slice (some ⟨b0,off,none⟩) ls.length c).ownBlock=some k)=K:=⟨_,rfl⟩
 have HKW2:Hid (∀k,K k→k≠p∧v2.ownBlock≠some k∧k<W0.heap.size):=by rw [← hK];exact HKW.out
 rw [hK] at HGV
 clear hK HKW
 obtain ⟨ys,hys⟩:∃ys,changesT t0 0 tl=ys:=⟨_,rfl⟩
 have HE:Hid (bits++encT ls=(bits++fieldBits (ofI t0) 64)++ys.flatMap encX):=by show _=_;rw [HEL.out,encT_changes,hys,List.append_assoc]
 have HO:Hid ((bits++fieldBits (ofI t0) 64).length=bits.length+64):=by show _=_;rw [List.length_append,fieldBits_length]
 rw [hys] at HGV HZ
 clear hys
 generalize bits++fieldBits (ofI t0) 64=out0 at *
 refine wpIn_rangeFunc_ownG rfl (by omega) (gf:=225) (lb:=#[.pointer (some ⟨w2.heap.size,0,none⟩)]) rfl trivial (enters_of Tryz.func225 (by kernel_rfl) rfl)
  HGV.out (fun h k=>keepAt_t h k) (fun W l o o' h1 h2 h3 h4=>keepAt_b (fun k hk=>(HKW2.out k hk).2.2) W l o o' h1 h2 h3 h4) (Below.refl _ _) (fun _=>rfl)
  (fun pre W=>PutIn p v2 W0 (out0++pre.flatMap encX) W)
  (fun _ _ _=>False)
  (putIn_own (Nat.le_refl _) p v2 (fun pre:List Int=>out0++pre.flatMap encX))
  (fun _ _ _ _ _ hs _ _=>hs)
  ⟨v2,by simpa using HW0.out,Upd.refl _ _ _⟩
  (fun x=>{ tmps:=#[.pointer (some ⟨p,0,none⟩),.slice (some ⟨b0,off,none⟩) ls.length c,.pointer (some ⟨w.heap.size,0,none⟩),undef,.int .i64 0,.int .i64 x,undef,.pointer (some ⟨p,0,none⟩),.bool false,.slice (some ⟨b0,off,none⟩) ls.length c,.int .i64 (ls.length:Int),.bool false,.pointer (some ⟨p,0,none⟩),.slice (some ⟨b0,off,none⟩) ls.length c,.pointer (some ⟨b0,off,none⟩),.int .i64 t0,.int .u64 (ofI t0:Int),.int .i64 0,.slice (some ⟨b0,off,none⟩) ls.length c,.func (.func 225) #[] #[.pointer (some ⟨w2.heap.size,0,none⟩)],.int .i64 x,undef,undef,undef,undef,undef,undef,undef,undef,undef,undef,undef,undef,undef,undef],defers:=[] }) ?assign ?body ?done ?stop
 case assign=>
  intro l x W K hK
  simp only [List.zip_toArray,List.zip_cons_cons,List.zip_nil_right,List.foldl_toArray,List.foldl_cons,List.foldl_nil,List.setIfInBounds_toArray,List.set_cons_zero,List.set_cons_succ]
  gi_wp2
  exact hK
 case body=>
  rintro l pre x W ⟨v',hW',hU'⟩ hlen
  have HTW:=Lib.hid (HT0.out.block (hU'.mods.block _ HT0.out.lt HGn.out))
  have HXW:=Lib.hid (hU'.mods.blk HX0.out HXn.out)
  have HF:=Lib.hid (formOf_cells x W HTW.out)
  have h1:=markLen_le (formT x)
  have h2:=widthT_le (formT x)
  have HEx:=Lib.hid (encX_mark x)
  have hwx:=wrap_ofI x
  have HZ2:Hid ((out0++pre.flatMap encX).length+136≤1125899906842624):=by show _≤_;have:=encX_all pre;have:=HZ.out;have:=HO.out;rw [List.length_append];omega
  have HW':=Lib.hid hW';have HU':=Lib.hid hU'
  have HPre:Hid (out0++(pre++[x]).flatMap encX=(out0++pre.flatMap encX)++encX x):=by show _=_;rw [List.flatMap_append,List.flatMap_cons,List.flatMap_nil,List.append_nil,List.append_assoc]
  clear hW' hU'
  generalize encX x=EX at *
  generalize markT (formT x)=m1 at *
  generalize markLenT (formT x)=m2 at *
  generalize widthT (formT x)=m3 at *
  generalize ofI x=ux at *
  have HPw:Hid (p<W.heap.size∧(∀k,v'.ownBlock=some k→k<W.heap.size)∧W0.heap.size≤W.heap.size):=⟨HW'.out.blk.lt,owns_lt HW'.out.own,HU'.out.mods.size⟩
  have HXl:Hid (w.heap.size<W.heap.size):=HXW.out.lt
  have HXv:Hid (¬(w.heap.size=p∨v'.ownBlock=some w.heap.size)):=fun e=>by
   rcases e with e | e
   ·exact HXn.out (Or.inl e)
   ·rcases HU'.out.fresh _ e with e2 | e2
    ·exact HXn.out (Or.inr e2)
    ·have:=HX0.out.lt;omega
  gi_wp2_with fail
  refine ⟨trivial,(CallsIn.inRound l (callsIn_wide.2 HF.out)).mono ?_⟩
  rintro e w3 ⟨rfl,hB3⟩
  have hW4:=HW'.out.below (hB3.trans (((Below.refl _ w3).alloc (Nat.le_refl _) (.cells #[.int .u64 (m1:Int),.int .i64 (m2:Int),.int .i64 (m3:Int)] 250)).mono hB3.size))
  have HWB4:=Lib.hid (wbits p v' _ m1 m2 _ hW4 (by omega) (by have:=HZ2.out;omega))
  have hx3:=HXW.out.of_same (hB3.block _ HXW.out.lt)
  have c0:w3.cell? ⟨w.heap.size,0,none⟩=some (.pointer (some ⟨p,0,none⟩)):=by rw [hx3.cell];rfl
  have hlt3:=hx3.lt
  have HX4:Hid (Blk (w3.alloc (.cells #[.int .u64 (m1:Int),.int .i64 (m2:Int),.int .i64 (m3:Int)] 250)) w.heap.size [.pointer (some ⟨p,0,none⟩)]):=hx3.alloc _
  have HF4:Hid (Blk (w3.alloc (.cells #[.int .u64 (m1:Int),.int .i64 (m2:Int),.int .i64 (m3:Int)] 250)) w3.heap.size [.int .u64 (m1:Int),.int .i64 (m2:Int),.int .i64 (m3:Int)]):=Blk.new w3 _ _
  have HFl:Hid (¬(w3.heap.size=p∨v'.ownBlock=some w3.heap.size)):=fun e=>by
   have h1:=HPw.out;have h2:=hB3.size
   rcases e with e | e
   ·omega
   ·have:=h1.2.1 _ e;omega
  have HM4:Hid (Mods (fun k=>k=p∨v'.ownBlock=some k) W (w3.alloc (.cells #[.int .u64 (m1:Int),.int .i64 (m2:Int),.int .i64 (m3:Int)] 250))):=(Mods.of_below hB3 _).trans (Mods.alloc _ _ _) (fun _ _ e=>e)
  clear hB3 hW4 hx3 HF
  gi_wp2_with fail
  refine ⟨trivial,(CallsIn.inRound l (callsIn_wide.2 HWB4.out)).mono ?_⟩
  rintro e w5 ⟨rfl,v5,hW5,hU5⟩
  have hx5:=hU5.mods.blk HX4.out HXv.out
  have hf5:=hU5.mods.blk HF4.out HFl.out
  have c5:w5.cell? ⟨w.heap.size,0,none⟩=some (.pointer (some ⟨p,0,none⟩)):=by rw [hx5.cell];rfl
  have d5:w5.cell? ⟨w3.heap.size,2,none⟩=some (.int .i64 (m3:Int)):=by rw [hf5.cell];rfl
  have HWB5:=Lib.hid (wbits p v5 _ ux m3 _ hW5 (by omega) (by have:=HZ2.out;rw [List.length_append,fieldBits_length];omega))
  have HU5:=Lib.hid hU5
  clear hx5 hf5 hU5 hW5 HWB4 c0
  gi_wp2_with fail
  refine ⟨trivial,(CallsIn.inRound l (callsIn_wide.2 HWB5.out)).mono ?_⟩
  rintro e w6 ⟨rfl,v6,hW6,hU6⟩
  have hU:Upd W w6 p v' v6:=Upd.trans (⟨HM4.out,Fresh.refl _ _⟩:Upd W (w3.alloc (.cells #[.int .u64 (m1:Int),.int .i64 (m2:Int),.int .i64 (m3:Int)] 250)) p v' v') (HU5.out.trans hU6)
  have HUf:=Lib.hid hU;have HWf:=Lib.hid hW6
  clear hU hW6 hU6 HWB5 HU5 HM4 HX4 HF4
  gi_wp2_with fail
  refine ⟨(putIn_keeps HW'.out HUf.out.mods).from _,fun k hk=>?_,v6,?_,HU'.out.trans HUf.out⟩
  ·have h1:=HKW2.out k hk
   refine HUf.out.mods.block k (by have:=HPw.out.2.2;omega) (fun e=>?_)
   rcases e with e | e
   ·exact h1.1 e
   ·rcases HU'.out.fresh k e with e2 | e2
    ·exact h1.2.1 e2
    ·omega
  ·have h:=HWf.out
   rw [List.append_assoc] at h
   rw [HPre.out,HEx.out]
   exact h
 case done=>
  rintro D zs W hD rfl hI hK
  have HI:=Lib.hid hI
  clear hI HGV
  gi_wp2
  refine ⟨by simp,.inl ⟨_,_,rfl,run_takeDeferred hK,?_⟩⟩
  refine ⟨_,results_tmp rfl _ _ _,rfl,?_⟩
  obtain ⟨v',hW',hU'⟩:=putIn_own (β:=Unit) (Nat.le_refl W0.heap.size) p v2 (fun _=>out0++zs.flatMap encX) () W (W.putObj D (.deferred none)) (some D) HI.out (grownBy_putObj' _ _ _) (fun r e=>by cases e;exact ⟨hD,_,hK,rfl⟩)
  have u1:Upd w w1 p v v:=⟨Mods.of_below HB1.out _,Fresh.refl _ _⟩
  have u2:Upd w2 W0 p v2 v2:=⟨Mods.of_below HB0.out _,Fresh.refl _ _⟩
  rw [HE.out]
  exact ⟨v',hW',u1.trans (HU2.out.trans (u2.trans hU'))⟩
 case stop=>
  rintro D c pre W _ _ h _
  exact h.elim
end Go.Proofs.YtdcgbgecbeegmaaGreatDoor
end
section
set_option maxRecDepth 20000
namespace Go.Proofs.YtdcgbgecbeegmaaGreatDoor
open Go Go.RowKit
theorem bitLen_log {f x:Nat} (h0:x≠0) (h:x<2 ^ f):Lib.bitLenAux f x=Nat.log2 x+1:=by
 induction f generalizing x with
 | zero=>simp at h;omega
 | succ f ih=>
  rw [Lib.bitLenAux,if_neg h0]
  by_cases h1:x / 2=0
  ·have:x=1:=by omega
   subst this
   cases f<;>rfl
  ·have hl:Nat.log2 x=Nat.log2 (x / 2)+1:=by rw [Nat.log2_def x,if_pos (by omega)]
   rw [ih h1 (by rw [Nat.pow_succ] at h;omega),hl];omega
theorem lead_bitLen {x:Nat} (h0:x≠0) (h:x<18446744073709551616):(64:Int)-(Lib.bitLen x:Int)=(leadV x:Int):=by
 have h1:Nat.log2 x<64:=(Nat.log2_lt h0).2 (by simpa using h)
 rw [Lib.bitLen,bitLen_log h0 (by simpa using h),leadV];omega
theorem trail_ctz (f x:Nat):Lib.ctzFrom f x=tz f x:=by
 induction f generalizing x with
 | zero=>rfl
 | succ f ih=>
  rw [Lib.ctzFrom,tz,ih]
  by_cases h:x % 2=1
  ·rw [if_pos h,if_neg (by omega)]
  ·rw [if_neg h,if_pos (by omega)]
theorem trail_lib {x:Nat} (h0:x≠0):Lib.ctz 64 x=trailV x:=by rw [Lib.ctz,if_neg h0,trail_ctz];rfl
def renL:Go.Shelf.Ren:=⟨fun | 129=>169 | 134=>292 | n=>n,fun | 3=>3 | 4=>4 | 5=>5 | 9=>9 | 46=>177 | 53=>81 | n=>n,fun n=>n⟩
theorem laysL:Go.Proofs.Lays.n134 Tryz.prog renL:={ mixed:=by kernel_rfl,f129:=Tryz.func169.trans (congrArg some (by kernel_rfl)),f134:=Tryz.func292.trans (congrArg some (by kernel_rfl)),t3:=Tryz.underlying3,a3:=Tryz.isAgg3,z3:=Tryz.sizeOf3,v3:=Tryz.zeroValue3,t4:=Tryz.underlying4,a4:=Tryz.isAgg4,z4:=Tryz.sizeOf4,v4:=Tryz.zeroValue4,t5:=Tryz.underlying5,a5:=Tryz.isAgg5,z5:=Tryz.sizeOf5,v5:=Tryz.zeroValue5,t9:=Tryz.underlying9,a9:=Tryz.isAgg9,z9:=Tryz.sizeOf9,v9:=Tryz.zeroValue9,t46:=Tryz.underlying177,a46:=Tryz.isAgg177,z46:=Tryz.sizeOf177,v46:=Tryz.zeroValue177,t53:=Tryz.underlying81,a53:=Tryz.isAgg81,z53:=Tryz.sizeOf81,v53:=Tryz.zeroValue81 }
def renT:Go.Shelf.Ren:=⟨fun | 29=>293 | n=>n,fun | 0=>0 | 3=>3 | 4=>4 | 5=>5 | 22=>81 | 25=>177 | 54=>362 | n=>n,fun | 1=>3 | n=>n⟩
theorem laysT:Go.Proofs.Lays7.n29 Tryz.prog renT:={ mixed:=by kernel_rfl,f29:=Tryz.func293.trans (congrArg some (by kernel_rfl)),t0:=Tryz.underlying0,a0:=Tryz.isAgg0,z0:=Tryz.sizeOf0,v0:=Tryz.zeroValue0,i0:=by kernel_rfl,t3:=Tryz.underlying3,a3:=Tryz.isAgg3,z3:=Tryz.sizeOf3,v3:=Tryz.zeroValue3,i3:=by kernel_rfl,t4:=Tryz.underlying4,a4:=Tryz.isAgg4,z4:=Tryz.sizeOf4,v4:=Tryz.zeroValue4,i4:=by kernel_rfl,t5:=Tryz.underlying5,a5:=Tryz.isAgg5,z5:=Tryz.sizeOf5,v5:=Tryz.zeroValue5,i5:=by kernel_rfl,t22:=Tryz.underlying81,a22:=Tryz.isAgg81,z22:=Tryz.sizeOf81,v22:=Tryz.zeroValue81,i22:=by kernel_rfl,t25:=Tryz.underlying177,a25:=Tryz.isAgg177,z25:=Tryz.sizeOf177,v25:=Tryz.zeroValue177,i25:=by kernel_rfl,t54:=Tryz.underlying362,a54:=Tryz.isAgg362,z54:=Tryz.sizeOf362,g1:=by kernel_rfl }
def TabZ (w:World):Prop:=TabAt 3 Lib.deBruijn64tab w
theorem TabZ.lt {w:World} (h:TabZ w) : 3 < w.heap.size:=World.block_lt_of_cell? w _ (h 0 (by decide))
theorem TabZ.block {w w':World} (h:TabZ w) (hb:w'.heap[3]? = w.heap[3]?):TabZ w':=fun j hj=>by
 have:=h j hj
 unfold World.cell? at this ⊢
 rw [hb]
 exact this
theorem TabZ.below {w w':World} {B:Nat} (h:TabZ w) (hb:Below B w w') (hB:w.heap.size≤B):TabZ w':=h.block (hb.block _ (Nat.lt_of_lt_of_le h.lt hB))
theorem lz64 (x:Nat) (hx:x<18446744073709551616) (h0:x≠0) (w:World):Calls Tryz.prog 292 #[.int .u64 (x:Int)] w fun e w'=>e = .returned (.int .i64 (leadV x:Int))∧w'=w:=
 (Any.bits_LeadingZeros64 laysL (x:Int) w (by omega) (by omega)).mono fun e w' h=>by
  rw [Int.toNat_natCast,lead_bitLen h0 hx] at h
  exact h
theorem tz64 (x:Nat) (hx:x<18446744073709551616) (h0:x≠0) (w:World) (hT:TabZ w):Calls Tryz.prog 293 #[.int .u64 (x:Int)] w fun e w'=>e = .returned (.int .i64 (trailV x:Int))∧w'=w:=
 (Any7.bits_TrailingZeros64 laysT x hx w (fun _=>hT)).mono fun e w' h=>by
  rw [trail_lib h0] at h
  exact h
def wl (win:Option (Nat × Nat)):Nat:=match win with | none=>0 | some (L,_)=>L
def ww (win:Option (Nat × Nat)):Nat:=match win with | none=>0 | some (L,t)=>64-L-t
def sL (win:Option (Nat × Nat)) (x:Nat):Nat:=if x=0 then 0 else if fits win x then wl win else leadV x
def sW (win:Option (Nat × Nat)) (x:Nat):Nat:=if x=0 then 0 else if fits win x then ww win else 64-leadV x-trailV x
def sN (win:Option (Nat × Nat)) (x:Nat):Bool:=if x=0 then false else if fits win x then false else true
theorem strWin:Str Tryz.prog 281 2 [.int .i64 0,.int .i64 0]:=Str.mk' Tryz.underlying281 rfl (by kernel_rfl) rfl
theorem strStep:Str Tryz.prog 285 3 [.int .i64 0,.int .i64 0,.bool false]:=Str.mk' Tryz.underlying285 rfl (by kernel_rfl) rfl
theorem trailing_any (a b:Nat) (ha:a≤1000) (hb:b≤1000) (w:World) :
  Calls Tryz.prog 272 #[.agg #[.int .i64 (a:Int),.int .i64 (b:Int)]] w fun e w'=>e = .returned (.int .i64 ((64:Int)-(a:Int)-(b:Int)))∧Below w.heap.size w w':=by
 have ha':(a:Int)≤1000:=by omega
 have hb':(b:Int)≤1000:=by omega
 go_enter Tryz.func272,Tryz.ntmps272
 go_wp2_with fail
 go_ret
 exact ⟨rfl,(Below.refl _ _).alloc (Nat.le_refl _) _⟩
theorem windowOf_any (x:Nat) (hx:x<18446744073709551616) (h0:x≠0) (w:World) (hT:TabZ w) :
  Calls Tryz.prog 270 #[.int .u64 (x:Int)] w fun e w'=>e = .returned (.agg #[.int .i64 (leadV x:Int),.int .i64 ((64-leadV x-trailV x:Nat):Int)])∧Below w.heap.size w w':=by
 have HW:=Lib.hid (window hx h0)
 have HL:=fun w=>Lib.hid (lz64 x hx h0 w)
 have HTz:=fun w hT=>Lib.hid (tz64 x hx h0 w hT)
 have HT:=Lib.hid hT
 have e1:(64:Int)-(leadV x:Int)-(trailV x:Int)=((64-leadV x-trailV x:Nat):Int):=by have:=HW.out;omega
 have HE:=Lib.hid e1
 clear e1 hT hx h0
 have hl:(leadV x:Int)≤63:=by have:=HW.out;omega
 have ht:(trailV x:Int)≤63:=by have:=HW.out;omega
 generalize leadV x=L at *
 generalize trailV x=t at *
 go_enter Tryz.func270,Tryz.ntmps270
 go_wp2_with fail
 obtain ⟨w1,hw1⟩:∃w1,w.alloc (.cells #[.int .i64 0,.int .i64 0] 281)=w1:=⟨_,rfl⟩
 have hK1:Blk w1 w.heap.size [.int .i64 0,.int .i64 0]:=by rw [← hw1];exact Blk.new w _ _
 have HB1:Hid (Below w.heap.size w w1):=by rw [← hw1];exact (Below.refl _ w).alloc (Nat.le_refl _) _
 rw [hw1]
 clear hw1
 refine (HL _).out.mono ?_
 rintro e w2 ⟨rfl,hww⟩
 subst hww
 go_wp2_with fail
 refine (HTz _ (HT.out.below HB1.out (Nat.le_refl _))).out.mono ?_
 rintro e w2 ⟨rfl,hww⟩
 subst hww
 have c0:w2.cell? ⟨w.heap.size,0,none⟩=some (.int .i64 0):=by rw [hK1.cell];rfl
 have c1:w2.cell? ⟨w.heap.size,1,none⟩=some (.int .i64 0):=by rw [hK1.cell];rfl
 have f0:=hK1.free 0
 have f1:=hK1.free 1
 have HK1:=Lib.hid hK1
 clear hK1
 go_wp2_with fail
 rw [HE.out]
 refine bodyPost_ret (resultsS (p:=2) strWin (by kernel_rfl) _ w.heap.size rfl [.int .i64 (L:Int),.int .i64 ((64-L-t:Nat):Int)] ?_ rfl) rfl ⟨rfl,?_⟩
 ·simpa using (HK1.out.set 0 (.int .i64 (L:Int))).set 1 (.int .i64 ((64-L-t:Nat):Int))
 ·exact HB1.out.trans (((Mods.set (fun k=>k=w.heap.size) w2 ⟨w.heap.size,0,none⟩ _ (fun _=>rfl)).trans (Mods.set (fun k=>k=w.heap.size) _ ⟨w.heap.size,1,none⟩ _ (fun _=>rfl)) (fun _ _ e=>e)).below HB1.out.size (fun j hj e=>by omega))
theorem fits_any (L wd x:Nat) (hw:L+wd≤64) (hx:x<18446744073709551616) (h0:x≠0) (w:World) (hT:TabZ w) :
  Calls Tryz.prog 269 #[.agg #[.int .i64 (L:Int),.int .i64 (wd:Int)],.int .u64 (x:Int)] w fun e w'=>e = .returned (.bool (decide (L≤leadV x)&&decide (64-L-wd≤trailV x)))∧Below w.heap.size w w':=by
 have HL:=fun w=>Lib.hid (lz64 x hx h0 w)
 have HTz:=fun w hT=>Lib.hid (tz64 x hx h0 w hT)
 have HTr:=fun w=>Lib.hid (trailing_any L wd (by omega) (by omega) w)
 have HWin:=Lib.hid (window hx h0)
 have HT:=Lib.hid hT;have HWd:=Lib.hid hw
 clear hT hx h0
 generalize leadV x=ld at *
 generalize trailV x=tr at *
 go_enter Tryz.func269,Tryz.ntmps269
 go_wp2_with fail
 obtain ⟨w1,hw1⟩:∃w1,w.alloc (.cells #[.int .i64 (L:Int),.int .i64 (wd:Int)] 281)=w1:=⟨_,rfl⟩
 have HK1:Hid (Blk w1 w.heap.size [.int .i64 (L:Int),.int .i64 (wd:Int)]):=by rw [← hw1];exact Blk.new w _ _
 have HB1:Hid (Below w.heap.size w w1):=by rw [← hw1];exact (Below.refl _ w).alloc (Nat.le_refl _) _
 rw [hw1]
 clear hw1
 have HC:Hid (∀w':World,(w'.cell? ⟨w.heap.size,0,none⟩=some (.int .i64 (L:Int))∧w'.cell? ⟨w.heap.size,1,none⟩=some (.int .i64 (wd:Int))∧True)→(w'.cell? ⟨w.heap.size,0,none⟩=some (.int .i64 (L:Int))∧w'.cell? ⟨w.heap.size,1,none⟩=some (.int .i64 (wd:Int))∧True)):=fun _ h=>h
 refine wp_region_takeH (fun w':World=>w'.cell? ⟨w.heap.size,0,none⟩=some (.int .i64 (L:Int))∧w'.cell? ⟨w.heap.size,1,none⟩=some (.int .i64 (wd:Int))∧True) [1,7,9] [0,2,3,1,4,5,6,8,7,9,10,11,12] (by kernel_rfl) (by kernel_rfl) (by kernel_rfl) ?_ ?_ ?_
 ·intro c a a' w hd h;exact ⟨hd ▸ h.1,h.2⟩
 ·exact ⟨by rw [World.cell?_drew,HK1.out.cell];rfl,by rw [World.cell?_drew,HK1.out.cell];rfl,trivial⟩
 simp only [taken,List.map_cons,List.map_nil,List.getElem?_cons_succ,List.getElem?_cons_zero,Option.getD_some]
 repeat (first
        | (refine takeH_skip rfl ?_; simp only [Act.put, List.setIfInBounds_toArray, List.set_cons_succ, List.set_cons_zero])
        | (refine takeH_blind rfl rfl ?_; apply Exists.intro; refine ⟨fun w => ?_, ?_⟩; (go_simp; try with_reducible rfl); simp only [Act.put, List.setIfInBounds_toArray, List.set_cons_succ, List.set_cons_zero])
        | (refine takeH_reads rfl rfl ?_; apply Exists.intro; refine ⟨fun w' hS => ?_, ?_⟩; (obtain ⟨d0, d1, d2⟩ := HC.out w' hS; go_simp; try with_reducible rfl); simp only [Act.put, List.setIfInBounds_toArray, List.set_cons_succ, List.set_cons_zero]))
 refine takeH_call rfl rfl (fun K' hK=>?_)
 go_wp2_with fail
 refine (HL _).out.mono ?_
 rintro e w2 ⟨rfl,hww⟩
 have HW2:Hid (w2=w1.drew):=hww
 have HS2:Hid (w2.cell? ⟨w.heap.size,0,none⟩=some (.int .i64 (L:Int))∧w2.cell? ⟨w.heap.size,1,none⟩=some (.int .i64 (wd:Int))∧True):=by show _∧_;rw [hww];exact ⟨by rw [World.cell?_drew,HK1.out.cell];rfl,by rw [World.cell?_drew,HK1.out.cell];rfl,trivial⟩
 have HT2:Hid (TabZ w2):=by show TabZ _;rw [hww];exact (HT.out.below HB1.out (Nat.le_refl _)).block rfl
 have HB2:Hid (Below w.heap.size w w2):=by show Below _ _ _;rw [hww];exact HB1.out.drew
 refine hK _ _ HS2.out ?_
 clear hK K' hww HW2 HB1 HK1
 have hl63:(ld:Int)≤63:=by have:=HWin.out;omega
 have ht63:(tr:Int)≤63:=by have:=HWin.out;omega
 by_cases hle:L≤ld
 ·have hle':(L:Int)≤(ld:Int):=by omega
  have hd1:decide (L≤ld)=true:=by simpa using hle
  have hd1':decide ((L:Int)≤(ld:Int))=true:=by simpa using hle'
  have HD1:=Lib.hid hd1
  clear hle hd1
  repeat (first
        | (refine takeH_skip rfl ?_; simp only [Act.put, List.setIfInBounds_toArray, List.set_cons_succ, List.set_cons_zero])
        | (refine takeH_blind rfl rfl ?_; apply Exists.intro; refine ⟨fun w => ?_, ?_⟩; (go_simp; try with_reducible rfl); simp only [Act.put, List.setIfInBounds_toArray, List.set_cons_succ, List.set_cons_zero])
        | (refine takeH_reads rfl rfl ?_; apply Exists.intro; refine ⟨fun w' hS => ?_, ?_⟩; (obtain ⟨d0, d1, d2⟩ := HC.out w' hS; go_simp; try with_reducible rfl); simp only [Act.put, List.setIfInBounds_toArray, List.set_cons_succ, List.set_cons_zero]))
  refine takeH_call rfl rfl (fun K' hK=>?_)
  go_wp2_with fail
  refine (HTz _ HT2.out).out.mono ?_
  rintro e w3 ⟨rfl,hww⟩
  subst hww
  refine hK _ _ HS2.out ?_
  clear hK K'
  repeat (first
        | (refine takeH_skip rfl ?_; simp only [Act.put, List.setIfInBounds_toArray, List.set_cons_succ, List.set_cons_zero])
        | (refine takeH_blind rfl rfl ?_; apply Exists.intro; refine ⟨fun w => ?_, ?_⟩; (go_simp; try with_reducible rfl); simp only [Act.put, List.setIfInBounds_toArray, List.set_cons_succ, List.set_cons_zero])
        | (refine takeH_reads rfl rfl ?_; apply Exists.intro; refine ⟨fun w' hS => ?_, ?_⟩; (obtain ⟨d0, d1, d2⟩ := HC.out w' hS; go_simp; try with_reducible rfl); simp only [Act.put, List.setIfInBounds_toArray, List.set_cons_succ, List.set_cons_zero]))
  refine takeH_call rfl rfl (fun K' hK=>?_)
  go_wp2_with fail
  refine (HTr _).out.mono ?_
  rintro e w4 ⟨rfl,hB4⟩
  have HB4:Hid (Below w.heap.size w w4):=HB2.out.trans (hB4.mono HB2.out.size)
  refine hK _ _ ⟨(hB4.cell (World.block_lt_of_cell? w3 _ HS2.out.1)).trans HS2.out.1,(hB4.cell (World.block_lt_of_cell? w3 _ HS2.out.2.1)).trans HS2.out.2.1,trivial⟩ ?_
  clear hK K' hB4
  have e2:(64:Int)-(L:Int)-(wd:Int)=((64-L-wd:Nat):Int):=by have:=HWd.out;omega
  have HD2:Hid (decide (64-L-wd≤tr)=decide (((64-L-wd:Nat):Int)≤(tr:Int))):=by show _=_;rw [decide_eq_decide];omega
  rw [e2]
  clear e2
  generalize ((64-L-wd:Nat):Int)=T at *
  repeat (first
        | (refine takeH_skip rfl ?_; simp only [Act.put, List.setIfInBounds_toArray, List.set_cons_succ, List.set_cons_zero])
        | (refine takeH_blind rfl rfl ?_; apply Exists.intro; refine ⟨fun w => ?_, ?_⟩; (go_simp; try with_reducible rfl); simp only [Act.put, List.setIfInBounds_toArray, List.set_cons_succ, List.set_cons_zero])
        | (refine takeH_reads rfl rfl ?_; apply Exists.intro; refine ⟨fun w' hS => ?_, ?_⟩; (obtain ⟨d0, d1, d2⟩ := HC.out w' hS; go_simp; try with_reducible rfl); simp only [Act.put, List.setIfInBounds_toArray, List.set_cons_succ, List.set_cons_zero]))
  refine takeH_nil ?_
  go_wp2_with fail
  go_ret
  exact ⟨by rw [HD1.out,HD2.out];rfl,HB4.out⟩
 ·have hle':¬(L:Int)≤(ld:Int):=by omega
  have hd1:decide (L≤ld)=false:=by simpa using hle
  have hd1':decide ((L:Int)≤(ld:Int))=false:=by simpa using hle'
  have HD1:=Lib.hid hd1
  clear hle hd1
  repeat (first
        | (refine takeH_skip rfl ?_; simp only [Act.put, List.setIfInBounds_toArray, List.set_cons_succ, List.set_cons_zero])
        | (refine takeH_blind rfl rfl ?_; apply Exists.intro; refine ⟨fun w => ?_, ?_⟩; (go_simp; try with_reducible rfl); simp only [Act.put, List.setIfInBounds_toArray, List.set_cons_succ, List.set_cons_zero])
        | (refine takeH_reads rfl rfl ?_; apply Exists.intro; refine ⟨fun w' hS => ?_, ?_⟩; (obtain ⟨d0, d1, d2⟩ := HC.out w' hS; go_simp; try with_reducible rfl); simp only [Act.put, List.setIfInBounds_toArray, List.set_cons_succ, List.set_cons_zero]))
  refine takeH_nil ?_
  go_wp2_with fail
  go_ret
  exact ⟨by rw [HD1.out];rfl,HB2.out⟩
set_option maxHeartbeats 1000000 in
theorem stepFor_any (g:Nat) (win:Option (Nat × Nat)) (x:Nat) (ho:okW win) (hx:x<18446744073709551616) (w:World) (hT:TabZ w) (c1:w.cell? ⟨g,1,none⟩=some (.int .i64 (wl win:Int))) (c2:w.cell? ⟨g,2,none⟩=some (.int .i64 (ww win:Int))) :
  Calls Tryz.prog 227 #[.pointer (some ⟨g,0,none⟩),.int .u64 (x:Int)] w fun e w'=>e = .returned (.agg #[.int .i64 (sL win x:Int),.int .i64 (sW win x:Int),.bool (sN win x)])∧Below w.heap.size w w':=by
 have HT:=Lib.hid hT
 have HG:Hid (g<w.heap.size):=World.block_lt_of_cell? w _ c1
 obtain ⟨w1,hw1⟩:∃w1,w.alloc (.cells #[.int .i64 0,.int .i64 0,.bool false] 285)=w1:=⟨_,rfl⟩
 have HK1:Hid (Blk w1 w.heap.size [.int .i64 0,.int .i64 0,.bool false]):=by rw [← hw1];exact Blk.new w _ _
 have HB1:Hid (Below w.heap.size w w1):=by rw [← hw1];exact (Below.refl _ w).alloc (Nat.le_refl _) _
 have HC1:Hid (w1.cell? ⟨g,1,none⟩=some (.int .i64 (wl win:Int))∧w1.cell? ⟨g,2,none⟩=some (.int .i64 (ww win:Int))):=⟨(HB1.out.cell HG.out).trans c1,(HB1.out.cell HG.out).trans c2⟩
 obtain ⟨⟨d0,d1,d2⟩,f0,f1,f2⟩:=HK1.out.three
 clear hT c1 c2
 go_enter Tryz.func227,Tryz.ntmps227
 by_cases h0:x=0
 ·subst h0
  go_wp2_with fail
  refine bodyPost_ret (resultsS (p:=4) strStep (by kernel_rfl) _ w.heap.size rfl [.int .i64 0,.int .i64 0,.bool false] (HK1.out.set3 _ _ _) rfl) rfl ⟨rfl,?_⟩
  exact HB1.out.trans ((mods_set3 _ _ _ _ _).below HB1.out.size (fun j hj e=>by omega))
 ·have h0b:((x:Int) == 0)=false:=by rw [beq_eq_false_iff_ne];omega
  have HT1:=Lib.hid (HT.out.below HB1.out (Nat.le_refl _))
  have HWo:∀w2,Hid (Below w1.heap.size w1 w2)→Hid (Calls Tryz.prog 270 #[.int .u64 (x:Int)] w2 fun e w'=>e = .returned (.agg #[.int .i64 (leadV x:Int),.int .i64 ((64-leadV x-trailV x:Nat):Int)])∧Below w2.heap.size w2 w'):=fun w2 h=>windowOf_any x hx h0 w2 (HT1.out.block (h.out.block _ HT1.out.lt))
  match win,ho,HC1 with
  | none,ho,HC1=>
   obtain ⟨e1,e2⟩:=HC1.out
   simp only [wl,ww] at e1 e2
   go_wp2_with fail
   have HI:Hid (Below w1.heap.size w1 w1):=Below.refl _ _
   refine (HWo _ HI).out.mono ?_
   rintro e w3 ⟨rfl,hB3⟩
   have HK3:=Lib.hid (HK1.out.of_same (hB3.block _ HK1.out.lt))
   have HB3:Hid (Below w.heap.size w w3):=HB1.out.trans (hB3.mono HB1.out.size)
   clear hB3 d0 d1 d2 f0 f1 f2
   obtain ⟨⟨d0,d1,d2⟩,f0,f1,f2⟩:=HK3.out.three
   obtain ⟨wd,hwd⟩:∃wd,64-leadV x-trailV x=wd:=⟨_,rfl⟩
   have HWd:=Lib.hid hwd
   rw [hwd]
   clear hwd
   go_wp2_with fail
   have hs:sL none x=leadV x∧sW none x=wd∧sN none x=true:=by simp only [sL,sW,sN,h0,fits,HWd.out,if_false,Bool.false_eq_true];exact ⟨trivial,trivial,trivial⟩
   refine bodyPost_ret (resultsS (p:=4) strStep (by kernel_rfl) _ w.heap.size rfl [.int .i64 (leadV x:Int),.int .i64 (wd:Int),.bool true] (HK3.out.set3 _ _ _) rfl) rfl ⟨by rw [hs.1,hs.2.1,hs.2.2],?_⟩
   exact HB3.out.trans ((mods_set3 _ _ _ _ _).below HB3.out.size (fun j hj e=>by omega))
  | some (L,t),ho,HC1=>
   have hle:=ho L t rfl
   obtain ⟨e1,e2⟩:=HC1.out
   simp only [wl,ww] at e1 e2
   have HF:=Lib.hid (fits_any L (64-L-t) x (by omega) hx h0 w1 HT1.out)
   have hwb:(((64-L-t:Nat):Int) == 0)=false:=by rw [beq_eq_false_iff_ne];omega
   rw [show 64-L-(64-L-t)=t by omega] at HF
   have HFt:Hid (fits (some (L,t)) x=(decide (L≤leadV x)&&decide (t≤trailV x))):=rfl
   rw [← HFt.out] at HF
   have HWd:Hid (ww (some (L,t))=64-L-t):=rfl
   clear HFt
   generalize 64-L-t=wd at *
   go_wp2_with fail
   refine HF.out.mono ?_
   rintro e w2 ⟨rfl,hB2⟩
   have HK2:=Lib.hid (HK1.out.of_same (hB2.block _ HK1.out.lt))
   have HB2:=Lib.hid hB2
   have HC2:Hid (w2.cell? ⟨g,1,none⟩=some (.int .i64 (L:Int))∧w2.cell? ⟨g,2,none⟩=some (.int .i64 (wd:Int))):=⟨(hB2.cell (World.block_lt_of_cell? w1 _ e1)).trans e1,(hB2.cell (World.block_lt_of_cell? w1 _ e2)).trans e2⟩
   clear hB2 d0 d1 d2 f0 f1 f2 e1 e2
   obtain ⟨⟨d0,d1,d2⟩,f0,f1,f2⟩:=HK2.out.three
   obtain ⟨e1,e2⟩:=HC2.out
   by_cases hf:fits (some (L,t)) x=true
   ·rw [hf]
    have HFf:=Lib.hid hf
    clear hf
    go_wp2_with fail
    have hs:sL (some (L,t)) x=L∧sW (some (L,t)) x=wd∧sN (some (L,t)) x=false:=by simp only [sL,sW,sN,h0,HFf.out,HWd.out,wl,if_false,if_true];exact ⟨trivial,trivial,trivial⟩
    refine bodyPost_ret (resultsS (p:=4) strStep (by kernel_rfl) _ w.heap.size rfl [.int .i64 (L:Int),.int .i64 (wd:Int),.bool false] (HK2.out.set3 _ _ _) rfl) rfl ⟨by rw [hs.1,hs.2.1,hs.2.2],?_⟩
    exact (HB1.out.trans (HB2.out.mono HB1.out.size)).trans ((mods_set3 _ _ _ _ _).below (Nat.le_trans HB1.out.size HB2.out.size) (fun j hj e=>by omega))
   ·have hf:fits (some (L,t)) x=false:=by simpa using hf
    rw [hf]
    have HFf:=Lib.hid hf
    clear hf
    go_wp2_with fail
    refine (HWo _ HB2).out.mono ?_
    rintro e w3 ⟨rfl,hB3⟩
    have HK3:=Lib.hid (HK2.out.of_same (hB3.block _ HK2.out.lt))
    have HB3:Hid (Below w.heap.size w w3):=(HB1.out.trans (HB2.out.mono HB1.out.size)).trans (hB3.mono (Nat.le_trans HB1.out.size HB2.out.size))
    clear hB3 d0 d1 d2 f0 f1 f2
    obtain ⟨⟨d0,d1,d2⟩,f0,f1,f2⟩:=HK3.out.three
    obtain ⟨wd2,hwd⟩:∃wd2,64-leadV x-trailV x=wd2:=⟨_,rfl⟩
    have HWd2:=Lib.hid hwd
    rw [hwd]
    clear hwd
    go_wp2_with fail
    have hs:sL (some (L,t)) x=leadV x∧sW (some (L,t)) x=wd2∧sN (some (L,t)) x=true:=by simp only [sL,sW,sN,h0,HFf.out,HWd2.out,if_false,Bool.false_eq_true];exact ⟨trivial,trivial,trivial⟩
    refine bodyPost_ret (resultsS (p:=4) strStep (by kernel_rfl) _ w.heap.size rfl [.int .i64 (leadV x:Int),.int .i64 (wd2:Int),.bool true] (HK3.out.set3 _ _ _) rfl) rfl ⟨by rw [hs.1,hs.2.1,hs.2.2],?_⟩
    exact HB3.out.trans ((mods_set3 _ _ _ _ _).below HB3.out.size (fun j hj e=>by omega))
def advC (last x L wd a b:Nat) (c:Bool):List Value:=[.int .u64 ((last ^^^ x:Nat):Int),.int .i64 ((if c then a else L:Nat):Int),.int .i64 ((if c then b else wd:Nat):Int)]
theorem Blk.facts4 {w:World} {g:Nat} {a b c:Value} {rest:List Value} (h:Blk w g (a::b::c::rest)):(w.cell? ⟨g,0,none⟩=some a∧w.cell? ⟨g,1,none⟩=some b∧w.cell? ⟨g,2,none⟩=some c)∧(w.frozen? ⟨g,0,none⟩=false∧w.frozen? ⟨g,1,none⟩=false∧w.frozen? ⟨g,2,none⟩=false):=
 ⟨⟨by rw [h.cell];rfl,by rw [h.cell];rfl,by rw [h.cell];rfl⟩,h.free 0,h.free 1,h.free 2⟩
set_option maxHeartbeats 1000000 in
theorem advance_any (g last x L wd a b:Nat) (c:Bool) (rest:List Value) (hla:last<18446744073709551616) (hx:x<18446744073709551616) (w:World) (h:Blk w g ([.int .u64 (last:Int),.int .i64 (L:Int),.int .i64 (wd:Int)]++rest)) :
  Calls Tryz.prog 228 #[.pointer (some ⟨g,0,none⟩),.int .u64 (x:Int),.agg #[.int .i64 (a:Int),.int .i64 (b:Int),.bool c]] w fun e w'=>e = .returned (.tuple #[])∧Blk w' g (advC last x L wd a b c++rest)∧Mods (fun k=>k=g) w w':=by
 have HX:Hid (bits .xor .u64 (last:Int) (x:Int)=((last ^^^ x:Nat):Int)):=bits_xor_u64_nat last x hla hx
 obtain ⟨w1,hw1⟩:∃w1,w.alloc (.cells #[.int .i64 (a:Int),.int .i64 (b:Int),.bool c] 285)=w1:=⟨_,rfl⟩
 have HK1:Hid (Blk w1 w.heap.size [.int .i64 (a:Int),.int .i64 (b:Int),.bool c]):=by rw [← hw1];exact Blk.new w _ _
 have HB1:Hid (Below w.heap.size w w1):=by rw [← hw1];exact (Below.refl _ w).alloc (Nat.le_refl _) _
 have HG:Hid (g<w.heap.size):=h.lt
 have HS1:Hid (Blk w1 g (.int .u64 (last:Int) :: .int .i64 (L:Int) :: .int .i64 (wd:Int)::rest)):=h.of_same (HB1.out.block _ HG.out)
 obtain ⟨⟨d0,d1,d2⟩,_⟩:=HK1.out.three
 obtain ⟨⟨s0,s1,s2⟩,f0,f1,f2⟩:=HS1.out.facts4
 have hne:w.heap.size≠g:=by have:=HG.out;omega
 have hne':g≠w.heap.size:=by have:=HG.out;omega
 clear h
 cases c with
 | true=>
  go_enter Tryz.func228,Tryz.ntmps228
  go_wp2_with fail
  go_end0
  rw [HX.out]
  refine ⟨rfl,?_,?_⟩
  ·simpa [advC] using ((HS1.out.set 0 (.int .u64 ((last ^^^ x:Nat):Int))).set 1 (.int .i64 (a:Int))).set 2 (.int .i64 (b:Int))
  ·exact (Mods.of_below HB1.out _).trans (mods_set3 w1 g _ _ _) (fun _ _ e=>e)
 | false=>
  go_enter Tryz.func228,Tryz.ntmps228
  go_wp2_with fail
  go_end0
  rw [HX.out]
  refine ⟨rfl,?_,?_⟩
  ·simpa [advC] using HS1.out.set 0 (.int .u64 ((last ^^^ x:Nat):Int))
  ·exact (Mods.of_below HB1.out _).trans (Mods.set (fun k=>k=g) w1 ⟨g,0,none⟩ _ (fun _=>rfl)) (fun _ _ e=>e)
def stepN (a b:Nat) (c:Bool):Nat:=if a=0∧b=0 then 1 else if c then 14+b else 2+b
theorem size_anyX (a b:Nat) (c:Bool) (hab:(a=0∧b=0)∨1≤b) (hb:b≤1000) (ha:a≤1000) (w:World) :
  Calls Tryz.prog 229 #[.agg #[.int .i64 (a:Int),.int .i64 (b:Int),.bool c]] w fun e w'=>e = .returned (.int .i64 (stepN a b c:Int))∧Below w.heap.size w w':=by
 have hb':(b:Int)≤1000:=by omega
 rcases hab with ⟨rfl,rfl⟩ | h1
 ·go_enter Tryz.func229,Tryz.ntmps229
  go_wp2_with fail
  go_ret
  exact ⟨rfl,(Below.refl _ w).alloc (Nat.le_refl _) _⟩
 ·have hbb:((b:Int) == 0)=false:=by rw [beq_eq_false_iff_ne];omega
  have hb1:(1:Int)≤(b:Int):=by omega
  have HN:Hid ¬(a=0∧b=0):=by show ¬_;omega
  have HNt:Hid (stepN a b true=14+b):=by show _=_;rw [stepN,if_neg HN.out,if_pos rfl]
  have HNf:Hid (stepN a b false=2+b):=by show _=_;rw [stepN,if_neg HN.out,if_neg (by decide)]
  cases c with
  | true=>
   go_enter Tryz.func229,Tryz.ntmps229
   go_wp2_with fail
   go_ret
   exact ⟨by rw [HNt.out];go_num,(Below.refl _ w).alloc (Nat.le_refl _) _⟩
  | false=>
   go_enter Tryz.func229,Tryz.ntmps229
   go_wp2_with fail
   go_ret
   exact ⟨by rw [HNf.out];go_num,(Below.refl _ w).alloc (Nat.le_refl _) _⟩
theorem Upd.of_below {w w':World} (h:Below w.heap.size w w') (p:Nat) (v:Value):Upd w w' p v v:=⟨Mods.of_below h _,Fresh.refl _ _⟩
theorem Upd.keep {w w':World} {p:Nat} {v v':Value} (h:Upd w w' p v v') {a:Addr} {u:Value} (hc:w.cell? a=some u) (h1:a.block≠p) (h2:v.ownBlock≠some a.block):w'.cell? a=some u∧v'.ownBlock≠some a.block:=
 ⟨h.mods.cell hc (fun e=>e.elim h1 h2),fun e=>(h.fresh _ e).elim h2 (fun k=>by have:=World.block_lt_of_cell? w a hc;omega)⟩
def headS (a b:Nat) (c:Bool):List Bool:=if a=0∧b=0 then [false] else if c then [true,true]++(fieldBits a 6++fieldBits (b-1) 6) else [true,false]
structure HeadAt (g p B a b:Nat) (c:Bool) (w:World) (v:Value) (out:List Bool) (w':World) (v':Value):Prop where
 wr:WriterIn w' p v' out
 upd:Upd w w' p v v'
 c3:w'.cell? ⟨g,3,none⟩=some (.pointer (some ⟨p,0,none⟩))
 b0:w'.cell? ⟨B,0,none⟩=some (.int .i64 (a:Int))
 b1:w'.cell? ⟨B,1,none⟩=some (.int .i64 (b:Int))
 b2:w'.cell? ⟨B,2,none⟩=some (.bool c)
 gp:g≠p
 gv:v'.ownBlock≠some g
 bp:B≠p
 bv:v'.ownBlock≠some B
theorem HeadAt.next {g p B a b:Nat} {c:Bool} {w w1 w2:World} {v v1 v2:Value} {out out2:List Bool} (h:HeadAt g p B a b c w v out w1 v1) (hw:WriterIn w2 p v2 out2) (hu:Upd w1 w2 p v1 v2):HeadAt g p B a b c w v out2 w2 v2:=by
 obtain ⟨k1,k2⟩:=hu.keep h.c3 h.gp h.gv
 obtain ⟨k3,k4⟩:=hu.keep h.b0 h.bp h.bv
 obtain ⟨k5,_⟩:=hu.keep h.b1 h.bp h.bv
 obtain ⟨k6,_⟩:=hu.keep h.b2 h.bp h.bv
 exact ⟨hw,h.upd.trans hu,k1,k3,k5,k6,h.gp,k2,h.bp,k4⟩
theorem HeadAt.drew {g p B a b:Nat} {c:Bool} {w w1:World} {v v1:Value} {out:List Bool} (h:HeadAt g p B a b c w v out w1 v1):HeadAt g p B a b c w v out w1.drew v1:=
 h.next (h.wr.mods (Mods.drew (fun _=>False) w1) (fun e=>e) (fun _ _ e=>e)) ⟨Mods.drew _ _,Fresh.refl _ _⟩
theorem HeadAt.bits {g p B a b:Nat} {c:Bool} {w w1:World} {v v1:Value} {out:List Bool} (h:HeadAt g p B a b c w v out w1 v1) (x n:Nat) (hn:n≤64) (hb:out.length+64≤1125899906842624) :
  Calls Tryz.prog 137 #[.pointer (some ⟨p,0,none⟩),.int .u64 (x:Int),.int .i64 (n:Int)] w1 fun e w2=>e = .returned (.int .i64 0)∧∃v2,HeadAt g p B a b c w v (out++fieldBits x n) w2 v2∧w2.heap[g]? = w1.heap[g]?:=
 (wbits p v1 out x n w1 h.wr hn hb).mono fun e w2 hp=>by
  obtain ⟨he,v2,hw,hu⟩:=hp
  exact ⟨he,v2,h.next hw hu,hu.mods.block _ (World.block_lt_of_cell? w1 _ h.c3) (fun e=>e.elim h.gp h.gv)⟩
set_option maxHeartbeats 2000000 in
theorem putStep_any (g p a b:Nat) (c:Bool) (v:Value) (bits:List Bool) (w:World) (hW:WriterIn w p v bits) (h3:w.cell? ⟨g,3,none⟩=some (.pointer (some ⟨p,0,none⟩))) (hgp:g≠p) (hgv:v.ownBlock≠some g) (hab:(a=0∧b=0)∨1≤b) (ha:a≤63) (hb:b≤64) (hz:bits.length+100≤1125899906842624) :
  Calls Tryz.prog 271 #[.pointer (some ⟨g,0,none⟩),.agg #[.int .i64 (a:Int),.int .i64 (b:Int),.bool c]] w fun e w'=>e = .returned (.tuple #[])∧BitsPost p v (bits++headS a b c) w w':=by
 have hb':(b:Int)≤64:=by omega
 have ha':(a:Int)≤63:=by omega
 have HZ:Hid (bits.length+100≤1125899906842624):=hz
 obtain ⟨w1,hw1⟩:∃w1,w.alloc (.cells #[.int .i64 (a:Int),.int .i64 (b:Int),.bool c] 285)=w1:=⟨_,rfl⟩
 have HK1:Hid (Blk w1 w.heap.size [.int .i64 (a:Int),.int .i64 (b:Int),.bool c]):=by rw [← hw1];exact Blk.new w _ _
 have HB1:Hid (Below w.heap.size w w1):=by rw [← hw1];exact (Below.refl _ w).alloc (Nat.le_refl _) _
 have HH1:Hid (HeadAt g p w.heap.size a b c w v bits w1 v):=by
  have hpl:=hW.blk.lt
  exact ⟨hW.below HB1.out,Upd.of_below HB1.out _ _,(HB1.out.cell (World.block_lt_of_cell? w _ h3)).trans h3,HK1.out.three.1.1,HK1.out.three.1.2.1,HK1.out.three.1.2.2,hgp,hgv,by omega,fun e=>by have:=owns_lt hW.own _ e;omega⟩
 have d2:w1.cell? ⟨w.heap.size,2,none⟩=some (.bool c):=HK1.out.three.1.2.2
 have d0:=HH1.out.b0
 have d1:=HH1.out.b1
 have d3:=HH1.out.c3
 clear hW h3 hz
 rcases hab with ⟨rfl,rfl⟩ | h1
 ·have hz0:((0:Nat):Int)=0:=rfl
  rw [hz0] at hw1 d0 d1 ⊢
  clear hz0
  have HBt:=Lib.hid (HH1.out.bits 0 1 (by omega) (by have:=HZ.out;omega))
  go_enter Tryz.func271,Tryz.ntmps271
  go_wp2_with fail
  refine HBt.out.mono ?_
  rintro e w2 ⟨rfl,v2,hH2,_⟩
  have HH2:=Lib.hid hH2
  clear hH2
  go_wp2_with fail
  go_end0
  exact ⟨rfl,v2,HH2.out.wr,HH2.out.upd⟩
 ·have hbb:((b:Int) == 0)=false:=by rw [beq_eq_false_iff_ne];omega
  have hb1:(1:Int)≤(b:Int):=by omega
  have HN:Hid ¬(a=0∧b=0):=by show ¬_;omega
  cases c with
  | false=>
   go_enter Tryz.func271,Tryz.ntmps271
   have HBt:=Lib.hid (HH1.out.bits 2 2 (by omega) (by have:=HZ.out;omega))
   go_wp2_with fail
   refine HBt.out.mono ?_
   rintro e w2 ⟨rfl,v2,hH2,_⟩
   have HH2:=Lib.hid hH2
   clear hH2
   go_wp2_with fail
   go_end0
   refine ⟨rfl,v2,?_,HH2.out.upd⟩
   rw [headS,if_neg HN.out,if_neg (by decide)]
   exact HH2.out.wr
  | true=>
   go_enter Tryz.func271,Tryz.ntmps271
   have HBt:=Lib.hid (HH1.out.bits 3 2 (by omega) (by have:=HZ.out;omega))
   go_wp2_with fail
   refine HBt.out.mono ?_
   rintro e w2 ⟨rfl,v2,hH2,_⟩
   have HH2:=Lib.hid hH2.drew
   clear hH2 HBt
   have HC:Hid (∀w':World,(w'.cell? ⟨g,3,none⟩=some (.pointer (some ⟨p,0,none⟩))∧w'.cell? ⟨w.heap.size,0,none⟩=some (.int .i64 (a:Int))∧w'.cell? ⟨w.heap.size,1,none⟩=some (.int .i64 (b:Int)))→(w'.cell? ⟨g,3,none⟩=some (.pointer (some ⟨p,0,none⟩))∧w'.cell? ⟨w.heap.size,0,none⟩=some (.int .i64 (a:Int))∧w'.cell? ⟨w.heap.size,1,none⟩=some (.int .i64 (b:Int)))):=fun _ h=>h
   go_wp2_with fail
   refine wp_region_takeH (fun w':World=>w'.cell? ⟨g,3,none⟩=some (.pointer (some ⟨p,0,none⟩))∧w'.cell? ⟨w.heap.size,0,none⟩=some (.int .i64 (a:Int))∧w'.cell? ⟨w.heap.size,1,none⟩=some (.int .i64 (b:Int))) [8] [0,1,2,3,4,5,6,7,8] (by kernel_rfl) (by kernel_rfl) (by kernel_rfl) ?_ ?_ ?_
   ·intro c a a' w hd h;exact ⟨hd ▸ h.1,h.2⟩
   ·exact ⟨HH2.out.c3,HH2.out.b0,HH2.out.b1⟩
   simp only [taken,List.map_cons,List.map_nil,List.getElem?_cons_succ,List.getElem?_cons_zero,Option.getD_some]
   repeat (first
        | (refine takeH_skip rfl ?_; simp only [Act.put, List.setIfInBounds_toArray, List.set_cons_succ, List.set_cons_zero])
        | (refine takeH_blind rfl rfl ?_; apply Exists.intro; refine ⟨fun w => ?_, ?_⟩; (go_simp; try with_reducible rfl); simp only [Act.put, List.setIfInBounds_toArray, List.set_cons_succ, List.set_cons_zero])
        | (refine takeH_reads rfl rfl ?_; apply Exists.intro; refine ⟨fun w' hS => ?_, ?_⟩; (obtain ⟨d0, d1, d2⟩ := HC.out w' hS; go_simp; try with_reducible rfl); simp only [Act.put, List.setIfInBounds_toArray, List.set_cons_succ, List.set_cons_zero]))
   refine takeH_call rfl rfl (fun K' hK=>?_)
   go_wp2_with fail
   have HBt:=Lib.hid (HH2.out.bits a 6 (by omega) (by have:=HZ.out;rw [List.length_append,fieldBits_length];omega))
   refine HBt.out.mono ?_
   rintro e w3 ⟨rfl,v3,hH3,_⟩
   refine hK _ _ ⟨hH3.c3,hH3.b0,hH3.b1⟩ ?_
   have HH3:=Lib.hid hH3.drew
   clear hH3 HBt HH2 hK K'
   refine takeH_nil ?_
   have e1:(b:Int)-1=((b-1:Nat):Int):=by omega
   have hb2:((b-1:Nat):Int)≤63:=by omega
   have HBt:=Lib.hid (HH3.out.bits (b-1) 6 (by omega) (by have:=HZ.out;rw [List.length_append,List.length_append,fieldBits_length,fieldBits_length];omega))
   have HB2:Hid (headS a b true=[true,true]++(fieldBits a 6++fieldBits (b-1) 6)):=by show _=_;rw [headS,if_neg HN.out,if_pos rfl]
   generalize b-1=bm at *
   go_wp2_with fail
   refine wp_region_takeH (fun w':World=>w'.cell? ⟨g,3,none⟩=some (.pointer (some ⟨p,0,none⟩))∧w'.cell? ⟨w.heap.size,0,none⟩=some (.int .i64 (a:Int))∧w'.cell? ⟨w.heap.size,1,none⟩=some (.int .i64 (b:Int))) [9] [0,1,2,3,4,5,6,7,8,9] (by kernel_rfl) (by kernel_rfl) (by kernel_rfl) ?_ ?_ ?_
   ·intro c a a' w hd h;exact ⟨hd ▸ h.1,h.2⟩
   ·exact ⟨HH3.out.c3,HH3.out.b0,HH3.out.b1⟩
   simp only [taken,List.map_cons,List.map_nil,List.getElem?_cons_succ,List.getElem?_cons_zero,Option.getD_some]
   repeat (first
        | (refine takeH_skip rfl ?_; simp only [Act.put, List.setIfInBounds_toArray, List.set_cons_succ, List.set_cons_zero])
        | (refine takeH_blind rfl rfl ?_; apply Exists.intro; refine ⟨fun w => ?_, ?_⟩; (go_simp; try with_reducible rfl); simp only [Act.put, List.setIfInBounds_toArray, List.set_cons_succ, List.set_cons_zero])
        | (refine takeH_reads rfl rfl ?_; apply Exists.intro; refine ⟨fun w' hS => ?_, ?_⟩; (obtain ⟨d0, d1, d2⟩ := HC.out w' hS; go_simp; try with_reducible rfl); simp only [Act.put, List.setIfInBounds_toArray, List.set_cons_succ, List.set_cons_zero]))
   refine takeH_call rfl rfl (fun K' hK=>?_)
   go_wp2_with fail
   refine HBt.out.mono ?_
   rintro e w4 ⟨rfl,v4,hH4,_⟩
   refine hK _ _ ⟨hH4.c3,hH4.b0,hH4.b1⟩ ?_
   have HH4:=Lib.hid hH4
   clear hH4 HBt HH3 hK K'
   refine takeH_nil ?_
   go_wp2_with fail
   go_end0
   refine ⟨rfl,v4,?_,HH4.out.upd⟩
   rw [HB2.out,← List.append_assoc,← List.append_assoc]
   exact HH4.out.wr
theorem step_cells (win:Option (Nat × Nat)) (last value:Nat):advC last (value ^^^ last) (wl win) (ww win) (sL win (value ^^^ last)) (sW win (value ^^^ last)) (sN win (value ^^^ last))=[.int .u64 (value:Int),.int .i64 (wl (nextW win (value ^^^ last)):Int),.int .i64 (ww (nextW win (value ^^^ last)):Int)]:=by
 have e:last ^^^ (value ^^^ last)=value:=by rw [Nat.xor_comm value,← Nat.xor_assoc,Nat.xor_self,Nat.zero_xor]
 rw [advC,e,nextW,sL,sW,sN]
 by_cases h0:value ^^^ last=0
 ·simp only [h0,if_true,Bool.false_eq_true,if_false]
 ·by_cases hf:fits win (value ^^^ last)=true
  ·simp only [h0,hf,if_true,Bool.false_eq_true,if_false]
  ·simp only [h0,hf,if_true,Bool.false_eq_true,if_false];rfl
theorem step_form {win:Option (Nat × Nat)} (ho:okW win) {x:Nat} (hx:x<18446744073709551616):((sL win x=0∧sW win x=0)∨1≤sW win x)∧sL win x≤63∧sW win x≤64∧sL win x+sW win x≤64:=by
 rw [sL,sW]
 by_cases h0:x=0
 ·simp only [h0,if_true];exact ⟨Or.inl ⟨trivial,trivial⟩,by omega,by omega,by omega⟩
 ·by_cases hf:fits win x=true
  ·simp only [h0,hf,if_true,if_false]
   cases win with
   | none=>cases hf
   | some w=>obtain ⟨L,t⟩:=w;have:=ho L t rfl;simp only [wl,ww];omega
  ·simp only [h0,hf,if_false,Bool.false_eq_true]
   have:=window hx h0;omega
theorem step_bits {win:Option (Nat × Nat)} (ho:okW win) {x:Nat} (hx:x<18446744073709551616):headS (sL win x) (sW win x) (sN win x)++fieldBits (x / 2 ^ (64-sL win x-sW win x)) (sW win x)=encW win x:=by
 unfold sL sW sN encW
 by_cases h0:x=0
 ·simp only [h0,if_true,headS,and_self,Nat.zero_div];rfl
 ·by_cases hf:fits win x=true
  ·simp only [h0,hf,if_true,if_false]
   cases win with
   | none=>cases hf
   | some w=>
    obtain ⟨L,t⟩:=w
    have:=ho L t rfl
    simp only [wl,ww]
    rw [headS,if_neg (by omega),if_neg (by decide),show 64-L-(64-L-t)=t by omega]
  ·have hff:fits win x=false:=by simpa using hf
   have hw:=window hx h0
   simp only [h0,hff,if_false,Bool.false_eq_true]
   rw [headS,if_neg (by omega),if_pos rfl,show 64-leadV x-(64-leadV x-trailV x)=trailV x by omega,show 64-leadV x-trailV x-1=63-leadV x-trailV x by omega,List.append_assoc,List.append_assoc]
   cases win with
   | none=>rfl
   | some w=>obtain ⟨L,t⟩:=w;rfl
theorem headS_len (a b:Nat) (c:Bool):(headS a b c).length≤14:=by
 unfold headS
 split
 ·simp
 ·split
  ·simp only [List.length_append,fieldBits_length,List.length_cons,List.length_nil];omega
  ·simp
structure EncIs (g p:Nat) (v:Value) (bits:List Bool) (last:Nat) (win:Option (Nat × Nat)) (w:World):Prop where
 blk:Blk w g [.int .u64 (last:Int),.int .i64 (wl win:Int),.int .i64 (ww win:Int),.pointer (some ⟨p,0,none⟩)]
 wr:WriterIn w p v bits
 gp:g≠p
 gv:v.ownBlock≠some g
 tab:TabZ w
 tg : 3≠g
 tp : 3≠p
 tv:v.ownBlock≠some 3
 la:last<18446744073709551616
 ok:okW win
set_option maxHeartbeats 4000000 in
theorem put_any (g p:Nat) (v:Value) (bs:List Bool) (last value:Nat) (win:Option (Nat × Nat)) (w:World) (h:EncIs g p v bs last win w) (hv:value<18446744073709551616) (hz:bs.length+200≤1125899906842624) :
  Calls Tryz.prog 230 #[.pointer (some ⟨g,0,none⟩),.int .u64 (value:Int)] w fun e w'=>e = .returned (.tuple #[])∧∃v',EncIs g p v' (bs++encW win (value ^^^ last)) value (nextW win (value ^^^ last)) w'∧Mods (fun k=>k=g∨k=p∨v.ownBlock=some k) w w'∧Fresh w.heap.size v v':=by
 have H:=Lib.hid h
 have HX:Hid (bits .xor .u64 (value:Int) (last:Int)=((value ^^^ last:Nat):Int)):=bits_xor_u64_nat value last hv h.la
 have hx:value ^^^ last<18446744073709551616:=xor_lt64 hv h.la
 have c0:w.cell? ⟨g,0,none⟩=some (.int .u64 (last:Int)):=by rw [h.blk.cell];rfl
 have HSt:=Lib.hid (stepFor_any g win (value ^^^ last) h.ok hx w h.tab (by rw [h.blk.cell];rfl) (by rw [h.blk.cell];rfl))
 have HCe:=Lib.hid (step_cells win last value)
 have HFo:=Lib.hid (step_form h.ok hx)
 have HBi:=Lib.hid (step_bits h.ok hx)
 have HHx:=Lib.hid hx
 have HZ:=Lib.hid hz
 have HV:=Lib.hid hv
 have HNx:Hid (okW (nextW win (value ^^^ last))):=okW_next h.ok hx
 clear h hx hz hv
 generalize value ^^^ last=x at *
 generalize sL win x=a at *
 generalize sW win x=b at *
 generalize sN win x=c at *
 generalize encW win x=E at *
 generalize nextW win x=win' at *
 go_enter Tryz.func230,Tryz.ntmps230
 go_wp2_with fail
 rw [HX.out]
 go_wp2_with fail
 refine HSt.out.mono ?_
 rintro e w2 ⟨rfl,hB2⟩
 obtain ⟨w3,hw3⟩:∃w3,w2.alloc (.cells #[.int .i64 (a:Int),.int .i64 (b:Int),.bool c] 285)=w3:=⟨_,rfl⟩
 have hK3:Blk w3 w2.heap.size [.int .i64 (a:Int),.int .i64 (b:Int),.bool c]:=by rw [← hw3];exact Blk.new w2 _ _
 have HB3:Hid (Below w.heap.size w w3):=by rw [← hw3];exact hB2.alloc hB2.size _
 have HG:Hid (Blk w3 g [.int .u64 (last:Int),.int .i64 (wl win:Int),.int .i64 (ww win:Int),.pointer (some ⟨p,0,none⟩)]):=H.out.blk.of_same (HB3.out.block _ H.out.blk.lt)
 have hsz:=hB2.size
 have HSz:=Lib.hid hsz
 have HH3:Hid (HeadAt g p w2.heap.size a b c w v bs w3 v):=
  ⟨H.out.wr.below HB3.out,Upd.of_below HB3.out _ _,by rw [HG.out.cell];rfl,hK3.three.1.1,hK3.three.1.2.1,hK3.three.1.2.2,H.out.gp,H.out.gv,by have:=H.out.wr.blk.lt;omega,fun e=>by have:=owns_lt H.out.wr.own _ e;omega⟩
 clear HSt HX c0 hB2 hK3 hsz
 have d0:=HH3.out.b0
 have d1:=HH3.out.b1
 have d2:=HH3.out.b2
 have HPs:=Lib.hid (putStep_any g p a b c v bs w3 HH3.out.wr HH3.out.c3 HH3.out.gp HH3.out.gv HFo.out.1 HFo.out.2.1 HFo.out.2.2.1 (by have:=HZ.out;omega))
 go_wp2_with fail
 refine HPs.out.mono ?_
 rintro e w4 ⟨rfl,v4,hW4,hU4⟩
 have HH4:=Lib.hid (HH3.out.next hW4 hU4).drew
 have HG4:Hid (Blk w4.drew g [.int .u64 (last:Int),.int .i64 (wl win:Int),.int .i64 (ww win:Int),.pointer (some ⟨p,0,none⟩)]):=(HG.out.of_same (hU4.mods.block _ HG.out.lt (fun e=>e.elim H.out.gp H.out.gv)))
 clear hW4 hU4 HPs HG HH3 d0 d1 d2 hw3
 have HC:Hid (∀w':World,(w'.cell? ⟨g,3,none⟩=some (.pointer (some ⟨p,0,none⟩))∧w'.cell? ⟨w2.heap.size,0,none⟩=some (.int .i64 (a:Int))∧w'.cell? ⟨w2.heap.size,1,none⟩=some (.int .i64 (b:Int)))→(w'.cell? ⟨g,3,none⟩=some (.pointer (some ⟨p,0,none⟩))∧w'.cell? ⟨w2.heap.size,0,none⟩=some (.int .i64 (a:Int))∧w'.cell? ⟨w2.heap.size,1,none⟩=some (.int .i64 (b:Int)))):=fun _ h=>h
 go_wp2_with fail
 refine wp_region_takeH (fun w':World=>w'.cell? ⟨g,3,none⟩=some (.pointer (some ⟨p,0,none⟩))∧w'.cell? ⟨w2.heap.size,0,none⟩=some (.int .i64 (a:Int))∧w'.cell? ⟨w2.heap.size,1,none⟩=some (.int .i64 (b:Int))) [7,12] [0,1,2,3,4,5,6,9,10,11,7,8,12] (by kernel_rfl) (by kernel_rfl) (by kernel_rfl) ?_ ?_ ?_
 ·intro c a a' w hd h;exact ⟨hd ▸ h.1,h.2⟩
 ·exact ⟨HH4.out.c3,HH4.out.b0,HH4.out.b1⟩
 simp only [taken,List.map_cons,List.map_nil,List.getElem?_cons_succ,List.getElem?_cons_zero,Option.getD_some]
 repeat (first
        | (refine takeH_skip rfl ?_; simp only [Act.put, List.setIfInBounds_toArray, List.set_cons_succ, List.set_cons_zero])
        | (refine takeH_blind rfl rfl ?_; apply Exists.intro; refine ⟨fun w => ?_, ?_⟩; (go_simp; try with_reducible rfl); simp only [Act.put, List.setIfInBounds_toArray, List.set_cons_succ, List.set_cons_zero])
        | (refine takeH_reads rfl rfl ?_; apply Exists.intro; refine ⟨fun w' hS => ?_, ?_⟩; (obtain ⟨d0, d1, d2⟩ := HC.out w' hS; go_simp; try with_reducible rfl); simp only [Act.put, List.setIfInBounds_toArray, List.set_cons_succ, List.set_cons_zero]))
 refine takeH_call rfl rfl (fun K' hK=>?_)
 go_wp2_with fail
 refine (trailing_any a b (by have:=HFo.out.2.1;omega) (by have:=HFo.out.2.2.1;omega) w4.drew).mono ?_
 rintro e w5 ⟨rfl,hB5⟩
 have HH5:=Lib.hid (HH4.out.next (HH4.out.wr.below hB5) (Upd.of_below hB5 p _))
 have HG5:=Lib.hid (HG4.out.of_same (hB5.block _ HG4.out.lt))
 refine hK _ _ ⟨HH5.out.c3,HH5.out.b0,HH5.out.b1⟩ ?_
 clear hK K' hB5 HH4 HG4
 have e1:(64:Int)-(a:Int)-(b:Int)=((64-a-b:Nat):Int):=by have:=HFo.out.2.2.2;omega
 rw [e1]
 clear e1
 have hT64:((64-a-b:Nat):Int)≤64:=by omega
 generalize 64-a-b=T at *
 repeat (first
        | (refine takeH_skip rfl ?_; simp only [Act.put, List.setIfInBounds_toArray, List.set_cons_succ, List.set_cons_zero])
        | (refine takeH_blind rfl rfl ?_; apply Exists.intro; refine ⟨fun w => ?_, ?_⟩; (go_simp; try with_reducible rfl); simp only [Act.put, List.setIfInBounds_toArray, List.set_cons_succ, List.set_cons_zero])
        | (refine takeH_reads rfl rfl ?_; apply Exists.intro; refine ⟨fun w' hS => ?_, ?_⟩; (obtain ⟨d0, d1, d2⟩ := HC.out w' hS; go_simp; try with_reducible rfl); simp only [Act.put, List.setIfInBounds_toArray, List.set_cons_succ, List.set_cons_zero]))
 have e2:(x:Int) / 2 ^ T=((x / 2 ^ T:Nat):Int):=by simp
 rw [e2]
 clear e2
 have HBt:=Lib.hid (HH5.out.bits (x / 2 ^ T) b (by have:=HFo.out.2.2.1;omega) (by
  have h1:=HZ.out
  rw [List.length_append]
  have:=headS_len a b c
  omega))
 refine takeH_call rfl rfl (fun K' hK=>?_)
 go_wp2_with fail
 refine HBt.out.mono ?_
 rintro e w6 ⟨rfl,v6,hH6,hg6⟩
 refine hK _ _ ⟨hH6.c3,hH6.b0,hH6.b1⟩ ?_
 have HH6:=Lib.hid hH6.drew
 have HG6:Hid (Blk w6.drew g [.int .u64 (last:Int),.int .i64 (wl win:Int),.int .i64 (ww win:Int),.pointer (some ⟨p,0,none⟩)]):=HG5.out.of_same hg6
 rw [List.append_assoc,HBi.out] at HH6
 clear hH6 hg6 HBt HH5 HG5 hK K' HC
 have HC:Hid (∀w':World,(w'.cell? ⟨w2.heap.size,0,none⟩=some (.int .i64 (a:Int))∧w'.cell? ⟨w2.heap.size,1,none⟩=some (.int .i64 (b:Int))∧w'.cell? ⟨w2.heap.size,2,none⟩=some (.bool c))→(w'.cell? ⟨w2.heap.size,0,none⟩=some (.int .i64 (a:Int))∧w'.cell? ⟨w2.heap.size,1,none⟩=some (.int .i64 (b:Int))∧w'.cell? ⟨w2.heap.size,2,none⟩=some (.bool c))):=fun _ h=>h
 refine takeH_nil ?_
 go_wp2_with fail
 refine wp_region_takeH (fun w':World=>w'.cell? ⟨w2.heap.size,0,none⟩=some (.int .i64 (a:Int))∧w'.cell? ⟨w2.heap.size,1,none⟩=some (.int .i64 (b:Int))∧w'.cell? ⟨w2.heap.size,2,none⟩=some (.bool c)) [5] [0,1,2,3,4,5] (by kernel_rfl) (by kernel_rfl) (by kernel_rfl) ?_ ?_ ?_
 ·intro c a a' w hd h;exact ⟨hd ▸ h.1,h.2⟩
 ·exact ⟨HH6.out.b0,HH6.out.b1,HH6.out.b2⟩
 simp only [taken,List.map_cons,List.map_nil,List.getElem?_cons_succ,List.getElem?_cons_zero,Option.getD_some]
 repeat (first
        | (refine takeH_skip rfl ?_; simp only [Act.put, List.setIfInBounds_toArray, List.set_cons_succ, List.set_cons_zero])
        | (refine takeH_blind rfl rfl ?_; apply Exists.intro; refine ⟨fun w => ?_, ?_⟩; (go_simp; try with_reducible rfl); simp only [Act.put, List.setIfInBounds_toArray, List.set_cons_succ, List.set_cons_zero])
        | (refine takeH_reads rfl rfl ?_; apply Exists.intro; refine ⟨fun w' hS => ?_, ?_⟩; (obtain ⟨d0, d1, d2⟩ := HC.out w' hS; go_simp; try with_reducible rfl); simp only [Act.put, List.setIfInBounds_toArray, List.set_cons_succ, List.set_cons_zero]))
 refine takeH_call rfl rfl (fun K' hK=>?_)
 go_wp2_with fail
 refine (advance_any g last x (wl win) (ww win) a b c [.pointer (some ⟨p,0,none⟩)] H.out.la HHx.out w6.drew HG6.out).mono ?_
 rintro e w7 ⟨rfl,hG7,hM7⟩
 have hne:w2.heap.size≠g:=by have:=HSz.out;have:=H.out.blk.lt;omega
 refine hK _ _ ⟨hM7.cell HH6.out.b0 hne,hM7.cell HH6.out.b1 hne,hM7.cell HH6.out.b2 hne⟩ ?_
 refine takeH_nil ?_
 go_wp2_with fail
 go_end0
 have hU:=HH6.out.upd.mods
 have hM:Mods (fun k=>k=g∨k=p∨v.ownBlock=some k) w w7:=(hU.mono (fun j _ e=>Or.inr e)).trans hM7 (fun j _ e=>Or.inl e)
 refine ⟨rfl,v6,⟨?_,?_,H.out.gp,HH6.out.gv,?_,H.out.tg,H.out.tp,?_,?_,HNx.out⟩,hM,HH6.out.upd.fresh⟩
 ·rw [HCe.out] at hG7;exact hG7
 ·exact HH6.out.wr.mods hM7 (fun e=>H.out.gp e.symm) (fun k hk e=>HH6.out.gv (e ▸ hk))
 ·exact H.out.tab.block (hM.block _ H.out.tab.lt (fun e=>e.elim H.out.tg (fun e=>e.elim H.out.tp H.out.tv)))
 ·intro e
  rcases HH6.out.upd.fresh _ e with e | e
  ·exact H.out.tv e
  ·have:=H.out.tab.lt;omega
 ·exact HV.out
end Go.Proofs.YtdcgbgecbeegmaaGreatDoor
end
section
namespace Go.Proofs.YtdcgbgecbeegmaaGreatDoor
open Go Go.RowKit
theorem own_sliced {p:Option Addr} {i n c sz k:Nat} (h:(sliced p i n c sz).ownBlock=some k):(Value.slice p n c).ownBlock=some k:=by
 unfold sliced at h
 cases p with
 | none=>split at h<;>simp [Value.ownBlock] at h
 | some a=>
  split at h<;>simp_all [Value.ownBlock,Addr.add]
  all_goals (try split at h)<;>simp_all
section
variable {P:Program}
theorem wpList_fromO {t e:TypeId} {sz bytes:Nat} (hE:Elem P t e sz bytes) (w:World) (v:Value) (n i:Nat) (vs:List Value) (h0:Rd w sz v n vs) (hi:i≤n)
  {ops:Array Oper} {rest:List Oper} {o:Oper} {a:Act} {Q:Exit→Act→World→Prop} (hgd:Region.wanted o (yielded ops a.tmps)=true) (s x:Operand) (ho:o.op = .slice t s (some x) none none)
  (hs:a.eval s=v) (hx:a.eval x = .int .i64 (i:Int))
  (h:∀p c,Rd w sz (.slice p (n-i) c) (n-i) (vs.drop (i*sz))→(∀k,(Value.slice p (n-i) c).ownBlock=some k→v.ownBlock=some k)→wpList P ops Q rest (a.put o.dst (.slice p (n-i) c)) w):wpList P ops Q (o::rest) a w:=by
 obtain ⟨inf,z,hinf,hz,hsize,hby,hzs⟩:=hE.hi
 obtain ⟨p,c,hv⟩:=h0.shape
 subst hv
 refine BigFrame.wpList_want hgd fun K hK=>?_
 have helem:P.elem t=e:=by simp [Program.elem,hE.ht]
 have hu:P.underlying t=some (.slice (P.elem t)):=by rw [helem];exact hE.ht
 have hcell:P.cellsOf (P.elem t)=sz:=by rw [helem];simp [Program.cellsOf,hinf,hsize]
 have hr:(Instr.sliceAt t (.slice p n c) (some (.int .i64 (i:Int))) none none).run P w = .ok (sliced p i n c sz) w:=by
  have hsz:=run_sizeOf (w:=w) (show P.info? (P.elem t)=some inf by rw [helem];exact hinf)
  rw [run_sliceAt_slice (h:=hu),run_slice_l (ht:=hu) (h0:=by omega) (h1:=by omega),hsz,hcell]
  simp [Result.andThen]
 unfold Oper.wp execOp
 simp only [ho,Sem.run_bind,Sem.run_pure,Result.andThen_ok,hs,hx,hr,Option.map_some,Option.map_none]
 exact hK _ _ (h _ _ (h0.from i hi) (fun k hk=>own_sliced hk))
end
end Go.Proofs.YtdcgbgecbeegmaaGreatDoor
end
