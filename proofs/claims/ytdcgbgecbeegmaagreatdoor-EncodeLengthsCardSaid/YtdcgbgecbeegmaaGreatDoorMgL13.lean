/- Texts 13. -/
import Derived.Test.YtdcgbgecbeegmaaGreatDoorMgL12
import Derived.Test.YtdcgbgecbeegmaaGreatDoorMgL11
import Derived.Test.YtdcgbgecbeegmaaGreatDoorMgL1
import Derived.Test.YtdcgbgecbeegmaaGreatDoorMgL9
import Derived.Test.YtdcgbgecbeegmaaGreatDoorMgL4
import Derived.Test.YtdcgbgecbeegmaaGreatDoorMgL7
import Derived.OwnWalk
import Derived.BigRegion
import Derived.Sort.AssemblyPlain
set_option linter.unusedVariables false
set_option linter.unusedSimpArgs false
section
set_option maxRecDepth 20000
namespace Go.Proofs.YtdcgbgecbeegmaaGreatDoor
open Go Go.RowKit
theorem xorval_put_nil (p:Nat) (v lv:Value) (bs:List Bool) (w:World) (hW:WriterIn w p v bs) (h:Rd w 1 lv 0 []) :
  Calls Tryz.prog 185 #[.pointer (some ⟨p,0,none⟩),lv] w fun e w'=>e = .returned (.int .i64 0)∧BitsPost p v bs w w':=by
 have HW:=Lib.hid hW
 clear hW
 obtain ⟨q,c,hv⟩:=h.shape
 subst hv
 go_enter Tryz.func185,Tryz.ntmps185
 go_wp2_with fail
 go_ret
 exact ⟨rfl,v,HW.out,Upd.refl _ _ _⟩
structure PutInV (g p:Nat) (v:Value) (bs:List Bool) (ls tl:List Nat) (lv:Value) (w:World) (k:Nat) (v':Value) (last:Nat) (win:Option (Nat × Nat)) (out:List Bool) (wr:World):Prop where
 enc:EncIs g p v' out last win wr
 left:bs++encV ls=out++encFromV win last (tl.drop k)
 upd:Upd w wr p v v'
 row:Rd wr 1 lv tl.length (u64s tl)
set_option maxHeartbeats 4000000 in
theorem xorval_put_cons (p:Nat) (v lv:Value) (bs:List Bool) (ls:List Nat) (t0:Nat) (tl:List Nat) (els:ls=t0::tl) (w:World) (hT:TabZ w) (hW:WriterIn w p v bs) (htp : 3≠p) (htv:v.ownBlock≠some 3)
  (hl:Rd w 1 lv ls.length (u64s ls)) (ok:∀t∈ls,in64u t) (hap:∀k,lv.ownBlock=some k→k≠p∧v.ownBlock≠some k) (hz:bs.length+78*ls.length≤70368744177000) :
  Calls Tryz.prog 185 #[.pointer (some ⟨p,0,none⟩),lv] w fun e w'=>e = .returned (.int .i64 0)∧BitsPost p v (bs++encV ls) w w':=by
 obtain ⟨b0,off,c,e,hm1,hm2,hcl⟩:=hl.at (by rw [els];simp [u64s])
 subst e
 have HT:=Lib.hid hT;have HW:=Lib.hid hW;have HEL:=Lib.hid els;have HOk:=Lib.hid ok;have HZ:=Lib.hid hz
 have hne:(ls.length:Int)≠0:=by rw [els];simp only [List.length_cons];omega
 have hpos:(0:Int)<(ls.length:Int):=by omega
 have hone:(1:Int)≤(ls.length:Int):=by omega
 have hnb:((ls.length:Int) == 0)=false:=by rw [beq_eq_false_iff_ne];exact hne
 have hc0:w.cell? ⟨b0,off,none⟩=some (.int .u64 (t0:Int)):=by have:=hcl 0 (.int .u64 (t0:Int)) (by rw [els];rfl);simpa using this
 have HAp:Hid (b0≠p∧v.ownBlock≠some b0∧b0<w.heap.size):=⟨(hap b0 rfl).1,(hap b0 rfl).2,World.block_lt_of_cell? w _ hc0⟩
 have HCl:Hid (∀(i t:Nat),ls[i]? = some t→w.cell? ⟨b0,off+i,none⟩=some (.int .u64 (t:Int))):=fun i t h=>hcl i _ (by rw [u64s,List.getElem?_map,h];rfl)
 have HB:=Lib.hid (wbits p v bs t0 64 w hW (by omega) (by omega))
 have HRd:=Lib.hid hl
 have hpos1:1≤ls.length:=by omega
 clear hT hW els ok hz hcl hap hl
 go_enter Tryz.func185,Tryz.ntmps185
 go_wp2_with fail
 refine HB.out.mono ?_
 rintro e w2 ⟨rfl,v2,hW2,hU2⟩
 have HW2:=Lib.hid hW2
 have HU2:=Lib.hid hU2
 have hc2:w2.cell? ⟨b0,off,none⟩=some (.int .u64 (t0:Int)):=(hU2.keep hc0 HAp.out.1 HAp.out.2.1).1
 clear hW2 hU2 HB hc0
 have hsub:ls.length-1=tl.length:=by rw [HEL.out];rfl
 have hrow:Rd w2 1 (.slice (some ⟨b0,off,none⟩) ls.length c) ls.length (u64s ls):=HRd.out.mods HU2.out.mods (fun k hk e=>by cases hk;exact e.elim HAp.out.1 HAp.out.2.1)
 obtain ⟨w3,hw3⟩:∃w3,w2.alloc (.cells #[.int .u64 (t0:Int),.int .i64 0,.int .i64 0,.pointer (some ⟨p,0,none⟩)] 289)=w3:=⟨_,rfl⟩
 have hB3:Below w2.heap.size w2 w3:=by rw [← hw3];exact (Below.refl _ w2).alloc (Nat.le_refl _) _
 have hK3:Blk w3 w2.heap.size [.int .u64 (t0:Int),.int .i64 0,.int .i64 0,.pointer (some ⟨p,0,none⟩)]:=by rw [← hw3];exact Blk.new w2 _ _
 have HR3:=Lib.hid (hrow.below hB3)
 have hpl:=HW.out.blk.lt
 have hs2:=HU2.out.mods.size
 have HE3:Hid (EncIs w2.heap.size p v2 (bs++fieldBits t0 64) t0 none w3):=by
  have hvn:v2.ownBlock≠some 3:=fun e=>(HU2.out.fresh _ e).elim htv (fun k=>by have:=HT.out.lt;omega)
  refine ⟨hK3,HW2.out.below hB3,by omega,fun e=>by have:=owns_lt HW2.out.own _ e;omega,?_,by have:=HT.out.lt;omega,htp,hvn,HOk.out t0 (by rw [HEL.out];simp),fun _ _ e=>by cases e⟩
  exact (HT.out.block (HU2.out.mods.block _ HT.out.lt (fun e=>e.elim htp htv))).below hB3 (Nat.le_refl _)
 have HU3:Hid (Upd w w3 p v v2):=HU2.out.trans (Upd.of_below hB3 p v2)
 have HL3:Hid (bs++encV ls=(bs++fieldBits t0 64)++encFromV none t0 tl):=by show _=_;rw [HEL.out,encV,List.append_assoc]
 have HG:Hid (w.heap.size≤w2.heap.size):=hs2
 clear hB3 hK3 hrow hpl hs2 HW2 HU2 htp htv HRd
 go_wp2_with (refine wpList_fromO Tryz.elemU64 _ _ _ 1 _ HR3.out hpos1 rfl _ _ rfl rfl rfl ?_;intro q c2 h2 hown)
 rw [hsub] at *
 have HOwn:Hid (∀k,(Value.slice q tl.length c2).ownBlock=some k→k=b0):=fun k hk=>by have:=hown k hk;cases this;rfl
 have HR4:Hid (Rd w3 1 (.slice q tl.length c2) tl.length (u64s tl)):=by
  show Rd _ _ _ _ _
  have:List.drop (1*1) (u64s ls)=u64s tl:=by rw [HEL.out];rfl
  rw [← this];exact h2
 have HLn:Hid (ls.length=tl.length+1):=by show _=_;rw [HEL.out];rfl
 have hmb:(tl.length:Int)≤1000000000000:=by have h1:=HLn.out;have h2:=HZ.out;omega
 have HI0:Hid (PutInV w2.heap.size p v bs ls tl (.slice q tl.length c2) w 0 v2 t0 none (bs++fieldBits t0 64) w3):=⟨HE3.out,HL3.out,HU3.out,HR4.out⟩
 clear hsub h2 hown HR3 HR4 HE3 HL3 HU3 hw3 hc2 hne hpos hone hnb hpos1
 generalize w2.heap.size=g at *
 go_loopw [7,27] (fun xv kv wr=>∃(k:Nat) (v':Value) (last:Nat) (win:Option (Nat × Nat)) (out:List Bool),k≤tl.length∧kv = .int .i64 (k:Int)∧Hid (PutInV g p v bs ls tl (.slice q tl.length c2) w k v' last win out wr)) (fun _ kv _=>tl.length-(intOf kv).toNat)
 case atStart=>exact ⟨0,v2,t0,none,_,by omega,rfl,HI0.out⟩
 case round=>
  obtain ⟨k,v',last,win,out,hkm,rfl,HI⟩:=hrel
  by_cases hk:k<tl.length
  ·have hk':(k:Int)<(tl.length:Int):=by omega
   have hkb:(k:Int)≤1000000000000:=by omega
   obtain ⟨b1,o1,c1,e1,_,_,hcl1⟩:=HI.out.row.at (by intro e;have:=congrArg List.length e;rw [u64s,List.length_map,List.length_nil] at this;omega)
   cases e1
   obtain ⟨t,ht⟩:∃t,tl[k]? = some t:=⟨_,List.getElem?_eq_getElem hk⟩
   have hc1:wr.cell? ⟨b1,o1+k,none⟩=some (.int .u64 (t:Int)):=hcl1 k _ (by rw [u64s,List.getElem?_map,ht];rfl)
   have hti:in64u t:=HOk.out t (by rw [HEL.out];exact List.mem_cons_of_mem _ (List.mem_of_getElem? ht))
   have hdr:tl.drop k=t::tl.drop (k+1):=by rw [List.drop_eq_getElem_cons hk];rw [List.getElem?_eq_getElem hk] at ht;cases ht;rfl
   have hlen:out.length≤bs.length+78*ls.length:=by
    have h1:=congrArg List.length HI.out.left
    rw [List.length_append,List.length_append] at h1
    have h2:=encV_len ls
    omega
   have HP:=Lib.hid (put_any g p v' out last t win wr HI.out.enc hti (by have:=HZ.out;omega))
   have HT1:=Lib.hid ht;have HD:=Lib.hid hdr
   clear hcl1 ht hti hdr hlen
   go_wp2_with fail
   refine HP.out.mono ?_
   rintro e w5 ⟨rfl,v5,hE5,hM5,hF5⟩
   have HI5:Hid (PutInV g p v bs ls tl (.slice (some ⟨b1,o1,none⟩) tl.length c2) w (k+1) v5 t (nextW win (t ^^^ last)) (out++encW win (t ^^^ last)) w5):=by
    have hb:b1=b0:=HOwn.out b1 rfl
    have hfr:=HI.out.upd.fresh
    have hsz:=HI.out.upd.mods.size
    have hg:=HG.out;have hpl:=HW.out.blk.lt;have hap:=HAp.out
    refine ⟨hE5,?_,⟨HI.out.upd.mods.trans hM5 (fun j hj e=>?_),hfr.trans hF5 hsz⟩,HI.out.row.mods hM5 (fun j hj e=>?_)⟩
    ·rw [HI.out.left,HD.out,encFromV,List.append_assoc]
    ·rcases e with e | e | e
     ·omega
     ·exact Or.inl e
     ·exact (hfr j e).elim Or.inr (fun h=>by omega)
    ·cases hj
     rw [hb] at e
     change b0=g∨b0=p∨v'.ownBlock=some b0 at e
     rcases e with e | e | e
     ·omega
     ·exact hap.1 e
     ·exact (hfr _ e).elim hap.2.1 (fun h=>by omega)
   clear hE5 hM5 hF5 HI HP
   go_wp2_with fail
   go_round
   case rel=>exact ⟨k+1,_,_,_,_,by omega,by go_num,HI5.out⟩
   case measure=>simp [intOf];omega
  ·have hk':¬(k:Int)<(tl.length:Int):=by omega
   have HLeft:Hid (bs++encV ls=out):=by
    have h:=HI.out.left
    rw [List.drop_eq_nil_of_le (by omega),encFromV,List.append_nil] at h
    exact h
   go_wp2_with fail
   go_ret
   rw [HLeft.out]
   exact ⟨rfl,v',HI.out.enc.wr,HI.out.upd⟩
theorem xorval_size_nil (w:World) (v:Value) (h:Rd w 1 v 0 []):Calls Tryz.prog 184 #[v] w fun e w'=>e = .returned (.int .i64 0)∧Below w.heap.size w w':=by
 obtain ⟨p,c,hv⟩:=h.shape
 subst hv
 go_enter Tryz.func184,Tryz.ntmps184
 go_wp2_with fail
 go_ret
 exact ⟨rfl,Below.refl _ _⟩
theorem stepN_len {win:Option (Nat × Nat)} (ho:okW win) {x:Nat} (hx:x<18446744073709551616):stepN (sL win x) (sW win x) (sN win x)=(encW win x).length:=by
 rw [← step_bits ho hx,List.length_append,fieldBits_length,stepN,headS]
 by_cases h:sL win x=0∧sW win x=0
 ·rw [if_pos h,if_pos h,h.2];rfl
 ·rw [if_neg h,if_neg h]
  split
  ·simp only [List.length_append,fieldBits_length,List.length_cons,List.length_nil]
  ·rfl
structure SizeIn (g:Nat) (ls tl:List Nat) (lv:Value) (w:World) (k last:Nat) (win:Option (Nat × Nat)) (n:Nat) (wr:World):Prop where
 blk:Blk wr g [.int .u64 (last:Int),.int .i64 (wl win:Int),.int .i64 (ww win:Int)]
 below:Below w.heap.size w wr
 left:(encV ls).length=n+(encFromV win last (tl.drop k)).length
 la:last<18446744073709551616
 ok:okW win
 row:Rd wr 1 lv tl.length (u64s tl)
set_option maxHeartbeats 4000000 in
theorem xorval_size_cons (lv:Value) (ls:List Nat) (t0:Nat) (tl:List Nat) (els:ls=t0::tl) (w:World) (hT:TabZ w) (hl:Rd w 1 lv ls.length (u64s ls)) (ok:∀t∈ls,in64u t) (hz:78*ls.length≤70368744177000) :
  Calls Tryz.prog 184 #[lv] w fun e w'=>e = .returned (.int .i64 ((encV ls).length:Int))∧Below w.heap.size w w':=by
 obtain ⟨b0,off,c,e,hm1,hm2,hcl⟩:=hl.at (by rw [els];simp [u64s])
 subst e
 have HT:=Lib.hid hT;have HEL:=Lib.hid els;have HOk:=Lib.hid ok;have HZ:=Lib.hid hz
 have hne:(ls.length:Int)≠0:=by rw [els];simp only [List.length_cons];omega
 have hpos:(0:Int)<(ls.length:Int):=by omega
 have hnb:((ls.length:Int) == 0)=false:=by rw [beq_eq_false_iff_ne];exact hne
 have hc0:w.cell? ⟨b0,off,none⟩=some (.int .u64 (t0:Int)):=by have:=hcl 0 (.int .u64 (t0:Int)) (by rw [els];rfl);simpa using this
 have HAp:Hid (b0<w.heap.size):=World.block_lt_of_cell? w _ hc0
 have HRd:=Lib.hid hl
 have hpos1:1≤ls.length:=by omega
 have hsub:ls.length-1=tl.length:=by rw [els];rfl
 have HB3:Hid (Below w.heap.size w (w.alloc (.cells #[.int .u64 (t0:Int),.int .i64 0,.int .i64 0] 283))):=(Below.refl _ w).alloc (Nat.le_refl _) _
 have HK3:Hid (Blk (w.alloc (.cells #[.int .u64 (t0:Int),.int .i64 0,.int .i64 0] 283)) w.heap.size [.int .u64 (t0:Int),.int .i64 0,.int .i64 0]):=Blk.new w _ _
 have HR3:=Lib.hid (hl.below HB3.out)
 have HL3:Hid ((encV ls).length=64+(encFromV none t0 tl).length):=by show _=_;rw [HEL.out,encV,List.length_append,fieldBits_length]
 have HLn:Hid (ls.length=tl.length+1):=by show _=_;rw [HEL.out];rfl
 clear hT els ok hz hcl hl
 go_enter Tryz.func184,Tryz.ntmps184
 go_wp2_with (refine wpList_fromO Tryz.elemU64 _ _ _ 1 _ HR3.out hpos1 rfl _ _ rfl rfl rfl ?_;intro q c2 h2 hown)
 rw [hsub] at *
 have HOwn:Hid (∀k,(Value.slice q tl.length c2).ownBlock=some k→k=b0):=fun k hk=>by have:=hown k hk;cases this;rfl
 have HI0:Hid (SizeIn w.heap.size ls tl (.slice q tl.length c2) w 0 t0 none 64 (w.alloc (.cells #[.int .u64 (t0:Int),.int .i64 0,.int .i64 0] 283))):=by
  refine ⟨HK3.out,HB3.out,HL3.out,HOk.out t0 (by rw [HEL.out];simp),fun _ _ e=>(by cases e),?_⟩
  have:List.drop (1*1) (u64s ls)=u64s tl:=by rw [HEL.out];rfl
  rw [← this];exact h2
 have hmb:(tl.length:Int)≤1000000000000:=by have h1:=HLn.out;have h2:=HZ.out;omega
 generalize w.alloc (.cells #[.int .u64 (t0:Int),.int .i64 0,.int .i64 0] 283)=w3 at *
 clear hsub h2 hown HR3 HL3 hne hpos hnb hpos1 hc0 HK3
 have HG:Hid (∃g,g=w.heap.size):=⟨_,rfl⟩
 obtain ⟨g,hg⟩:=HG.out
 clear HG
 rw [← hg] at HI0 ⊢
 have HGe:Hid (g=w.heap.size):=hg
 clear hg
 go_loopw [3,6,7,8,19] (fun nv vv xv pv kv wr=>∃(k last:Nat) (win:Option (Nat × Nat)) (n:Nat),k≤tl.length∧kv = .int .i64 (k:Int)∧nv = .int .i64 (n:Int)∧Hid (SizeIn g ls tl (.slice q tl.length c2) w k last win n wr)) (fun _ _ _ _ kv _=>tl.length-(intOf kv).toNat)
 case atStart=>exact ⟨0,t0,none,64,by omega,rfl,rfl,HI0.out⟩
 case round=>
  obtain ⟨k,last,win,n,hkm,rfl,rfl,HI⟩:=hrel
  by_cases hk:k<tl.length
  ·have hk':(k:Int)<(tl.length:Int):=by omega
   have hkb:(k:Int)≤1000000000000:=by omega
   have HN:Hid ((encV ls).length≤78*ls.length):=encV_len ls
   have hnb2:(n:Int)≤70368744177000:=by have h1:=HI.out.left;have h2:=HN.out;have h3:=HZ.out;omega
   obtain ⟨b1,o1,c1,e1,_,_,hcl1⟩:=HI.out.row.at (by intro e;have:=congrArg List.length e;rw [u64s,List.length_map,List.length_nil] at this;omega)
   cases e1
   obtain ⟨t,ht⟩:∃t,tl[k]? = some t:=⟨_,List.getElem?_eq_getElem hk⟩
   have hc1:wr.cell? ⟨b1,o1+k,none⟩=some (.int .u64 (t:Int)):=hcl1 k _ (by rw [u64s,List.getElem?_map,ht];rfl)
   have hti:in64u t:=HOk.out t (by rw [HEL.out];exact List.mem_cons_of_mem _ (List.mem_of_getElem? ht))
   have hdr:tl.drop k=t::tl.drop (k+1):=by rw [List.drop_eq_getElem_cons hk];rw [List.getElem?_eq_getElem hk] at ht;cases ht;rfl
   have HX:Hid (bits .xor .u64 (t:Int) (last:Int)=((t ^^^ last:Nat):Int)):=bits_xor_u64_nat t last hti HI.out.la
   have hx:t ^^^ last<18446744073709551616:=xor_lt64 hti HI.out.la
   have c0:wr.cell? ⟨g,0,none⟩=some (.int .u64 (last:Int)):=by rw [HI.out.blk.cell];rfl
   have HTr:Hid (TabZ wr):=HT.out.below HI.out.below (Nat.le_refl _)
   have HSt:=Lib.hid (stepFor_any g win (t ^^^ last) HI.out.ok hx wr HTr.out (by rw [HI.out.blk.cell];rfl) (by rw [HI.out.blk.cell];rfl))
   have HCe:=Lib.hid (step_cells win last t)
   have HFo:=Lib.hid (step_form HI.out.ok hx)
   have HSz:=Lib.hid (stepN_len HI.out.ok hx)
   have HNx:Hid (okW (nextW win (t ^^^ last))):=okW_next HI.out.ok hx
   have HTi:=Lib.hid hti;have HD:=Lib.hid hdr;have HHx:=Lib.hid hx
   have HEn:Hid (encFromV win last (tl.drop k)=encW win (t ^^^ last)++encFromV (nextW win (t ^^^ last)) t (tl.drop (k+1))):=by show _=_;rw [HD.out];rfl
   clear hcl1 ht hti hdr hx
   generalize t ^^^ last=x at *
   generalize sL win x=a at *
   generalize sW win x=b at *
   generalize sN win x=c at *
   generalize encW win x=E at *
   generalize nextW win x=win' at *
   go_wp2_with fail
   rw [HX.out]
   go_wp2_with fail
   refine HSt.out.mono ?_
   rintro e w2 ⟨rfl,hB2⟩
   obtain ⟨w4,hw4⟩:∃w4,w2.alloc (.cells #[.int .i64 (a:Int),.int .i64 (b:Int),.bool c] 285)=w4:=⟨_,rfl⟩
   have HK4:Hid (Blk w4 w2.heap.size [.int .i64 (a:Int),.int .i64 (b:Int),.bool c]):=by rw [← hw4];exact Blk.new w2 _ _
   have HB4:Hid (Below wr.heap.size wr w4):=by rw [← hw4];exact hB2.alloc hB2.size _
   have HS2:Hid (wr.heap.size≤w2.heap.size):=hB2.size
   have HBk4:Hid (Blk w4 g ([.int .u64 (last:Int),.int .i64 (wl win:Int),.int .i64 (ww win:Int)]++[])):=HI.out.blk.of_same (HB4.out.block _ HI.out.blk.lt)
   have hgl:=HI.out.blk.lt
   have hs2:=HS2.out
   have hgB:g≠w2.heap.size:=by omega
   obtain ⟨⟨d0,d1,d2⟩,_⟩:=HK4.out.three
   have HAd:=Lib.hid (advance_any g last x (wl win) (ww win) a b c [] HI.out.la HHx.out w4 HBk4.out)
   clear HSt HX c0 hB2 hs2
   go_wp2_with fail
   refine HAd.out.mono ?_
   rintro e w5 ⟨rfl,hG5,hM5⟩
   rw [HCe.out] at hG5
   obtain ⟨⟨d0,d1,d2⟩,_⟩:=(hM5.blk HK4.out (fun e=>hgB e.symm)).three
   have HG5:=Lib.hid hG5;have HM5:=Lib.hid hM5
   have hab1:=HFo.out.2.1;have hab2:=HFo.out.2.2.1
   have HSi:=Lib.hid (size_anyX a b c HFo.out.1 (by omega) (by omega) w5)
   rw [HSz.out] at HSi
   have hEl:(E.length:Int)≤70368744177000:=by have h1:=HI.out.left;have h2:=HN.out;have h3:=HZ.out;rw [HEn.out,List.length_append] at h1;omega
   clear hG5 hM5 HAd hab1 hab2
   go_wp2_with fail
   refine HSi.out.mono ?_
   rintro e w6 ⟨rfl,hB6⟩
   have HI6:Hid (SizeIn g ls tl (.slice (some ⟨b1,o1,none⟩) tl.length c2) w (k+1) t win' (n+E.length) w6):=by
    have hb:b1=b0:=HOwn.out b1 rfl
    have hap:=HAp.out;have hge:=HGe.out
    have hMall:Mods (fun k=>k=g) wr w6:=((Mods.of_below HB4.out _).trans HM5.out (fun _ _ e=>e)).trans (Mods.of_below hB6 _) (fun _ _ e=>e)
    refine ⟨HG5.out.of_same (hB6.block _ HG5.out.lt),HI.out.below.trans (hMall.below HI.out.below.size (fun j hj e=>by omega)),?_,HTi.out,HNx.out,HI.out.row.mods hMall (fun j hj e=>?_)⟩
    ·rw [HI.out.left,HEn.out,List.length_append];omega
    ·cases hj
     change b1=g at e
     omega
   clear HG5 HM5 hB6 HI HSi HBk4 HB4 HK4 d0 d1 d2
   go_wp2_with fail
   go_round
   case rel=>exact ⟨k+1,_,_,_,by omega,by go_num,by go_num,HI6.out⟩
   case measure=>simp [intOf];omega
  ·have hk':¬(k:Int)<(tl.length:Int):=by omega
   have HLeft:Hid ((encV ls).length=n):=by
    have h:=HI.out.left
    rw [List.drop_eq_nil_of_le (by omega),encFromV] at h
    exact h
   go_wp2_with fail
   go_ret
   rw [HLeft.out]
   exact ⟨rfl,HI.out.below⟩
end Go.Proofs.YtdcgbgecbeegmaaGreatDoor
end
section
namespace Go.Proofs.YtdcgbgecbeegmaaGreatDoor
open Go Go.RowKit
theorem Blk.set2 {w:World} {g:Nat} {a b:Value} (h:Blk w g [a,b]) (x y:Value):Blk ((w.setCell ⟨g,0,none⟩ x).setCell ⟨g,1,none⟩ y) g [x,y]:=by
 simpa using (h.set 0 x).set 1 y
theorem Blk.two {w:World} {g:Nat} {a b:Value} (h:Blk w g [a,b]):(w.cell? ⟨g,0,none⟩=some a∧w.cell? ⟨g,1,none⟩=some b)∧(w.frozen? ⟨g,0,none⟩=false∧w.frozen? ⟨g,1,none⟩=false):=
 ⟨⟨by rw [h.cell];rfl,by rw [h.cell];rfl⟩,h.free 0,h.free 1⟩
end Go.Proofs.YtdcgbgecbeegmaaGreatDoor
end
section
namespace Go.Proofs.YtdcgbgecbeegmaaGreatDoor
open Go Go.RowKit Go.Shelf
attribute [local go_sem] Oper.semAt_some
structure HeadR (l:List Nat) (x n:Nat):Prop where
 one:1≤n
 most:n≤128
 le:n≤l.length
 all:l.take n=List.replicate n x
 stop:∀y,l[n]? = some y→¬(x=y∧n<128)
theorem addR_front (ps rs:List (Nat × Nat)) (h:rs≠[]) (x:Nat):addR (ps++rs) x=ps++addR rs x∧addR rs x≠[]:=by
 rcases cases_last rs with rfl | ⟨p,v,c,rfl⟩
 ·exact absurd rfl h
 ·rw [← List.append_assoc,addR_last,addR_last]
  split<;>simp
theorem splitFrom_front (ps:List (Nat × Nat)) (l:List Nat):∀(rs:List (Nat × Nat)),rs≠[]→splitFrom (ps++rs) l=ps++splitFrom rs l:=by
 induction l with
 | nil=>intro rs _;rfl
 | cons x l ih=>
  intro rs h
  obtain ⟨h1,h2⟩:=addR_front ps rs h x
  show splitFrom (addR (ps++rs) x) l=ps++splitFrom (addR rs x) l
  rw [h1,ih _ h2]
theorem split_head {l:List Nat} {x n:Nat} (h:HeadR l x n):splitR l=(x,n)::splitR (l.drop n):=by
 have e:splitR l=splitFrom (splitFrom [] (l.take n)) (l.drop n):=by rw [← splitFrom_append,List.take_append_drop];rfl
 obtain ⟨k,hk⟩:∃k,n=k+1:=⟨n-1,by have:=h.one;omega⟩
 have e2:splitFrom [] (l.take n)=[(x,n)]:=by
  rw [h.all,hk,split_run [] x k (by have:=h.most;omega) (fun _ _ e=>by cases e)];rfl
 rw [e,e2]
 cases hd:l.drop n with
 | nil=>rfl
 | cons y r=>
  have hy:l[n]? = some y:=by
   have:(l.drop n)[0]? = some y:=by rw [hd];rfl
   rwa [List.getElem?_drop] at this
  have ha:addR [(x,n)] y=[(x,n)]++[(y,1)]:=by
   rw [show [(x,n)]=[]++[(x,n)] from rfl,addR_last,if_neg (h.stop y hy)]
  show splitFrom (addR [(x,n)] y) r=(x,n)::splitFrom (addR [] y) r
  rw [ha,splitFrom_front _ _ _ (by simp)]
  rfl
theorem strRun:Str Tryz.prog 301 2 [.int .u64 0,.int .i64 0]:=Str.mk' Tryz.underlying301 rfl (by kernel_rfl) rfl
set_option maxRecDepth 20000 in
set_option maxHeartbeats 2000000 in
theorem firstRun_any (lv:Value) (l:List Nat) (w:World) (hl:Rd w 1 lv l.length (u64s l)) (hne:l≠[]) :
  Calls Tryz.prog 277 #[lv] w fun e w'=>∃x n,HeadR l x n∧e = .returned (.agg #[.int .u64 (x:Int),.int .i64 (n:Int)])∧Below w.heap.size w w':=by
 obtain ⟨x0,tl,hx0⟩:=List.exists_cons_of_ne_nil hne
 obtain ⟨b,off,c,e,hnc,hncm,hcell⟩:=hl.at (by rw [hx0];simp [u64s])
 subst e
 have HCl:Hid (∀(i t:Nat),l[i]? = some t→w.cell? ⟨b,off+i,none⟩=some (.int .u64 (t:Int))):=fun i t h=>hcell i _ (by rw [u64s,List.getElem?_map,h];rfl)
 have HLe:=Lib.hid hl.le
 have hc0:w.cell? ⟨b,off,none⟩=some (.int .u64 (x0:Int)):=by have:=HCl.out 0 x0 (by rw [hx0];rfl);simpa using this
 have HX:Hid (l[0]? = some x0):=by show _=_;rw [hx0];rfl
 have hpos:(0:Int)<(l.length:Int):=by rw [hx0];simp only [List.length_cons];omega
 have hpos1:1≤l.length:=by omega
 have hlm:(l.length:Int)≤9223372036854775807:=by have:=HLe.out;unfold maxLen at this;omega
 clear hl hne hx0 hnc hncm hcell
 have HC0:=Lib.hid hc0
 clear hc0
 go_enter Tryz.func277,Tryz.ntmps277
 go_wp2_with fail
 obtain ⟨w1,hw1⟩:∃w1,w.alloc (.cells #[.int .u64 0,.int .i64 0] 301)=w1:=⟨_,rfl⟩
 have HK1:Hid (Blk w1 w.heap.size [.int .u64 0,.int .i64 0]):=by rw [← hw1];exact Blk.new w _ _
 have HB1:Hid (Below w.heap.size w w1):=by rw [← hw1];exact (Below.refl _ w).alloc (Nat.le_refl _) _
 rw [hw1]
 clear hw1
 go_loopw [3] (fun nv wr=>∃(n:Nat),1≤n∧n≤l.length∧n≤128∧nv = .int .i64 (n:Int)∧Hid (l.take n=List.replicate n x0)∧Hid (Below w.heap.size w wr∧Blk wr w.heap.size [.int .u64 0,.int .i64 0])) (fun nv _=>l.length-(intOf nv).toNat)
 case atStart=>exact ⟨1,Nat.le_refl _,hpos1,by omega,rfl,by
  show _=_
  rw [List.take_one,List.head?_eq_getElem?,HX.out];rfl,HB1.out,HK1.out⟩
 case round=>
  obtain ⟨n,h1,h2,h3,rfl,HA,HBK⟩:=hrel
  have hcw:wr.cell? ⟨b,off,none⟩=some (.int .u64 (x0:Int)):=(HBK.out.1.cell (World.block_lt_of_cell? w _ HC0.out)).trans HC0.out
  have hK0:wr.cell? ⟨w.heap.size,0,none⟩=some (.int .u64 0):=by rw [HBK.out.2.cell];rfl
  have hF0:=HBK.out.2.free 0
  have hK1:wr.cell? ⟨w.heap.size,1,none⟩=some (.int .i64 0):=by rw [HBK.out.2.cell];rfl
  have hF1:=HBK.out.2.free 1
  have hn128:(n:Int)≤128:=by omega
  by_cases hlt:n<l.length
  ·have hlt':(n:Int)<(l.length:Int):=by omega
   obtain ⟨y,hy⟩:∃y,l[n]? = some y:=⟨_,List.getElem?_eq_getElem hlt⟩
   have hcn:wr.cell? ⟨b,off+n,none⟩=some (.int .u64 (y:Int)):=(HBK.out.1.cell (p:=⟨b,off+n,none⟩) (World.block_lt_of_cell? w ⟨b,off+n,none⟩ (HCl.out n y hy))).trans (HCl.out n y hy)
   have HY:=Lib.hid hy
   clear hy
   by_cases hm:n<128
   ·have hm':(n:Int)<128:=by omega
    by_cases he:y=x0
    ·subst he
     go_wp2_with fail
     go_quiet (fail)
     have HBK2:Hid (Below w.heap.size w (wr.drewN nq)∧Blk (wr.drewN nq) w.heap.size [.int .u64 0,.int .i64 0]):=⟨HBK.out.1.trans ⟨rfl,rfl,rfl,Nat.le_refl _,fun _ _=>rfl⟩,HBK.out.2⟩
     have HA2:Hid (l.take (n+1)=List.replicate (n+1) y):=by
      show _=_
      rw [List.take_add_one,HY.out,HA.out,List.replicate_succ'];rfl
     clear HBK HA hcw hK0 hF0 hK1 hF1 hcn
     generalize wr.drewN nq=wn at *
     go_wp2_with fail
     go_round
     case rel=>exact ⟨n+1,by omega,by omega,by omega,by go_num,HA2.out,HBK2.out⟩
     case measure=>simp [intOf];omega
    ·have hb1:((y:Int) == (x0:Int))=false:=by rw [beq_eq_false_iff_ne];omega
     have hb2:¬(y:Int)=(x0:Int):=by omega
     have HR:Hid (HeadR l x0 n):=⟨h1,h3,h2,HA.out,fun z hz h=>by rw [HY.out] at hz;cases hz;exact he h.1.symm⟩
     clear he
     go_wp2_with fail
     go_quiet (fail)
     have HBK2:Hid (Below w.heap.size w (wr.drewN nq)∧Blk (wr.drewN nq) w.heap.size [.int .u64 0,.int .i64 0]):=⟨HBK.out.1.trans ⟨rfl,rfl,rfl,Nat.le_refl _,fun _ _=>rfl⟩,HBK.out.2⟩
     have hcw2:(wr.drewN nq).cell? ⟨b,off,none⟩=some (.int .u64 (x0:Int)):=hcw
     have hK02:(wr.drewN nq).cell? ⟨w.heap.size,0,none⟩=some (.int .u64 0):=hK0
     have hF02:(wr.drewN nq).frozen? ⟨w.heap.size,0,none⟩=false:=hF0
     have hK12:(wr.drewN nq).cell? ⟨w.heap.size,1,none⟩=some (.int .i64 0):=hK1
     have hF12:(wr.drewN nq).frozen? ⟨w.heap.size,1,none⟩=false:=hF1
     clear HBK HA hcw hK0 hF0 hK1 hF1 hcn
     generalize wr.drewN nq=wn at *
     go_wp2_with fail
     refine bodyPost_ret (resultsS (p:=2) strRun (by kernel_rfl) _ w.heap.size rfl [.int .u64 (x0:Int),.int .i64 (n:Int)] ?_ rfl) rfl ⟨x0,n,HR.out,rfl,?_⟩
     ·simpa using (HBK2.out.2.set 0 (.int .u64 (x0:Int))).set 1 (.int .i64 (n:Int))
     ·exact HBK2.out.1.trans (((Mods.set (fun k=>k=w.heap.size) wn ⟨w.heap.size,0,none⟩ _ (fun _=>rfl)).trans (Mods.set (fun k=>k=w.heap.size) _ ⟨w.heap.size,1,none⟩ _ (fun _=>rfl)) (fun _ _ e=>e)).below HBK2.out.1.size (fun j hj e=>by omega))
   ·have HR:Hid (HeadR l x0 n):=⟨h1,h3,h2,HA.out,fun z hz h=>hm h.2⟩
    obtain rfl:n=128:=by omega
    have hd:decide ((128:Int)<(l.length:Int))=true:=by simpa using hlt'
    go_wp2_with fail
    go_quiet (fail)
    have HBK2:Hid (Below w.heap.size w (wr.drewN nq)∧Blk (wr.drewN nq) w.heap.size [.int .u64 0,.int .i64 0]):=⟨HBK.out.1.trans ⟨rfl,rfl,rfl,Nat.le_refl _,fun _ _=>rfl⟩,HBK.out.2⟩
    have hcw2:(wr.drewN nq).cell? ⟨b,off,none⟩=some (.int .u64 (x0:Int)):=hcw
    have hK02:(wr.drewN nq).cell? ⟨w.heap.size,0,none⟩=some (.int .u64 0):=hK0
    have hF02:(wr.drewN nq).frozen? ⟨w.heap.size,0,none⟩=false:=hF0
    have hK12:(wr.drewN nq).cell? ⟨w.heap.size,1,none⟩=some (.int .i64 0):=hK1
    have hF12:(wr.drewN nq).frozen? ⟨w.heap.size,1,none⟩=false:=hF1
    clear HBK HA hcw hK0 hF0 hK1 hF1 hcn
    generalize wr.drewN nq=wn at *
    go_wp2_with fail
    refine bodyPost_ret (resultsS (p:=2) strRun (by kernel_rfl) _ w.heap.size rfl [.int .u64 (x0:Int),.int .i64 ((128:Nat):Int)] ?_ rfl) rfl ⟨x0,128,HR.out,rfl,?_⟩
    ·simpa using (HBK2.out.2.set 0 (.int .u64 (x0:Int))).set 1 (.int .i64 ((128:Nat):Int))
    ·exact HBK2.out.1.trans (((Mods.set (fun k=>k=w.heap.size) wn ⟨w.heap.size,0,none⟩ _ (fun _=>rfl)).trans (Mods.set (fun k=>k=w.heap.size) _ ⟨w.heap.size,1,none⟩ _ (fun _=>rfl)) (fun _ _ e=>e)).below HBK2.out.1.size (fun j hj e=>by omega))
  ·have hlt':¬(n:Int)<(l.length:Int):=by omega
   have HR:Hid (HeadR l x0 n):=⟨h1,h3,h2,HA.out,fun z hz h=>by rw [List.getElem?_eq_none (by omega)] at hz;cases hz⟩
   go_wp2_with fail
   go_quiet (fail)
   have HBK2:Hid (Below w.heap.size w (wr.drewN nq)∧Blk (wr.drewN nq) w.heap.size [.int .u64 0,.int .i64 0]):=⟨HBK.out.1.trans ⟨rfl,rfl,rfl,Nat.le_refl _,fun _ _=>rfl⟩,HBK.out.2⟩
   have hcw2:(wr.drewN nq).cell? ⟨b,off,none⟩=some (.int .u64 (x0:Int)):=hcw
   have hK02:(wr.drewN nq).cell? ⟨w.heap.size,0,none⟩=some (.int .u64 0):=hK0
   have hF02:(wr.drewN nq).frozen? ⟨w.heap.size,0,none⟩=false:=hF0
   have hK12:(wr.drewN nq).cell? ⟨w.heap.size,1,none⟩=some (.int .i64 0):=hK1
   have hF12:(wr.drewN nq).frozen? ⟨w.heap.size,1,none⟩=false:=hF1
   clear HBK HA hcw hK0 hF0 hK1 hF1
   generalize wr.drewN nq=wn at *
   go_wp2_with fail
   refine bodyPost_ret (resultsS (p:=2) strRun (by kernel_rfl) _ w.heap.size rfl [.int .u64 (x0:Int),.int .i64 (n:Int)] ?_ rfl) rfl ⟨x0,n,HR.out,rfl,?_⟩
   ·simpa using (HBK2.out.2.set 0 (.int .u64 (x0:Int))).set 1 (.int .i64 (n:Int))
   ·exact HBK2.out.1.trans (((Mods.set (fun k=>k=w.heap.size) wn ⟨w.heap.size,0,none⟩ _ (fun _=>rfl)).trans (Mods.set (fun k=>k=w.heap.size) _ ⟨w.heap.size,1,none⟩ _ (fun _=>rfl)) (fun _ _ e=>e)).below HBK2.out.1.size (fun j hj e=>by omega))
abbrev Rn:Type:={ r:Nat × Nat // runOk r }
def runV (r:Rn):Value:=.agg #[.int .u64 (r.1.1:Int),.int .i64 (r.1.2:Int)]
def rnsOf (ys:List Rn):List (Nat × Nat):=ys.map Subtype.val
theorem rnsOf_push (ys:List Rn) (x:Rn):rnsOf (ys++[x])=rnsOf ys++[x.1]:=by simp [rnsOf]
def IsRun (w:World) (k:Nat):Prop:=∃(x n:Int) (fz:Nat × Nat),w.heap[k]? = some (.cells #[.int .u64 x,.int .i64 n] 301 fz)
def KeepRun (K:Nat→Prop) (A B:World):Prop:=KeepAt K A B∧∀k,IsRun A k→B.heap[k]? = A.heap[k]?
theorem IsRun.keep {A B:World} {k:Nat} (h:IsRun A k) (e:B.heap[k]? = A.heap[k]?):IsRun B k:=by
 obtain ⟨x,n,fz,h⟩:=h
 exact ⟨x,n,fz,e.trans h⟩
theorem keepRun_t {K:Nat→Prop} {A B C:World} (h:KeepRun K A B) (k:KeepRun K B C):KeepRun K A C:=
 ⟨keepAt_t h.1 k.1,fun j hj=>(k.2 j (hj.keep (h.2 j hj))).trans (h.2 j hj)⟩
theorem keepRun_b {K:Nat→Prop} {w:World} (hK:∀k,K k→k<w.heap.size) (W:World) (l:Nat) (o o':Obj) (hl:w.heap.size≤l) (h:W.heap[l]? = some o) (ho:o.isCells=false) (hw:o.isWalk=false):KeepRun K W (W.putObj l o'):=
 ⟨keepAt_b hK W l o o' hl h ho hw,fun k ⟨x,n,fz,hk⟩=>(grownBy_putObj' W l o').block k (Array.getElem?_eq_some_iff.1 hk).1 (fun e=>by cases e;rw [hk] at h;cases h;cases ho)⟩
theorem keepRun_mods {K S:Nat→Prop} {w W W':World} (hm:Mods S W W') (hs:w.heap.size≤W.heap.size) (hK:∀k,K k→k<w.heap.size) (hKS:∀k,K k→¬S k) (hR:∀k,S k→¬IsRun W k):KeepRun K W W':=
 ⟨fun k hk=>hm.block k (by have:=hK k hk;omega) (hKS k hk),fun k hk=>hm.block k (by obtain ⟨_,_,_,e⟩:=hk;exact (Array.getElem?_eq_some_iff.1 e).1) (fun e=>hR k e hk)⟩
theorem new_runs (p:Option Addr) (m c:Nat) (w:World) (n:Nat) :
  CallsIn Fence.wide n Tryz.prog 233 #[.slice p m c] w fun e w'=>e = .returned (.func (.func 276) #[] #[.pointer (some ⟨w.heap.size,0,none⟩)])∧w'=w.alloc (.cells #[.slice p m c] 113):=by
 refine callsIn_wide.2 ?_
 go_enter Tryz.func233,Tryz.ntmps233
 go_wp2_with fail
 go_ret
 exact ⟨rfl,rfl⟩
set_option maxRecDepth 100000 in
set_option maxHeartbeats 1000000 in
theorem runs_gives (n:Nat) (hn:1≤n) (b:Nat) (lv:Value) (l:List Nat) (w:World) (hc:w.cell? ⟨b,0,none⟩=some lv) (hl:Rd w 1 lv l.length (u64s l)) (hok:∀t∈l,t<18446744073709551616) :
  SeqStopsK Fence.wide n Tryz.prog 276 #[.pointer (some ⟨b,0,none⟩)] (fun r:Rn=>#[runV r]) (KeepRun (fun k=>k=b∨(l≠[]∧lv.ownBlock=some k))) (fun ys=>rnsOf ys=splitR l) (fun _=>True) (splitR l).length w:=by
 intro r J Jx W hW hJ hJx hY h0
 have hb:b<w.heap.size:=World.block_lt_of_cell? w _ hc
 have HKs0:Hid (∀k,(k=b∨(l≠[]∧lv.ownBlock=some k))→k<w.heap.size):=fun k hk=>by
  rcases hk with e | ⟨h1,e⟩
  ·omega
  ·exact hl.lt (fun e=>h1 (by simpa [u64s] using e)) k e
 have HK0:Hid (KeepAt (fun k=>k=b∨(l≠[]∧lv.ownBlock=some k)) w W):=fun k hk=>hW.block k (HKs0.out k hk)
 have HC:=Lib.hid hc;have HL:=Lib.hid hl;have HOk:=Lib.hid hok
 have HJ:=Lib.hid hJ
 have HY:=Lib.hid hY
 have hmax:(l.length:Int)≤9223372036854775807:=by have:=hl.le;unfold maxLen at this;omega
 clear hc hJ hY hok
 obtain ⟨p,c,hv⟩:=hl.shape
 subst hv
 clear hl
 obtain ⟨K,hK⟩:∃K:Nat→Prop,(fun k=>k=b∨(l≠[]∧(Value.slice p l.length c).ownBlock=some k))=K:=⟨_,rfl⟩
 have HKb:Hid (K b):=by rw [← hK];exact Or.inl rfl
 have HKv:Hid (l≠[]→∀k,(Value.slice p l.length c).ownBlock=some k→K k):=by rw [← hK];exact fun h k hk=>Or.inr ⟨h,hk⟩
 have HKs:Hid (∀k,K k→k<w.heap.size):=by rw [← hK];exact HKs0.out
 rw [hK] at HK0 HY
 clear hK HKs0
 refine callsIn_of_wp Tryz.func276 rfl trivial ?_ rfl
 simp only [Tryz.ntmps276,List.size_toArray,List.length_cons,List.length_nil,Nat.reduceAdd,Nat.reduceSub,Array.replicate_succ,Array.replicate_zero,List.push_toArray,List.append_toArray,List.nil_append,List.cons_append]
 gi_wp2
 gi_loopw [3] (fun iv wr=>∃(i:Nat) (pre:List Rn),i≤l.length∧iv = .int .i64 (i:Int)∧Hid (splitR l=rnsOf pre++splitR (l.drop i))∧Hid (J pre wr∧KeepAt K w wr)) (fun iv _=>l.length-(intOf iv).toNat)
 case atStart=>exact ⟨0,[],Nat.zero_le _,rfl,rfl,h0,HK0.out⟩
 case round=>
  obtain ⟨i,pre,hi,rfl,HP,HI⟩:=hrel
  have cb:=(HI.out.2.cell HKb.out 0).trans HC.out
  by_cases h:i<l.length
  ·have hlt:(i:Int)<(l.length:Int):=by omega
   have hle:(i:Int)≤(l.length:Int):=by omega
   have hne:l≠[]:=fun e=>by rw [e] at h;simp at h
   have HR:=Lib.hid (HI.out.2.rd HL.out (HKv.out hne))
   have HDl:Hid ((l.drop i).length=l.length-i):=List.length_drop
   have HDn:Hid (l.drop i≠[]):=fun e=>by have:=congrArg List.length e;rw [List.length_drop,List.length_nil] at this;omega
   have HDu:Hid ((u64s l).drop (i*1)=u64s (l.drop i)):=by show _=_;rw [Nat.mul_one,u64s,u64s,List.map_drop]
   have hci:¬(c=i):=by
    obtain ⟨_,_,e,_,h2,_⟩:=HR.out
    simp only [Value.slice.injEq] at e
    obtain ⟨_,_,rfl⟩:=e
    omega
   have hci2:i<c:=by
    obtain ⟨_,_,e,_,h2,_⟩:=HR.out
    simp only [Value.slice.injEq] at e
    obtain ⟨_,_,rfl⟩:=e
    omega
   clear hne
   have HRd:Hid (Rd wr 1 (.slice (Option.map (fun x:Addr=>x.add i) p) (l.length-i) (c-i)) (l.drop i).length (u64s (l.drop i))):=by
    have h:=HR.out.from i (by omega)
    rw [HDu.out] at h
    rw [HDl.out]
    show Rd _ _ _ _ _
    unfold sliced at h
    rw [if_neg (by omega)] at h
    simpa using h
   have HFr:=Lib.hid (firstRun_any _ _ wr HRd.out HDn.out)
   clear HRd HDn HDu HR
   gi_wp2
   refine ⟨trivial,(callsIn_wide.2 HFr.out).mono ?_⟩
   rintro e w2 ⟨x,k,hH,rfl,hB⟩
   have HSp:=Lib.hid (split_head hH)
   have hk1:=hH.one
   have hk3:=hH.most
   have HRo:Hid (runOk (x,k)):=by
    refine ⟨hk1,hk3,HOk.out x ?_⟩
    have:x∈(l.drop i).take k:=by rw [hH.all];exact List.mem_replicate.2 ⟨by omega,rfl⟩
    exact List.mem_of_mem_drop (List.mem_of_mem_take this)
   have hk2:k≤l.length-i:=by have:=hH.le;rw [HDl.out] at this;exact this
   clear hH HFr
   have HI2:Hid (J pre w2∧KeepAt K w w2):=⟨HJ.out pre wr _ none HI.out.1 (grown_below hB) (fun r e=>by cases e),keepAt_below HI.out.2 HKs.out hB⟩
   have HI3:Hid (J pre (w2.alloc (.cells #[.int .u64 (x:Int),.int .i64 (k:Int)] 301))∧KeepAt K w (w2.alloc (.cells #[.int .u64 (x:Int),.int .i64 (k:Int)] 301))):=by
    have hB2:Below w2.heap.size w2 (w2.alloc (.cells #[.int .u64 (x:Int),.int .i64 (k:Int)] 301)):=(Below.refl _ w2).alloc (Nat.le_refl _) _
    have hsz:W.heap.size≤w2.heap.size→True:=fun _=>trivial
    exact ⟨HJ.out pre w2 _ none HI2.out.1 (grown_below hB2) (fun r e=>by cases e),keepAt_below HI2.out.2 HKs.out hB2⟩
   obtain ⟨z,hz⟩:∃z:Rn,z=⟨(x,k),HRo.out⟩:=⟨_,rfl⟩
   have HZ:Hid (z.1=(x,k)):=by rw [hz];rfl
   have hze:runV z = .agg #[.int .u64 (x:Int),.int .i64 (k:Int)]:=by rw [hz];rfl
   have hex:Hid (splitR l=rnsOf (pre++[z])++splitR (l.drop (i+k))):=by
    show _=_
    rw [rnsOf_push,HZ.out,HP.out,HSp.out,List.drop_drop,List.append_assoc];rfl
   have hlen:pre.length<(splitR l).length:=by
    rw [hex.out,rnsOf_push,List.length_append,List.length_append,List.length_singleton]
    have:(rnsOf pre).length=pre.length:=by simp [rnsOf]
    omega
   obtain ⟨fn,tmps,assign,body,hyl,hR⟩:=HY.out pre z _ HI3.out.1 hlen
   rw [hze] at hyl
   have hRH:=Lib.hid hR
   have HHx:=Lib.hid hex
   clear HI cb hB hci hci2 HI2 hR hex hlen hze hz HP HSp
   gi_wp2
   refine hRH.out.mono ?_
   rintro e W3 (⟨rfl,hJ3,hk3⟩ | ⟨rfl,hJx3⟩)
   ·have HI4:=Lib.hid (And.intro hJ3 (keepAt_t HI3.out.2 hk3.1))
    have hcr:W3.cell? ⟨w2.heap.size,1,none⟩=some (.int .i64 (k:Int)):=by
     have hb:=Blk.new w2 #[.int .u64 (x:Int),.int .i64 (k:Int)] 301
     rw [(hb.of_same (hk3.2 _ ⟨_,_,_,World.alloc_heap_new w2 _⟩)).cell];rfl
    clear hJ3 hk3
    have hkl:(k:Int)≤128:=by omega
    gi_wp2
    go_roundw
    case rel=>exact ⟨i+k,_,by omega,by go_num,HHx.out,HI4.out⟩
    case measure=>simp [intOf];omega
   ·gi_wp2
    refine bodyPost_ret (results_none rfl _ _ _) rfl ?_
    exact ⟨⟨_,rfl⟩,.inr ⟨_,trivial,hJx3⟩⟩
  ·have hlt:¬(i:Int)<(l.length:Int):=by omega
   have HE:Hid (rnsOf pre=splitR l):=by
    show _=_
    rw [HP.out,List.drop_of_length_le (by omega)]
    simp [splitR,splitFrom]
   clear HP
   gi_wp2
   go_end0
   exact ⟨⟨_,rfl⟩,.inl ⟨_,HE.out,HI.out.1⟩⟩
set_option maxRecDepth 100000 in
set_option maxHeartbeats 1000000 in
theorem runval_size (lv:Value) (l:List Nat) (w:World) (hl:Rd w 1 lv l.length (u64s l)) (hok:∀t∈l,in64u t) (hz:71*l.length≤70368744177000) :
  Calls Tryz.prog 187 #[lv] w fun e w'=>e = .returned (.int .i64 ((encR l).length:Int))∧Below w.heap.size w w':=by
 obtain ⟨p,c,hv⟩:=hl.shape
 subst hv
 have HL:=Lib.hid hl;have HOk:=Lib.hid hok
 have HZ:Hid (71*(splitR l).length≤70368744177000):=by show _≤_;have:=splitR_len l;omega
 have HLT:Hid (l≠[]→∀k,(Value.slice p l.length c).ownBlock=some k→k<w.heap.size):=fun h=>hl.lt (fun e=>h (by simpa [u64s] using e))
 clear hl hok hz
 refine (callsIn_wide (n:=9)).1 ?_
 refine callsIn_of_wp_marks Tryz.func187 rfl trivial ?_ rfl
 simp only [Tryz.ntmps187,List.size_toArray,List.length_cons,List.length_nil,Nat.reduceAdd,Nat.reduceSub,Array.replicate_succ,Array.replicate_zero,List.push_toArray,List.append_toArray,List.nil_append,List.cons_append]
 gi_wp2_with (refine ⟨trivial,?_⟩;gi_at_call 233;refine (new_runs p _ c _ _).mono ?_;rintro e w' ⟨rfl,rfl⟩)
 obtain ⟨W0,hW0⟩:∃W0,(w.alloc (.cells #[.int .i64 0] 3)).alloc (.cells #[.slice p l.length c] 113)=W0:=⟨_,rfl⟩
 have hs0:W0.heap.size=w.heap.size+2:=by rw [← hW0];simp
 have hB0:Below w.heap.size w W0:=by rw [← hW0];exact ((Below.refl _ w).alloc (Nat.le_refl _) _).alloc (by simp) _
 have hn0:Blk W0 w.heap.size [.int .i64 0]:=by rw [← hW0];exact (Blk.new w _ _).alloc _
 have hx0:W0.cell? ⟨w.heap.size+1,0,none⟩=some (.slice p l.length c):=by
  have:=(Blk.new (w.alloc (.cells #[.int .i64 0] 3)) #[.slice p l.length c] 113).cell 0
  rw [hW0] at this
  simpa using this
 have hl0:=HL.out.below hB0
 have HKW:Hid (∀k,(k=w.heap.size+1∨(l≠[]∧(Value.slice p l.length c).ownBlock=some k))→k≠w.heap.size∧k<W0.heap.size):=fun k hk=>by
  rcases hk with e | ⟨h,e⟩
  ·omega
  ·have:=HLT.out h k e;omega
 have HGV:=Lib.hid (runs_gives 8 (by omega) (w.heap.size+1) _ l W0 hx0 hl0 HOk.out)
 rw [hW0]
 clear hW0 hx0 hl0
 obtain ⟨K,hK⟩:∃K:Nat→Prop,(fun k=>k=w.heap.size+1∨(l≠[]∧(Value.slice p l.length c).ownBlock=some k))=K:=⟨_,rfl⟩
 have HKW2:Hid (∀k,K k→k≠w.heap.size∧k<W0.heap.size):=by rw [← hK];exact HKW.out
 rw [hK] at HGV
 clear hK HKW
 have HE:Hid ((encR l).length=71*(splitR l).length):=by show _=_;rw [encR,encRuns_len]
 generalize splitR l=rs at *
 refine wpIn_rangeFunc_ownG rfl (by omega) (gf:=276) (lb:=#[.pointer (some ⟨w.heap.size+1,0,none⟩)]) rfl trivial (enters_of Tryz.func276 (by kernel_rfl) rfl)
  HGV.out (fun h k=>keepRun_t h k) (fun W l o o' h1 h2 h3 h4=>keepRun_b (fun k hk=>(HKW2.out k hk).2) W l o o' h1 h2 h3 h4) (Below.refl _ _) (fun _=>rfl)
  (fun pre W=>Blk W w.heap.size [.int .i64 ((71*pre.length:Nat):Int)]∧Mods (fun k=>k=w.heap.size) W0 W)
  (fun _ _ _=>False)
  (OwnFrom.and (Own.from (own_blk _ _) _) (ownFrom_mods (Nat.le_refl _)))
  (fun _ _ _ _ _ hs _ _=>hs)
  ⟨hn0,Mods.refl _ _⟩
  (fun x=>{ tmps:=#[.slice p l.length c,undef,.int .i64 0,.pointer (some ⟨w.heap.size,0,none⟩),.slice p l.length c,.func (.func 276) #[] #[.pointer (some ⟨w.heap.size+1,0,none⟩)],runV x,undef,undef,undef],defers:=[] }) ?assign ?body ?done ?stop
 case assign=>
  intro l x W K hK
  simp only [List.zip_toArray,List.zip_cons_cons,List.zip_nil_right,List.foldl_toArray,List.foldl_cons,List.foldl_nil,List.setIfInBounds_toArray,List.set_cons_zero,List.set_cons_succ]
  gi_wp2
  exact hK
 case body=>
  rintro l pre x W ⟨hn,hM0⟩ hlen
  obtain ⟨Z,hZe⟩:∃Z,71*pre.length=Z:=⟨_,rfl⟩
  have hZ:Z≤70368744177000:=by have:=HZ.out;omega
  have hZ2:((71*(pre++[x]).length:Nat):Int)=(Z:Int)+71:=by rw [List.length_append,List.length_singleton];omega
  have HZ2:=Lib.hid hZ2
  rw [hZe] at hn
  have c0:W.cell? ⟨w.heap.size,0,none⟩=some (.int .i64 (Z:Int)):=by rw [hn.cell];rfl
  have f0:=hn.free 0
  have HN:=Lib.hid hn;have HM0:=Lib.hid hM0
  clear hn hM0 hZ2 hZe
  gi_wp2
  have hM:Mods (fun k=>k=w.heap.size) W (W.setCell ⟨w.heap.size,0,none⟩ (.int .i64 ((Z:Int)+71))):=Mods.set (fun k=>k=w.heap.size) W ⟨w.heap.size,0,none⟩ _ (fun _=>rfl)
  refine ⟨(KeepsOthers.of_mods hM (fun k o hk ho=>?_)).from _,keepRun_mods hM HM0.out.size (fun k hk=>(HKW2.out k hk).2) (fun k hk=>(HKW2.out k hk).1) ?_,?_,?_⟩
  ·subst hk
   obtain ⟨t,ht⟩:=HN.out
   rw [ht] at ho
   cases ho;rfl
  ·rintro k rfl ⟨x,n,fz,e⟩
   obtain ⟨t,ht⟩:=HN.out
   rw [ht] at e
   simp at e
  ·rw [HZ2.out]
   simpa using HN.out.set 0 (.int .i64 ((Z:Int)+71))
  ·exact HM0.out.trans hM (fun _ _ e=>e)
 case done=>
  rintro D zs W hD hzs ⟨hn,hM0⟩ hK
  have HE2:Hid (((71*zs.length:Nat):Int)=((encR l).length:Int)):=by
   show _=_
   have:zs.length=rs.length:=by rw [← hzs];simp [rnsOf]
   rw [HE.out,this]
  have c0:W.cell? ⟨w.heap.size,0,none⟩=some (.int .i64 ((71*zs.length:Nat):Int)):=by rw [hn.cell];rfl
  clear hn HGV
  have hB:=hB0.trans (hM0.below (B:=w.heap.size) (by omega) (fun k hk e=>by omega))
  generalize ((71*zs.length:Nat):Int)=Z at *
  gi_wp2
  refine ⟨by simp,.inl ⟨_,_,rfl,run_takeDeferred hK,?_⟩⟩
  exact ⟨_,results_tmp rfl _ _ _,by rw [← HE2.out];rfl,hB.trans (belowK_b (w:=w) (Nat.le_refl _) W D _ _ (by omega) hK rfl rfl)⟩
 case stop=>
  rintro D c pre W _ _ h _
  exact h.elim
theorem isRun_of {W:World} {b:Nat} {x n:Int} {fz:Nat × Nat} (h:W.heap[b]? = some (.cells #[.int .u64 x,.int .i64 n] 301 fz)):IsRun W b:=⟨x,n,fz,h⟩
theorem owns_not_run {W:World} {base:Nat} {e:TypeId} {sz:Nat} {v:Value} {n:Nat} {xs:List Value} (h:W.ownsRow base e sz v n xs) (he:e≠301) {k:Nat} (hk:v.ownBlock=some k):¬IsRun W k:=by
 rintro ⟨x,m,fz,hr⟩
 rcases h.2 with ⟨rfl,_⟩ | ⟨g,cap,cur,rfl,_,hgb,_⟩
 ·simp [Value.ownBlock] at hk
 ·obtain rfl:g=k:=by simpa [Value.ownBlock] using hk
  rw [hgb] at hr
  simp at hr
  exact he hr.2.1
theorem writer_not_run {W:World} {p:Nat} {v:Value} {out:List Bool} (h:WriterIn W p v out):∀k,(k=p∨v.ownBlock=some k)→¬IsRun W k:=by
 rintro k (rfl | hk)
 ·rintro ⟨x,n,fz,hr⟩
  obtain ⟨t,ht⟩:=h.blk
  rw [ht] at hr
  simp at hr
 ·exact owns_not_run h.own (by decide) hk
def RunBox (W:World) (b:Nat) (r:Rn):Prop:=W.heap[b]? = some (.cells #[.int .u64 (r.1.1:Int),.int .i64 (r.1.2:Int)] 301 (0,0))
theorem RunBox.blk {W:World} {b:Nat} {r:Rn} (h:RunBox W b r):Blk W b [.int .u64 (r.1.1:Int),.int .i64 (r.1.2:Int)]:=⟨_,h⟩
theorem RunBox.is {W:World} {b:Nat} {r:Rn} (h:RunBox W b r):IsRun W b:=isRun_of h
theorem runBox_own {β:Type} {B:Nat} (b:Nat) (r:Rn):OwnFrom B (fun (_:β) W=>RunBox W b r):=fun _ W W' row h hg hr=>(hg.block b (Array.getElem?_eq_some_iff.1 h).1 (row_other h (fun j e=>(hr j e).2))).trans h
set_option maxRecDepth 100000 in
set_option maxHeartbeats 2000000 in
theorem runval_put (p:Nat) (v lv:Value) (bits:List Bool) (l:List Nat) (w:World) (hW:WriterIn w p v bits)
  (hl:Rd w 1 lv l.length (u64s l)) (hok:∀t∈l,in64u t) (hap:l≠[]→∀k,lv.ownBlock=some k→k≠p∧v.ownBlock≠some k) (hz:bits.length+71*l.length≤70368744177000) :
  Calls Tryz.prog 188 #[.pointer (some ⟨p,0,none⟩),lv] w fun e w'=>e = .returned (.int .i64 0)∧BitsPost p v (bits++encR l) w w':=by
 obtain ⟨q,c,hv⟩:=hl.shape
 subst hv
 have HL:=Lib.hid hl;have HOk:=Lib.hid hok;have HW:=Lib.hid hW;have HAp:=Lib.hid hap
 have HZ:Hid (bits.length+71*(splitR l).length≤70368744177000):=by show _≤_;have:=splitR_len l;omega
 have HLT:Hid (l≠[]→∀k,(Value.slice q l.length c).ownBlock=some k→k<w.heap.size):=fun h=>hl.lt (fun e=>h (by simpa [u64s] using e))
 clear hl hok hz hW hap
 refine (callsIn_wide (n:=9)).1 ?_
 refine callsIn_of_wp_marks Tryz.func188 rfl trivial ?_ rfl
 simp only [Tryz.ntmps188,List.size_toArray,List.length_cons,List.length_nil,Nat.reduceAdd,Nat.reduceSub,Array.replicate_succ,Array.replicate_zero,List.push_toArray,List.append_toArray,List.nil_append,List.cons_append]
 gi_wp2_with (refine ⟨trivial,?_⟩;gi_at_call 233;refine (new_runs q _ c _ _).mono ?_;rintro e w' ⟨rfl,rfl⟩)
 obtain ⟨w1,hw1⟩:∃w1,w.alloc (.cells #[.pointer (some ⟨p,0,none⟩)] 189)=w1:=⟨_,rfl⟩
 have hs1:w1.heap.size=w.heap.size+1:=by rw [← hw1];simp
 have hB1:Below w.heap.size w w1:=by rw [← hw1];exact (Below.refl _ w).alloc (Nat.le_refl _) _
 have hx1:Blk w1 w.heap.size [.pointer (some ⟨p,0,none⟩)]:=by rw [← hw1];exact Blk.new w _ _
 rw [hw1]
 clear hw1
 obtain ⟨W0,hW0⟩:∃W0,w1.alloc (.cells #[.slice q l.length c] 113)=W0:=⟨_,rfl⟩
 have hs0:W0.heap.size=w.heap.size+2:=by rw [← hW0];simp [hs1]
 have hB0:Below w.heap.size w W0:=by rw [← hW0];exact hB1.alloc (by omega) _
 have hX0:Blk W0 w.heap.size [.pointer (some ⟨p,0,none⟩)]:=by rw [← hW0];exact hx1.alloc _
 have hx0:W0.cell? ⟨w.heap.size+1,0,none⟩=some (.slice q l.length c):=by
  have:=(Blk.new w1 #[.slice q l.length c] 113).cell 0
  rw [hW0,hs1] at this
  simpa using this
 rw [hW0]
 clear hW0
 have HPl:Hid (p<w.heap.size∧∀k,v.ownBlock=some k→k<w.heap.size):=⟨HW.out.blk.lt,owns_lt HW.out.own⟩
 have HX0:=Lib.hid hX0;have HB0:=Lib.hid hB0;have HS0:=Lib.hid hs0
 have HW0:=Lib.hid (HW.out.below hB0)
 have HKW:Hid (∀k,(k=w.heap.size+1∨(l≠[]∧(Value.slice q l.length c).ownBlock=some k))→k≠p∧v.ownBlock≠some k∧k<W0.heap.size):=fun k hk=>by
  have h1:=HPl.out.1
  rcases hk with e | ⟨h,e⟩
  ·exact ⟨by omega,fun e2=>by have:=HPl.out.2 _ e2;omega,by omega⟩
  ·have:=HLT.out h k e
   exact ⟨(HAp.out h k e).1,(HAp.out h k e).2,by omega⟩
 have HGV:=Lib.hid (runs_gives 8 (by omega) (w.heap.size+1) _ l W0 hx0 (HL.out.below hB0) HOk.out)
 clear hx0 hX0 hx1 hB1 hB0 hs0 hs1
 obtain ⟨K,hK⟩:∃K:Nat→Prop,(fun k=>k=w.heap.size+1∨(l≠[]∧(Value.slice q l.length c).ownBlock=some k))=K:=⟨_,rfl⟩
 have HKW2:Hid (∀k,K k→k≠p∧v.ownBlock≠some k∧k<W0.heap.size):=by rw [← hK];exact HKW.out
 rw [hK] at HGV
 clear hK HKW
 have HXn:Hid (¬(w.heap.size=p∨v.ownBlock=some w.heap.size)):=fun e=>by
  have h1:=HPl.out
  rcases e with e | e
  ·omega
  ·have:=h1.2 _ e;omega
 have HE:Hid (encR l=(splitR l).flatMap encRun):=rfl
 generalize splitR l=rs at *
 refine wpIn_rangeFunc_ownH rfl (by omega) (gf:=276) (lb:=#[.pointer (some ⟨w.heap.size+1,0,none⟩)]) rfl trivial (enters_of Tryz.func276 (by kernel_rfl) rfl)
  HGV.out (fun h k=>keepRun_t h k) (fun W l o o' h1 h2 h3 h4=>keepRun_b (fun k hk=>(HKW2.out k hk).2.2) W l o o' h1 h2 h3 h4) (Below.refl _ _) (fun _=>rfl)
  (fun pre W=>PutIn p v W0 (bits++(rnsOf pre).flatMap encRun) W)
  (fun _ _ _=>False)
  (putIn_own (Nat.le_refl _) p v (fun pre:List Rn=>bits++(rnsOf pre).flatMap encRun))
  (fun _ _ _ _ _ hs _ _=>hs)
  ⟨v,by simpa [rnsOf] using HW0.out,Upd.refl _ _ _⟩
  (fun x a' W=>∃b,a'={ tmps:=#[.pointer (some ⟨p,0,none⟩),.slice q l.length c,.pointer (some ⟨w.heap.size,0,none⟩),undef,.int .i64 0,.pointer (some ⟨b,0,none⟩),.pointer (some ⟨p,0,none⟩),.bool false,.slice q l.length c,.func (.func 276) #[] #[.pointer (some ⟨w.heap.size+1,0,none⟩)],runV x,undef,undef,undef,undef,undef,undef,undef,undef,undef,undef],defers:=[] }∧RunBox W b x)
  ?ax ?assign ?body ?done ?stop
 case ax=>
  rintro x a' s W W' row ⟨b,h1,h2⟩ hg hr
  exact ⟨b,h1,runBox_own (β:=Unit) b x () W W' row h2 hg hr⟩
 case assign=>
  intro l pre x W K hI hK
  obtain ⟨⟨xv,xn⟩,hx⟩:=x
  simp only [runV,List.zip_toArray,List.zip_cons_cons,List.zip_nil_right,List.foldl_toArray,List.foldl_cons,List.foldl_nil,List.setIfInBounds_toArray,List.set_cons_zero,List.set_cons_succ]
  gi_wp2
  obtain ⟨v',hW',hU'⟩:=hI
  have hB:Below W.heap.size W (W.alloc (.cells #[.int .u64 (xv:Int),.int .i64 (xn:Int)] 301)):=(Below.refl _ W).alloc (Nat.le_refl _) _
  refine hK _ _ ((KeepsOthers.alloc W _).from _) (keepRun_mods (Mods.alloc (fun _=>False) W _) hU'.mods.size (fun k hk=>(HKW2.out k hk).2.2) (fun _ _ e=>e) (fun _ e=>e.elim)) ⟨v',hW'.below hB,hU'.trans ⟨Mods.of_below hB _,Fresh.refl _ _⟩⟩ ⟨W.heap.size,rfl,World.alloc_heap_new W _⟩
 case body=>
  rintro l pre x a' W hlw hrec ⟨v',hW',hU'⟩ ⟨b,rfl,hRB⟩ hlen
  obtain ⟨⟨xv,xn⟩,hx⟩:=x
  obtain ⟨m,rfl⟩:∃m,xn=m+1:=⟨xn-1,by have:=hx.1;simp at this;omega⟩
  have hm:m≤127:=by have:=hx.2.1;simp at this;omega
  have hxv:xv<18446744073709551616:=hx.2.2
  have hm':(m:Int)≤127:=by omega
  have hm0:(0:Int)≤(m:Int):=by omega
  have HPre:Hid (bits++(rnsOf (pre++[⟨(xv,m+1),hx⟩])).flatMap encRun=(bits++(rnsOf pre).flatMap encRun)++fieldBits xv 64++fieldBits m 7):=by
   show _=_
   rw [rnsOf_push,List.flatMap_append,List.flatMap_cons,List.flatMap_nil,List.append_nil,encRun];simp
  have hol:(bits++(rnsOf pre).flatMap encRun).length+200≤1125899906842624:=by
   rw [List.length_append,encRuns_len]
   have:(rnsOf pre).length=pre.length:=by simp [rnsOf]
   have:=HZ.out
   omega
  generalize bits++(rnsOf pre).flatMap encRun=out0 at *
  have HW':=Lib.hid hW';have HU':=Lib.hid hU';have HRB:=Lib.hid hRB
  have hXW:=hU'.mods.blk HX0.out HXn.out
  have HXW:=Lib.hid hXW
  have c0:W.cell? ⟨w.heap.size,0,none⟩=some (.pointer (some ⟨p,0,none⟩)):=by rw [hXW.cell];rfl
  have d0:W.cell? ⟨b,0,none⟩=some (.int .u64 (xv:Int)):=by rw [hRB.blk.cell];rfl
  have HWB:=Lib.hid (wbits p v' _ xv 64 W hW' (by omega) (by omega))
  have HNr:=Lib.hid (writer_not_run hW')
  have HXv:Hid (¬(w.heap.size=p∨v'.ownBlock=some w.heap.size)):=fun e=>by
   rcases e with e | e
   ·exact HXn.out (Or.inl e)
   ·rcases hU'.fresh _ e with e2 | e2
    ·exact HXn.out (Or.inr e2)
    ·have:=HX0.out.lt;omega
  clear hW' hU' hRB hXW
  gi_wp2_with fail
  refine ⟨trivial,(CallsIn.inRound l (callsIn_wide.2 HWB.out)).mono ?_⟩
  rintro e w5 ⟨rfl,v5,hW5,hU5⟩
  have hR5:RunBox w5 b ⟨(xv,m+1),hx⟩:=(hU5.mods.block b (Array.getElem?_eq_some_iff.1 HRB.out).1 (fun e=>HNr.out b e HRB.out.is)).trans HRB.out
  have hX5:=hU5.mods.blk HXW.out HXv.out
  have c5:w5.cell? ⟨w.heap.size,0,none⟩=some (.pointer (some ⟨p,0,none⟩)):=by rw [hX5.cell];rfl
  have d5:w5.cell? ⟨b,1,none⟩=some (.int .i64 ((m:Int)+1)):=by rw [hR5.blk.cell];rfl
  have HWB5:=Lib.hid (wbits p v5 _ m 7 w5 hW5 (by omega) (by rw [List.length_append,fieldBits_length];omega))
  have HU5:=Lib.hid hU5
  clear hW5 hU5 hR5 hX5 HWB c0 d0
  gi_wp2_with fail
  refine ⟨trivial,(CallsIn.inRound l (callsIn_wide.2 HWB5.out)).mono ?_⟩
  rintro e w6 ⟨rfl,v6,hW6,hU6⟩
  have HUf:Hid (Upd W w6 p v' v6):=HU5.out.trans hU6
  have HWf:=Lib.hid hW6
  clear hW6 hU6 HWB5 HU5
  gi_wp2_with fail
  refine ⟨(putIn_keeps HW'.out HUf.out.mods).from _,keepRun_mods HUf.out.mods HU'.out.mods.size (fun k hk=>(HKW2.out k hk).2.2) (fun k hk e=>?_) HNr.out,v6,?_,HU'.out.trans HUf.out⟩
  ·have h1:=HKW2.out k hk
   rcases e with e | e
   ·exact h1.1 e
   ·rcases HU'.out.fresh k e with e2 | e2
    ·exact h1.2.1 e2
    ·omega
  ·rw [HPre.out]
   exact HWf.out
 case done=>
  rintro D zs W hD hzs hI hK
  have HI:=Lib.hid hI
  have HE2:Hid (encR l=(rnsOf zs).flatMap encRun):=by show _=_;rw [HE.out,hzs]
  clear hI HGV hzs
  gi_wp2
  refine ⟨by simp,.inl ⟨_,_,rfl,run_takeDeferred hK,?_⟩⟩
  refine ⟨_,results_tmp rfl _ _ _,rfl,?_⟩
  obtain ⟨v',hW',hU'⟩:=putIn_own (β:=Unit) (Nat.le_refl W0.heap.size) p v (fun _=>bits++(rnsOf zs).flatMap encRun) () W (W.putObj D (.deferred none)) (some D) HI.out (grownBy_putObj' _ _ _) (fun r e=>by cases e;exact ⟨hD,_,hK,rfl⟩)
  have u1:Upd w W0 p v v:=⟨Mods.of_below HB0.out _,Fresh.refl _ _⟩
  rw [HE2.out]
  exact ⟨v',hW',u1.trans hU'⟩
 case stop=>
  rintro D c pre W _ _ h _
  exact h.elim
end Go.Proofs.YtdcgbgecbeegmaaGreatDoor
end
section
namespace Go.Proofs.YtdcgbgecbeegmaaGreatDoor
open Go Go.RowKit
section
variable {P:Program} (w:World)
end
section
variable {P:Program}
end
end Go.Proofs.YtdcgbgecbeegmaaGreatDoor
end
section
namespace Go.Proofs.YtdcgbgecbeegmaaGreatDoor
open Go Go.RowKit
theorem putD_ok {l:List Nat} (h:okD l=true):putD l=encD l:=if_pos h
theorem putD_no {l:List Nat} (h:okD l=false):putD l=[]:=by rw [putD,h];rfl
def sizeD (l:List Nat):Int:=if okD l then ((encD l).length:Int) else -1
theorem u64s_ltD {w:World} {lv:Value} {l:List Nat} (hl:Rd w 1 lv l.length (u64s l)):l≠[]→∀k,lv.ownBlock=some k→k<w.heap.size:=fun hne=>hl.lt (fun e=>hne (by simpa [u64s] using e))
def ltU (x y:Nat):Bool:=decide (x<y)
structure SU (w wr:World) (g n c:Nat) (d:Array Nat):Prop where
 sz:d.size=n
 row:wr.ownsRow 0 81 1 (.slice (some ⟨g,0,none⟩) n c) n (u64s d.toList)
 mods:Mods (fun k=>k=g) w wr
theorem u64s_at {d:Array Nat} {i:Nat} (h:i<d.size):(u64s d.toList)[i]? = some (.int .u64 (d[i]! : Int)):=by
 rw [u64s,List.getElem?_map,Array.getElem?_toList,Array.getElem?_eq_getElem h,getElem!_pos d i h];rfl
theorem SU.cell {w wr:World} {g n c:Nat} {d:Array Nat} (h:SU w wr g n c d) {i:Nat} (hi:i<n):wr.cell? ⟨g,i,none⟩=some (.int .u64 (d[i]! : Int)):=by
 rw [h.row.cellAt i (by omega),u64s_at (by rw [h.sz];exact hi)]
theorem SU.free {w wr:World} {g n c:Nat} {d:Array Nat} (h:SU w wr g n c d) (i:Nat):wr.frozen? ⟨g,i,none⟩=false:=h.row.frozenAt i
theorem SU.drewN {w wr:World} {g n c:Nat} {d:Array Nat} (h:SU w wr g n c d) (m:Nat):SU w (wr.drewN m) g n c d:=
 ⟨h.sz,(Mods.drewN (fun _=>False) wr m).owns h.row (fun _ _ e=>e),h.mods.trans (Mods.drewN _ wr m) (fun _ _ e=>e)⟩
theorem SU.swp {w wr:World} {g n c:Nat} {d:Array Nat} (h:SU w wr g n c d) {i j:Nat} (hi:i<n) (hj:j<n) :
  SU w ((wr.setCell ⟨g,i,none⟩ (.int .u64 (d[j]! : Int))).setCell ⟨g,j,none⟩ (.int .u64 (d[i]! : Int))).drew g n c (Sort.swp d i j):=by
 have h2:=((h.row.stored i (.int .u64 (d[j]! : Int))).1.stored j (.int .u64 (d[i]! : Int))).1
 have e:((u64s d.toList).set i (.int .u64 (d[j]! : Int))).set j (.int .u64 (d[i]! : Int))=u64s (Sort.swp d i j).toList:=by
  simp [u64s,Sort.swp,List.map_set]
 rw [e] at h2
 have hS:∀(wy:World) (o:Nat) (v:Value),Mods (fun k=>k=g) wy (wy.setCell ⟨g,o,none⟩ v):=fun wy o v=>Mods.set _ _ _ _ (fun _=>rfl)
 exact ⟨by rw [Sort.size_swp];exact h.sz,(Mods.drew (fun _=>False) _).owns h2 (fun _ _ e=>e),
  ((h.mods.trans (hS _ _ _) (fun _ _ e=>e)).trans (hS _ _ _) (fun _ _ e=>e)).trans (Mods.drew _ _) (fun _ _ e=>e)⟩
theorem SU.mid {w wr:World} {g n c:Nat} {d:Array Nat} (h:SU w wr g n c d) {i j:Nat} (hi:i<n) (hj:j<n) :
  (wr.setCell ⟨g,i,none⟩ (.int .u64 (d[j]! : Int))).drew.cell? ⟨g,j,none⟩=some (.int .u64 (d[j]! : Int))∧(wr.setCell ⟨g,i,none⟩ (.int .u64 (d[j]! : Int))).drew.frozen? ⟨g,j,none⟩=false:=by
 have h2:=(h.row.stored i (.int .u64 (d[j]! : Int))).1
 refine ⟨?_,h2.frozenAt j⟩
 have h3:=h2.cellAt j (by omega)
 refine h3.trans ?_
 by_cases e:i=j
 ·subst e
  rw [List.getElem?_set_self (by rw [u64s_length,Array.length_toList,h.sz];exact hi)]
 ·rw [List.getElem?_set_ne e,u64s_at (by rw [h.sz];exact hj)]
theorem SU.trans {w wr wz:World} {g n c:Nat} {d e:Array Nat} (h:SU w wr g n c d) (k:SU wr wz g n c e):SU w wz g n c e:=⟨k.sz,k.row,h.mods.trans k.mods (fun _ _ e=>e)⟩
theorem SU.here {w wr:World} {g n c:Nat} {d:Array Nat} (h:SU w wr g n c d):SU wr wr g n c d:=⟨h.sz,h.row,Mods.refl _ _⟩
theorem isnan_u64' (x:Nat) (w:World):Calls Tryz.prog 309 #[.int .u64 (x:Int)] w fun e w'=>e = .returned (.bool false)∧w'=w:=by
 go_enter Tryz.func309,Tryz.ntmps309
 go_wp2_with fail
 go_ret
 exact ⟨by simp,rfl⟩
theorem less_u64' (x y:Nat) (w:World):Calls Tryz.prog 296 #[.int .u64 (x:Int),.int .u64 (y:Int)] w fun e w'=>e = .returned (.bool (ltU x y))∧w'=w:=by
 go_enter Tryz.func296,Tryz.ntmps296
 go_wp2_with fail
 refine (isnan_u64' x w).mono ?_
 rintro e w1 ⟨rfl,rfl⟩
 go_wp2_with fail
 go_ret
 exact ⟨by simp [ltU],rfl⟩
end Go.Proofs.YtdcgbgecbeegmaaGreatDoor
end
