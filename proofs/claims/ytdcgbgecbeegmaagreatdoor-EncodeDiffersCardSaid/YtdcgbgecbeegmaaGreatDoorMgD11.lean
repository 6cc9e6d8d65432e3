/- Texts 11. -/
import Derived.Test.YtdcgbgecbeegmaaGreatDoorMgD10
import Derived.Test.YtdcgbgecbeegmaaGreatDoorMgD4
import Derived.Test.YtdcgbgecbeegmaaGreatDoorMgD9
import Derived.Test.YtdcgbgecbeegmaaGreatDoorMgD1
import Derived.Test.YtdcgbgecbeegmaaGreatDoorMgD8
import Derived.Test.YtdcgbgecbeegmaaGreatDoorMgD2
import Derived.Test.YtdcgbgecbeegmaaGreatDoorMgD5
import Derived.Test.YtdcgbgecbeegmaaGreatDoorMgD6
set_option linter.unusedVariables false
set_option linter.unusedSimpArgs false
section
set_option maxRecDepth 20000
namespace Go.Proofs.YtdcgbgecbeegmaaGreatDoor
open Go Go.RowKit
theorem Upd.of_below {w w':World} (h:Below w.heap.size w w') (p:Nat) (v:Value):Upd w w' p v v:=⟨Mods.of_below h _,Fresh.refl _ _⟩
theorem Upd.keep {w w':World} {p:Nat} {v v':Value} (h:Upd w w' p v v') {a:Addr} {u:Value} (hc:w.cell? a=some u) (h1:a.block≠p) (h2:v.ownBlock≠some a.block):w'.cell? a=some u∧v'.ownBlock≠some a.block:=
 ⟨h.mods.cell hc (fun e=>e.elim h1 h2),fun e=>(h.fresh _ e).elim h2 (fun k=>by have:=World.block_lt_of_cell? w a hc;omega)⟩
def headS (a b:Nat) (c:Bool):List Bool:=if a=0∧b=0 then [false] else if c then [true,true]++(fieldBits a 6++fieldBits (b-1) 6) else [true,false]
structure HeadAt (g p B a b:Nat) (c:Bool) (w:World) (v:Value) (out:List Bool) (w':World) (v':Value):Prop where
 wr:WriterIn w' p v' out
 upd:Upd w w' p v v'
 c3:w'.cell? ⟨g,3,none⟩=some (.pointer (some ⟨p,0,none⟩))
 b0:w'.cell? ⟨B,0,none⟩=some (.int .i64 (a:Int))
 b1:w'.cell? ⟨B,1,none⟩=some (.int .i64 (b:Int))
 b2:w'.cell? ⟨B,2,none⟩=some (.bool c)
 gp:g≠p
 gv:v'.ownBlock≠some g
 bp:B≠p
 bv:v'.ownBlock≠some B
theorem HeadAt.next {g p B a b:Nat} {c:Bool} {w w1 w2:World} {v v1 v2:Value} {out out2:List Bool} (h:HeadAt g p B a b c w v out w1 v1) (hw:WriterIn w2 p v2 out2) (hu:Upd w1 w2 p v1 v2):HeadAt g p B a b c w v out2 w2 v2:=by
 obtain ⟨k1,k2⟩:=hu.keep h.c3 h.gp h.gv
 obtain ⟨k3,k4⟩:=hu.keep h.b0 h.bp h.bv
 obtain ⟨k5,_⟩:=hu.keep h.b1 h.bp h.bv
 obtain ⟨k6,_⟩:=hu.keep h.b2 h.bp h.bv
 exact ⟨hw,h.upd.trans hu,k1,k3,k5,k6,h.gp,k2,h.bp,k4⟩
theorem HeadAt.drew {g p B a b:Nat} {c:Bool} {w w1:World} {v v1:Value} {out:List Bool} (h:HeadAt g p B a b c w v out w1 v1):HeadAt g p B a b c w v out w1.drew v1:=
 h.next (h.wr.mods (Mods.drew (fun _=>False) w1) (fun e=>e) (fun _ _ e=>e)) ⟨Mods.drew _ _,Fresh.refl _ _⟩
theorem HeadAt.bits {g p B a b:Nat} {c:Bool} {w w1:World} {v v1:Value} {out:List Bool} (h:HeadAt g p B a b c w v out w1 v1) (x n:Nat) (hn:n≤64) (hb:out.length+64≤1125899906842624) :
  Calls Tryz.prog 137 #[.pointer (some ⟨p,0,none⟩),.int .u64 (x:Int),.int .i64 (n:Int)] w1 fun e w2=>e = .returned (.int .i64 0)∧∃v2,HeadAt g p B a b c w v (out++fieldBits x n) w2 v2∧w2.heap[g]? = w1.heap[g]?:=
 (wbits p v1 out x n w1 h.wr hn hb).mono fun e w2 hp=>by
  obtain ⟨he,v2,hw,hu⟩:=hp
  exact ⟨he,v2,h.next hw hu,hu.mods.block _ (World.block_lt_of_cell? w1 _ h.c3) (fun e=>e.elim h.gp h.gv)⟩
set_option maxHeartbeats 2000000 in
theorem putStep_any (g p a b:Nat) (c:Bool) (v:Value) (bits:List Bool) (w:World) (hW:WriterIn w p v bits) (h3:w.cell? ⟨g,3,none⟩=some (.pointer (some ⟨p,0,none⟩))) (hgp:g≠p) (hgv:v.ownBlock≠some g) (hab:(a=0∧b=0)∨1≤b) (ha:a≤63) (hb:b≤64) (hz:bits.length+100≤1125899906842624) :
  Calls Tryz.prog 271 #[.pointer (some ⟨g,0,none⟩),.agg #[.int .i64 (a:Int),.int .i64 (b:Int),.bool c]] w fun e w'=>e = .returned (.tuple #[])∧BitsPost p v (bits++headS a b c) w w':=by
 have hb':(b:Int)≤64:=by omega
 have ha':(a:Int)≤63:=by omega
 have HZ:Hid (bits.length+100≤1125899906842624):=hz
 obtain ⟨w1,hw1⟩:∃w1,w.alloc (.cells #[.int .i64 (a:Int),.int .i64 (b:Int),.bool c] 285)=w1:=⟨_,rfl⟩
 have HK1:Hid (Blk w1 w.heap.size [.int .i64 (a:Int),.int .i64 (b:Int),.bool c]):=by rw [← hw1];exact Blk.new w _ _
 have HB1:Hid (Below w.heap.size w w1):=by rw [← hw1];exact (Below.refl _ w).alloc (Nat.le_refl _) _
 have HH1:Hid (HeadAt g p w.heap.size a b c w v bits w1 v):=by
  have hpl:=hW.blk.lt
  exact ⟨hW.below HB1.out,Upd.of_below HB1.out _ _,(HB1.out.cell (World.block_lt_of_cell? w _ h3)).trans h3,HK1.out.three.1.1,HK1.out.three.1.2.1,HK1.out.three.1.2.2,hgp,hgv,by omega,fun e=>by have:=owns_lt hW.own _ e;omega⟩
 have d2:w1.cell? ⟨w.heap.size,2,none⟩=some (.bool c):=HK1.out.three.1.2.2
 have d0:=HH1.out.b0
 have d1:=HH1.out.b1
 have d3:=HH1.out.c3
 clear hW h3 hz
 rcases hab with ⟨rfl,rfl⟩ | h1
 ·have hz0:((0:Nat):Int)=0:=rfl
  rw [hz0] at hw1 d0 d1 ⊢
  clear hz0
  have HBt:=Lib.hid (HH1.out.bits 0 1 (by omega) (by have:=HZ.out;omega))
  go_enter Tryz.func271,Tryz.ntmps271
  go_wp2_with fail
  refine HBt.out.mono ?_
  rintro e w2 ⟨rfl,v2,hH2,_⟩
  have HH2:=Lib.hid hH2
  clear hH2
  go_wp2_with fail
  go_end0
  exact ⟨rfl,v2,HH2.out.wr,HH2.out.upd⟩
 ·have hbb:((b:Int) == 0)=false:=by rw [beq_eq_false_iff_ne];omega
  have hb1:(1:Int)≤(b:Int):=by omega
  have HN:Hid ¬(a=0∧b=0):=by show ¬_;omega
  cases c with
  | false=>
   go_enter Tryz.func271,Tryz.ntmps271
   have HBt:=Lib.hid (HH1.out.bits 2 2 (by omega) (by have:=HZ.out;omega))
   go_wp2_with fail
   refine HBt.out.mono ?_
   rintro e w2 ⟨rfl,v2,hH2,_⟩
   have HH2:=Lib.hid hH2
   clear hH2
   go_wp2_with fail
   go_end0
   refine ⟨rfl,v2,?_,HH2.out.upd⟩
   rw [headS,if_neg HN.out,if_neg (by decide)]
   exact HH2.out.wr
  | true=>
   go_enter Tryz.func271,Tryz.ntmps271
   have HBt:=Lib.hid (HH1.out.bits 3 2 (by omega) (by have:=HZ.out;omega))
   go_wp2_with fail
   refine HBt.out.mono ?_
   rintro e w2 ⟨rfl,v2,hH2,_⟩
   have HH2:=Lib.hid hH2.drew
   clear hH2 HBt
   have HC:Hid (∀w':World,(w'.cell? ⟨g,3,none⟩=some (.pointer (some ⟨p,0,none⟩))∧w'.cell? ⟨w.heap.size,0,none⟩=some (.int .i64 (a:Int))∧w'.cell? ⟨w.heap.size,1,none⟩=some (.int .i64 (b:Int)))→(w'.cell? ⟨g,3,none⟩=some (.pointer (some ⟨p,0,none⟩))∧w'.cell? ⟨w.heap.size,0,none⟩=some (.int .i64 (a:Int))∧w'.cell? ⟨w.heap.size,1,none⟩=some (.int .i64 (b:Int)))):=fun _ h=>h
   go_wp2_with fail
   refine wp_region_takeH (fun w':World=>w'.cell? ⟨g,3,none⟩=some (.pointer (some ⟨p,0,none⟩))∧w'.cell? ⟨w.heap.size,0,none⟩=some (.int .i64 (a:Int))∧w'.cell? ⟨w.heap.size,1,none⟩=some (.int .i64 (b:Int))) [8] [0,1,2,3,4,5,6,7,8] (by kernel_rfl) (by kernel_rfl) (by kernel_rfl) ?_ ?_ ?_
   ·intro c a a' w hd h;exact ⟨hd ▸ h.1,h.2⟩
   ·exact ⟨HH2.out.c3,HH2.out.b0,HH2.out.b1⟩
   simp only [taken,List.map_cons,List.map_nil,List.getElem?_cons_succ,List.getElem?_cons_zero,Option.getD_some]
   repeat (first
        | (refine takeH_skip rfl ?_; simp only [Act.put, List.setIfInBounds_toArray, List.set_cons_succ, List.set_cons_zero])
        | (refine takeH_blind rfl rfl ?_; apply Exists.intro; refine ⟨fun w => ?_, ?_⟩; (go_simp; try with_reducible rfl); simp only [Act.put, List.setIfInBounds_toArray, List.set_cons_succ, List.set_cons_zero])
        | (refine takeH_reads rfl rfl ?_; apply Exists.intro; refine ⟨fun w' hS => ?_, ?_⟩; (obtain ⟨d0, d1, d2⟩ := HC.out w' hS; go_simp; try with_reducible rfl); simp only [Act.put, List.setIfInBounds_toArray, List.set_cons_succ, List.set_cons_zero]))
   refine takeH_call rfl rfl (fun K' hK=>?_)
   go_wp2_with fail
   have HBt:=Lib.hid (HH2.out.bits a 6 (by omega) (by have:=HZ.out;rw [List.length_append,fieldBits_length];omega))
   refine HBt.out.mono ?_
   rintro e w3 ⟨rfl,v3,hH3,_⟩
   refine hK _ _ ⟨hH3.c3,hH3.b0,hH3.b1⟩ ?_
   have HH3:=Lib.hid hH3.drew
   clear hH3 HBt HH2 hK K'
   refine takeH_nil ?_
   have e1:(b:Int)-1=((b-1:Nat):Int):=by omega
   have hb2:((b-1:Nat):Int)≤63:=by omega
   have HBt:=Lib.hid (HH3.out.bits (b-1) 6 (by omega) (by have:=HZ.out;rw [List.length_append,List.length_append,fieldBits_length,fieldBits_length];omega))
   have HB2:Hid (headS a b true=[true,true]++(fieldBits a 6++fieldBits (b-1) 6)):=by show _=_;rw [headS,if_neg HN.out,if_pos rfl]
   generalize b-1=bm at *
   go_wp2_with fail
   refine wp_region_takeH (fun w':World=>w'.cell? ⟨g,3,none⟩=some (.pointer (some ⟨p,0,none⟩))∧w'.cell? ⟨w.heap.size,0,none⟩=some (.int .i64 (a:Int))∧w'.cell? ⟨w.heap.size,1,none⟩=some (.int .i64 (b:Int))) [9] [0,1,2,3,4,5,6,7,8,9] (by kernel_rfl) (by kernel_rfl) (by kernel_rfl) ?_ ?_ ?_
   ·intro c a a' w hd h;exact ⟨hd ▸ h.1,h.2⟩
   ·exact ⟨HH3.out.c3,HH3.out.b0,HH3.out.b1⟩
   simp only [taken,List.map_cons,List.map_nil,List.getElem?_cons_succ,List.getElem?_cons_zero,Option.getD_some]
   repeat (first
        | (refine takeH_skip rfl ?_; simp only [Act.put, List.setIfInBounds_toArray, List.set_cons_succ, List.set_cons_zero])
        | (refine takeH_blind rfl rfl ?_; apply Exists.intro; refine ⟨fun w => ?_, ?_⟩; (go_simp; try with_reducible rfl); simp only [Act.put, List.setIfInBounds_toArray, List.set_cons_succ, List.set_cons_zero])
        | (refine takeH_reads rfl rfl ?_; apply Exists.intro; refine ⟨fun w' hS => ?_, ?_⟩; (obtain ⟨d0, d1, d2⟩ := HC.out w' hS; go_simp; try with_reducible rfl); simp only [Act.put, List.setIfInBounds_toArray, List.set_cons_succ, List.set_cons_zero]))
   refine takeH_call rfl rfl (fun K' hK=>?_)
   go_wp2_with fail
   refine HBt.out.mono ?_
   rintro e w4 ⟨rfl,v4,hH4,_⟩
   refine hK _ _ ⟨hH4.c3,hH4.b0,hH4.b1⟩ ?_
   have HH4:=Lib.hid hH4
   clear hH4 HBt HH3 hK K'
   refine takeH_nil ?_
   go_wp2_with fail
   go_end0
   refine ⟨rfl,v4,?_,HH4.out.upd⟩
   rw [HB2.out,← List.append_assoc,← List.append_assoc]
   exact HH4.out.wr
theorem step_cells (win:Option (Nat × Nat)) (last value:Nat):advC last (value ^^^ last) (wl win) (ww win) (sL win (value ^^^ last)) (sW win (value ^^^ last)) (sN win (value ^^^ last))=[.int .u64 (value:Int),.int .i64 (wl (nextW win (value ^^^ last)):Int),.int .i64 (ww (nextW win (value ^^^ last)):Int)]:=by
 have e:last ^^^ (value ^^^ last)=value:=by rw [Nat.xor_comm value,← Nat.xor_assoc,Nat.xor_self,Nat.zero_xor]
 rw [advC,e,nextW,sL,sW,sN]
 by_cases h0:value ^^^ last=0
 ·simp only [h0,if_true,Bool.false_eq_true,if_false]
 ·by_cases hf:fits win (value ^^^ last)=true
  ·simp only [h0,hf,if_true,Bool.false_eq_true,if_false]
  ·simp only [h0,hf,if_true,Bool.false_eq_true,if_false];rfl
theorem step_form {win:Option (Nat × Nat)} (ho:okW win) {x:Nat} (hx:x<18446744073709551616):((sL win x=0∧sW win x=0)∨1≤sW win x)∧sL win x≤63∧sW win x≤64∧sL win x+sW win x≤64:=by
 rw [sL,sW]
 by_cases h0:x=0
 ·simp only [h0,if_true];exact ⟨Or.inl ⟨trivial,trivial⟩,by omega,by omega,by omega⟩
 ·by_cases hf:fits win x=true
  ·simp only [h0,hf,if_true,if_false]
   cases win with
   | none=>cases hf
   | some w=>obtain ⟨L,t⟩:=w;have:=ho L t rfl;simp only [wl,ww];omega
  ·simp only [h0,hf,if_false,Bool.false_eq_true]
   have:=window hx h0;omega
theorem step_bits {win:Option (Nat × Nat)} (ho:okW win) {x:Nat} (hx:x<18446744073709551616):headS (sL win x) (sW win x) (sN win x)++fieldBits (x / 2 ^ (64-sL win x-sW win x)) (sW win x)=encW win x:=by
 unfold sL sW sN encW
 by_cases h0:x=0
 ·simp only [h0,if_true,headS,and_self,Nat.zero_div];rfl
 ·by_cases hf:fits win x=true
  ·simp only [h0,hf,if_true,if_false]
   cases win with
   | none=>cases hf
   | some w=>
    obtain ⟨L,t⟩:=w
    have:=ho L t rfl
    simp only [wl,ww]
    rw [headS,if_neg (by omega),if_neg (by decide),show 64-L-(64-L-t)=t by omega]
  ·have hff:fits win x=false:=by simpa using hf
   have hw:=window hx h0
   simp only [h0,hff,if_false,Bool.false_eq_true]
   rw [headS,if_neg (by omega),if_pos rfl,show 64-leadV x-(64-leadV x-trailV x)=trailV x by omega,show 64-leadV x-trailV x-1=63-leadV x-trailV x by omega,List.append_assoc,List.append_assoc]
   cases win with
   | none=>rfl
   | some w=>obtain ⟨L,t⟩:=w;rfl
theorem headS_len (a b:Nat) (c:Bool):(headS a b c).length≤14:=by
 unfold headS
 split
 ·simp
 ·split
  ·simp only [List.length_append,fieldBits_length,List.length_cons,List.length_nil];omega
  ·simp
structure EncIs (g p:Nat) (v:Value) (bits:List Bool) (last:Nat) (win:Option (Nat × Nat)) (w:World):Prop where
 blk:Blk w g [.int .u64 (last:Int),.int .i64 (wl win:Int),.int .i64 (ww win:Int),.pointer (some ⟨p,0,none⟩)]
 wr:WriterIn w p v bits
 gp:g≠p
 gv:v.ownBlock≠some g
 tab:TabZ w
 tg : 3≠g
 tp : 3≠p
 tv:v.ownBlock≠some 3
 la:last<18446744073709551616
 ok:okW win
set_option maxHeartbeats 4000000 in
theorem put_any (g p:Nat) (v:Value) (bs:List Bool) (last value:Nat) (win:Option (Nat × Nat)) (w:World) (h:EncIs g p v bs last win w) (hv:value<18446744073709551616) (hz:bs.length+200≤1125899906842624) :
  Calls Tryz.prog 230 #[.pointer (some ⟨g,0,none⟩),.int .u64 (value:Int)] w fun e w'=>e = .returned (.tuple #[])∧∃v',EncIs g p v' (bs++encW win (value ^^^ last)) value (nextW win (value ^^^ last)) w'∧Mods (fun k=>k=g∨k=p∨v.ownBlock=some k) w w'∧Fresh w.heap.size v v':=by
 have H:=Lib.hid h
 have HX:Hid (bits .xor .u64 (value:Int) (last:Int)=((value ^^^ last:Nat):Int)):=bits_xor_u64_nat value last hv h.la
 have hx:value ^^^ last<18446744073709551616:=xor_lt64 hv h.la
 have c0:w.cell? ⟨g,0,none⟩=some (.int .u64 (last:Int)):=by rw [h.blk.cell];rfl
 have HSt:=Lib.hid (stepFor_any g win (value ^^^ last) h.ok hx w h.tab (by rw [h.blk.cell];rfl) (by rw [h.blk.cell];rfl))
 have HCe:=Lib.hid (step_cells win last value)
 have HFo:=Lib.hid (step_form h.ok hx)
 have HBi:=Lib.hid (step_bits h.ok hx)
 have HHx:=Lib.hid hx
 have HZ:=Lib.hid hz
 have HV:=Lib.hid hv
 have HNx:Hid (okW (nextW win (value ^^^ last))):=okW_next h.ok hx
 clear h hx hz hv
 generalize value ^^^ last=x at *
 generalize sL win x=a at *
 generalize sW win x=b at *
 generalize sN win x=c at *
 generalize encW win x=E at *
 generalize nextW win x=win' at *
 go_enter Tryz.func230,Tryz.ntmps230
 go_wp2_with fail
 rw [HX.out]
 go_wp2_with fail
 refine HSt.out.mono ?_
 rintro e w2 ⟨rfl,hB2⟩
 obtain ⟨w3,hw3⟩:∃w3,w2.alloc (.cells #[.int .i64 (a:Int),.int .i64 (b:Int),.bool c] 285)=w3:=⟨_,rfl⟩
 have hK3:Blk w3 w2.heap.size [.int .i64 (a:Int),.int .i64 (b:Int),.bool c]:=by rw [← hw3];exact Blk.new w2 _ _
 have HB3:Hid (Below w.heap.size w w3):=by rw [← hw3];exact hB2.alloc hB2.size _
 have HG:Hid (Blk w3 g [.int .u64 (last:Int),.int .i64 (wl win:Int),.int .i64 (ww win:Int),.pointer (some ⟨p,0,none⟩)]):=H.out.blk.of_same (HB3.out.block _ H.out.blk.lt)
 have hsz:=hB2.size
 have HSz:=Lib.hid hsz
 have HH3:Hid (HeadAt g p w2.heap.size a b c w v bs w3 v):=
  ⟨H.out.wr.below HB3.out,Upd.of_below HB3.out _ _,by rw [HG.out.cell];rfl,hK3.three.1.1,hK3.three.1.2.1,hK3.three.1.2.2,H.out.gp,H.out.gv,by have:=H.out.wr.blk.lt;omega,fun e=>by have:=owns_lt H.out.wr.own _ e;omega⟩
 clear HSt HX c0 hB2 hK3 hsz
 have d0:=HH3.out.b0
 have d1:=HH3.out.b1
 have d2:=HH3.out.b2
 have HPs:=Lib.hid (putStep_any g p a b c v bs w3 HH3.out.wr HH3.out.c3 HH3.out.gp HH3.out.gv HFo.out.1 HFo.out.2.1 HFo.out.2.2.1 (by have:=HZ.out;omega))
 go_wp2_with fail
 refine HPs.out.mono ?_
 rintro e w4 ⟨rfl,v4,hW4,hU4⟩
 have HH4:=Lib.hid (HH3.out.next hW4 hU4).drew
 have HG4:Hid (Blk w4.drew g [.int .u64 (last:Int),.int .i64 (wl win:Int),.int .i64 (ww win:Int),.pointer (some ⟨p,0,none⟩)]):=(HG.out.of_same (hU4.mods.block _ HG.out.lt (fun e=>e.elim H.out.gp H.out.gv)))
 clear hW4 hU4 HPs HG HH3 d0 d1 d2 hw3
 have HC:Hid (∀w':World,(w'.cell? ⟨g,3,none⟩=some (.pointer (some ⟨p,0,none⟩))∧w'.cell? ⟨w2.heap.size,0,none⟩=some (.int .i64 (a:Int))∧w'.cell? ⟨w2.heap.size,1,none⟩=some (.int .i64 (b:Int)))→(w'.cell? ⟨g,3,none⟩=some (.pointer (some ⟨p,0,none⟩))∧w'.cell? ⟨w2.heap.size,0,none⟩=some (.int .i64 (a:Int))∧w'.cell? ⟨w2.heap.size,1,none⟩=some (.int .i64 (b:Int)))):=fun _ h=>h
 go_wp2_with fail
 refine wp_region_takeH (fun w':World=>w'.cell? ⟨g,3,none⟩=some (.pointer (some ⟨p,0,none⟩))∧w'.cell? ⟨w2.heap.size,0,none⟩=some (.int .i64 (a:Int))∧w'.cell? ⟨w2.heap.size,1,none⟩=some (.int .i64 (b:Int))) [7,12] [0,1,2,3,4,5,6,9,10,11,7,8,12] (by kernel_rfl) (by kernel_rfl) (by kernel_rfl) ?_ ?_ ?_
 ·intro c a a' w hd h;exact ⟨hd ▸ h.1,h.2⟩
 ·exact ⟨HH4.out.c3,HH4.out.b0,HH4.out.b1⟩
 simp only [taken,List.map_cons,List.map_nil,List.getElem?_cons_succ,List.getElem?_cons_zero,Option.getD_some]
 repeat (first
        | (refine takeH_skip rfl ?_; simp only [Act.put, List.setIfInBounds_toArray, List.set_cons_succ, List.set_cons_zero])
        | (refine takeH_blind rfl rfl ?_; apply Exists.intro; refine ⟨fun w => ?_, ?_⟩; (go_simp; try with_reducible rfl); simp only [Act.put, List.setIfInBounds_toArray, List.set_cons_succ, List.set_cons_zero])
        | (refine takeH_reads rfl rfl ?_; apply Exists.intro; refine ⟨fun w' hS => ?_, ?_⟩; (obtain ⟨d0, d1, d2⟩ := HC.out w' hS; go_simp; try with_reducible rfl); simp only [Act.put, List.setIfInBounds_toArray, List.set_cons_succ, List.set_cons_zero]))
 refine takeH_call rfl rfl (fun K' hK=>?_)
 go_wp2_with fail
 refine (trailing_any a b (by have:=HFo.out.2.1;omega) (by have:=HFo.out.2.2.1;omega) w4.drew).mono ?_
 rintro e w5 ⟨rfl,hB5⟩
 have HH5:=Lib.hid (HH4.out.next (HH4.out.wr.below hB5) (Upd.of_below hB5 p _))
 have HG5:=Lib.hid (HG4.out.of_same (hB5.block _ HG4.out.lt))
 refine hK _ _ ⟨HH5.out.c3,HH5.out.b0,HH5.out.b1⟩ ?_
 clear hK K' hB5 HH4 HG4
 have e1:(64:Int)-(a:Int)-(b:Int)=((64-a-b:Nat):Int):=by have:=HFo.out.2.2.2;omega
 rw [e1]
 clear e1
 have hT64:((64-a-b:Nat):Int)≤64:=by omega
 generalize 64-a-b=T at *
 repeat (first
        | (refine takeH_skip rfl ?_; simp only [Act.put, List.setIfInBounds_toArray, List.set_cons_succ, List.set_cons_zero])
        | (refine takeH_blind rfl rfl ?_; apply Exists.intro; refine ⟨fun w => ?_, ?_⟩; (go_simp; try with_reducible rfl); simp only [Act.put, List.setIfInBounds_toArray, List.set_cons_succ, List.set_cons_zero])
        | (refine takeH_reads rfl rfl ?_; apply Exists.intro; refine ⟨fun w' hS => ?_, ?_⟩; (obtain ⟨d0, d1, d2⟩ := HC.out w' hS; go_simp; try with_reducible rfl); simp only [Act.put, List.setIfInBounds_toArray, List.set_cons_succ, List.set_cons_zero]))
 have e2:(x:Int) / 2 ^ T=((x / 2 ^ T:Nat):Int):=by simp
 rw [e2]
 clear e2
 have HBt:=Lib.hid (HH5.out.bits (x / 2 ^ T) b (by have:=HFo.out.2.2.1;omega) (by
  have h1:=HZ.out
  rw [List.length_append]
  have:=headS_len a b c
  omega))
 refine takeH_call rfl rfl (fun K' hK=>?_)
 go_wp2_with fail
 refine HBt.out.mono ?_
 rintro e w6 ⟨rfl,v6,hH6,hg6⟩
 refine hK _ _ ⟨hH6.c3,hH6.b0,hH6.b1⟩ ?_
 have HH6:=Lib.hid hH6.drew
 have HG6:Hid (Blk w6.drew g [.int .u64 (last:Int),.int .i64 (wl win:Int),.int .i64 (ww win:Int),.pointer (some ⟨p,0,none⟩)]):=HG5.out.of_same hg6
 rw [List.append_assoc,HBi.out] at HH6
 clear hH6 hg6 HBt HH5 HG5 hK K' HC
 have HC:Hid (∀w':World,(w'.cell? ⟨w2.heap.size,0,none⟩=some (.int .i64 (a:Int))∧w'.cell? ⟨w2.heap.size,1,none⟩=some (.int .i64 (b:Int))∧w'.cell? ⟨w2.heap.size,2,none⟩=some (.bool c))→(w'.cell? ⟨w2.heap.size,0,none⟩=some (.int .i64 (a:Int))∧w'.cell? ⟨w2.heap.size,1,none⟩=some (.int .i64 (b:Int))∧w'.cell? ⟨w2.heap.size,2,none⟩=some (.bool c))):=fun _ h=>h
 refine takeH_nil ?_
 go_wp2_with fail
 refine wp_region_takeH (fun w':World=>w'.cell? ⟨w2.heap.size,0,none⟩=some (.int .i64 (a:Int))∧w'.cell? ⟨w2.heap.size,1,none⟩=some (.int .i64 (b:Int))∧w'.cell? ⟨w2.heap.size,2,none⟩=some (.bool c)) [5] [0,1,2,3,4,5] (by kernel_rfl) (by kernel_rfl) (by kernel_rfl) ?_ ?_ ?_
 ·intro c a a' w hd h;exact ⟨hd ▸ h.1,h.2⟩
 ·exact ⟨HH6.out.b0,HH6.out.b1,HH6.out.b2⟩
 simp only [taken,List.map_cons,List.map_nil,List.getElem?_cons_succ,List.getElem?_cons_zero,Option.getD_some]
 repeat (first
        | (refine takeH_skip rfl ?_; simp only [Act.put, List.setIfInBounds_toArray, List.set_cons_succ, List.set_cons_zero])
        | (refine takeH_blind rfl rfl ?_; apply Exists.intro; refine ⟨fun w => ?_, ?_⟩; (go_simp; try with_reducible rfl); simp only [Act.put, List.setIfInBounds_toArray, List.set_cons_succ, List.set_cons_zero])
        | (refine takeH_reads rfl rfl ?_; apply Exists.intro; refine ⟨fun w' hS => ?_, ?_⟩; (obtain ⟨d0, d1, d2⟩ := HC.out w' hS; go_simp; try with_reducible rfl); simp only [Act.put, List.setIfInBounds_toArray, List.set_cons_succ, List.set_cons_zero]))
 refine takeH_call rfl rfl (fun K' hK=>?_)
 go_wp2_with fail
 refine (advance_any g last x (wl win) (ww win) a b c [.pointer (some ⟨p,0,none⟩)] H.out.la HHx.out w6.drew HG6.out).mono ?_
 rintro e w7 ⟨rfl,hG7,hM7⟩
 have hne:w2.heap.size≠g:=by have:=HSz.out;have:=H.out.blk.lt;omega
 refine hK _ _ ⟨hM7.cell HH6.out.b0 hne,hM7.cell HH6.out.b1 hne,hM7.cell HH6.out.b2 hne⟩ ?_
 refine takeH_nil ?_
 go_wp2_with fail
 go_end0
 have hU:=HH6.out.upd.mods
 have hM:Mods (fun k=>k=g∨k=p∨v.ownBlock=some k) w w7:=(hU.mono (fun j _ e=>Or.inr e)).trans hM7 (fun j _ e=>Or.inl e)
 refine ⟨rfl,v6,⟨?_,?_,H.out.gp,HH6.out.gv,?_,H.out.tg,H.out.tp,?_,?_,HNx.out⟩,hM,HH6.out.upd.fresh⟩
 ·rw [HCe.out] at hG7;exact hG7
 ·exact HH6.out.wr.mods hM7 (fun e=>H.out.gp e.symm) (fun k hk e=>HH6.out.gv (e ▸ hk))
 ·exact H.out.tab.block (hM.block _ H.out.tab.lt (fun e=>e.elim H.out.tg (fun e=>e.elim H.out.tp H.out.tv)))
 ·intro e
  rcases HH6.out.upd.fresh _ e with e | e
  ·exact H.out.tv e
  ·have:=H.out.tab.lt;omega
 ·exact HV.out
end Go.Proofs.YtdcgbgecbeegmaaGreatDoor
end
section
namespace Go.Proofs.YtdcgbgecbeegmaaGreatDoor
open Go Go.RowKit
theorem own_sliced {p:Option Addr} {i n c sz k:Nat} (h:(sliced p i n c sz).ownBlock=some k):(Value.slice p n c).ownBlock=some k:=by
 unfold sliced at h
 cases p with
 | none=>split at h<;>simp [Value.ownBlock] at h
 | some a=>
  split at h<;>simp_all [Value.ownBlock,Addr.add]
  all_goals (try split at h)<;>simp_all
section
variable {P:Program}
theorem wpList_fromO {t e:TypeId} {sz bytes:Nat} (hE:Elem P t e sz bytes) (w:World) (v:Value) (n i:Nat) (vs:List Value) (h0:Rd w sz v n vs) (hi:i≤n)
  {ops:Array Oper} {rest:List Oper} {o:Oper} {a:Act} {Q:Exit→Act→World→Prop} (hgd:Region.wanted o (yielded ops a.tmps)=true) (s x:Operand) (ho:o.op = .slice t s (some x) none none)
  (hs:a.eval s=v) (hx:a.eval x = .int .i64 (i:Int))
  (h:∀p c,Rd w sz (.slice p (n-i) c) (n-i) (vs.drop (i*sz))→(∀k,(Value.slice p (n-i) c).ownBlock=some k→v.ownBlock=some k)→wpList P ops Q rest (a.put o.dst (.slice p (n-i) c)) w):wpList P ops Q (o::rest) a w:=by
 obtain ⟨inf,z,hinf,hz,hsize,hby,hzs⟩:=hE.hi
 obtain ⟨p,c,hv⟩:=h0.shape
 subst hv
 refine BigFrame.wpList_want hgd fun K hK=>?_
 have helem:P.elem t=e:=by simp [Program.elem,hE.ht]
 have hu:P.underlying t=some (.slice (P.elem t)):=by rw [helem];exact hE.ht
 have hcell:P.cellsOf (P.elem t)=sz:=by rw [helem];simp [Program.cellsOf,hinf,hsize]
 have hr:(Instr.sliceAt t (.slice p n c) (some (.int .i64 (i:Int))) none none).run P w = .ok (sliced p i n c sz) w:=by
  have hsz:=run_sizeOf (w:=w) (show P.info? (P.elem t)=some inf by rw [helem];exact hinf)
  rw [run_sliceAt_slice (h:=hu),run_slice_l (ht:=hu) (h0:=by omega) (h1:=by omega),hsz,hcell]
  simp [Result.andThen]
 unfold Oper.wp execOp
 simp only [ho,Sem.run_bind,Sem.run_pure,Result.andThen_ok,hs,hx,hr,Option.map_some,Option.map_none]
 exact hK _ _ (h _ _ (h0.from i hi) (fun k hk=>own_sliced hk))
end
end Go.Proofs.YtdcgbgecbeegmaaGreatDoor
end
section
set_option maxRecDepth 20000
namespace Go.Proofs.YtdcgbgecbeegmaaGreatDoor
open Go Go.RowKit
theorem xorval_put_nil (p:Nat) (v lv:Value) (bs:List Bool) (w:World) (hW:WriterIn w p v bs) (h:Rd w 1 lv 0 []) :
  Calls Tryz.prog 185 #[.pointer (some ⟨p,0,none⟩),lv] w fun e w'=>e = .returned (.int .i64 0)∧BitsPost p v bs w w':=by
 have HW:=Lib.hid hW
 clear hW
 obtain ⟨q,c,hv⟩:=h.shape
 subst hv
 go_enter Tryz.func185,Tryz.ntmps185
 go_wp2_with fail
 go_ret
 exact ⟨rfl,v,HW.out,Upd.refl _ _ _⟩
structure PutInV (g p:Nat) (v:Value) (bs:List Bool) (ls tl:List Nat) (lv:Value) (w:World) (k:Nat) (v':Value) (last:Nat) (win:Option (Nat × Nat)) (out:List Bool) (wr:World):Prop where
 enc:EncIs g p v' out last win wr
 left:bs++encV ls=out++encFromV win last (tl.drop k)
 upd:Upd w wr p v v'
 row:Rd wr 1 lv tl.length (u64s tl)
set_option maxHeartbeats 4000000 in
theorem xorval_put_cons (p:Nat) (v lv:Value) (bs:List Bool) (ls:List Nat) (t0:Nat) (tl:List Nat) (els:ls=t0::tl) (w:World) (hT:TabZ w) (hW:WriterIn w p v bs) (htp : 3≠p) (htv:v.ownBlock≠some 3)
  (hl:Rd w 1 lv ls.length (u64s ls)) (ok:∀t∈ls,in64u t) (hap:∀k,lv.ownBlock=some k→k≠p∧v.ownBlock≠some k) (hz:bs.length+78*ls.length≤70368744177000) :
  Calls Tryz.prog 185 #[.pointer (some ⟨p,0,none⟩),lv] w fun e w'=>e = .returned (.int .i64 0)∧BitsPost p v (bs++encV ls) w w':=by
 obtain ⟨b0,off,c,e,hm1,hm2,hcl⟩:=hl.at (by rw [els];simp [u64s])
 subst e
 have HT:=Lib.hid hT;have HW:=Lib.hid hW;have HEL:=Lib.hid els;have HOk:=Lib.hid ok;have HZ:=Lib.hid hz
 have hne:(ls.length:Int)≠0:=by rw [els];simp only [List.length_cons];omega
 have hpos:(0:Int)<(ls.length:Int):=by omega
 have hone:(1:Int)≤(ls.length:Int):=by omega
 have hnb:((ls.length:Int) == 0)=false:=by rw [beq_eq_false_iff_ne];exact hne
 have hc0:w.cell? ⟨b0,off,none⟩=some (.int .u64 (t0:Int)):=by have:=hcl 0 (.int .u64 (t0:Int)) (by rw [els];rfl);simpa using this
 have HAp:Hid (b0≠p∧v.ownBlock≠some b0∧b0<w.heap.size):=⟨(hap b0 rfl).1,(hap b0 rfl).2,World.block_lt_of_cell? w _ hc0⟩
 have HCl:Hid (∀(i t:Nat),ls[i]? = some t→w.cell? ⟨b0,off+i,none⟩=some (.int .u64 (t:Int))):=fun i t h=>hcl i _ (by rw [u64s,List.getElem?_map,h];rfl)
 have HB:=Lib.hid (wbits p v bs t0 64 w hW (by omega) (by omega))
 have HRd:=Lib.hid hl
 have hpos1:1≤ls.length:=by omega
 clear hT hW els ok hz hcl hap hl
 go_enter Tryz.func185,Tryz.ntmps185
 go_wp2_with fail
 refine HB.out.mono ?_
 rintro e w2 ⟨rfl,v2,hW2,hU2⟩
 have HW2:=Lib.hid hW2
 have HU2:=Lib.hid hU2
 have hc2:w2.cell? ⟨b0,off,none⟩=some (.int .u64 (t0:Int)):=(hU2.keep hc0 HAp.out.1 HAp.out.2.1).1
 clear hW2 hU2 HB hc0
 have hsub:ls.length-1=tl.length:=by rw [HEL.out];rfl
 have hrow:Rd w2 1 (.slice (some ⟨b0,off,none⟩) ls.length c) ls.length (u64s ls):=HRd.out.mods HU2.out.mods (fun k hk e=>by cases hk;exact e.elim HAp.out.1 HAp.out.2.1)
 obtain ⟨w3,hw3⟩:∃w3,w2.alloc (.cells #[.int .u64 (t0:Int),.int .i64 0,.int .i64 0,.pointer (some ⟨p,0,none⟩)] 289)=w3:=⟨_,rfl⟩
 have hB3:Below w2.heap.size w2 w3:=by rw [← hw3];exact (Below.refl _ w2).alloc (Nat.le_refl _) _
 have hK3:Blk w3 w2.heap.size [.int .u64 (t0:Int),.int .i64 0,.int .i64 0,.pointer (some ⟨p,0,none⟩)]:=by rw [← hw3];exact Blk.new w2 _ _
 have HR3:=Lib.hid (hrow.below hB3)
 have hpl:=HW.out.blk.lt
 have hs2:=HU2.out.mods.size
 have HE3:Hid (EncIs w2.heap.size p v2 (bs++fieldBits t0 64) t0 none w3):=by
  have hvn:v2.ownBlock≠some 3:=fun e=>(HU2.out.fresh _ e).elim htv (fun k=>by have:=HT.out.lt;omega)
  refine ⟨hK3,HW2.out.below hB3,by omega,fun e=>by have:=owns_lt HW2.out.own _ e;omega,?_,by have:=HT.out.lt;omega,htp,hvn,HOk.out t0 (by rw [HEL.out];simp),fun _ _ e=>by cases e⟩
  exact (HT.out.block (HU2.out.mods.block _ HT.out.lt (fun e=>e.elim htp htv))).below hB3 (Nat.le_refl _)
 have HU3:Hid (Upd w w3 p v v2):=HU2.out.trans (Upd.of_below hB3 p v2)
 have HL3:Hid (bs++encV ls=(bs++fieldBits t0 64)++encFromV none t0 tl):=by show _=_;rw [HEL.out,encV,List.append_assoc]
 have HG:Hid (w.heap.size≤w2.heap.size):=hs2
 clear hB3 hK3 hrow hpl hs2 HW2 HU2 htp htv HRd
 go_wp2_with (refine wpList_fromO Tryz.elemU64 _ _ _ 1 _ HR3.out hpos1 rfl _ _ rfl rfl rfl ?_;intro q c2 h2 hown)
 rw [hsub] at *
 have HOwn:Hid (∀k,(Value.slice q tl.length c2).ownBlock=some k→k=b0):=fun k hk=>by have:=hown k hk;cases this;rfl
 have HR4:Hid (Rd w3 1 (.slice q tl.length c2) tl.length (u64s tl)):=by
  show Rd _ _ _ _ _
  have:List.drop (1*1) (u64s ls)=u64s tl:=by rw [HEL.out];rfl
  rw [← this];exact h2
 have HLn:Hid (ls.length=tl.length+1):=by show _=_;rw [HEL.out];rfl
 have hmb:(tl.length:Int)≤1000000000000:=by have h1:=HLn.out;have h2:=HZ.out;omega
 have HI0:Hid (PutInV w2.heap.size p v bs ls tl (.slice q tl.length c2) w 0 v2 t0 none (bs++fieldBits t0 64) w3):=⟨HE3.out,HL3.out,HU3.out,HR4.out⟩
 clear hsub h2 hown HR3 HR4 HE3 HL3 HU3 hw3 hc2 hne hpos hone hnb hpos1
 generalize w2.heap.size=g at *
 go_loopw [7,27] (fun xv kv wr=>∃(k:Nat) (v':Value) (last:Nat) (win:Option (Nat × Nat)) (out:List Bool),k≤tl.length∧kv = .int .i64 (k:Int)∧Hid (PutInV g p v bs ls tl (.slice q tl.length c2) w k v' last win out wr)) (fun _ kv _=>tl.length-(intOf kv).toNat)
 case atStart=>exact ⟨0,v2,t0,none,_,by omega,rfl,HI0.out⟩
 case round=>
  obtain ⟨k,v',last,win,out,hkm,rfl,HI⟩:=hrel
  by_cases hk:k<tl.length
  ·have hk':(k:Int)<(tl.length:Int):=by omega
   have hkb:(k:Int)≤1000000000000:=by omega
   obtain ⟨b1,o1,c1,e1,_,_,hcl1⟩:=HI.out.row.at (by intro e;have:=congrArg List.length e;rw [u64s,List.length_map,List.length_nil] at this;omega)
   cases e1
   obtain ⟨t,ht⟩:∃t,tl[k]? = some t:=⟨_,List.getElem?_eq_getElem hk⟩
   have hc1:wr.cell? ⟨b1,o1+k,none⟩=some (.int .u64 (t:Int)):=hcl1 k _ (by rw [u64s,List.getElem?_map,ht];rfl)
   have hti:in64u t:=HOk.out t (by rw [HEL.out];exact List.mem_cons_of_mem _ (List.mem_of_getElem? ht))
   have hdr:tl.drop k=t::tl.drop (k+1):=by rw [List.drop_eq_getElem_cons hk];rw [List.getElem?_eq_getElem hk] at ht;cases ht;rfl
   have hlen:out.length≤bs.length+78*ls.length:=by
    have h1:=congrArg List.length HI.out.left
    rw [List.length_append,List.length_append] at h1
    have h2:=encV_len ls
    omega
   have HP:=Lib.hid (put_any g p v' out last t win wr HI.out.enc hti (by have:=HZ.out;omega))
   have HT1:=Lib.hid ht;have HD:=Lib.hid hdr
   clear hcl1 ht hti hdr hlen
   go_wp2_with fail
   refine HP.out.mono ?_
   rintro e w5 ⟨rfl,v5,hE5,hM5,hF5⟩
   have HI5:Hid (PutInV g p v bs ls tl (.slice (some ⟨b1,o1,none⟩) tl.length c2) w (k+1) v5 t (nextW win (t ^^^ last)) (out++encW win (t ^^^ last)) w5):=by
    have hb:b1=b0:=HOwn.out b1 rfl
    have hfr:=HI.out.upd.fresh
    have hsz:=HI.out.upd.mods.size
    have hg:=HG.out;have hpl:=HW.out.blk.lt;have hap:=HAp.out
    refine ⟨hE5,?_,⟨HI.out.upd.mods.trans hM5 (fun j hj e=>?_),hfr.trans hF5 hsz⟩,HI.out.row.mods hM5 (fun j hj e=>?_)⟩
    ·rw [HI.out.left,HD.out,encFromV,List.append_assoc]
    ·rcases e with e | e | e
     ·omega
     ·exact Or.inl e
     ·exact (hfr j e).elim Or.inr (fun h=>by omega)
    ·cases hj
     rw [hb] at e
     change b0=g∨b0=p∨v'.ownBlock=some b0 at e
     rcases e with e | e | e
     ·omega
     ·exact hap.1 e
     ·exact (hfr _ e).elim hap.2.1 (fun h=>by omega)
   clear hE5 hM5 hF5 HI HP
   go_wp2_with fail
   go_round
   case rel=>exact ⟨k+1,_,_,_,_,by omega,by go_num,HI5.out⟩
   case measure=>simp [intOf];omega
  ·have hk':¬(k:Int)<(tl.length:Int):=by omega
   have HLeft:Hid (bs++encV ls=out):=by
    have h:=HI.out.left
    rw [List.drop_eq_nil_of_le (by omega),encFromV,List.append_nil] at h
    exact h
   go_wp2_with fail
   go_ret
   rw [HLeft.out]
   exact ⟨rfl,v',HI.out.enc.wr,HI.out.upd⟩
theorem xorval_size_nil (w:World) (v:Value) (h:Rd w 1 v 0 []):Calls Tryz.prog 184 #[v] w fun e w'=>e = .returned (.int .i64 0)∧Below w.heap.size w w':=by
 obtain ⟨p,c,hv⟩:=h.shape
 subst hv
 go_enter Tryz.func184,Tryz.ntmps184
 go_wp2_with fail
 go_ret
 exact ⟨rfl,Below.refl _ _⟩
theorem stepN_len {win:Option (Nat × Nat)} (ho:okW win) {x:Nat} (hx:x<18446744073709551616):stepN (sL win x) (sW win x) (sN win x)=(encW win x).length:=by
 rw [← step_bits ho hx,List.length_append,fieldBits_length,stepN,headS]
 by_cases h:sL win x=0∧sW win x=0
 ·rw [if_pos h,if_pos h,h.2];rfl
 ·rw [if_neg h,if_neg h]
  split
  ·simp only [List.length_append,fieldBits_length,List.length_cons,List.length_nil]
  ·rfl
structure SizeIn (g:Nat) (ls tl:List Nat) (lv:Value) (w:World) (k last:Nat) (win:Option (Nat × Nat)) (n:Nat) (wr:World):Prop where
 blk:Blk wr g [.int .u64 (last:Int),.int .i64 (wl win:Int),.int .i64 (ww win:Int)]
 below:Below w.heap.size w wr
 left:(encV ls).length=n+(encFromV win last (tl.drop k)).length
 la:last<18446744073709551616
 ok:okW win
 row:Rd wr 1 lv tl.length (u64s tl)
set_option maxHeartbeats 4000000 in
theorem xorval_size_cons (lv:Value) (ls:List Nat) (t0:Nat) (tl:List Nat) (els:ls=t0::tl) (w:World) (hT:TabZ w) (hl:Rd w 1 lv ls.length (u64s ls)) (ok:∀t∈ls,in64u t) (hz:78*ls.length≤70368744177000) :
  Calls Tryz.prog 184 #[lv] w fun e w'=>e = .returned (.int .i64 ((encV ls).length:Int))∧Below w.heap.size w w':=by
 obtain ⟨b0,off,c,e,hm1,hm2,hcl⟩:=hl.at (by rw [els];simp [u64s])
 subst e
 have HT:=Lib.hid hT;have HEL:=Lib.hid els;have HOk:=Lib.hid ok;have HZ:=Lib.hid hz
 have hne:(ls.length:Int)≠0:=by rw [els];simp only [List.length_cons];omega
 have hpos:(0:Int)<(ls.length:Int):=by omega
 have hnb:((ls.length:Int) == 0)=false:=by rw [beq_eq_false_iff_ne];exact hne
 have hc0:w.cell? ⟨b0,off,none⟩=some (.int .u64 (t0:Int)):=by have:=hcl 0 (.int .u64 (t0:Int)) (by rw [els];rfl);simpa using this
 have HAp:Hid (b0<w.heap.size):=World.block_lt_of_cell? w _ hc0
 have HRd:=Lib.hid hl
 have hpos1:1≤ls.length:=by omega
 have hsub:ls.length-1=tl.length:=by rw [els];rfl
 have HB3:Hid (Below w.heap.size w (w.alloc (.cells #[.int .u64 (t0:Int),.int .i64 0,.int .i64 0] 283))):=(Below.refl _ w).alloc (Nat.le_refl _) _
 have HK3:Hid (Blk (w.alloc (.cells #[.int .u64 (t0:Int),.int .i64 0,.int .i64 0] 283)) w.heap.size [.int .u64 (t0:Int),.int .i64 0,.int .i64 0]):=Blk.new w _ _
 have HR3:=Lib.hid (hl.below HB3.out)
 have HL3:Hid ((encV ls).length=64+(encFromV none t0 tl).length):=by show _=_;rw [HEL.out,encV,List.length_append,fieldBits_length]
 have HLn:Hid (ls.length=tl.length+1):=by show _=_;rw [HEL.out];rfl
 clear hT els ok hz hcl hl
 go_enter Tryz.func184,Tryz.ntmps184
 go_wp2_with (refine wpList_fromO Tryz.elemU64 _ _ _ 1 _ HR3.out hpos1 rfl _ _ rfl rfl rfl ?_;intro q c2 h2 hown)
 rw [hsub] at *
 have HOwn:Hid (∀k,(Value.slice q tl.length c2).ownBlock=some k→k=b0):=fun k hk=>by have:=hown k hk;cases this;rfl
 have HI0:Hid (SizeIn w.heap.size ls tl (.slice q tl.length c2) w 0 t0 none 64 (w.alloc (.cells #[.int .u64 (t0:Int),.int .i64 0,.int .i64 0] 283))):=by
  refine ⟨HK3.out,HB3.out,HL3.out,HOk.out t0 (by rw [HEL.out];simp),fun _ _ e=>(by cases e),?_⟩
  have:List.drop (1*1) (u64s ls)=u64s tl:=by rw [HEL.out];rfl
  rw [← this];exact h2
 have hmb:(tl.length:Int)≤1000000000000:=by have h1:=HLn.out;have h2:=HZ.out;omega
 generalize w.alloc (.cells #[.int .u64 (t0:Int),.int .i64 0,.int .i64 0] 283)=w3 at *
 clear hsub h2 hown HR3 HL3 hne hpos hnb hpos1 hc0 HK3
 have HG:Hid (∃g,g=w.heap.size):=⟨_,rfl⟩
 obtain ⟨g,hg⟩:=HG.out
 clear HG
 rw [← hg] at HI0 ⊢
 have HGe:Hid (g=w.heap.size):=hg
 clear hg
 go_loopw [3,6,7,8,19] (fun nv vv xv pv kv wr=>∃(k last:Nat) (win:Option (Nat × Nat)) (n:Nat),k≤tl.length∧kv = .int .i64 (k:Int)∧nv = .int .i64 (n:Int)∧Hid (SizeIn g ls tl (.slice q tl.length c2) w k last win n wr)) (fun _ _ _ _ kv _=>tl.length-(intOf kv).toNat)
 case atStart=>exact ⟨0,t0,none,64,by omega,rfl,rfl,HI0.out⟩
 case round=>
  obtain ⟨k,last,win,n,hkm,rfl,rfl,HI⟩:=hrel
  by_cases hk:k<tl.length
  ·have hk':(k:Int)<(tl.length:Int):=by omega
   have hkb:(k:Int)≤1000000000000:=by omega
   have HN:Hid ((encV ls).length≤78*ls.length):=encV_len ls
   have hnb2:(n:Int)≤70368744177000:=by have h1:=HI.out.left;have h2:=HN.out;have h3:=HZ.out;omega
   obtain ⟨b1,o1,c1,e1,_,_,hcl1⟩:=HI.out.row.at (by intro e;have:=congrArg List.length e;rw [u64s,List.length_map,List.length_nil] at this;omega)
   cases e1
   obtain ⟨t,ht⟩:∃t,tl[k]? = some t:=⟨_,List.getElem?_eq_getElem hk⟩
   have hc1:wr.cell? ⟨b1,o1+k,none⟩=some (.int .u64 (t:Int)):=hcl1 k _ (by rw [u64s,List.getElem?_map,ht];rfl)
   have hti:in64u t:=HOk.out t (by rw [HEL.out];exact List.mem_cons_of_mem _ (List.mem_of_getElem? ht))
   have hdr:tl.drop k=t::tl.drop (k+1):=by rw [List.drop_eq_getElem_cons hk];rw [List.getElem?_eq_getElem hk] at ht;cases ht;rfl
   have HX:Hid (bits .xor .u64 (t:Int) (last:Int)=((t ^^^ last:Nat):Int)):=bits_xor_u64_nat t last hti HI.out.la
   have hx:t ^^^ last<18446744073709551616:=xor_lt64 hti HI.out.la
   have c0:wr.cell? ⟨g,0,none⟩=some (.int .u64 (last:Int)):=by rw [HI.out.blk.cell];rfl
   have HTr:Hid (TabZ wr):=HT.out.below HI.out.below (Nat.le_refl _)
   have HSt:=Lib.hid (stepFor_any g win (t ^^^ last) HI.out.ok hx wr HTr.out (by rw [HI.out.blk.cell];rfl) (by rw [HI.out.blk.cell];rfl))
   have HCe:=Lib.hid (step_cells win last t)
   have HFo:=Lib.hid (step_form HI.out.ok hx)
   have HSz:=Lib.hid (stepN_len HI.out.ok hx)
   have HNx:Hid (okW (nextW win (t ^^^ last))):=okW_next HI.out.ok hx
   have HTi:=Lib.hid hti;have HD:=Lib.hid hdr;have HHx:=Lib.hid hx
   have HEn:Hid (encFromV win last (tl.drop k)=encW win (t ^^^ last)++encFromV (nextW win (t ^^^ last)) t (tl.drop (k+1))):=by show _=_;rw [HD.out];rfl
   clear hcl1 ht hti hdr hx
   generalize t ^^^ last=x at *
   generalize sL win x=a at *
   generalize sW win x=b at *
   generalize sN win x=c at *
   generalize encW win x=E at *
   generalize nextW win x=win' at *
   go_wp2_with fail
   rw [HX.out]
   go_wp2_with fail
   refine HSt.out.mono ?_
   rintro e w2 ⟨rfl,hB2⟩
   obtain ⟨w4,hw4⟩:∃w4,w2.alloc (.cells #[.int .i64 (a:Int),.int .i64 (b:Int),.bool c] 285)=w4:=⟨_,rfl⟩
   have HK4:Hid (Blk w4 w2.heap.size [.int .i64 (a:Int),.int .i64 (b:Int),.bool c]):=by rw [← hw4];exact Blk.new w2 _ _
   have HB4:Hid (Below wr.heap.size wr w4):=by rw [← hw4];exact hB2.alloc hB2.size _
   have HS2:Hid (wr.heap.size≤w2.heap.size):=hB2.size
   have HBk4:Hid (Blk w4 g ([.int .u64 (last:Int),.int .i64 (wl win:Int),.int .i64 (ww win:Int)]++[])):=HI.out.blk.of_same (HB4.out.block _ HI.out.blk.lt)
   have hgl:=HI.out.blk.lt
   have hs2:=HS2.out
   have hgB:g≠w2.heap.size:=by omega
   obtain ⟨⟨d0,d1,d2⟩,_⟩:=HK4.out.three
   have HAd:=Lib.hid (advance_any g last x (wl win) (ww win) a b c [] HI.out.la HHx.out w4 HBk4.out)
   clear HSt HX c0 hB2 hs2
   go_wp2_with fail
   refine HAd.out.mono ?_
   rintro e w5 ⟨rfl,hG5,hM5⟩
   rw [HCe.out] at hG5
   obtain ⟨⟨d0,d1,d2⟩,_⟩:=(hM5.blk HK4.out (fun e=>hgB e.symm)).three
   have HG5:=Lib.hid hG5;have HM5:=Lib.hid hM5
   have hab1:=HFo.out.2.1;have hab2:=HFo.out.2.2.1
   have HSi:=Lib.hid (size_anyX a b c HFo.out.1 (by omega) (by omega) w5)
   rw [HSz.out] at HSi
   have hEl:(E.length:Int)≤70368744177000:=by have h1:=HI.out.left;have h2:=HN.out;have h3:=HZ.out;rw [HEn.out,List.length_append] at h1;omega
   clear hG5 hM5 HAd hab1 hab2
   go_wp2_with fail
   refine HSi.out.mono ?_
   rintro e w6 ⟨rfl,hB6⟩
   have HI6:Hid (SizeIn g ls tl (.slice (some ⟨b1,o1,none⟩) tl.length c2) w (k+1) t win' (n+E.length) w6):=by
    have hb:b1=b0:=HOwn.out b1 rfl
    have hap:=HAp.out;have hge:=HGe.out
    have hMall:Mods (fun k=>k=g) wr w6:=((Mods.of_below HB4.out _).trans HM5.out (fun _ _ e=>e)).trans (Mods.of_below hB6 _) (fun _ _ e=>e)
    refine ⟨HG5.out.of_same (hB6.block _ HG5.out.lt),HI.out.below.trans (hMall.below HI.out.below.size (fun j hj e=>by omega)),?_,HTi.out,HNx.out,HI.out.row.mods hMall (fun j hj e=>?_)⟩
    ·rw [HI.out.left,HEn.out,List.length_append];omega
    ·cases hj
     change b1=g at e
     omega
   clear HG5 HM5 hB6 HI HSi HBk4 HB4 HK4 d0 d1 d2
   go_wp2_with fail
   go_round
   case rel=>exact ⟨k+1,_,_,_,by omega,by go_num,by go_num,HI6.out⟩
   case measure=>simp [intOf];omega
  ·have hk':¬(k:Int)<(tl.length:Int):=by omega
   have HLeft:Hid ((encV ls).length=n):=by
    have h:=HI.out.left
    rw [List.drop_eq_nil_of_le (by omega),encFromV] at h
    exact h
   go_wp2_with fail
   go_ret
   rw [HLeft.out]
   exact ⟨rfl,HI.out.below⟩
end Go.Proofs.YtdcgbgecbeegmaaGreatDoor
end
section
namespace Go.Proofs.YtdcgbgecbeegmaaGreatDoor
open Go Go.RowKit
theorem Blk.set2 {w:World} {g:Nat} {a b:Value} (h:Blk w g [a,b]) (x y:Value):Blk ((w.setCell ⟨g,0,none⟩ x).setCell ⟨g,1,none⟩ y) g [x,y]:=by
 simpa using (h.set 0 x).set 1 y
theorem Blk.two {w:World} {g:Nat} {a b:Value} (h:Blk w g [a,b]):(w.cell? ⟨g,0,none⟩=some a∧w.cell? ⟨g,1,none⟩=some b)∧(w.frozen? ⟨g,0,none⟩=false∧w.frozen? ⟨g,1,none⟩=false):=
 ⟨⟨by rw [h.cell];rfl,by rw [h.cell];rfl⟩,h.free 0,h.free 1⟩
end Go.Proofs.YtdcgbgecbeegmaaGreatDoor
end
section
namespace Go.Proofs.YtdcgbgecbeegmaaGreatDoor
open Go Go.RowKit Go.Shelf
attribute [local go_sem] Oper.semAt_some
structure HeadR (l:List Nat) (x n:Nat):Prop where
 one:1≤n
 most:n≤128
 le:n≤l.length
 all:l.take n=List.replicate n x
 stop:∀y,l[n]? = some y→¬(x=y∧n<128)
theorem addR_front (ps rs:List (Nat × Nat)) (h:rs≠[]) (x:Nat):addR (ps++rs) x=ps++addR rs x∧addR rs x≠[]:=by
 rcases cases_last rs with rfl | ⟨p,v,c,rfl⟩
 ·exact absurd rfl h
 ·rw [← List.append_assoc,addR_last,addR_last]
  split<;>simp
theorem splitFrom_front (ps:List (Nat × Nat)) (l:List Nat):∀(rs:List (Nat × Nat)),rs≠[]→splitFrom (ps++rs) l=ps++splitFrom rs l:=by
 induction l with
 | nil=>intro rs _;rfl
 | cons x l ih=>
  intro rs h
  obtain ⟨h1,h2⟩:=addR_front ps rs h x
  show splitFrom (addR (ps++rs) x) l=ps++splitFrom (addR rs x) l
  rw [h1,ih _ h2]
theorem split_head {l:List Nat} {x n:Nat} (h:HeadR l x n):splitR l=(x,n)::splitR (l.drop n):=by
 have e:splitR l=splitFrom (splitFrom [] (l.take n)) (l.drop n):=by rw [← splitFrom_append,List.take_append_drop];rfl
 obtain ⟨k,hk⟩:∃k,n=k+1:=⟨n-1,by have:=h.one;omega⟩
 have e2:splitFrom [] (l.take n)=[(x,n)]:=by
  rw [h.all,hk,split_run [] x k (by have:=h.most;omega) (fun _ _ e=>by cases e)];rfl
 rw [e,e2]
 cases hd:l.drop n with
 | nil=>rfl
 | cons y r=>
  have hy:l[n]? = some y:=by
   have:(l.drop n)[0]? = some y:=by rw [hd];rfl
   rwa [List.getElem?_drop] at this
  have ha:addR [(x,n)] y=[(x,n)]++[(y,1)]:=by
   rw [show [(x,n)]=[]++[(x,n)] from rfl,addR_last,if_neg (h.stop y hy)]
  show splitFrom (addR [(x,n)] y) r=(x,n)::splitFrom (addR [] y) r
  rw [ha,splitFrom_front _ _ _ (by simp)]
  rfl
theorem strRun:Str Tryz.prog 301 2 [.int .u64 0,.int .i64 0]:=Str.mk' Tryz.underlying301 rfl (by kernel_rfl) rfl
set_option maxRecDepth 20000 in
set_option maxHeartbeats 2000000 in
theorem firstRun_any (lv:Value) (l:List Nat) (w:World) (hl:Rd w 1 lv l.length (u64s l)) (hne:l≠[]) :
  Calls Tryz.prog 277 #[lv] w fun e w'=>∃x n,HeadR l x n∧e = .returned (.agg #[.int .u64 (x:Int),.int .i64 (n:Int)])∧Below w.heap.size w w':=by
 obtain ⟨x0,tl,hx0⟩:=List.exists_cons_of_ne_nil hne
 obtain ⟨b,off,c,e,hnc,hncm,hcell⟩:=hl.at (by rw [hx0];simp [u64s])
 subst e
 have HCl:Hid (∀(i t:Nat),l[i]? = some t→w.cell? ⟨b,off+i,none⟩=some (.int .u64 (t:Int))):=fun i t h=>hcell i _ (by rw [u64s,List.getElem?_map,h];rfl)
 have HLe:=Lib.hid hl.le
 have hc0:w.cell? ⟨b,off,none⟩=some (.int .u64 (x0:Int)):=by have:=HCl.out 0 x0 (by rw [hx0];rfl);simpa using this
 have HX:Hid (l[0]? = some x0):=by show _=_;rw [hx0];rfl
 have hpos:(0:Int)<(l.length:Int):=by rw [hx0];simp only [List.length_cons];omega
 have hpos1:1≤l.length:=by omega
 have hlm:(l.length:Int)≤9223372036854775807:=by have:=HLe.out;unfold maxLen at this;omega
 clear hl hne hx0 hnc hncm hcell
 have HC0:=Lib.hid hc0
 clear hc0
 go_enter Tryz.func277,Tryz.ntmps277
 go_wp2_with fail
 obtain ⟨w1,hw1⟩:∃w1,w.alloc (.cells #[.int .u64 0,.int .i64 0] 301)=w1:=⟨_,rfl⟩
 have HK1:Hid (Blk w1 w.heap.size [.int .u64 0,.int .i64 0]):=by rw [← hw1];exact Blk.new w _ _
 have HB1:Hid (Below w.heap.size w w1):=by rw [← hw1];exact (Below.refl _ w).alloc (Nat.le_refl _) _
 rw [hw1]
 clear hw1
 go_loopw [3] (fun nv wr=>∃(n:Nat),1≤n∧n≤l.length∧n≤128∧nv = .int .i64 (n:Int)∧Hid (l.take n=List.replicate n x0)∧Hid (Below w.heap.size w wr∧Blk wr w.heap.size [.int .u64 0,.int .i64 0])) (fun nv _=>l.length-(intOf nv).toNat)
 case atStart=>exact ⟨1,Nat.le_refl _,hpos1,by omega,rfl,by
  show _=_
  rw [List.take_one,List.head?_eq_getElem?,HX.out];rfl,HB1.out,HK1.out⟩
 case round=>
  obtain ⟨n,h1,h2,h3,rfl,HA,HBK⟩:=hrel
  have hcw:wr.cell? ⟨b,off,none⟩=some (.int .u64 (x0:Int)):=(HBK.out.1.cell (World.block_lt_of_cell? w _ HC0.out)).trans HC0.out
  have hK0:wr.cell? ⟨w.heap.size,0,none⟩=some (.int .u64 0):=by rw [HBK.out.2.cell];rfl
  have hF0:=HBK.out.2.free 0
  have hK1:wr.cell? ⟨w.heap.size,1,none⟩=some (.int .i64 0):=by rw [HBK.out.2.cell];rfl
  have hF1:=HBK.out.2.free 1
  have hn128:(n:Int)≤128:=by omega
  by_cases hlt:n<l.length
  ·have hlt':(n:Int)<(l.length:Int):=by omega
   obtain ⟨y,hy⟩:∃y,l[n]? = some y:=⟨_,List.getElem?_eq_getElem hlt⟩
   have hcn:wr.cell? ⟨b,off+n,none⟩=some (.int .u64 (y:Int)):=(HBK.out.1.cell (p:=⟨b,off+n,none⟩) (World.block_lt_of_cell? w ⟨b,off+n,none⟩ (HCl.out n y hy))).trans (HCl.out n y hy)
   have HY:=Lib.hid hy
   clear hy
   by_cases hm:n<128
   ·have hm':(n:Int)<128:=by omega
    by_cases he:y=x0
    ·subst he
     go_wp2_with fail
     go_quiet (fail)
     have HBK2:Hid (Below w.heap.size w (wr.drewN nq)∧Blk (wr.drewN nq) w.heap.size [.int .u64 0,.int .i64 0]):=⟨HBK.out.1.trans ⟨rfl,rfl,rfl,Nat.le_refl _,fun _ _=>rfl⟩,HBK.out.2⟩
     have HA2:Hid (l.take (n+1)=List.replicate (n+1) y):=by
      show _=_
      rw [List.take_add_one,HY.out,HA.out,List.replicate_succ'];rfl
     clear HBK HA hcw hK0 hF0 hK1 hF1 hcn
     generalize wr.drewN nq=wn at *
     go_wp2_with fail
     go_round
     case rel=>exact ⟨n+1,by omega,by omega,by omega,by go_num,HA2.out,HBK2.out⟩
     case measure=>simp [intOf];omega
    ·have hb1:((y:Int) == (x0:Int))=false:=by rw [beq_eq_false_iff_ne];omega
     have hb2:¬(y:Int)=(x0:Int):=by omega
     have HR:Hid (HeadR l x0 n):=⟨h1,h3,h2,HA.out,fun z hz h=>by rw [HY.out] at hz;cases hz;exact he h.1.symm⟩
     clear he
     go_wp2_with fail
     go_quiet (fail)
     have HBK2:Hid (Below w.heap.size w (wr.drewN nq)∧Blk (wr.drewN nq) w.heap.size [.int .u64 0,.int .i64 0]):=⟨HBK.out.1.trans ⟨rfl,rfl,rfl,Nat.le_refl _,fun _ _=>rfl⟩,HBK.out.2⟩
     have hcw2:(wr.drewN nq).cell? ⟨b,off,none⟩=some (.int .u64 (x0:Int)):=hcw
     have hK02:(wr.drewN nq).cell? ⟨w.heap.size,0,none⟩=some (.int .u64 0):=hK0
     have hF02:(wr.drewN nq).frozen? ⟨w.heap.size,0,none⟩=false:=hF0
     have hK12:(wr.drewN nq).cell? ⟨w.heap.size,1,none⟩=some (.int .i64 0):=hK1
     have hF12:(wr.drewN nq).frozen? ⟨w.heap.size,1,none⟩=false:=hF1
     clear HBK HA hcw hK0 hF0 hK1 hF1 hcn
     generalize wr.drewN nq=wn at *
     go_wp2_with fail
     refine bodyPost_ret (resultsS (p:=2) strRun (by kernel_rfl) _ w.heap.size rfl [.int .u64 (x0:Int),.int .i64 (n:Int)] ?_ rfl) rfl ⟨x0,n,HR.out,rfl,?_⟩
     ·simpa using (HBK2.out.2.set 0 (.int .u64 (x0:Int))).set 1 (.int .i64 (n:Int))
     ·exact HBK2.out.1.trans (((Mods.set (fun k=>k=w.heap.size) wn ⟨w.heap.size,0,none⟩ _ (fun _=>rfl)).trans (Mods.set (fun k=>k=w.heap.size) _ ⟨w.heap.size,1,none⟩ _ (fun _=>rfl)) (fun _ _ e=>e)).below HBK2.out.1.size (fun j hj e=>by omega))
   ·have HR:Hid (HeadR l x0 n):=⟨h1,h3,h2,HA.out,fun z hz h=>hm h.2⟩
    obtain rfl:n=128:=by omega
    have hd:decide ((128:Int)<(l.length:Int))=true:=by simpa using hlt'
    go_wp2_with fail
    go_quiet (fail)
    have HBK2:Hid (Below w.heap.size w (wr.drewN nq)∧Blk (wr.drewN nq) w.heap.size [.int .u64 0,.int .i64 0]):=⟨HBK.out.1.trans ⟨rfl,rfl,rfl,Nat.le_refl _,fun _ _=>rfl⟩,HBK.out.2⟩
    have hcw2:(wr.drewN nq).cell? ⟨b,off,none⟩=some (.int .u64 (x0:Int)):=hcw
    have hK02:(wr.drewN nq).cell? ⟨w.heap.size,0,none⟩=some (.int .u64 0):=hK0
    have hF02:(wr.drewN nq).frozen? ⟨w.heap.size,0,none⟩=false:=hF0
    have hK12:(wr.drewN nq).cell? ⟨w.heap.size,1,none⟩=some (.int .i64 0):=hK1
    have hF12:(wr.drewN nq).frozen? ⟨w.heap.size,1,none⟩=false:=hF1
    clear HBK HA hcw hK0 hF0 hK1 hF1 hcn
    generalize wr.drewN nq=wn at *
    go_wp2_with fail
    refine bodyPost_ret (resultsS (p:=2) strRun (by kernel_rfl) _ w.heap.size rfl [.int .u64 (x0:Int),.int .i64 ((128:Nat):Int)] ?_ rfl) rfl ⟨x0,128,HR.out,rfl,?_⟩
    ·simpa using (HBK2.out.2.set 0 (.int .u64 (x0:Int))).set 1 (.int .i64 ((128:Nat):Int))
    ·exact HBK2.out.1.trans (((Mods.set (fun k=>k=w.heap.size) wn ⟨w.heap.size,0,none⟩ _ (fun _=>rfl)).trans (Mods.set (fun k=>k=w.heap.size) _ ⟨w.heap.size,1,none⟩ _ (fun _=>rfl)) (fun _ _ e=>e)).below HBK2.out.1.size (fun j hj e=>by omega))
  ·have hlt':¬(n:Int)<(l.length:Int):=by omega
   have HR:Hid (HeadR l x0 n):=⟨h1,h3,h2,HA.out,fun z hz h=>by rw [List.getElem?_eq_none (by omega)] at hz;cases hz⟩
   go_wp2_with fail
   go_quiet (fail)
   have HBK2:Hid (Below w.heap.size w (wr.drewN nq)∧Blk (wr.drewN nq) w.heap.size [.int .u64 0,.int .i64 0]):=⟨HBK.out.1.trans ⟨rfl,rfl,rfl,Nat.le_refl _,fun _ _=>rfl⟩,HBK.out.2⟩
   have hcw2:(wr.drewN nq).cell? ⟨b,off,none⟩=some (.int .u64 (x0:Int)):=hcw
   have hK02:(wr.drewN nq).cell? ⟨w.heap.size,0,none⟩=some (.int .u64 0):=hK0
   have hF02:(wr.drewN nq).frozen? ⟨w.heap.size,0,none⟩=false:=hF0
   have hK12:(wr.drewN nq).cell? ⟨w.heap.size,1,none⟩=some (.int .i64 0):=hK1
   have hF12:(wr.drewN nq).frozen? ⟨w.heap.size,1,none⟩=false:=hF1
   clear HBK HA hcw hK0 hF0 hK1 hF1
   generalize wr.drewN nq=wn at *
   go_wp2_with fail
   refine bodyPost_ret (resultsS (p:=2) strRun (by kernel_rfl) _ w.heap.size rfl [.int .u64 (x0:Int),.int .i64 (n:Int)] ?_ rfl) rfl ⟨x0,n,HR.out,rfl,?_⟩
   ·simpa using (HBK2.out.2.set 0 (.int .u64 (x0:Int))).set 1 (.int .i64 (n:Int))
   ·exact HBK2.out.1.trans (((Mods.set (fun k=>k=w.heap.size) wn ⟨w.heap.size,0,none⟩ _ (fun _=>rfl)).trans (Mods.set (fun k=>k=w.heap.size) _ ⟨w.heap.size,1,none⟩ _ (fun _=>rfl)) (fun _ _ e=>e)).below HBK2.out.1.size (fun j hj e=>by omega))
abbrev Rn:Type:={ r:Nat × Nat // runOk r }
def runV (r:Rn):Value:=.agg #[.int .u64 (r.1.1:Int),.int .i64 (r.1.2:Int)]
def rnsOf (ys:List Rn):List (Nat × Nat):=ys.map Subtype.val
theorem rnsOf_push (ys:List Rn) (x:Rn):rnsOf (ys++[x])=rnsOf ys++[x.1]:=by simp [rnsOf]
def IsRun (w:World) (k:Nat):Prop:=∃(x n:Int) (fz:Nat × Nat),w.heap[k]? = some (.cells #[.int .u64 x,.int .i64 n] 301 fz)
def KeepRun (K:Nat→Prop) (A B:World):Prop:=KeepAt K A B∧∀k,IsRun A k→B.heap[k]? = A.heap[k]?
theorem IsRun.keep {A B:World} {k:Nat} (h:IsRun A k) (e:B.heap[k]? = A.heap[k]?):IsRun B k:=by
 obtain ⟨x,n,fz,h⟩:=h
 exact ⟨x,n,fz,e.trans h⟩
theorem keepRun_t {K:Nat→Prop} {A B C:World} (h:KeepRun K A B) (k:KeepRun K B C):KeepRun K A C:=
 ⟨keepAt_t h.1 k.1,fun j hj=>(k.2 j (hj.keep (h.2 j hj))).trans (h.2 j hj)⟩
theorem keepRun_b {K:Nat→Prop} {w:World} (hK:∀k,K k→k<w.heap.size) (W:World) (l:Nat) (o o':Obj) (hl:w.heap.size≤l) (h:W.heap[l]? = some o) (ho:o.isCells=false) (hw:o.isWalk=false):KeepRun K W (W.putObj l o'):=
 ⟨keepAt_b hK W l o o' hl h ho hw,fun k ⟨x,n,fz,hk⟩=>(grownBy_putObj' W l o').block k (Array.getElem?_eq_some_iff.1 hk).1 (fun e=>by cases e;rw [hk] at h;cases h;cases ho)⟩
theorem keepRun_mods {K S:Nat→Prop} {w W W':World} (hm:Mods S W W') (hs:w.heap.size≤W.heap.size) (hK:∀k,K k→k<w.heap.size) (hKS:∀k,K k→¬S k) (hR:∀k,S k→¬IsRun W k):KeepRun K W W':=
 ⟨fun k hk=>hm.block k (by have:=hK k hk;omega) (hKS k hk),fun k hk=>hm.block k (by obtain ⟨_,_,_,e⟩:=hk;exact (Array.getElem?_eq_some_iff.1 e).1) (fun e=>hR k e hk)⟩
theorem new_runs (p:Option Addr) (m c:Nat) (w:World) (n:Nat) :
  CallsIn Fence.wide n Tryz.prog 233 #[.slice p m c] w fun e w'=>e = .returned (.func (.func 276) #[] #[.pointer (some ⟨w.heap.size,0,none⟩)])∧w'=w.alloc (.cells #[.slice p m c] 113):=by
 refine callsIn_wide.2 ?_
 go_enter Tryz.func233,Tryz.ntmps233
 go_wp2_with fail
 go_ret
 exact ⟨rfl,rfl⟩
set_option maxRecDepth 100000 in
set_option maxHeartbeats 1000000 in
theorem runs_gives (n:Nat) (hn:1≤n) (b:Nat) (lv:Value) (l:List Nat) (w:World) (hc:w.cell? ⟨b,0,none⟩=some lv) (hl:Rd w 1 lv l.length (u64s l)) (hok:∀t∈l,t<18446744073709551616) :
  SeqStopsK Fence.wide n Tryz.prog 276 #[.pointer (some ⟨b,0,none⟩)] (fun r:Rn=>#[runV r]) (KeepRun (fun k=>k=b∨(l≠[]∧lv.ownBlock=some k))) (fun ys=>rnsOf ys=splitR l) (fun _=>True) (splitR l).length w:=by
 intro r J Jx W hW hJ hJx hY h0
 have hb:b<w.heap.size:=World.block_lt_of_cell? w _ hc
 have HKs0:Hid (∀k,(k=b∨(l≠[]∧lv.ownBlock=some k))→k<w.heap.size):=fun k hk=>by
  rcases hk with e | ⟨h1,e⟩
  ·omega
  ·exact hl.lt (fun e=>h1 (by simpa [u64s] using e)) k e
 have HK0:Hid (KeepAt (fun k=>k=b∨(l≠[]∧lv.ownBlock=some k)) w W):=fun k hk=>hW.block k (HKs0.out k hk)
 have HC:=Lib.hid hc;have HL:=Lib.hid hl;have HOk:=Lib.hid hok
 have HJ:=Lib.hid hJ
 have HY:=Lib.hid hY
 have hmax:(l.length:Int)≤9223372036854775807:=by have:=hl.le;unfold maxLen at this;omega
 clear hc hJ hY hok
 obtain ⟨p,c,hv⟩:=hl.shape
 subst hv
 clear hl
 obtain ⟨K,hK⟩:∃K:Nat→Prop,(fun k=>k=b∨(l≠[]∧(Value.slice p l.length c).ownBlock=some k))=K:=⟨_,rfl⟩
 have HKb:Hid (K b):=by rw [← hK];exact Or.inl rfl
 have HKv:Hid (l≠[]→∀k,(Value.slice p l.length c).ownBlock=some k→K k):=by rw [← hK];exact fun h k hk=>Or.inr ⟨h,hk⟩
 have HKs:Hid (∀k,K k→k<w.heap.size):=by rw [← hK];exact HKs0.out
 rw [hK] at HK0 HY
 clear hK HKs0
 refine callsIn_of_wp Tryz.func276 rfl trivial ?_ rfl
 simp only [Tryz.ntmps276,List.size_toArray,List.length_cons,List.length_nil,Nat.reduceAdd,Nat.reduceSub,Array.replicate_succ,Array.replicate_zero,List.push_toArray,List.append_toArray,List.nil_append,List.cons_append]
 gi_wp2
 gi_loopw [3] (fun iv wr=>∃(i:Nat) (pre:List Rn),i≤l.length∧iv = .int .i64 (i:Int)∧Hid (splitR l=rnsOf pre++splitR (l.drop i))∧Hid (J pre wr∧KeepAt K w wr)) (fun iv _=>l.length-(intOf iv).toNat)
 case atStart=>exact ⟨0,[],Nat.zero_le _,rfl,rfl,h0,HK0.out⟩
 case round=>
  obtain ⟨i,pre,hi,rfl,HP,HI⟩:=hrel
  have cb:=(HI.out.2.cell HKb.out 0).trans HC.out
  by_cases h:i<l.length
  ·have hlt:(i:Int)<(l.length:Int):=by omega
   have hle:(i:Int)≤(l.length:Int):=by omega
   have hne:l≠[]:=fun e=>by rw [e] at h;simp at h
   have HR:=Lib.hid (HI.out.2.rd HL.out (HKv.out hne))
   have HDl:Hid ((l.drop i).length=l.length-i):=List.length_drop
   have HDn:Hid (l.drop i≠[]):=fun e=>by have:=congrArg List.length e;rw [List.length_drop,List.length_nil] at this;omega
   have HDu:Hid ((u64s l).drop (i*1)=u64s (l.drop i)):=by show _=_;rw [Nat.mul_one,u64s,u64s,List.map_drop]
   have hci:¬(c=i):=by
    obtain ⟨_,_,e,_,h2,_⟩:=HR.out
    simp only [Value.slice.injEq] at e
    obtain ⟨_,_,rfl⟩:=e
    omega
   have hci2:i<c:=by
    obtain ⟨_,_,e,_,h2,_⟩:=HR.out
    simp only [Value.slice.injEq] at e
    obtain ⟨_,_,rfl⟩:=e
    omega
   clear hne
   have HRd:Hid (Rd wr 1 (.slice (Option.map (fun x:Addr=>x.add i) p) (l.length-i) (c-i)) (l.drop i).length (u64s (l.drop i))):=by
    have h:=HR.out.from i (by omega)
    rw [HDu.out] at h
    rw [HDl.out]
    show Rd _ _ _ _ _
    unfold sliced at h
    rw [if_neg (by omega)] at h
    simpa using h
   have HFr:=Lib.hid (firstRun_any _ _ wr HRd.out HDn.out)
   clear HRd HDn HDu HR
   gi_wp2
   refine ⟨trivial,(callsIn_wide.2 HFr.out).mono ?_⟩
   rintro e w2 ⟨x,k,hH,rfl,hB⟩
   have HSp:=Lib.hid (split_head hH)
   have hk1:=hH.one
   have hk3:=hH.most
   have HRo:Hid (runOk (x,k)):=by
    refine ⟨hk1,hk3,HOk.out x ?_⟩
    have:x∈(l.drop i).take k:=by rw [hH.all];exact List.mem_replicate.2 ⟨by omega,rfl⟩
    exact List.mem_of_mem_drop (List.mem_of_mem_take this)
   have hk2:k≤l.length-i:=by have:=hH.le;rw [HDl.out] at this;exact this
   clear hH HFr
   have HI2:Hid (J pre w2∧KeepAt K w w2):=⟨HJ.out pre wr _ none HI.out.1 (grown_below hB) (fun r e=>by cases e),keepAt_below HI.out.2 HKs.out hB⟩
   have HI3:Hid (J pre (w2.alloc (.cells #[.int .u64 (x:Int),.int .i64 (k:Int)] 301))∧KeepAt K w (w2.alloc (.cells #[.int .u64 (x:Int),.int .i64 (k:Int)] 301))):=by
    have hB2:Below w2.heap.size w2 (w2.alloc (.cells #[.int .u64 (x:Int),.int .i64 (k:Int)] 301)):=(Below.refl _ w2).alloc (Nat.le_refl _) _
    have hsz:W.heap.size≤w2.heap.size→True:=fun _=>trivial
    exact ⟨HJ.out pre w2 _ none HI2.out.1 (grown_below hB2) (fun r e=>by cases e),keepAt_below HI2.out.2 HKs.out hB2⟩
   obtain ⟨z,hz⟩:∃z:Rn,z=⟨(x,k),HRo.out⟩:=⟨_,rfl⟩
   have HZ:Hid (z.1=(x,k)):=by rw [hz];rfl
   have hze:runV z = .agg #[.int .u64 (x:Int),.int .i64 (k:Int)]:=by rw [hz];rfl
   have hex:Hid (splitR l=rnsOf (pre++[z])++splitR (l.drop (i+k))):=by
    show _=_
    rw [rnsOf_push,HZ.out,HP.out,HSp.out,List.drop_drop,List.append_assoc];rfl
   have hlen:pre.length<(splitR l).length:=by
    rw [hex.out,rnsOf_push,List.length_append,List.length_append,List.length_singleton]
    have:(rnsOf pre).length=pre.length:=by simp [rnsOf]
    omega
   obtain ⟨fn,tmps,assign,body,hyl,hR⟩:=HY.out pre z _ HI3.out.1 hlen
   rw [hze] at hyl
   have hRH:=Lib.hid hR
   have HHx:=Lib.hid hex
   clear HI cb hB hci hci2 HI2 hR hex hlen hze hz HP HSp
   gi_wp2
   refine hRH.out.mono ?_
   rintro e W3 (⟨rfl,hJ3,hk3⟩ | ⟨rfl,hJx3⟩)
   ·have HI4:=Lib.hid (And.intro hJ3 (keepAt_t HI3.out.2 hk3.1))
    have hcr:W3.cell? ⟨w2.heap.size,1,none⟩=some (.int .i64 (k:Int)):=by
     have hb:=Blk.new w2 #[.int .u64 (x:Int),.int .i64 (k:Int)] 301
     rw [(hb.of_same (hk3.2 _ ⟨_,_,_,World.alloc_heap_new w2 _⟩)).cell];rfl
    clear hJ3 hk3
    have hkl:(k:Int)≤128:=by omega
    gi_wp2
    go_roundw
    case rel=>exact ⟨i+k,_,by omega,by go_num,HHx.out,HI4.out⟩
    case measure=>simp [intOf];omega
   ·gi_wp2
    refine bodyPost_ret (results_none rfl _ _ _) rfl ?_
    exact ⟨⟨_,rfl⟩,.inr ⟨_,trivial,hJx3⟩⟩
  ·have hlt:¬(i:Int)<(l.length:Int):=by omega
   have HE:Hid (rnsOf pre=splitR l):=by
    show _=_
    rw [HP.out,List.drop_of_length_le (by omega)]
    simp [splitR,splitFrom]
   clear HP
   gi_wp2
   go_end0
   exact ⟨⟨_,rfl⟩,.inl ⟨_,HE.out,HI.out.1⟩⟩
end Go.Proofs.YtdcgbgecbeegmaaGreatDoor
end
