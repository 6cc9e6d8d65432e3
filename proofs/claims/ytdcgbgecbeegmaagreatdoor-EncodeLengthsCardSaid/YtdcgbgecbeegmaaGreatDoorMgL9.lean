/- Texts 9. -/
import Derived.Test.YtdcgbgecbeegmaaGreatDoorMgL8
import Derived.Test.YtdcgbgecbeegmaaGreatDoorMgL6
import Derived.Test.YtdcgbgecbeegmaaGreatDoorMgL4
import Derived.Test.YtdcgbgecbeegmaaGreatDoorMgL5
import Derived.Test.YtdcgbgecbeegmaaGreatDoorMgL2
import Derived.Test.YtdcgbgecbeegmaaGreatDoorMgL3
import Derived.Test.YtdcgbgecbeegmaaGreatDoorMgL1
import Derived.Test.YtdcgbgecbeegmaaGreatDoorMgL7
import Derived.Deep.MidRow
set_option linter.unusedVariables false
set_option linter.unusedSimpArgs false
section
namespace Go.Proofs.YtdcgbgecbeegmaaGreatDoor.encodeLengths
open Go Go.RowKit
variable {G:Nat} {T:World→Prop}
set_option maxRecDepth 20000 in
set_option maxHeartbeats 8000000 in
theorem walk (I:EnIf G T) (hal:∀w,T w→Calls Tryz.prog 10 #[] w fun e w'=>e = .returned (.bool true)∧Below w.heap.size w w')
  (w:World) (hT:T w) (bv:Value) (b:List Ser) (okb:Sized b) (hb:RdB w bv b) :
  Calls Tryz.prog 7 #[bv] w fun e w'=>e = .returned (.bool true)∧Below w.heap.size w w':=by
 have HT0:=Lib.hid hT;have HAL:=Lib.hid hal
 have Hb0:=Lib.hid hb;have Zb:=Lib.hid okb
 obtain ⟨pb,cb,hv⟩:=hb.shape
 subst hv
 clear hT hal hb okb
 have HB0:=Lib.hid (Below.refl w.heap.size w)
 go_enter Tryz.func7,Tryz.ntmps7
 go_wp2_with fail
 refine (large12 _ b _ Hb0.out Zb.out).mono ?_
 rintro e w1 ⟨he,hB⟩
 have HB1:=Lib.hid (HB0.out.trans (hB.mono HB0.out.size))
 have HT1:=Lib.hid (I.below HT0.out hB)
 have Hb1:=Lib.hid (Hb0.out.below hB)
 clear hB HB0 HT0 Hb0
 rcases he with rfl | ⟨rfl,hsm,_⟩
 ·have:=trivial
  go_wp2_with fail
  refine (HAL.out _ HT1.out).mono ?_
  rintro e w2 ⟨rfl,hB⟩
  have HB2:=Lib.hid (HB1.out.trans (hB.mono HB1.out.size))
  have HT2:=Lib.hid (I.below HT1.out hB)
  have Hb2:=Lib.hid (Hb1.out.below hB)
  clear hB HB1 HT1 Hb1
  go_wp2_with fail
  go_ret
  exact ⟨rfl,HB2.out⟩
 ·have Mb:=Lib.hid hsm
  clear hsm
  have HCkb:=Lib.hid (fun w' (hR:RdB w' (.slice pb b.length cb) b)=>ref_check12 _ b w' hR Mb.out.mid Zb.out)
  by_cases hck:checkB b=0
  rotate_left
  ·obtain ⟨ck,hce⟩:∃ck,checkB b=ck:=⟨_,rfl⟩
   rw [hce] at hck HCkb
   have hcb:((ck:Int) != 0)=true:=by rw [bne_iff_ne];omega
   clear hce
   go_wp2_with fail
   refine (HCkb.out _ Hb1.out).mono ?_
   rintro e w3 ⟨rfl,hB⟩
   have HB2:=Lib.hid (HB1.out.trans (hB.mono HB1.out.size))
   have HT2:=Lib.hid (I.below HT1.out hB)
   have Hb2:=Lib.hid (Hb1.out.below hB)
   clear hB HB1 HT1 Hb1
   go_wp2_with fail
   refine (HAL.out _ HT2.out).mono ?_
   rintro e w4 ⟨rfl,hB⟩
   have HB3:=Lib.hid (HB2.out.trans (hB.mono HB2.out.size))
   have HT3:=Lib.hid (I.below HT2.out hB)
   have Hb3:=Lib.hid (Hb2.out.below hB)
   clear hB HB2 HT2 Hb2
   go_wp2_with fail
   go_ret
   exact ⟨rfl,HB3.out⟩
  ·have Kb:=Lib.hid hck
   rw [hck] at HCkb
   clear hck
   go_wp2_with fail
   refine (HCkb.out _ Hb1.out).mono ?_
   rintro e w5 ⟨rfl,hB⟩
   have HB2:=Lib.hid (HB1.out.trans (hB.mono HB1.out.size))
   have HT2:=Lib.hid (I.below HT1.out hB)
   have Hb2:=Lib.hid (Hb1.out.below hB)
   clear hB HB1 HT1 Hb1
   have HC1:=Lib.hid (fun w' (hT:T w') (hR:RdB w' (.slice pb b.length cb) b)=>I.sections _ b w' hT hR Zb.out Mb.out.mid)
   have HSy:=Lib.hid (fun w' (hR:RdB w' (.slice pb b.length cb) b)=>ref_symbols12 _ b w' hR Mb.out.mid)
   have HSo:Hid (secsOf b=[encSy (tabE b),encRc (tabE b) (b.map recE),chunksB b,entsBytes (tabE b) (buildP (b.map Prod.fst))]):=by show _=_;unfold secsOf;rw [if_pos Kb.out,secs_block (block_of_check Kb.out) encC_small17]
   rw [Kb.out,HSo.out] at HC1
   have hbk:=block_of_check Kb.out
   have HBk:Hid (decRc (tabE b) (encRc (tabE b) (b.map recE))=(0,b.map recE)):=decRc_back (show AscB ltS (tabE b) from tabS_asc _) (by have:=tab17 Mb.out.mid;omega) (recs_block hbk encC_small17) (sze17 Mb.out.mid Zb.out hbk).lens
   have HTa:Hid ((tabE b).length≤100000000∧AscB ltS (tabE b)):=⟨Nat.le_trans (tab17 Mb.out.mid) (by decide),tabS_asc _⟩
   have HDl:Hid ((encRc (tabE b) (b.map recE)).length≤100000000∧∀c∈encRc (tabE b) (b.map recE),c<256):=⟨encRc17 Mb.out.mid,encRc_lt (show AscB ltS (tabE b) from tabS_asc _) (by have:=tab17 Mb.out.mid;omega) (recs_block hbk encC_small17) (sze17 Mb.out.mid Zb.out hbk).lens⟩
   have HRs:=Lib.hid (recs17 Mb.out.mid)
   have HRl:Hid ((b.map recE).length=b.length):=List.length_map ..
   have HTo:Hid (totR (b.map recE)=((chunksB b).length:Int)):=(chunks_total b).symm
   have HSy2:Hid (∀w',RdB w' (.slice pb b.length cb) b→Calls Tryz.prog 21 #[.slice pb b.length cb] w' fun e w''=>∃v,e = .returned v∧OwnS w' w'' (tabE b) v):=HSy.out
   clear HSy hbk HSo
   generalize tabE b=t at *
   generalize encRc t (b.map recE)=D1 at *
   generalize encSy t=D0 at *
   generalize entsBytes t (buildP (b.map Prod.fst))=D3 at *
   generalize b.map recE=R at *
   generalize chunksB b=D2 at *
   go_wp2_with fail
   refine (HC1.out _ HT2.out Hb2.out).mono ?_
   rintro e w6 ⟨vs,rfl,hS,hB⟩
   have HB3:=Lib.hid (HB2.out.trans (hB.mono HB2.out.size))
   have HT3:=Lib.hid (I.below HT2.out hB)
   have Hb3:=Lib.hid (Hb2.out.below hB)
   clear hB HB2 HT2 Hb2
   have HS3:=Lib.hid hS
   have HV4:Hid (vs.length=4):=hS.len.trans rfl
   have HOne:Hid (∀u∈vs,u.oneCell'=true):=rdS_one17 hS
   clear hS
   go_wp2_with (refine wpList_varA arrS17 rfl rfl rfl _ _ rfl vs rfl rfl HV4.out HOne.out ?_;intro wv hk hB hs)
   have HB4:=Lib.hid (HB3.out.trans (hB.mono HB3.out.size))
   have HT4:=Lib.hid (I.below HT3.out hB)
   have Hb4:=Lib.hid (Hb3.out.below hB)
   have HS4:=Lib.hid (HS3.out.below hB)
   clear hB HB3 HT3 Hb3 HS3
   have HK4:=Lib.hid hk
   obtain ⟨g,hg⟩:∃g,w6.heap.size=g:=⟨_,rfl⟩
   rw [hg] at HK4 ⊢
   clear hk hs hg
   have HV:Hid (∃v0 v1 v2 v3,vs=[v0,v1,v2,v3]):=list4_of HV4.out
   obtain ⟨v0,v1,v2,v3,hvs⟩:=HV.out
   subst hvs
   clear HV HV4 HOne
   have hq1:=HS4.out.at_ 1 v1 D1 rfl rfl
   have hq2:=HS4.out.at_ 2 v2 D2 rfl rfl
   obtain ⟨p1,c1,hv⟩:=hq1.shape
   subst hv
   obtain ⟨p2,c2,hv⟩:=hq2.shape
   subst hv
   have HQ4:=Lib.hid hq1
   clear hq1 hq2 HS4
   have HKs:Hid (∀w':World,Blk w' g [v0,.slice p1 D1.length c1,.slice p2 D2.length c2,v3]→w'.cell? ⟨g,1,none⟩=some (.slice p1 D1.length c1)∧w'.cell? ⟨g,2,none⟩=some (.slice p2 D2.length c2)∧True):=fun w' h=>⟨by rw [h.cell];rfl,by rw [h.cell];rfl,trivial⟩
   have HBd:Hid (Below wv.heap.size wv wv.drew):=⟨rfl,rfl,rfl,Nat.le_refl _,fun _ _=>rfl⟩
   try go_wp2_with fail
   refine wp_region_takeH (fun w':World=>Blk w' g [v0,.slice p1 D1.length c1,.slice p2 D2.length c2,v3]) [1,4] [0,2,3,1,4,5,6,7,8,9] (by kernel_rfl) (by kernel_rfl) (by kernel_rfl) ?_ ?_ ?_
   ·intro c a a' w' hd h;exact ⟨hd ▸ h.1,h.2⟩
   ·exact HK4.out
   simp only [taken,List.map_cons,List.map_nil,List.getElem?_cons_succ,List.getElem?_cons_zero,Option.getD_some]
   have hB:=HBd.out
   have HB5:=Lib.hid (HB4.out.trans (hB.mono HB4.out.size))
   have HT5:=Lib.hid (I.below HT4.out hB)
   have Hb5:=Lib.hid (Hb4.out.below hB)
   have HQ5:=Lib.hid (HQ4.out.below hB)
   have HK5:=Lib.hid (HK4.out.of_same (hB.block _ HK4.out.lt))
   clear hB HB4 HT4 Hb4 HQ4 HK4
   clear HBd
   repeat (first
        | (refine takeH_skip rfl ?_; simp only [Act.put, List.setIfInBounds_toArray, List.set_cons_succ, List.set_cons_zero])
        | (refine takeH_blind rfl rfl ?_; apply Exists.intro; refine ⟨fun w => ?_, ?_⟩; (go_simp; try with_reducible rfl); simp only [Act.put, List.setIfInBounds_toArray, List.set_cons_succ, List.set_cons_zero])
        | (refine takeH_reads rfl rfl ?_; apply Exists.intro; refine ⟨fun w' hS => ?_, ?_⟩; (obtain ⟨d0, d1, d2⟩ := HKs.out w' hS; go_simp; try with_reducible rfl); simp only [Act.put, List.setIfInBounds_toArray, List.set_cons_succ, List.set_cons_zero]))
   refine takeH_call rfl rfl (fun K' hK'=>?_)
   go_wp2_with fail
   refine (HSy2.out _ Hb5.out).mono ?_
   rintro e w7 ⟨tv,rfl,hO⟩
   obtain ⟨pt,ct,hv⟩:=hO.shape
   subst hv
   have hB:=hO.bel
   have hq:=hO.rd
   clear hO
   have HB6:=Lib.hid (HB5.out.trans (hB.mono HB5.out.size))
   have HT6:=Lib.hid (I.below HT5.out hB)
   have Hb6:=Lib.hid (Hb5.out.below hB)
   have HQ6:=Lib.hid (HQ5.out.below hB)
   have HK6:=Lib.hid (HK5.out.of_same (hB.block _ HK5.out.lt))
   clear hB HB5 HT5 Hb5 HQ5 HK5
   have HTv6:=Lib.hid hq
   clear hq
   refine hK' _ _ HK6.out ?_
   clear hK' K'
   repeat (first
        | (refine takeH_skip rfl ?_; simp only [Act.put, List.setIfInBounds_toArray, List.set_cons_succ, List.set_cons_zero])
        | (refine takeH_blind rfl rfl ?_; apply Exists.intro; refine ⟨fun w => ?_, ?_⟩; (go_simp; try with_reducible rfl); simp only [Act.put, List.setIfInBounds_toArray, List.set_cons_succ, List.set_cons_zero])
        | (refine takeH_reads rfl rfl ?_; apply Exists.intro; refine ⟨fun w' hS => ?_, ?_⟩; (obtain ⟨d0, d1, d2⟩ := HKs.out w' hS; go_simp; try with_reducible rfl); simp only [Act.put, List.setIfInBounds_toArray, List.set_cons_succ, List.set_cons_zero]))
   refine takeH_call rfl rfl (fun K' hK'=>?_)
   go_wp2_with fail
   refine (ref_decode13 _ _ t D1 _ HTv6.out HTa.out.1 HTa.out.2 HQ6.out HDl.out.2 HDl.out.1).mono ?_
   rintro e w8 hG
   rw [HBk.out] at hG
   obtain ⟨⟨rv,rfl,hq,_⟩,hB⟩:=hG
   obtain ⟨pr,cr,hv⟩:=hq.shape
   subst hv
   have HB7:=Lib.hid (HB6.out.trans (hB.mono HB6.out.size))
   have HT7:=Lib.hid (I.below HT6.out hB)
   have Hb7:=Lib.hid (Hb6.out.below hB)
   have HQ7:=Lib.hid (HQ6.out.below hB)
   have HTv7:=Lib.hid (HTv6.out.below hB)
   have HK7:=Lib.hid (HK6.out.of_same (hB.block _ HK6.out.lt))
   clear hB HB6 HT6 Hb6 HQ6 HTv6 HK6
   have HR7:=Lib.hid hq
   clear hq
   rw [HRl.out]
   refine hK' _ _ HK7.out ?_
   clear hK' K'
   repeat (first
        | (refine takeH_skip rfl ?_; simp only [Act.put, List.setIfInBounds_toArray, List.set_cons_succ, List.set_cons_zero])
        | (refine takeH_blind rfl rfl ?_; apply Exists.intro; refine ⟨fun w => ?_, ?_⟩; (go_simp; try with_reducible rfl); simp only [Act.put, List.setIfInBounds_toArray, List.set_cons_succ, List.set_cons_zero])
        | (refine takeH_reads rfl rfl ?_; apply Exists.intro; refine ⟨fun w' hS => ?_, ?_⟩; (obtain ⟨d0, d1, d2⟩ := HKs.out w' hS; go_simp; try with_reducible rfl); simp only [Act.put, List.setIfInBounds_toArray, List.set_cons_succ, List.set_cons_zero]))
   refine takeH_nil ?_
   go_wp2_with fail
   have HBd:Hid (Below w8.heap.size w8 w8.drew):=⟨rfl,rfl,rfl,Nat.le_refl _,fun _ _=>rfl⟩
   try go_wp2_with fail
   refine wp_region_takeH (fun w':World=>Blk w' g [v0,.slice p1 D1.length c1,.slice p2 D2.length c2,v3]) [0,18] [0,1,2,3,4,5,6,7,8,9,10,11,12,13,14,15,16,17,19,20,21,18,22,23,24] (by kernel_rfl) (by kernel_rfl) (by kernel_rfl) ?_ ?_ ?_
   ·intro c a a' w' hd h;exact ⟨hd ▸ h.1,h.2⟩
   ·exact HK7.out
   simp only [taken,List.map_cons,List.map_nil,List.getElem?_cons_succ,List.getElem?_cons_zero,Option.getD_some]
   have hB:=HBd.out
   have HB8:=Lib.hid (HB7.out.trans (hB.mono HB7.out.size))
   have HT8:=Lib.hid (I.below HT7.out hB)
   have Hb8:=Lib.hid (Hb7.out.below hB)
   have HQ8:=Lib.hid (HQ7.out.below hB)
   have HTv8:=Lib.hid (HTv7.out.below hB)
   have HR8:=Lib.hid (HR7.out.below hB)
   have HK8:=Lib.hid (HK7.out.of_same (hB.block _ HK7.out.lt))
   clear hB HB7 HT7 Hb7 HQ7 HTv7 HR7 HK7
   clear HBd
   refine takeH_call rfl rfl (fun K' hK'=>?_)
   go_wp2_with fail
   refine (HAL.out _ HT8.out).mono ?_
   rintro e w9 ⟨rfl,hB⟩
   have HB9:=Lib.hid (HB8.out.trans (hB.mono HB8.out.size))
   have HT9:=Lib.hid (I.below HT8.out hB)
   have Hb9:=Lib.hid (Hb8.out.below hB)
   have HQ9:=Lib.hid (HQ8.out.below hB)
   have HTv9:=Lib.hid (HTv8.out.below hB)
   have HR9:=Lib.hid (HR8.out.below hB)
   have HK9:=Lib.hid (HK8.out.of_same (hB.block _ HK8.out.lt))
   clear hB HB8 HT8 Hb8 HQ8 HTv8 HR8 HK8
   refine hK' _ _ HK9.out ?_
   clear hK' K'
   repeat (first
        | (refine takeH_skip rfl ?_; simp only [Act.put, List.setIfInBounds_toArray, List.set_cons_succ, List.set_cons_zero])
        | (refine takeH_blind rfl rfl ?_; apply Exists.intro; refine ⟨fun w => ?_, ?_⟩; (go_simp; try with_reducible rfl); simp only [Act.put, List.setIfInBounds_toArray, List.set_cons_succ, List.set_cons_zero])
        | (refine takeH_reads rfl rfl ?_; apply Exists.intro; refine ⟨fun w' hS => ?_, ?_⟩; (obtain ⟨d0, d1, d2⟩ := HKs.out w' hS; go_simp; try with_reducible rfl); simp only [Act.put, List.setIfInBounds_toArray, List.set_cons_succ, List.set_cons_zero]))
   refine takeH_call rfl rfl (fun K' hK'=>?_)
   go_wp2_with fail
   refine (ref_total17 _ R _ (HRl.out ▸ HR9.out) HRs.out.1 (fun r hr=>(HRs.out.2 r hr).2)).mono ?_
   rintro e w10 ⟨rfl,rfl⟩
   rw [HTo.out]
   refine hK' _ _ HK9.out ?_
   clear hK' K'
   repeat (first
        | (refine takeH_skip rfl ?_; simp only [Act.put, List.setIfInBounds_toArray, List.set_cons_succ, List.set_cons_zero])
        | (refine takeH_blind rfl rfl ?_; apply Exists.intro; refine ⟨fun w => ?_, ?_⟩; (go_simp; try with_reducible rfl); simp only [Act.put, List.setIfInBounds_toArray, List.set_cons_succ, List.set_cons_zero])
        | (refine takeH_reads rfl rfl ?_; apply Exists.intro; refine ⟨fun w' hS => ?_, ?_⟩; (obtain ⟨d0, d1, d2⟩ := HKs.out w' hS; go_simp; try with_reducible rfl); simp only [Act.put, List.setIfInBounds_toArray, List.set_cons_succ, List.set_cons_zero]))
   refine takeH_nil ?_
   go_wp2_with fail
   go_ret
   exact ⟨rfl,HB9.out⟩
end Go.Proofs.YtdcgbgecbeegmaaGreatDoor.encodeLengths
end
section
namespace Go.Proofs.YtdcgbgecbeegmaaGreatDoor
open Go Go.RowKit Go.ChangeShapes
def FlatW (P:Program) (e:TypeId) (sz:Nat) {α:Type} (f:α→List Value) (ok:World→α→Prop):Prop:=
 P.cellsOf e=sz∧∀(H:Type) (enc:TypeId × Value→H) (w:World) (base:Nat) (spare:Nat→Bool) (held:Bool) (fuel:Nat) (cs:List Value) (x:DataW H × List MemPlace),
  DataW.trod enc P w base spare held fuel e cs=some x→∃a,ok w a∧cs=f a
theorem Flat.wide {P:Program} {e:TypeId} {sz:Nat} {α:Type} {f:α→List Value} {ok:α→Prop} (h:Flat P e sz f ok):FlatW P e sz f (fun _=>ok):=
 ⟨h.1,fun H enc w base spare held fuel cs x hx=>h.2 H enc w base spare held fuel cs x hx⟩
theorem flatW_struct2 {P:Program} {e:TypeId} {f0 f1:Field} {s0 s1:Nat} {α β:Type} {g0:α→List Value} {g1:β→List Value} {k0:World→α→Prop} {k1:World→β→Prop}
  (he:P.underlying e=some (.struct #[f0,f1])) (hc:P.cellsOf e=s0+s1) (o0:f0.offset=0) (o1:f1.offset=s0) (h0:FlatW P f0.type s0 g0 k0) (h1:FlatW P f1.type s1 g1 k1) :
  FlatW P e (s0+s1) (fun a:α × β=>g0 a.1++g1 a.2) (fun w a=>k0 w a.1∧k1 w a.2):=
 ⟨hc,fun H enc w base spare held fuel cs x hx=>by
  obtain ⟨y0,y1,n,_,hl,t0,t1⟩:=trod_struct2 he hx
  rw [o0,h0.1] at t0
  rw [o1,h1.1] at t1
  obtain ⟨a,ha,ea⟩:=h0.2 H enc w base spare held n _ _ t0
  obtain ⟨b,hb,eb⟩:=h1.2 H enc w base spare held n _ _ t1
  refine ⟨(a,b),⟨ha,hb⟩,?_⟩
  show cs=g0 a++g1 b
  rw [← ea,← eb]
  simp only [List.drop_zero]
  rw [List.take_of_length_le (l:=cs.drop s0) (by rw [List.length_drop,hl,hc];omega),List.take_append_drop]⟩
theorem open_rowW {P:Program} {t e:TypeId} {sz:Nat} (hsz:0<sz) {α:Type} [Inhabited α] {f:α→List Value} {ok:World→α→Prop} (hF:FlatW P e sz f ok) (ht:P.underlying t=some (.slice e))
  {H:Type} {enc:TypeId × Value→H} {w:World} {base:Nat} {spare:Nat→Bool} {held:Bool} {fuel:Nat} {cs:List Value} {x:DataW H × List MemPlace} (h:DataW.trod enc P w base spare held fuel t cs=some x) :
  ∃(v:Value) (l:List α),cs=[v]∧(∀a∈l,ok w a)∧Rd w sz v l.length (l.flatMap f)∧((x.1 = .nil∧l.length=0)∨∃elems rest,x.1 = .slice elems rest∧elems.length=l.length):=by
 rcases Deep.open_slice ht h with ⟨rfl,rfl⟩ | ⟨a,len,cap,m,n',D,Pl,rfl,_,hl,hm,hmm,rfl,hel⟩
 ·exact ⟨_,[],rfl,by simp,Rd.nil w sz,Or.inl ⟨rfl,rfl⟩⟩
 ·have hml:len≤m:=by rw [hmm];split<;>omega
  have hch:∀i,i<len→∃b:α,ok w b∧(f b).length=sz∧∀(j:Nat) (u:Value),(f b)[j]? = some u→w.cell? (a.add (i*sz+j))=some u:=by
   intro i hi
   obtain ⟨cs',h1,h2⟩:=hel i (by omega)
   rw [hF.1] at h1
   obtain ⟨b,hb,rfl⟩:=hF.2 H enc w base spare held n' _ _ h2
   obtain ⟨h3,h4⟩:=cells_get h1
   exact ⟨b,hb,h3,fun j u hu=>by rw [← Deep.add_add];exact h4 j u hu⟩
  obtain ⟨g,hg⟩:=Deep.choose_lt hch
  have hlen:∀b∈(List.range len).map g,(f b).length=sz:=by
   intro b hb
   obtain ⟨i,hi,rfl⟩:=List.mem_map.1 hb
   exact (hg i (List.mem_range.1 hi)).2.1
  refine ⟨.slice (some a) len cap,(List.range len).map g,rfl,?_,⟨some a,cap,by simp,?_,by simpa using hl,hm,(fun e=>by cases e),?_⟩,Or.inr ⟨_,_,rfl,by simp⟩⟩
  ·intro b hb
   obtain ⟨i,hi,rfl⟩:=List.mem_map.1 hb
   exact (hg i (List.mem_range.1 hi)).1
  ·rw [flatMap_len f _ hlen]
  ·intro ad e j u hu
   cases e
   have hj:j=j / sz*sz+j % sz:=by rw [Nat.mul_comm];exact (Nat.div_add_mod j sz).symm
   rw [hj] at hu
   obtain ⟨b,hb,hu'⟩:=flatMap_get f _ hlen (j / sz) (j % sz) (Nat.mod_lt _ hsz) u hu
   have hlt:j / sz<len:=by
    rcases Nat.lt_or_ge (j / sz) len with h | h
    ·exact h
    ·rw [List.getElem?_eq_none (by simpa using h)] at hb;cases hb
   rw [List.getElem?_map,List.getElem?_range hlt] at hb
   simp at hb
   subst hb
   rw [hj]
   exact (hg (j / sz) hlt).2.2 _ u hu'
theorem flatW_slice {P:Program} {t e:TypeId} {sz:Nat} (hsz:0<sz) {α:Type} [Inhabited α] {f:α→List Value} {ok:World→α→Prop} (hF:FlatW P e sz f ok) (ht:P.underlying t=some (.slice e)) (hc:P.cellsOf t=1) :
  FlatW P t 1 (fun a:Value × List α=>[a.1]) (fun w a=>(∀x∈a.2,ok w x)∧Rd w sz a.1 a.2.length (a.2.flatMap f)):=
 ⟨hc,fun H enc w base spare held fuel cs x hx=>by
  obtain ⟨v,l,rfl,h1,h2,_⟩:=open_rowW hsz hF ht hx
  exact ⟨(v,l),⟨h1,h2⟩,rfl⟩⟩
theorem open_flatW {P:Program} {t e:TypeId} {sz:Nat} (hsz:0<sz) {α:Type} [Inhabited α] {f:α→List Value} {ok:World→α→Prop} (hF:FlatW P e sz f ok) (ht:P.underlying t=some (.slice e))
  {H:Type} {enc:TypeId × Value→H} {w:World} {base:Nat} {spare:Nat→Bool} {held:Bool} {v:Value} {d:DataW H} {ps:List MemPlace} {n c:Nat} {p:Option Addr} (hv:v = .slice p n c)
  (h:DataW.Trod enc P w base spare held t v d ps) :
  ∃l:List α,(∀a∈l,ok w a)∧l.length=n∧Rd w sz v l.length (l.flatMap f)∧((d = .nil∧l.length=0)∨∃elems rest,d = .slice elems rest∧elems.length=l.length):=by
 subst hv
 obtain ⟨fuel,h⟩:=h
 obtain ⟨v,l,hcs,h1,h2,h3⟩:=open_rowW hsz hF ht h
 simp [Value.cells] at hcs
 subst hcs
 have h2':=h2
 obtain ⟨_,_,e,_⟩:=h2'
 simp only [Value.slice.injEq] at e
 exact ⟨l,h1,e.2.1.symm,h2,h3⟩
end Go.Proofs.YtdcgbgecbeegmaaGreatDoor
end
section
namespace Go.Proofs.YtdcgbgecbeegmaaGreatDoor
open Go Go.RowKit
def labCell12 (a:Lab):List Value:=[.string a.1,.string a.2]
def labOk12 (a:Lab):Prop:=a.1.size≤9223372036854775807∧a.2.size≤9223372036854775807
theorem flat_lab12:Flat Tryz.prog 108 2 labCell12 labOk12:=
 (flat_struct2 Tryz.underlying108 (by kernel_rfl) rfl rfl (flat_string Tryz.underlying9 (by kernel_rfl)) (flat_string Tryz.underlying9 (by kernel_rfl))).map fun a h=>
  ⟨a,⟨by have:=h.1;unfold maxLen at this;omega,by have:=h.2;unfold maxLen at this;omega⟩,rfl⟩
def samCell12 (a:Sam):List Value:=[.int .i64 a.1,.int .u64 (a.2:Int)]
theorem flat_sam12:Flat Tryz.prog 110 2 samCell12 sampleOk:=
 (flat_struct2 Tryz.underlying110 (by kernel_rfl) rfl rfl (flat_i64 Tryz.underlying2 (by kernel_rfl)) (flat_u64 Tryz.underlying81 (by kernel_rfl))).map fun a h=>⟨a,h,rfl⟩
abbrev SerA:=(Value × List Lab) × (Value × List Sam)
def serCell (a:SerA):List Value:=[a.1.1]++[a.2.1]
def serOk (w:World) (a:SerA):Prop:=((∀x∈a.1.2,labOk12 x)∧Rd w 2 a.1.1 a.1.2.length (a.1.2.flatMap labCell12))∧((∀x∈a.2.2,sampleOk x)∧Rd w 2 a.2.1 a.2.2.length (a.2.2.flatMap samCell12))
theorem flat_ser:FlatW Tryz.prog 51 2 serCell serOk:=
 flatW_struct2 Tryz.underlying51 (by kernel_rfl) rfl rfl (flatW_slice (by decide) flat_lab12.wide Tryz.underlying48 (by kernel_rfl)) (flatW_slice (by decide) flat_sam12.wide Tryz.underlying49 (by kernel_rfl))
theorem series_in {w:World} {v:Value} {l:List SerA} (ok:∀a∈l,serOk w a) (hr:Rd w 2 v l.length (l.flatMap serCell)):∃b:List Ser,Sized b∧RdB w v b:=by
 refine ⟨l.map fun a=>(a.1.2,a.2.2),fun s hs=>?_,⟨l.map fun a=>(a.1.1,a.2.1),?_,by simp,fun i h s hi hj=>?_⟩⟩
 ·obtain ⟨a,ha,rfl⟩:=List.mem_map.1 hs
  exact ⟨(ok a ha).1.1,(ok a ha).2.1⟩
 ·rw [List.length_map,two,List.flatMap_map];exact hr
 ·rw [List.getElem?_map] at hi hj
  cases e:l[i]? with
  | none=>rw [e] at hi;cases hi
  | some a=>
   rw [e] at hi hj;cases hi;cases hj
   have h:=ok a (List.mem_of_getElem? e)
   exact ⟨h.1.2,h.2.2⟩
theorem equal_any (a b:Value) (n m:Nat) (l k:List Nat) (w:World) (ha:Rd w 1 a n (u8s l)) (hb:Rd w 1 b m (u8s k)) (hl:∀x∈l,x<256) (hk:∀x∈k,x<256) :
  Calls Tryz.prog 13 #[a,b] w fun e w'=>e = .returned (.bool (decide (l=k)))∧w=w':=by
 have e1:=ha.conv (P:=Tryz.prog) 25 5 9 Tryz.underlying25 Tryz.underlying5 Tryz.underlying9
 have e2:=hb.conv (P:=Tryz.prog) 25 5 9 Tryz.underlying25 Tryz.underlying5 Tryz.underlying9
 have e3:=strOf_inj hl hk
 have E3:=Lib.hid e3
 clear ha hb hl hk e3
 generalize strOf l=sl at *
 generalize strOf k=sk at *
 go_enter Tryz.func13,Tryz.ntmps13
 go_wp2
 go_ret
 exact ⟨congrArg (fun b=>Ending.returned (.bool b)) E3.out,rfl⟩
def l1:ByteArray:=⟨#[49]⟩
def l2:ByteArray:=⟨#[50]⟩
theorem small_none12:Small [([],[])]:=⟨by decide,by decide,fun s hs=>by rw [List.mem_singleton.1 hs];decide⟩
theorem sized_none12:Sized [([],[])]:=fun s hs=>by rw [List.mem_singleton.1 hs];exact ⟨fun x h=>(by cases h),fun x h=>(by cases h)⟩
end Go.Proofs.YtdcgbgecbeegmaaGreatDoor
end
section
set_option maxRecDepth 20000
namespace Go.Proofs.YtdcgbgecbeegmaaGreatDoor
open Go Go.RowKit
variable {G:Nat} {T:World→Prop}
end Go.Proofs.YtdcgbgecbeegmaaGreatDoor
end
section
set_option maxRecDepth 20000
namespace Go.Proofs.YtdcgbgecbeegmaaGreatDoor
open Go Go.RowKit
variable {G:Nat} {T:World→Prop}
def secs0:List (List Nat):=[[0],[0],[],[0]]
theorem tab0_17:tabE []=[]:=rfl
theorem secsE_nil17:secsE []=secs0:=by
 have h1:(encSyR (tabE [])).2=[0]:=by
  rw [tab0_17,encSyR,if_neg (not_not_intro (show Fits [] from fun s hs=>by cases hs)),if_neg (not_not_intro (show AscB ltS [] from List.Pairwise.nil))]
  simp [encSy,groups_small]
 have h2:(encRcR (tabE []) (List.map recE [])).2=[0]:=by
  rw [tab0_17,encRcR,if_pos (show recsErr [] (List.map recE [])=0 from rfl)]
  simp [encRc,groups_small]
 have h3:(encPoR (tabE []) (buildP (List.map Prod.fst ([]:List Ser)))).2=[0]:=by
  rw [tab0_17,encPoR,if_pos (show ∀e∈buildP (List.map Prod.fst ([]:List Ser)),labIn [] e.1 from fun e he=>by cases he)]
  show entsBytes [] []=[0]
  simp [entsBytes,groups_small]
 rw [secsE,h1,h2,h3]
 rfl
theorem check0_17:checkB []=0:=rfl
theorem frame0_17 (id:Nat):(frameOf id [0]).length=7∧(frameOf id []).length=6:=by
 constructor
 ·rw [frame_len17];simp [groups_small]
 ·rw [frame_len17];simp [groups_small]
theorem asm0_17:(asmL secs0).length=50:=by
 have hp:(putS 1 secs0).length=27:=by simp [putS,secs0,(frame0_17 _).1,(frame0_17 _).2]
 have ho:offs 1 5 secs0=[5,12,19,25]:=by simp [offs,secs0,(frame0_17 _).1,(frame0_17 _).2]
 rw [asmL,List.length_append,withCrc_length,bodyL,List.length_append,List.length_append,hp,ho,frameOf,withCrc_length,contents]
 simp [bytesOf,groups_small,headL,tailL]
theorem raw0_17:rawBl [([],[])]=(21,[]):=rfl
theorem enc0_17:encBl []=(0,asmL secs0):=by rw [encBl_ok check0_17,secsE_nil17]
theorem rdB_nil17 (w:World):RdB w (.slice none 0 0) []:=⟨⟨[],Rd.nil _ _,rfl,fun i h s hi _=>by simp at hi⟩⟩
theorem rdB_none17 {w:World} {m:Nat} (h:Blk w m [.slice none 0 0,.slice none 0 0]):RdB w (.slice (some ⟨m,0,none⟩) 1 1) [([],[])]:=
 ⟨⟨[(.slice none 0 0,.slice none 0 0)],Rd.of_blk h rfl (by simp [maxLen]),rfl,fun i hd s hi hj=>by
  cases i with
  | zero=>
   simp at hi hj
   subst hi;subst hj
   exact ⟨Rd.nil _ _,Rd.nil _ _⟩
  | succ i=>simp at hi⟩⟩
theorem small_nil17:Small []:=⟨by decide,by decide,fun s hs=>by cases hs⟩
theorem sized_nil17:Sized []:=fun s hs=>by cases hs
set_option maxHeartbeats 4000000 in
theorem alive_of17 (I:EnIf G T) (w:World) (hT:T w):Calls Tryz.prog 10 #[] w fun e w'=>e = .returned (.bool true)∧Below w.heap.size w w':=by
 have HT:=Lib.hid hT
 have HC1:=Lib.hid (fun w' hT hR=>I.encode (.slice none 0 0) [] w' hT hR sized_nil17 small_nil17.mid)
 have HC2:=Lib.hid (fun w' hT hR=>I.sections (.slice none 0 0) [] w' hT hR sized_nil17 small_nil17.mid)
 have HC3:=Lib.hid (fun w' v hT hR=>I.raw v [([],[])] w' hT hR sized_none12 small_none12)
 have hso:secsOf []=secs0:=by unfold secsOf;rw [if_pos check0_17,secsE_nil17]
 have hlen:=asm0_17
 rw [enc0_17] at HC1
 rw [raw0_17] at HC3
 rw [hso,check0_17] at HC2
 generalize asmL secs0=B at *
 have HLn:=Lib.hid hlen
 clear hT hlen hso
 go_enter Tryz.func10,Tryz.ntmps10
 go_wp2_with fail
 refine (HC1.out _ HT.out (rdB_nil17 _)).mono ?_
 rintro e w1 ⟨⟨r,rfl,hR,_⟩,hB⟩
 have HB1:=Lib.hid hB
 have HT1:=Lib.hid (I.below HT.out hB)
 obtain ⟨p1,c1,hv⟩:∃p c,r = .slice p 50 c:=by obtain ⟨p,c,e⟩:=hR.shape;exact ⟨p,c,by rw [e];simp only;rw [HLn.out]⟩
 subst hv
 clear hR hB HC1 HT
 go_wp2_with fail
 refine (HC2.out _ HT1.out (rdB_nil17 _)).mono ?_
 rintro e w2 ⟨vs,rfl,hS,hB⟩
 have HB2:=Lib.hid (HB1.out.trans (hB.mono HB1.out.size))
 have HT2:=Lib.hid (I.below HT1.out hB)
 obtain ⟨v0,v1,v2,v3,hvs⟩:=list4_of (hS.len.trans rfl:vs.length=4)
 subst hvs
 have hq0:=hS.at_ 0 v0 [0] rfl rfl
 have hq2:=hS.at_ 2 v2 [] rfl rfl
 have HOne:=Lib.hid (rdS_one17 hS)
 obtain ⟨p0,c0,hv⟩:=hq0.shape
 subst hv
 obtain ⟨p2,c2,hv⟩:=hq2.shape
 subst hv
 have HQ2:=Lib.hid hq0
 clear hS hB hq0 hq2 HB1 HT1 HC2
 simp only [List.length_cons,List.length_nil,Nat.zero_add] at HOne HQ2 ⊢
 go_wp2_with (refine wpList_varA arrS17 rfl rfl rfl _ _ rfl [.slice p0 1 c0,v1,.slice p2 0 c2,v3] rfl rfl rfl HOne.out ?_;intro w3 hk hb hs)
 have HB3:=Lib.hid (HB2.out.trans (hb.mono HB2.out.size))
 have HT3:=Lib.hid (I.below HT2.out hb)
 have HK3:=Lib.hid hk
 have HQ3:=Lib.hid (HQ2.out.below hb)
 obtain ⟨g,hg⟩:∃g,w2.heap.size=g:=⟨_,rfl⟩
 have HSz:Hid (w3.heap.size=g+1):=by show _=_;rw [← hg];exact hs
 rw [hg] at HK3 ⊢
 clear hk hb hs hg HB2 HT2 HQ2 HOne
 try go_wp2_with fail
 have k4:Blk (w3.alloc (.cells #[.slice none 0 0,.slice none 0 0] 51)) (g+1) [.slice none 0 0,.slice none 0 0]:=by rw [← HSz.out];exact Blk.new w3 _ _
 have b4:Below w3.heap.size w3 (w3.alloc (.cells #[.slice none 0 0,.slice none 0 0] 51)):=(Below.refl _ _).alloc (Nat.le_refl _) _
 have HB4:=Lib.hid (HB3.out.trans (b4.mono HB3.out.size))
 have HT4:=Lib.hid (I.below HT3.out b4)
 have HK4:=Lib.hid (HK3.out.alloc (.cells #[.slice none 0 0,.slice none 0 0] 51))
 have HQ4:=Lib.hid (HQ3.out.below b4)
 refine (HC3.out _ _ HT4.out (rdB_none17 k4)).mono ?_
 rintro e w5 ⟨⟨r,rfl,hR,_⟩,hB⟩
 have HB5:=Lib.hid (HB4.out.trans (hB.mono HB4.out.size))
 have HK5:=Lib.hid (HK4.out.of_same (hB.block _ HK4.out.lt))
 have HQ5:=Lib.hid (HQ4.out.below hB)
 obtain ⟨p5,c5,hv⟩:=hR.shape
 subst hv
 clear k4 b4 hR hB HB4 HT4 HK4 HQ4 HB3 HT3 HK3 HQ3 HC3 HSz
 have d0:w5.cell? ⟨g,0,none⟩=some (.slice p0 1 c0):=by rw [HK5.out.cell];rfl
 have b6:Below w5.heap.size w5 (w5.alloc (.cells #[.int .u8 0] 5)):=(Below.refl _ _).alloc (Nat.le_refl _) _
 have HB6:=Lib.hid (HB5.out.trans (b6.mono HB5.out.size))
 have HK6:=Lib.hid (HK5.out.alloc (.cells #[.int .u8 0] 5))
 have HQ6:=Lib.hid (HQ5.out.below b6)
 have HL6:Hid (Rd (w5.alloc (.cells #[.int .u8 0] 5)) 1 (.slice (some ⟨w5.heap.size,0,none⟩) 1 1) 1 (u8s [0])):=Rd.of_blk (Blk.new w5 #[.int .u8 0] 5) rfl (by simp [maxLen])
 go_wp2_with fail
 refine (equal_any _ _ _ _ [0] [0] _ HQ6.out HL6.out (by decide) (by decide)).mono ?_
 rintro e w7 ⟨rfl,rfl⟩
 rw [decide_eq_true (rfl:[0]=[0])]
 have d2:(w5.alloc (.cells #[.int .u8 0] 5)).cell? ⟨g,2,none⟩=some (.slice p2 0 c2):=by rw [HK6.out.cell];rfl
 clear d0 b6
 go_wp2_with fail
 go_ret
 exact ⟨rfl,HB6.out⟩
end Go.Proofs.YtdcgbgecbeegmaaGreatDoor
end
section
namespace Go.Proofs.YtdcgbgecbeegmaaGreatDoor
open Go Go.RowKit Go.Shelf
def KeepAt (K:Nat→Prop) (A B:World):Prop:=∀k,K k→B.heap[k]? = A.heap[k]?
theorem keepAt_t {K:Nat→Prop} {A B C:World} (h:KeepAt K A B) (k:KeepAt K B C):KeepAt K A C:=fun j hj=>(k j hj).trans (h j hj)
theorem keepAt_b {K:Nat→Prop} {w:World} (hK:∀k,K k→k<w.heap.size) (W:World) (l:Nat) (o o':Obj) (hl:w.heap.size≤l) (h:W.heap[l]? = some o) (_:o.isCells=false) (_:o.isWalk=false):KeepAt K W (W.putObj l o'):=fun k hk=>by
 have h1:=hK k hk
 have h2:=(Array.getElem?_eq_some_iff.1 h).1
 exact (grownBy_putObj' W l o').block k (by omega) (fun e=>by cases e;omega)
theorem KeepAt.cell {K:Nat→Prop} {A B:World} (h:KeepAt K A B) {b:Nat} (hb:K b) (i:Nat):B.cell? ⟨b,i,none⟩=A.cell? ⟨b,i,none⟩:=by
 unfold World.cell?
 rw [h b hb]
theorem KeepAt.rd {K:Nat→Prop} {A B:World} (h:KeepAt K A B) {sz:Nat} {v:Value} {n:Nat} {xs:List Value} (hr:Rd A sz v n xs) (hv:∀k,v.ownBlock=some k→K k):Rd B sz v n xs:=by
 refine hr.of_cells fun a u hu ⟨p,hp,hab⟩=>?_
 have hk:K a.block:=hv _ (by rw [hp,hab];rfl)
 rw [← hu]
 exact World.cell?_of_block (h _ hk)
theorem grown_drewN (w:World) (n:Nat):w.grownBy (w.drewN n) none:=⟨rfl,rfl,rfl,Nat.le_refl _,fun _ _ _=>rfl⟩
theorem grown_below {w w':World} (h:Below w.heap.size w w'):w.grownBy w' none:=⟨h.os,h.tape,h.output,h.size,fun k hk _=>h.block k hk⟩
theorem keepAt_below {K:Nat→Prop} {w A B:World} (h:KeepAt K w A) (hK:∀k,K k→k<w.heap.size) (hb:Below A.heap.size A B):KeepAt K w B:=fun k hk=>by
 have h1:=h k hk
 obtain ⟨o,ho⟩:∃o,w.heap[k]? = some o:=⟨_,Array.getElem?_eq_getElem (hK k hk)⟩
 rw [ho] at h1
 exact (hb.block k (Array.getElem?_eq_some_iff.1 h1).1).trans (h k hk)
end Go.Proofs.YtdcgbgecbeegmaaGreatDoor
end
section
namespace Go.Proofs.YtdcgbgecbeegmaaGreatDoor
open Go Go.RowKit
structure Str (P:Program) (t:TypeId) (n:Nat) (zs:List Value):Prop where
 ht:∃d,P.underlying t=some d∧manyCells d=true
 hi:∃i,P.info? t=some i∧i.zero=some (.agg zs.toArray)∧i.size=n
 hz:zs.length=n
theorem Str.mk' {P:Program} {t:TypeId} {n:Nat} {zs:List Value} {d:TypeDesc} (ht:P.underlying t=some d) (hd:manyCells d=true) (hi:(P.info? t).map (fun i=>(i.zero,i.size))=some (some (.agg zs.toArray),n)) (hz:zs.length=n):Str P t n zs:=by
 obtain ⟨i,h1,h2⟩:=Option.map_eq_some_iff.1 hi
 simp only [Prod.mk.injEq] at h2
 exact ⟨⟨d,ht,hd⟩,⟨i,h1,h2.1,h2.2⟩,hz⟩
theorem Blk.rangeAt {w:World} {g:Nat} {cs:List Value} (h:Blk w g cs):w.rangeAt g 0 cs:=fun j v hv=>by rw [Nat.zero_add,h.cell];simpa using hv
section
variable {P:Program} {ops:Array Oper} {rest:List Oper} {o:Oper} {a:Act} {w:World} {Q:Exit→Act→World→Prop} {t:TypeId} {n:Nat} {zs:List Value}
theorem wpList_allocS (hA:Str P t n zs) (hg:o.guard=none) (ho:o.op = .alloc t)
  (h:∀w',Blk w' w.heap.size zs→Below w.heap.size w w'→w'.heap.size=w.heap.size+1→wpList P ops Q rest (a.put o.dst (.pointer (some ⟨w.heap.size,0,none⟩))) w'):wpList P ops Q (o::rest) a w:=by
 obtain ⟨i,hi,hz,hs⟩:=hA.hi
 refine wpList_plain hg fun K hK=>?_
 have hzv:(zeroValue t).run P w = .ok (.agg zs.toArray) w:=by simp [zeroValue,typeInfo,hi,hz]
 unfold Oper.wp execOp
 simp only [ho,Sem.run_bind,Instr.alloc,hzv,newVar,newRow,run_newObj_alloc,Sem.run_pure,Result.andThen_ok]
 exact hK _ _ (h _ (by simpa [Value.cells] using Blk.new w zs.toArray t) ((Below.refl _ _).alloc (Nat.le_refl _) _) (by simp))
theorem wpList_storeS (hA:Str P t n zs) (hgd:o.guard=none) (x y:Operand) (ho:o.op = .store t x y) (g:Nat) (hx:a.eval x = .pointer (some ⟨g,0,none⟩)) (cs old:List Value) (hy:a.eval y = .agg cs.toArray)
  (hb:Blk w g old) (hold:old.length=n) (hl:cs.length=n) (h1:∀u∈cs,u.oneCell'=true)
  (h:∀w',Blk w' g cs→Mods (fun k=>k=g) w w'→w'.heap.size=w.heap.size→wpList P ops Q rest (a.put o.dst undef) w'):wpList P ops Q (o::rest) a w:=by
 obtain ⟨u,hg⟩:=hb
 obtain ⟨i,hi,_,hs⟩:=hA.hi
 refine wpList_store_row hgd t x y ho g cs.toArray hx hy u old.toArray hg (by rw [hi];simp [hs,hl]) (by simp [hold,hl]) (by simpa using h1) ?_
 exact h _ ⟨u,setRow_heap w g _ _ u _ hg⟩ (mods_setRow w g _) (by simp)
theorem run_loadS (hA:Str P t n zs) (g:Nat) (cs:List Value) (hb:Blk w g cs) (hl:cs.length=n):(loadVar t ⟨g,0,none⟩).run P w = .ok (.agg cs.toArray) w:=by
 obtain ⟨i,hi,_,hs⟩:=hA.hi
 obtain ⟨d,hu,hd⟩:=hA.ht
 exact run_loadVar_mid w g 0 t cs d hb.rangeAt hu (by cases d<;>simp_all [manyCells,TypeDesc.isRow]) (by rw [hi];simp [hs,hl])
theorem resultsS (hA:Str P t n zs) {fn:Func} {p:Tmp} (h:fn.results = #[.cell p t]) (tmps:Array Value) (g:Nat) (hp:tmps.getD p undef = .pointer (some ⟨g,0,none⟩)) (cs:List Value) (hb:Blk w g cs) (hl:cs.length=n) :
  (results fn tmps).run P w = .ok (.agg cs.toArray) w:=by
 have hp':tmps[p]?.getD undef = .pointer (some ⟨g,0,none⟩):=by simpa using hp
 simp [results,h,hp',asAddr,run_loadS hA g cs hb hl]
theorem resultsS2 (hA:Str P t n zs) {fn:Func} {p u:Tmp} (h:fn.results = #[.cell p t,.tmp u]) (tmps:Array Value) (g:Nat) (hp:tmps.getD p undef = .pointer (some ⟨g,0,none⟩)) (cs:List Value) (hb:Blk w g cs) (hl:cs.length=n) :
  (results fn tmps).run P w = .ok (.tuple #[.agg cs.toArray,tmps.getD u undef]) w:=by
 have hp':tmps[p]?.getD undef = .pointer (some ⟨g,0,none⟩):=by simpa using hp
 simp [results,h,hp',asAddr,run_loadS hA g cs hb hl]
end
end Go.Proofs.YtdcgbgecbeegmaaGreatDoor
end
section
set_option maxRecDepth 100000
namespace Go.Proofs.YtdcgbgecbeegmaaGreatDoor
open Go Go.RowKit Go.Shelf
attribute [local go_sem] Oper.semAt_some
def cntC (L:Nat):Nat:=(L+119) / 120
abbrev Pc (L:Nat):={ k:Nat // k*120<L }
def pnum {L:Nat} (x:Pc L):Nat:=x.1
def pnums {L:Nat} (l:List (Pc L)):List Nat:=l.map pnum
def partVC (q:Option Addr) (L k:Nat):Value:=.slice (q.map (·.add (k*120*2))) (min 120 (L-k*120)) (min 120 (L-k*120))
theorem new_chunk (p:Option Addr) (m c:Nat) (w:World) (n:Nat) :
  CallsIn Fence.wide n Tryz.prog 194 #[.slice p m c,.int .i64 120] w fun e w'=>e = .returned (.func (.func 242) #[] #[.pointer (some ⟨w.heap.size,0,none⟩),.pointer (some ⟨w.heap.size+1,0,none⟩)])∧w'=(w.alloc (.cells #[.slice p m c] 49)).alloc (.cells #[.int .i64 120] 3):=by
 refine callsIn_wide.2 ?_
 go_enter Tryz.func194,Tryz.ntmps194
 go_wp2_with fail
 go_ret
 exact ⟨rfl,rfl⟩
set_option maxHeartbeats 2000000 in
theorem chunk_gives (n:Nat) (hn:1≤n) (b1 b2:Nat) (q:Option Addr) (L c:Nat) (w:World) (hc:w.cell? ⟨b1,0,none⟩=some (.slice q L c)) (hd:w.cell? ⟨b2,0,none⟩=some (.int .i64 120)) (hL:L≤1000000) (hLc:L≤c) (hcm:c≤maxLen) :
  SeqStopsK Fence.wide n Tryz.prog 242 #[.pointer (some ⟨b1,0,none⟩),.pointer (some ⟨b2,0,none⟩)] (fun x:Pc L=>#[partVC q L (pnum x)]) (KeepAt (fun k=>k=b1∨k=b2)) (fun ys=>pnums ys=List.range (cntC L)) (fun _=>True) (cntC L) w:=by
 intro l J Jx W hW hJ hJx hY h0
 have h1:b1<w.heap.size:=World.block_lt_of_cell? w _ hc
 have h2:b2<w.heap.size:=World.block_lt_of_cell? w _ hd
 have HK0:Hid (KeepAt (fun k=>k=b1∨k=b2) w W):=fun k hk=>hW.block k (by rcases hk with e | e<;>omega)
 have HC:=Lib.hid hc;have HD:=Lib.hid hd
 have HJ:=Lib.hid hJ
 have HY:=Lib.hid hY
 have HL:Hid (L≤1000000∧L≤c∧c≤maxLen):=⟨hL,hLc,hcm⟩
 clear hc hd hJ hY h1 h2 hLc hcm
 obtain ⟨K,hK⟩:∃K:Nat→Prop,(fun k=>k=b1∨k=b2)=K:=⟨_,rfl⟩
 have HKb:Hid (K b1∧K b2):=by rw [← hK];exact ⟨Or.inl rfl,Or.inr rfl⟩
 rw [hK] at HK0 HY
 clear hK
 refine callsIn_of_wp Tryz.func242 rfl trivial ?_ rfl
 simp only [Tryz.ntmps242,List.size_toArray,List.length_cons,List.length_nil,Nat.reduceAdd,Nat.reduceSub,Array.replicate_succ,Array.replicate_zero,List.push_toArray,List.append_toArray,List.nil_append,List.cons_append]
 gi_wp2
 gi_loopw [4] (fun iv wr=>∃(k:Nat) (pre:List (Pc L)),k≤cntC L∧iv = .int .i64 ((k*120:Nat):Int)∧Hid (pnums pre=List.range k)∧Hid (J pre wr∧KeepAt K w wr)) (fun iv _=>L+120-(intOf iv).toNat)
 case atStart=>exact ⟨0,[],Nat.zero_le _,rfl,rfl,h0,HK0.out⟩
 case round=>
  obtain ⟨k,pre,hk,rfl,HP,HI⟩:=hrel
  have c1:=(HI.out.2.cell HKb.out.1 0).trans HC.out
  have c2:=(HI.out.2.cell HKb.out.2 0).trans HD.out
  obtain ⟨i,hi⟩:∃i,k*120=i:=⟨_,rfl⟩
  have HIk:=Lib.hid hi
  rw [hi]
  clear hi
  have hib:(i:Int)≤1000200:=by have:=HIk.out;have:=HL.out;unfold cntC at hk;omega
  by_cases h:i<L
  ·have hlt:(i:Int)<(L:Int):=by omega
   gi_wp2
   refine wpIn_wide.2 (wp_normal ?_)
   have HS:Hid (∀w':World,(w'.cell? ⟨b1,0,none⟩=some (.slice q L c)∧w'.cell? ⟨b2,0,none⟩=some (.int .i64 120)∧True)→(w'.cell? ⟨b1,0,none⟩=some (.slice q L c)∧w'.cell? ⟨b2,0,none⟩=some (.int .i64 120)∧True)):=fun _ h=>h
   refine wp_region_takeH (fun w':World=>w'.cell? ⟨b1,0,none⟩=some (.slice q L c)∧w'.cell? ⟨b2,0,none⟩=some (.int .i64 120)∧True) [] [0,1,2,3,4,5,6] (by kernel_rfl) (by kernel_rfl) (by kernel_rfl) ?_ ?_ ?_
   ·intro c a a' w hd h;cases h.1
   ·exact ⟨c1,c2,trivial⟩
   clear c1 c2
   simp only [taken,List.map_cons,List.map_nil,List.getElem?_cons_succ,List.getElem?_cons_zero,Option.getD_some]
   repeat (first
        | (refine takeH_skip rfl ?_; simp only [Act.put, List.setIfInBounds_toArray, List.set_cons_succ, List.set_cons_zero])
        | (refine takeH_blind rfl rfl ?_; apply Exists.intro; refine ⟨fun w => ?_, ?_⟩; (go_simp; try with_reducible rfl); simp only [Act.put, List.setIfInBounds_toArray, List.set_cons_succ, List.set_cons_zero])
        | (refine takeH_reads rfl rfl ?_; apply Exists.intro; refine ⟨fun w' hS => ?_, ?_⟩; (obtain ⟨d0, d1, d2⟩ := HS.out w' hS; go_simp; try with_reducible rfl); simp only [Act.put, List.setIfInBounds_toArray, List.set_cons_succ, List.set_cons_zero]))
   refine takeH_blind rfl rfl ⟨_,fun w=>exec_from elemSam w q L c i (by omega) _ _ rfl rfl rfl,?_⟩
   obtain ⟨q2,c2',hs⟩:∃q2 c2',sliced q i L c 2 = .slice q2 (L-i) c2':=⟨_,_,rfl⟩
   rw [hs]
   clear hs
   simp only [Act.put,List.setIfInBounds_toArray,List.set_cons_succ,List.set_cons_zero]
   repeat (first
        | (refine takeH_skip rfl ?_; simp only [Act.put, List.setIfInBounds_toArray, List.set_cons_succ, List.set_cons_zero])
        | (refine takeH_blind rfl rfl ?_; apply Exists.intro; refine ⟨fun w => ?_, ?_⟩; (go_simp; try with_reducible rfl); simp only [Act.put, List.setIfInBounds_toArray, List.set_cons_succ, List.set_cons_zero])
        | (refine takeH_reads rfl rfl ?_; apply Exists.intro; refine ⟨fun w' hS => ?_, ?_⟩; (obtain ⟨d0, d1, d2⟩ := HS.out w' hS; go_simp; try with_reducible rfl); simp only [Act.put, List.setIfInBounds_toArray, List.set_cons_succ, List.set_cons_zero]))
   obtain ⟨E,hE⟩:∃E,min 120 (L-i)=E:=⟨_,rfl⟩
   have hEm:(if ((L-i:Nat):Int)<120 then ((L-i:Nat):Int) else 120)=(E:Int):=by
    rw [← hE]
    split<;>omega
   have HEn:Hid (1≤E∧E≤120∧i+E≤L∧min 120 (L-i)=E):=by show _∧_;omega
   first | rw [hEm] | rw [show min (120:Int) ((L-i:Nat):Int)=(E:Int) by omega]
   refine takeH_nil ⟨rfl,?_⟩
   clear hEm hE HS
   obtain ⟨wy,hwy⟩:∃wy,wr.drew=wy:=⟨_,rfl⟩
   have HI2:Hid (J pre wy∧KeepAt K w wy):=by
    rw [← hwy]
    exact ⟨HJ.out pre wr _ none HI.out.1 (grown_drewN wr 1) (fun r e=>by cases e),HI.out.2⟩
   rw [hwy]
   clear hwy HI
   have c1:=(HI2.out.2.cell HKb.out.1 0).trans HC.out
   have hE1:(E:Int)≤120:=by have:=HEn.out;omega
   have HIE:Hid (i<i+E∧i+E≤c):=by have:=HEn.out;have:=HL.out;show _∧_;omega
   have hkc:k<cntC L:=by have:=HIk.out;unfold cntC;omega
   obtain ⟨x,hxk⟩:∃x:Pc L,pnum x=k:=⟨⟨k,by rw [HIk.out];exact h⟩,rfl⟩
   have HPn:Hid (pnums (pre++[x])=List.range (k+1)):=by
    show List.map pnum (pre++[x])=_
    rw [List.map_append,List.range_succ,show pre.map pnum=List.range k from HP.out]
    simp [hxk]
   have hpl:pre.length<cntC L:=by
    have:=congrArg List.length HP.out
    rw [pnums,List.length_map,List.length_range] at this
    omega
   have hpv:partVC q L (pnum x) = .slice (q.map fun x=>x.add (i*2)) E E:=by
    rw [hxk,partVC,HIk.out,HEn.out.2.2.2]
   obtain ⟨fn,tmps,assign,body,hyl,hR⟩:=HY.out pre x wy HI2.out.1 hpl
   rw [hpv] at hyl
   have hRH:=Lib.hid hR
   clear hR hpv hpl hxk HP
   gi_wp2_with (refine wpListIn_run rfl _ _ (exec_slice3 elemSam _ q L c i (i+E) HIE.out.1 HIE.out.2 _ _ _ _ rfl rfl rfl rfl rfl) ?_)
   refine hRH.out.mono ?_
   rintro e W3 (⟨rfl,hJ3,hk3⟩ | ⟨rfl,hJx3⟩)
   ·have HI3:=Lib.hid (And.intro hJ3 (keepAt_t HI2.out.2 hk3))
    have c2:=(HI3.out.2.cell HKb.out.2 0).trans HD.out
    clear hJ3 hk3 c1
    gi_wp2
    go_roundw
    case rel=>exact ⟨k+1,pre++[x],by omega,by have:=HIk.out;rw [show ((k+1)*120:Nat)=i+120 by omega];go_num,HPn.out,HI3.out⟩
    case measure=>simp [intOf];omega
   ·gi_wp2
    refine bodyPost_ret (results_none rfl _ _ _) rfl ?_
    exact ⟨⟨_,rfl⟩,.inr ⟨_,trivial,hJx3⟩⟩
  ·have hlt:¬(i:Int)<(L:Int):=by omega
   have HE:Hid (k=cntC L):=by have:=HIk.out;show _=_;unfold cntC at hk ⊢;omega
   gi_wp2
   go_end0
   refine ⟨⟨_,rfl⟩,.inl ⟨pre,?_,HI.out.1⟩⟩
   rw [← HE.out]
   exact HP.out
end Go.Proofs.YtdcgbgecbeegmaaGreatDoor
end
section
namespace Go.Proofs.YtdcgbgecbeegmaaGreatDoor
open Go Go.RowKit
set_option maxHeartbeats 400000 in
theorem clone_sam (v:Value) (l:List (Int × Nat)) (w:World) (h:Rd w 2 v l.length (samCells l)) (hn:l.length≤8796093022208) :
  Calls Tryz.prog 195 #[v] w fun e w'=>∃r,e = .returned r∧Made w w' 110 2 r l.length (samCells l):=by
 have hq:∀(w:World) (a:Option Addr) (n c n' c':Nat),(binOp .eql 49 (.slice a n c) (.slice none n' c')).run Tryz.prog w = .ok (.bool a.isNone) w:=fun w a n c n' c'=>Lib.run_eql_slice_nil w _ _ a n c n' c' Tryz.underlying49
 obtain ⟨p,c,hv⟩:=h.shape
 subst hv
 cases p with
 | none=>
  obtain ⟨_,_,e,hl,_,_,hnil,_⟩:=h
  simp only [Value.slice.injEq] at e
  obtain ⟨rfl,_,rfl⟩:=e
  obtain ⟨h0,rfl⟩:=hnil rfl
  obtain rfl:l=[]:=List.eq_nil_of_length_eq_zero h0
  go_enter Tryz.func195,Tryz.ntmps195
  go_wp2
  go_ret
  exact ⟨_,rfl,World.ownsRow_nil _ _ _ _,Below.refl _ _⟩
 | some ad=>
  have HB:Hid (Below w.heap.size w (w.alloc (.cells #[] 110))):=(Below.refl _ _).alloc (Nat.le_refl _) _
  have HR:=Lib.hid (h.below HB.out)
  clear h
  have HO:Hid ((w.alloc (.cells #[] 110)).ownsRow 0 110 2 (.slice (some ⟨w.heap.size,0,none⟩) 0 0) 0 []):=World.ownsRow_lit (base:=0) w #[] 0 (Nat.zero_le _) (by simp [maxLen]) (by simp)
  have HL:Hid ((0+l.length)*16≤140737488355328∧0+l.length≤maxLen):=by show _∧_;unfold maxLen;omega
  go_enter Tryz.func195,Tryz.ntmps195
  go_wp2_with (at_builtin;refine wpList_extend elemSam _ _ _ _ _ _ _ HO.out HR.out (samCells_one _) HL.out rfl _ _ rfl rfl rfl ?_)
  intro v' w1 hown hmods hfr
  have HM:Hid (Made w w1 110 2 v' l.length (samCells l)):=by
   refine ⟨?_,HB.out.trans (hmods.below HB.out.size (fun k hk e=>by simp [Value.ownBlock] at e;omega))⟩
   try simp only [List.nil_append,Nat.zero_add] at hown
   exact owns_rebase hown (fun k hk=>by
    rcases hfr k hk with e | e
    ·simp [Value.ownBlock] at e;omega
    ·have:=HB.out.size;omega)
  clear hown hmods hfr
  go_wp2
  go_ret
  exact ⟨_,rfl,HM.out⟩
def PartsAt (w:World) (vs:List Value) (ps:List (List (Int × Nat))):Prop:=vs.length=ps.length∧∀(i:Nat) (v:Value) (p:List (Int × Nat)),vs[i]? = some v→ps[i]? = some p→Rd w 2 v p.length (samCells p)
end Go.Proofs.YtdcgbgecbeegmaaGreatDoor
end
