/- Texts 24. -/
import Derived.Test.YtdcgbgecbeegmaaGreatDoorMgD17
import Derived.Test.YtdcgbgecbeegmaaGreatDoorMgD18
import Derived.Test.YtdcgbgecbeegmaaGreatDoorMgD23
import Derived.Test.YtdcgbgecbeegmaaGreatDoorMgD7
import Derived.Test.YtdcgbgecbeegmaaGreatDoorMgD1
import Derived.Test.YtdcgbgecbeegmaaGreatDoorMgD5
import Derived.OwnWalk
import Derived.Test.YtdcgbgecbeegmaaGreatDoorMgD3
import Derived.Test.YtdcgbgecbeegmaaGreatDoorMgD21
import Derived.Test.YtdcgbgecbeegmaaGreatDoorMgD4
import Derived.Test.YtdcgbgecbeegmaaGreatDoorMgD6
import Derived.Test.YtdcgbgecbeegmaaGreatDoorMgD16
import Derived.Test.YtdcgbgecbeegmaaGreatDoorMgD19
import Derived.Test.YtdcgbgecbeegmaaGreatDoorRows
import Derived.Deep.Strs
import Derived.Lib.LaidTab
import Derived.LaidMore
import Derived.LaidHandle
import Derived.Lay
import Derived.OpenShut
set_option linter.unusedVariables false
set_option linter.unusedSimpArgs false
section
set_option maxRecDepth 20000
namespace Go.Proofs.YtdcgbgecbeegmaaGreatDoor
open Go Go.RowKit
theorem two_take {α:Type} {f1 f2:α→Value} (l:List α):∀(k:Nat),(two f1 f2 l).take (k*2)=two f1 f2 (l.take k):=by
 induction l with
 | nil=>intro k;simp [two]
 | cons x l ih=>
  intro k
  cases k with
  | zero=>simp [two]
  | succ k=>
   have e:two f1 f2 (x::l)=f1 x::f2 x::two f1 f2 l:=rfl
   rw [e,show (k+1)*2=k*2+1+1 by omega,List.take_succ_cons,List.take_succ_cons,ih k]
   rfl
theorem two_drop {α:Type} {f1 f2:α→Value} (l:List α):∀(k:Nat),(two f1 f2 l).drop (k*2)=two f1 f2 (l.drop k):=by
 induction l with
 | nil=>intro k;simp [two]
 | cons x l ih=>
  intro k
  cases k with
  | zero=>simp
  | succ k=>
   have e:two f1 f2 (x::l)=f1 x::f2 x::two f1 f2 l:=rfl
   rw [e,show (k+1)*2=k*2+1+1 by omega,List.drop_succ_cons,List.drop_succ_cons,ih k]
   rfl
theorem seg_one {α:Type} {l:List α} {i:Nat} {x:α} (h:l[i]? = some x):(l.take (i+1)).drop i=[x]:=by
 have hlt:=(List.getElem?_eq_some_iff.1 h).1
 rw [List.take_add_one,h,List.drop_append_of_le_length (by rw [List.length_take];omega),List.drop_of_length_le (by rw [List.length_take];omega)]
 rfl
theorem seg_two {α:Type} {l:List α} {k:Nat} {x y:α} (h:l[k]? = some x) (h2:l[k+1]? = some y):(l.take (k+1+1)).drop k=[x,y]:=by
 have hlt:=(List.getElem?_eq_some_iff.1 h2).1
 rw [List.take_add_one,h2,List.drop_append_of_le_length (by rw [List.length_take];omega),seg_one h]
 rfl
theorem neighPart (lv:Value) (hs:List Hd) (b:List Ser) (w:World) (i k:Nat) (h:Rd w 2 lv (k-i) (((two Prod.fst Prod.snd hs).take (k*2)).drop (i*2))) (hik:i≤k) (hk:k≤hs.length) (hlen:hs.length=b.length) (hser:∀(i:Nat) (h:Hd) (s:Ser),hs[i]? = some h→b[i]? = some s→SerAt w h s) (hn:b.length≤1000000) (hb:∀s∈b,s.1.length≤1000000) :
  Calls Tryz.prog 59 #[lv,.func (.func 60) #[] #[],.int .i64 19] w fun e w'=>e = .returned (.int .i64 (nbrL (fun x y:Ser=>cmpLabs x.1 y.1) 19 ((b.take k).drop i)))∧Grw w w':=by
 rw [two_take,two_drop] at h
 have hl:((hs.take k).drop i).length=k-i:=by rw [List.length_drop,List.length_take];omega
 refine neighSers lv ((hs.take k).drop i) ((b.take k).drop i) w (by rw [hl];exact h) (by rw [hl,List.length_drop,List.length_take];omega) (fun j x s hx hs'=>?_) (by rw [List.length_drop,List.length_take];omega) (fun s hs'=>hb s (List.mem_of_mem_take (List.mem_of_mem_drop hs')))
 rw [List.getElem?_drop,List.getElem?_take] at hx hs'
 split at hx
 ·next h1=>
  rw [if_pos h1] at hs'
  exact hser _ _ _ hx hs'
 ·cases hx
set_option maxHeartbeats 4000000 in
theorem modCheck_any (bv:Value) (b:List Ser) (w:World) (h:RdB w bv b) (hz:Sized b) (hs:Mid b) :
  Calls Tryz.prog 27 #[bv] w fun e w'=>e = .returned (.int .i64 (checkB b:Int))∧Below w.heap.size w w':=by
 have H:=Lib.hid h;have HSm:=Lib.hid hs;have HZ:=Lib.hid hz
 have HLg:=Lib.hid (modLarge_any bv b w h hs)
 obtain ⟨hs',hr,hlen,hser⟩:=h.ex
 have HRd:=Lib.hid hr;have HLen:=Lib.hid hlen;have HSer:=Lib.hid hser
 obtain ⟨p,c,hv⟩:=h.shape
 subst hv
 have hmx:(b.length:Int)≤20000:=by have:=hs.len;omega
 clear h hs hz hr hlen hser
 go_enter Tryz.func27,Tryz.ntmps27
 go_wp2_with fail
 refine HLg.out.mono ?_
 rintro e w1 ⟨rfl,hG1⟩
 have HB1:Hid (Below w.heap.size w w1):=hG1.below
 clear hG1 HLg
 go_wp2_with fail
 go_loopw [11] (fun iv wr=>∃(i:Nat),i≤b.length∧iv = .int .i64 (i:Int)∧Hid (checkB b=checkBFrom (prevB b i) (b.drop i))∧Hid (Below w.heap.size w wr)) (fun iv _=>b.length-(intOf iv).toNat)
 case atStart=>exact ⟨0,Nat.zero_le _,rfl,rfl,HB1.out⟩
 case round=>
  obtain ⟨i,hi,rfl,HC,HB⟩:=hrel
  have him:(i:Int)≤20000:=by omega
  by_cases hlt:i<b.length
  ·have hlt':(i:Int)<(b.length:Int):=by omega
   obtain ⟨s,hx⟩:∃s,b[i]? = some s:=⟨_,List.getElem?_eq_getElem hlt⟩
   obtain ⟨blk,off,h1,h2,e,⟨p1,k1,e1⟩,⟨p2,k2,e2⟩,hal⟩:=H.out.always hx
   subst e
   subst e1
   subst e2
   have HAl:=Lib.hid hal
   have HSt:=Lib.hid (checkB_step hx HC.out)
   have hmem:=List.mem_of_getElem? hx
   have HL1:Hid (s.1.length≤60000∧s.2.length≤1000000):=⟨HSm.out.lab _ hmem,HSm.out.mem hmem⟩
   obtain ⟨c1,c2,_⟩:=hal wr HB.out
   obtain ⟨w2,hw2⟩:∃w2,w2=wr.alloc (.cells #[.slice p1 s.1.length k1,.slice p2 s.2.length k2] 51):=⟨_,rfl⟩
   have HW:Hid (wr.alloc (.cells #[.slice p1 s.1.length k1,.slice p2 s.2.length k2] 51)=w2):=hw2.symm
   have HB2:Hid (Below w.heap.size w w2):=by show Below _ _ _;rw [hw2];exact HB.out.alloc HB.out.size _
   have HK2:Hid (Blk w2 wr.heap.size [.slice p1 s.1.length k1,.slice p2 s.2.length k2]):=by show Blk _ _ _;rw [hw2];exact Blk.new wr _ _
   have HCk:=Lib.hid (checkSeries_any (.slice p1 s.1.length k1,.slice p2 s.2.length k2) s w2 (hal w2 HB2.out).2.2 (HZ.out _ hmem) (by have:=HL1.out.1;omega) (by have:=HL1.out.2;omega))
   have HX:=Lib.hid hx
   simp only at HCk
   clear hx hal hmem HC hw2
   go_wp2_with fail
   rw [HW.out]
   have q1:w2.cell? ⟨wr.heap.size,0,none⟩=some (.slice p1 s.1.length k1):=by rw [HK2.out.cell];rfl
   have q2:w2.cell? ⟨wr.heap.size,1,none⟩=some (.slice p2 s.2.length k2):=by rw [HK2.out.cell];rfl
   clear c1 c2
   try go_wp2_with fail
   refine HCk.out.mono ?_
   rintro e w3 ⟨rfl,hB3⟩
   have HB3:Hid (Below w.heap.size w w3):=HB2.out.trans (hB3.mono HB2.out.size)
   clear hB3 HCk HB2 HK2 q1 q2 HW
   by_cases hc:serErr s=0
   ·rw [hc]
    have HNx:Hid (checkB b=nextB (prevB b i) s.1 (checkBFrom (prevB b (i+1)) (b.drop (i+1)))):=by
     have:=HSt.out
     rw [if_neg (not_not_intro hc)] at this
     exact this
    clear hc HSt
    have HRd3:=Lib.hid (HRd.out.below HB3.out)
    have HLx:Hid (hs'.length=b.length∧b.length≤20000):=⟨HLen.out,HSm.out.len⟩
    by_cases h0:i=0
    ·subst h0
     have HE:Hid (checkB b=checkBFrom (prevB b (0+1)) (b.drop (0+1))):=HNx.out
     clear HNx
     have hR:Rd w3 2 (.slice (some ⟨blk,off,none⟩) b.length c) b.length (two Prod.fst Prod.snd hs'):=by have:=HRd3.out;rw [HLen.out] at this;exact this
     have HR3:=Lib.hid hR
     clear hR
     go_wp2_with (refine wpList_fromTo elemSer _ _ b.length 0 (0+1) _ HR3.out (by omega) (by omega) rfl _ _ _ rfl rfl rfl rfl ?_;intro p4 c4 h4)
     have HNp:=Lib.hid (neighPart _ hs' b w3 0 (0+1) h4 (by omega) (by have:=HLx.out;omega) HLen.out (fun i h s a c=>(HSer.out i h s a c).below HB3.out) (by have:=HLx.out;omega) (fun s hs=>by have:=HSm.out.lab s hs;omega))
     rw [seg_one HX.out] at HNp
     clear h4 HR3
     go_wp2_with fail
     refine HNp.out.mono ?_
     rintro e w4 ⟨rfl,hG⟩
     have HB4:Hid (Below w.heap.size w w4):=HB3.out.trans (hG.below.mono HB3.out.size)
     clear hG HNp
     simp only [nbrL]
     go_wp2_with fail
     go_round
     case rel=>exact ⟨0+1,by omega,by go_num,HE.out,HB4.out⟩
     case measure=>simp [intOf];omega
    ·obtain ⟨k,rfl⟩:∃k,i=k+1:=⟨i-1,by omega⟩
     obtain ⟨q,hy⟩:∃s,b[k]? = some s:=⟨_,List.getElem?_eq_getElem (by omega)⟩
     have hprev:prevB b (k+1)=some q.1:=by rw [prevB,if_neg (by omega),Nat.add_sub_cancel,hy];rfl
     have HE:Hid (checkB b=if cmpLabs q.1 s.1=0 then 19 else if 0<cmpLabs q.1 s.1 then 16 else checkBFrom (prevB b (k+1+1)) (b.drop (k+1+1))):=by
      have:=HNx.out
      rw [hprev] at this
      exact this
     have hR:Rd w3 2 (.slice (some ⟨blk,off,none⟩) b.length c) b.length (two Prod.fst Prod.snd hs'):=by have:=HRd3.out;rw [HLen.out] at this;exact this
     have HR3:=Lib.hid hR
     have HKl:Hid (k+1<b.length):=hlt
     have HY:=Lib.hid hy
     have hki:((k+1:Nat):Int)-1=(k:Int):=by omega
     have hkm:(k:Int)≤19999:=by omega
     have hmax:max (k:Int) 0=(k:Int):=by omega
     have hmax2:¬(k:Int)<0:=by omega
     have hki2:((k+1:Nat):Int)+1=((k+2:Nat):Int):=by omega
     clear hR hy hprev HNx h0 hlt hi
     obtain ⟨I,hI⟩:∃I,k+1=I:=⟨_,rfl⟩
     have HI:=Lib.hid hI
     have hki3:(I:Int)-1=(k:Int):=by omega
     rw [hI] at him hlt' ⊢
     clear hki hki2 hI
     go_wp2_with (refine wpList_fromTo elemSer _ _ b.length k (I+1) _ HR3.out (by have:=HI.out;omega) (by have:=HI.out;have:=HKl.out;omega) rfl _ _ _ rfl rfl rfl rfl ?_;intro p4 c4 h4)
     have HNp:=Lib.hid (neighPart _ hs' b w3 k (I+1) h4 (by have:=HI.out;omega) (by have:=HI.out;have:=HKl.out;have:=HLx.out;omega) HLen.out (fun i h s a c=>(HSer.out i h s a c).below HB3.out) (by have:=HLx.out;omega) (fun s hs=>by have:=HSm.out.lab s hs;omega))
     have hsg:(b.take (I+1)).drop k=[q,s]:=by rw [← HI.out];exact seg_two HY.out HX.out
     have hnb:nbrL (fun x y:Ser=>cmpLabs x.1 y.1) 19 [q,s]=if cmpLabs s.1 q.1=0 then 19 else if cmpLabs s.1 q.1<0 then 16 else 0:=rfl
     have hfl:=cmpLabs_ok.flip q.1 s.1
     have hdom:=cmpLabs_ok.dom q.1 s.1
     rw [hsg,hnb,hfl] at HNp
     clear h4 HR3 hsg hnb hfl hmax hmax2 hki3
     generalize cmpLabs q.1 s.1=cv at *
     rcases hdom with rfl | rfl | rfl
     ·have HE2:Hid (checkB b=checkBFrom (prevB b (I+1)) (b.drop (I+1))):=by rw [← HI.out];exact HE.out
      have HNp2:Hid (Calls Tryz.prog 59 #[.slice p4 (I+1-k) c4,.func (.func 60) #[] #[],.int .i64 19] w3 fun e w'=>e = .returned (.int .i64 0)∧Grw w3 w'):=HNp.out
      clear HE HNp
      go_wp2_with fail
      refine HNp2.out.mono ?_
      rintro e w4 ⟨rfl,hG⟩
      have HB4:Hid (Below w.heap.size w w4):=HB3.out.trans (hG.below.mono HB3.out.size)
      clear hG HNp2
      go_wp2_with fail
      go_round
      case rel=>exact ⟨I+1,by have:=HI.out;have:=HKl.out;omega,by go_num,HE2.out,HB4.out⟩
      case measure=>simp [intOf];have:=HI.out;have:=HKl.out;omega
     ·have HE2:Hid (checkB b=19):=HE.out
      have HNp2:Hid (Calls Tryz.prog 59 #[.slice p4 (I+1-k) c4,.func (.func 60) #[] #[],.int .i64 19] w3 fun e w'=>e = .returned (.int .i64 19)∧Grw w3 w'):=HNp.out
      clear HE HNp
      go_wp2_with fail
      refine HNp2.out.mono ?_
      rintro e w4 ⟨rfl,hG⟩
      have HB4:Hid (Below w.heap.size w w4):=HB3.out.trans (hG.below.mono HB3.out.size)
      clear hG HNp2
      go_wp2_with fail
      go_ret
      exact ⟨by rw [HE2.out];rfl,HB4.out⟩
     ·have HE2:Hid (checkB b=16):=HE.out
      have HNp2:Hid (Calls Tryz.prog 59 #[.slice p4 (I+1-k) c4,.func (.func 60) #[] #[],.int .i64 19] w3 fun e w'=>e = .returned (.int .i64 16)∧Grw w3 w'):=HNp.out
      clear HE HNp
      go_wp2_with fail
      refine HNp2.out.mono ?_
      rintro e w4 ⟨rfl,hG⟩
      have HB4:Hid (Below w.heap.size w w4):=HB3.out.trans (hG.below.mono HB3.out.size)
      clear hG HNp2
      go_wp2_with fail
      go_ret
      exact ⟨by rw [HE2.out];rfl,HB4.out⟩
   ·have hcb:((serErr s:Int) == 0)=false:=by rw [beq_eq_false_iff_ne];omega
    have HE:Hid (checkB b=serErr s):=by have:=HSt.out;rw [if_pos hc] at this;exact this
    clear hc HSt
    generalize serErr s=ce at *
    go_wp2_with fail
    go_ret
    exact ⟨by rw [HE.out];rfl,HB3.out⟩
  ·have hlt':¬(i:Int)<(b.length:Int):=by omega
   have HE:Hid (checkB b=0):=by
    show _=_
    rw [HC.out,List.drop_of_length_le (by omega)]
    cases prevB b i<;>rfl
   go_wp2_with fail
   go_ret
   exact ⟨by rw [HE.out];rfl,HB.out⟩
end Go.Proofs.YtdcgbgecbeegmaaGreatDoor
end
section
namespace Go.Proofs.YtdcgbgecbeegmaaGreatDoor
open Go Go.RowKit
def Tab (w:World):Prop:=∀i:Nat,i<16→w.cell? ⟨0,i,none⟩=some (.int .u32 ((fours.getD i 0:Nat):Int))
theorem Tab.below {w w':World} {B:Nat} (h:Tab w) (hb:Below B w w') (hB:w.heap.size≤B):Tab w':=fun i hi=>(hb.cell (Nat.lt_of_lt_of_le (World.block_lt_of_cell? w _ (h i hi)) hB)).trans (h i hi)
theorem upd_step (s c:Nat) (hs:s<4294967296) (hc:c<256):∃X Y:Nat,X=s ^^^ c∧X<4294967296∧Y=X / 16 ^^^ fours.getD (X % 16) 0∧Y<4294967296∧step8 s c=Y / 16 ^^^ fours.getD (Y % 16) 0:=by
 have hX:s ^^^ c<4294967296:=xor_lt32 hs (by omega)
 have e:∀Z,Z / 16 ^^^ fours.getD (Z % 16) 0=shrN 4 Z:=fun Z=>by rw [fours_eq _ (Nat.mod_lt _ (by decide)),← shr4]
 refine ⟨_,_,rfl,hX,rfl,?_,?_⟩
 ·rw [e];exact shrN_lt hX
 ·rw [e,e,step8_fours]
theorem fours_lt (i:Nat):fours.getD (i % 16) 0<4294967296:=by
 rw [fours_eq _ (Nat.mod_lt _ (by decide))];exact shrN_lt (by have:=Nat.mod_lt i (show 0<16 by decide);omega)
set_option maxHeartbeats 1000000 in
theorem crc_update (s:Nat) (v:Value) (l:List Nat) (w:World) (hT:Tab w) (hs:s<4294967296) (h:Rd w 1 v l.length (u8s l)) (hl:∀c∈l,c<256) :
  Calls Tryz.prog 171 #[.int .u32 (s:Int),v] w fun e w'=>e = .returned (.int .u32 (upd s l:Int))∧w=w':=by
 have hmax:(l.length:Int)≤9223372036854775807:=by have:=h.le;unfold maxLen at this;omega
 obtain ⟨p,c,hv⟩:=h.shape
 subst hv
 have H2:=Lib.hid h;clear h
 have HM:=Lib.hid hl;clear hl
 have HT:=Lib.hid hT;clear hT
 have HX:Hid (∀k,upd s (l.take k)<4294967296):=fun k=>upd_lt hs _ (fun c hc=>HM.out c (List.mem_of_mem_take hc))
 go_enter Tryz.func171,Tryz.ntmps171
 go_wp2_with fail
 go_loop [0,9] (fun x i=>∃k:Nat,k≤l.length∧i = .int .i64 (k:Int)∧x = .int .u32 (upd s (l.take k):Int)) (fun _ i=>l.length-(intOf i).toNat)
 case atStart=>exact ⟨0,by omega,rfl,rfl⟩
 case round=>
  obtain ⟨k,hk,rfl,rfl⟩:=hrel
  by_cases hlt:k<l.length
  ·have hlt':(k:Int)<(l.length:Int):=by omega
   obtain ⟨b,off,c',e,_,_,hc⟩:=H2.out.at (fun e=>by have:=congrArg List.length e;rw [u8s_length] at this;simp at this;subst this;simp at hlt)
   simp only [Value.slice.injEq] at e
   obtain ⟨rfl,_,rfl⟩:=e
   have hcell:=hc k _ (u8s_get _ _ hlt)
   have hu:=HM.out _ (List.getElem_mem hlt)
   have HS:=Lib.hid (upd_take_succ s l k hlt)
   have hZ:=HX.out k
   clear hc
   generalize upd s (l.take k)=Z at *
   generalize l[k]=u at *
   obtain ⟨X,Y,hX,hX32,hY,hY32,hE⟩:=upd_step Z u hZ hu
   have t1:=HT.out (X % 16) (Nat.mod_lt _ (by decide))
   have t2:=HT.out (Y % 16) (Nat.mod_lt _ (by decide))
   have e1:=u32_xor_nat Z u hZ (by omega)
   have e2:=u32_xor_nat (X / 16) _ (by omega) (fours_lt X)
   have e3:=u32_xor_nat (Y / 16) _ (by omega) (fours_lt Y)
   rw [← hX] at e1
   rw [← hY] at e2
   rw [← hE] at e3
   have HS2:Hid (upd s (l.take (k+1))=step8 Z u):=HS
   clear HS hX hY hE
   generalize step8 Z u=V at *
   generalize fours.getD (X % 16) 0=F1 at *
   generalize fours.getD (Y % 16) 0=F2 at *
   have e2':bits .xor .u32 ((X:Int) / 16) (F1:Int)=(Y:Int):=e2
   have e3':bits .xor .u32 ((Y:Int) / 16) (F2:Int)=(V:Int):=e3
   clear e2 e3
   go_wp2_with fail
   go_round
   case rel=>exact ⟨k+1,by omega,by go_num,by rw [HS2.out]⟩
   case measure=>simp [intOf];omega
  ·have hlt':¬(k:Int)<(l.length:Int):=by omega
   have HK:Hid (upd s (l.take k)=upd s l):=by show _=_;rw [show k=l.length by omega,upd_take_all]
   rw [HK.out]
   clear hk hlt
   go_wp2_with fail
   go_ret
   exact ⟨rfl,rfl⟩
theorem crc_sum (v:Value) (l:List Nat) (w:World) (hT:Tab w) (h:Rd w 1 v l.length (u8s l)) (hl:∀c∈l,c<256) :
  Calls Tryz.prog 124 #[v] w fun e w'=>e = .returned (.int .u32 (crcOf l:Int))∧w=w':=by
 have hU:=upd_lt (show 4294967295<4294967296 by decide) l hl
 have HE:=Lib.hid (crcOf_xor l hl)
 have HB:Hid (bits .xor .u32 4294967295 ((upd 4294967295 l:Nat):Int)=((4294967295 ^^^ upd 4294967295 l:Nat):Int)):=u32_xor_nat 4294967295 _ (by decide) hU
 have HT:=Lib.hid hT
 have H2:=Lib.hid h;clear h
 have HM:=Lib.hid hl;clear hl hT hU
 go_enter Tryz.func124,Tryz.ntmps124
 go_wp2_with fail
 refine (crc_update 4294967295 v l _ HT.out (by decide) H2.out HM.out).mono ?_
 rintro e w2 ⟨rfl,rfl⟩
 generalize upd 4294967295 l=X at *
 go_wp2_with fail
 go_ret
 exact ⟨ret_int (by rw [HE.out,← HB.out];rfl),rfl⟩
theorem crc_sumOf (v:Value) (l:List Nat) (w:World) (hT:Tab w) (h:Rd w 1 v l.length (u8s l)) (hl:∀c∈l,c<256) :
  Calls Tryz.prog 87 #[v] w fun e w'=>∃r,e = .returned r∧Made w w' 5 1 r 4 (u8s (le4 (crcOf l))):=by
 have HT:=Lib.hid hT
 have H2:=Lib.hid h;clear h
 have HM:=Lib.hid hl;clear hl hT
 go_enter Tryz.func87,Tryz.ntmps87
 go_wp2_with fail
 refine (crc_sum v l _ HT.out H2.out HM.out).mono ?_
 rintro e w2 ⟨rfl,rfl⟩
 have hS:=crcOf_lt l
 obtain ⟨S,hSe⟩:∃S,crcOf l=S:=⟨_,rfl⟩
 have HE:=Lib.hid (u8s_le4 _ (hSe ▸ hS))
 rw [hSe] at hS ⊢
 have HSe:=Lib.hid hSe
 clear hSe
 go_wp2_with fail
 go_ret
 rw [HSe.out]
 refine ⟨_,rfl,?_,(Below.refl _ _).alloc (Nat.le_refl _) _⟩
 rw [HE.out]
 exact World.ownsRow_lit (base:=w.heap.size) w #[.int .u8 ((S:Int) % 256),.int .u8 ((S:Int) / 256 % 256),.int .u8 ((S:Int) / 65536 % 256),.int .u8 ((S:Int) / 16777216)] 4 (Nat.le_refl _) (by simp [maxLen]) (by simp)
set_option maxHeartbeats 2000000 in
theorem crc_append (v:Value) (l:List Nat) (w:World) (hT:Tab w) (h:Rd w 1 v l.length (u8s l)) (hl:∀c∈l,c<256) (hn:l.length≤140737488355000) :
  Calls Tryz.prog 53 #[v] w fun e w'=>∃r,e = .returned r∧Made w w' 5 1 r (withCrc l).length (u8s (withCrc l)):=by
 have HT:=Lib.hid hT
 have H2:=Lib.hid h
 have HM:=Lib.hid hl
 obtain ⟨q,c,hv⟩:=h.shape
 subst hv
 clear h hl hT
 obtain ⟨i,z,hi,hz,hsize,hby,hzs⟩:=Tryz.elemU8.hi
 have HI:=Lib.hid hi;have HZ:=Lib.hid hz;have HSz:=Lib.hid hsize
 have HC:Hid ((l.length:Int)+4=((l.length+4:Nat):Int)):=by show _=_;omega
 have HBy:Hid (i.bytes*(l.length+4)≤281474976710656):=by show _≤_;rw [hby];omega
 have HMx:Hid (l.length+4≤maxLen):=by show _≤_;unfold maxLen;omega
 have HL:Hid ((0+l.length)*1≤140737488355328∧0+l.length≤maxLen):=by show _∧_;unfold maxLen;omega
 have HL2:Hid ((l.length+4)*1≤140737488355328∧l.length+4≤maxLen):=by show _∧_;unfold maxLen;omega
 clear hi hz hsize hby hzs
 have hmax:(l.length:Int)+4≤140737488355328:=by omega
 go_enter Tryz.func53,Tryz.ntmps53
 go_wp2_with (refine wpList_make_own _ rfl _ _ _ rfl 0 5 i z 1 Tryz.underlying25 HI.out HZ.out HSz.out _ _ _ (l.length+4) rfl rfl HC.out HBy.out HMx.out (Nat.zero_le _) ?_)
 intro w1 hown hgr
 have HB:Hid (Below w.heap.size w w1):=(Mods.of_grown hgr).below (Nat.le_refl _) (fun k hk e=>by cases e)
 have HO:=Lib.hid hown
 have HR:=Lib.hid (H2.out.below HB.out)
 clear hown hgr
 go_wp2_with (at_builtin;refine wpList_extend Tryz.elemU8 _ _ _ _ _ _ _ HO.out HR.out (u8s_oneCell _) HL.out rfl _ _ rfl rfl rfl ?_)
 intro v' w2 hown hmods hfr
 obtain ⟨q1,c1,hv1⟩:=(Rd.of_owns hown).shape
 subst hv1
 have HO1:=Lib.hid hown
 have HF1:Hid (∀k,(Value.slice q1 l.length c1).ownBlock=some k→w.heap.size≤k):=fun k hk=>by
  rcases hfr k hk with e | e
  ·simp [Value.ownBlock] at e;omega
  ·have:=HB.out.size;omega
 have HB1:=Lib.hid (HB.out.trans (hmods.below HB.out.size (fun k hk e=>by simp [Value.ownBlock] at e;omega)))
 have HR1:=Lib.hid (H2.out.below HB1.out)
 have HT1:=Lib.hid (HT.out.below HB1.out (Nat.le_refl _))
 clear hown hmods hfr HO HR HB
 go_wp2_with fail
 refine (crc_sumOf _ l _ HT1.out HR1.out HM.out).mono ?_
 rintro e w3 ⟨r,rfl,hM⟩
 obtain ⟨q3,c3,hr⟩:=(Rd.of_owns hM.1).shape
 subst hr
 have HR3:=Lib.hid (Rd.of_owns hM.1)
 have HO3:=Lib.hid ((Mods.of_below hM.2 (fun _=>False)).owns HO1.out (fun _ _ e=>e))
 have HB3:=Lib.hid (HB1.out.trans (hM.2.mono HB1.out.size))
 have HW:Hid (withCrc l=l++le4 (crcOf l)):=rfl
 clear hM
 go_wp2_with (at_builtin;refine wpList_extend Tryz.elemU8 _ _ _ _ _ _ _ HO3.out HR3.out (u8s_oneCell _) HL2.out rfl _ _ rfl rfl rfl ?_)
 intro v2 w4 hown hmods hfr
 have HM2:Hid (Made w w4 5 1 v2 (withCrc l).length (u8s (withCrc l))):=by
  refine ⟨?_,HB3.out.trans (hmods.below HB3.out.size (fun k hk e=>by have:=HF1.out k e;omega))⟩
  have h2:=owns_rebase hown (base':=w.heap.size) (fun k hk=>by
   rcases hfr k hk with e | e
   ·exact HF1.out k e
   ·have:=HB3.out.size;omega)
  rw [← u8s_append,← HW.out,← le4_length (crcOf l),← List.length_append,← HW.out] at h2
  exact h2
 clear hown hmods hfr
 go_wp2_with fail
 go_ret
 exact ⟨_,rfl,HM2.out⟩
set_option maxHeartbeats 1000000 in
theorem append_sectionA (w0:World) (v:Value) (l:List Nat) (id:Nat) (d:Value) (D:List Nat) (w:World) (hT:Tab w) (h:AppB w0 w l v) (hid:id<256) (hD:Rd w 1 d D.length (u8s D)) (hlt:∀c∈D,c<256) (hn:l.length+D.length≤140737488354000) :
  Calls Tryz.prog 85 #[v,.agg #[.int .u8 (id:Int),d]] w fun en w'=>∃v',en = .returned v'∧OwnB w0 w' (l++frameOf id D) v'∧Mods (fun k=>v.ownBlock=some k) w w'∧Fresh w.heap.size v v':=by
 have H:=Lib.hid h
 have HD:=Lib.hid hD
 have HT:=Lib.hid hT
 obtain ⟨q0,c0,hv⟩:=h.shape
 subst hv
 obtain ⟨qd,cd,hv⟩:=hD.shape
 subst hv
 have hsz:(w.alloc (.cells #[.int .u8 (id:Int),.slice qd D.length cd] 137)).heap.size=w.heap.size+1:=by simp
 have HBa:Hid (Below w.heap.size w ((w.alloc (.cells #[.int .u8 (id:Int),.slice qd D.length cd] 137)).alloc (.cells #[.int .u8 (id:Int)] 5))):=((Below.refl _ _).alloc (Nat.le_refl _) _).alloc (by omega) _
 have HO0:Hid (((w.alloc (.cells #[.int .u8 (id:Int),.slice qd D.length cd] 137)).alloc (.cells #[.int .u8 (id:Int)] 5)).ownsRow 0 5 1 (.slice (some ⟨w.heap.size+1,0,none⟩) 1 1) 1 (u8s [id])):=by
  have h:((w.alloc (.cells #[.int .u8 (id:Int),.slice qd D.length cd] 137)).alloc (.cells #[.int .u8 (id:Int)] 5)).ownsRow 0 5 1 (.slice (some ⟨(w.alloc (.cells #[.int .u8 (id:Int),.slice qd D.length cd] 137)).heap.size,0,none⟩) 1 1) 1 (u8s [id]):=World.ownsRow_lit (base:=0) (w.alloc (.cells #[.int .u8 (id:Int),.slice qd D.length cd] 137)) #[.int .u8 (id:Int)] 1 (Nat.zero_le _) (by simp [maxLen]) (by simp)
  rw [hsz] at h
  exact h
 have HDa:=Lib.hid (HD.out.below HBa.out)
 have HTa:=Lib.hid (HT.out.below HBa.out (Nat.le_refl _))
 have HM:=Lib.hid hlt
 have hlen:=bytesOf_length D
 have hten:=groups_ten (x:=D.length) (by omega)
 have HLen:Hid ((groups D.length).length≤10∧(bytesOf D).length=(groups D.length).length+D.length):=⟨by omega,hlen⟩
 have hwD:IntKind.u64.wrap (D.length:Int)=(D.length:Int):=by rw [IntKind.wrap_u64];omega
 have cI:((w.alloc (.cells #[.int .u8 (id:Int),.slice qd D.length cd] 137)).alloc (.cells #[.int .u8 (id:Int)] 5)).cell? ⟨w.heap.size,1,none⟩=some (.slice qd D.length cd):=((Blk.new w #[.int .u8 (id:Int),.slice qd D.length cd] 137).alloc _).cell 1
 have HcI:=Lib.hid cI
 have HBoxLt:Hid (w.heap.size<((w.alloc (.cells #[.int .u8 (id:Int),.slice qd D.length cd] 137)).alloc (.cells #[.int .u8 (id:Int)] 5)).heap.size):=by show _<_;simp;omega
 clear h hD hT hsz hlt hlen hten
 go_enter Tryz.func85,Tryz.ntmps85
 go_wp2_with fail
 refine (append_any _ 1 [id] D.length (by omega) _ HO0.out (by omega)).mono ?_
 rintro e w1 ⟨r,rfl,hP⟩
 obtain ⟨p1,c1,hr⟩:=(Rd.of_owns hP.own).shape
 subst hr
 have HO1:=Lib.hid hP.own
 have HF1:Hid (∀k,(Value.slice p1 (1+(groups D.length).length) c1).ownBlock=some k→w.heap.size+1≤k):=fun k hk=>by
  rcases hP.fresh k hk with e | e
  ·have e':w.heap.size+1=k:=Option.some.inj e
   omega
  ·have:=HBoxLt.out;omega
 have HB1:=Lib.hid (HBa.out.trans (hP.below (B:=w.heap.size) HBa.out.size (fun k hk=>by have e:=Option.some.inj hk;simp at e;omega)))
 have HD1:=Lib.hid (HD.out.below HB1.out)
 have cX:w1.cell? ⟨w.heap.size,1,none⟩=some (.slice qd D.length cd):=hP.mods.cell HcI.out (fun e=>by have e':w.heap.size+1=w.heap.size:=Option.some.inj e;omega)
 have HL1:Hid ((1+(groups D.length).length+D.length)*1≤140737488355328∧1+(groups D.length).length+D.length≤maxLen):=by
  show _∧_
  have:=HLen.out.1
  unfold maxLen
  omega
 clear hP HO0 HDa HTa cI HcI
 go_wp2_with (at_builtin;refine wpList_extend Tryz.elemU8 _ _ _ _ _ _ _ HO1.out HD1.out (u8s_oneCell _) HL1.out rfl _ _ rfl rfl rfl ?_)
 intro v2 w2 hown hmods hfr
 have eL:u8s ([id]++groups D.length)++u8s D=u8s (id::bytesOf D):=by rw [← u8s_append,bytesOf,List.append_assoc];rfl
 have hown:w2.ownsRow 0 5 1 v2 (1+(groups D.length).length+D.length) (u8s (id::bytesOf D)):=by rw [← eL];exact hown
 have HB2:=Lib.hid (HB1.out.trans (hmods.below HB1.out.size (fun k hk e=>by have:=HF1.out k e;omega)))
 have HT2:=Lib.hid (HT.out.below HB2.out (Nat.le_refl _))
 have HLe:(id::bytesOf D).length=1+(groups D.length).length+D.length:=by rw [List.length_cons,HLen.out.2];omega
 obtain ⟨p2,c2,hv2⟩:=(Rd.of_owns hown).shape
 subst hv2
 have HR2:Hid (Rd w2 1 (.slice p2 (1+(groups D.length).length+D.length) c2) (id::bytesOf D).length (u8s (id::bytesOf D))):=by
  show Rd _ _ _ _ _
  rw [HLe]
  exact Rd.of_owns hown
 have HLt2:Hid (∀z∈id::bytesOf D,z<256):=fun z hzm=>by
  rcases List.mem_cons.1 hzm with rfl | h1
  ·exact hid
  ·exact bytesOf_lt HM.out z h1
 have HN2:Hid ((id::bytesOf D).length≤140737488355000):=by
  show _≤_
  have:=HLen.out.1
  rw [HLe]
  omega
 clear hown hmods hfr eL HLe cX HO1 HF1 HL1 HD1 HBoxLt
 go_wp2_with fail
 refine (crc_append _ (id::bytesOf D) _ HT2.out HR2.out HLt2.out HN2.out).mono ?_
 rintro e w3 ⟨r,rfl,hM⟩
 obtain ⟨p3,c3,hr⟩:=(Rd.of_owns hM.1).shape
 subst hr
 have HR3:Hid (Rd w3 1 (.slice p3 (frameOf id D).length c3) (frameOf id D).length (u8s (frameOf id D))):=Rd.of_owns hM.1
 have HB3:=Lib.hid (HB2.out.trans (hM.2.mono HB2.out.size))
 have HA3:=Lib.hid (H.out.below HB3.out)
 have hfl:=frameOf_length id D
 have HNe:Hid (frameOf id D≠[]):=fun e=>by have:=congrArg List.length e;rw [hfl] at this;simp at this
 have HL3:Hid ((l.length+(frameOf id D).length)*1≤140737488355328∧l.length+(frameOf id D).length≤maxLen):=by
  show _∧_
  have h3:=HLen.out
  unfold maxLen
  omega
 have efr:(withCrc (id::bytesOf D)).length=(frameOf id D).length:=rfl
 rw [efr]
 clear hM HR2 HT2 HLt2 efr hfl
 go_wp2_with (at_builtin;refine wpList_extendA Tryz.elemU8 w0 _ _ _ l (frameOf id D) HA3.out HR3.out HNe.out HL3.out rfl _ _ rfl rfl rfl ?_)
 intro v4 w4 k4 m4 f4
 have HO4:=Lib.hid k4
 have HM4:Hid (Mods (fun k=>(Value.slice q0 l.length c0).ownBlock=some k) w w4):=(Mods.of_below HB3.out (fun k=>(Value.slice q0 l.length c0).ownBlock=some k)).trans m4 (fun _ _ e=>e)
 have HF4:Hid (Fresh w.heap.size (.slice q0 l.length c0) v4):=fun k hk=>by
  rcases f4 k hk with h | h
  ·exact Or.inl h
  ·have:=HB3.out.size;exact Or.inr (by omega)
 clear k4 m4 f4
 go_wp2_with fail
 go_ret
 exact ⟨_,rfl,HO4.out,HM4.out,HF4.out⟩
end Go.Proofs.YtdcgbgecbeegmaaGreatDoor
end
section
set_option maxRecDepth 20000
namespace Go.Proofs.YtdcgbgecbeegmaaGreatDoor
open Go Go.RowKit
set_option maxHeartbeats 4000000 in
theorem ly_contents (v:Value) (l:List Nat) (w:World) (h:Rd w 1 v l.length (natI l)) (h5:l.length≤5) (hb:∀x∈l,x<9223372036854775808) :
  Calls Tryz.prog 52 #[v] w fun e w'=>∃r,e = .returned r∧OwnB w w' (contents l) r:=by
 have HB:=Lib.hid hb
 have HL:=Lib.hid h5
 have H:=Lib.hid h
 have hN:(l.length:Int)≤5:=by omega
 have HZ:Hid (OwnB w w (contents (l.take 0)) (.slice none 0 0)):=Own1.nil w
 obtain ⟨p,c,hv⟩:=h.shape
 subst hv
 clear h hb h5
 go_enter Tryz.func52,Tryz.ntmps52
 go_wp2_with fail
 go_loopw [3,8] (fun vv iv wr=>∃(i:Nat),i≤l.length∧iv = .int .i64 (i:Int)∧Hid (OwnB w wr (contents (l.take i)) vv)) (fun _ iv _=>l.length-(intOf iv).toNat)
 case atStart=>exact ⟨0,Nat.zero_le _,rfl,HZ.out⟩
 case round=>
  obtain ⟨i,hi,rfl,HO⟩:=hrel
  clear HZ
  obtain ⟨pv,cv,hvv⟩:=HO.out.shape
  subst hvv
  by_cases hlt:i<l.length
  ·have hlt':(i:Int)<(l.length:Int):=by omega
   obtain ⟨x,hx⟩:∃x,l[i]? = some x:=⟨_,List.getElem?_eq_getElem hlt⟩
   obtain ⟨b,off,c',e,_,_,hc⟩:=(H.out.below HO.out.bel).at (fun e=>by have:=congrArg List.length e;rw [natI_length] at this;simp at this;subst this;simp at hlt)
   simp only [Value.slice.injEq] at e
   obtain ⟨rfl,_,rfl⟩:=e
   have hcell:=hc i _ (natI_get hx)
   have hxb:=HB.out x (List.mem_of_getElem? hx)
   have hw:IntKind.u64.wrap (x:Int)=(x:Int):=by rw [IntKind.wrap_u64];omega
   have HSt:=Lib.hid (contents_step hx)
   have HLn:Hid ((contents (l.take i)).length≤50):=by
    show _≤_
    have h1:=contents_length (l:=l.take i) (fun y hy=>by have:=HB.out y (List.mem_of_mem_take hy);omega)
    have h2:(l.take i).length≤i:=by rw [List.length_take];omega
    have:=HL.out
    omega
   clear hx hc
   generalize contents (l.take i)=acc at *
   obtain ⟨acc2,hacc2⟩:∃acc2,contents (l.take (i+1))=acc2:=⟨_,rfl⟩
   have HA2:=Lib.hid hacc2
   rw [hacc2] at HSt
   clear hacc2
   have HC:=Lib.hid (append_any _ _ acc x (by omega) wr HO.out.base0 (by have:=HLn.out;omega))
   have hxi:(x:Int)<9223372036854775808:=by omega
   go_wp2_with fail
   refine HC.out.mono ?_
   rintro en w2 ⟨v2,rfl,hP⟩
   have HO2:Hid (OwnB w w2 acc2 v2):=by
    show OwnB _ _ _ _
    rw [HSt.out]
    exact HO.out.extended (e:=groups x) (by have k:=hP.own;rw [u8s_append] at k;exact k) hP.mods hP.fresh
   obtain ⟨p2,c2,hv2⟩:=HO2.out.shape
   subst hv2
   clear hP HC HO HSt hw hcell
   go_wp2_with fail
   go_round
   case rel=>exact ⟨i+1,by omega,by go_num,(by show OwnB _ _ _ _;rw [HA2.out];exact HO2.out)⟩
   case measure=>simp [intOf];omega
  ·have hlt':¬(i:Int)<(l.length:Int):=by omega
   have HE:Hid (contents (l.take i)=contents l):=by show _=_;rw [List.take_of_length_le (by omega)]
   go_wp2_with fail
   go_ret
   exact ⟨_,rfl,by rw [← HE.out];exact HO.out⟩
theorem ly_frame (w0:World) (v:Value) (L:List Nat) (id:Nat) (d:Value) (D:List Nat) (w:World) (hT:Tab w) (h:AppB w0 w L v) (hid:id<256) (hD:Rd w 1 d D.length (u8s D)) (hlt:∀c∈D,c<256) (hn:L.length+D.length≤140737488354000) :
  Calls Tryz.prog 51 #[v,.int .i64 (id:Int),d] w fun en w'=>∃v',en = .returned v'∧OwnB w0 w' (L++frameOf id D) v'∧Mods (fun k=>v.ownBlock=some k) w w'∧Fresh w.heap.size v v':=by
 have HC:=Lib.hid (append_sectionA w0 v L id d D w hT h hid hD hlt hn)
 have hw:IntKind.u8.wrap (id:Int)=(id:Int):=by rw [IntKind.wrap_u8];omega
 obtain ⟨p,c,hv⟩:=h.shape
 subst hv
 obtain ⟨pd,cd,hv⟩:=hD.shape
 subst hv
 clear hT h hD hlt hn
 go_enter Tryz.func51,Tryz.ntmps51
 go_wp2_with fail
 refine HC.out.mono ?_
 rintro en w2 ⟨v2,rfl,k,m,f⟩
 have HK:=Lib.hid k;have HM:=Lib.hid m;have HF:=Lib.hid f
 clear k m f HC
 go_wp2_with fail
 go_ret
 exact ⟨_,rfl,HK.out,HM.out,HF.out⟩
end Go.Proofs.YtdcgbgecbeegmaaGreatDoor
end
section
namespace Go.Proofs.YtdcgbgecbeegmaaGreatDoor
open Go Go.RowKit
theorem arrS:Arr Tryz.prog 34 25 4 (.slice none 0 0):=Arr.mk' Tryz.underlying34 (by kernel_rfl) (by kernel_rfl) Tryz.underlying25 rfl
end Go.Proofs.YtdcgbgecbeegmaaGreatDoor
end
section
set_option maxRecDepth 20000
namespace Go.Proofs.YtdcgbgecbeegmaaGreatDoor
open Go Go.RowKit
theorem arrO4:Arr Tryz.prog 88 3 4 (.int .i64 0):=Arr.mk' Tryz.underlying88 (by kernel_rfl) (by kernel_rfl) Tryz.underlying3 rfl
def at4 (S:List (List Nat)) (i:Nat):List Nat:=offs 1 5 (S.take i)++List.replicate (4-i) 0
theorem at4_len {S:List (List Nat)} (i:Nat) (h:i≤S.length) (h5:i≤4):(at4 S i).length=4:=by rw [at4,List.length_append,offs_length,List.length_take,List.length_replicate];omega
theorem at4_step {S:List (List Nat)} {i:Nat} {d:List Nat} (h:S[i]? = some d) (h5:i<4):(at4 S i).set i (asmTo S i).length=at4 S (i+1):=by
 have hi:=(List.getElem?_eq_some_iff.1 h).1
 have e:S.take (i+1)=S.take i++[d]:=by rw [List.take_add_one,h];rfl
 have hl:(offs 1 5 (S.take i)).length=i:=by rw [offs_length,List.length_take];omega
 rw [at4,at4,e,offs_snoc,asmTo_len,List.set_append_right _ _ (by omega),hl,Nat.sub_self,show 4-i=(4-(i+1))+1 by omega,List.replicate_succ,List.set_cons_zero,List.append_assoc]
 rfl
theorem at4_four {S:List (List Nat)} (h4:S.length=4):at4 S 4=offs 1 5 S:=by
 rw [at4,List.take_of_length_le (by omega)];simp
set_option maxHeartbeats 16000000 in
theorem ly_assemble (vs:List Value) (S:List (List Nat)) (w:World) (hT:Tab w) (h:RdS w vs S) (h4:S.length=4) (ok:okS4 S) (hE:(asmL S).length≤140737488352000) :
  Calls Tryz.prog 25 #[.agg vs.toArray] w fun e w'=>∃r,e = .returned r∧OwnB w w' (asmL S) r:=by
 have HT:=Lib.hid hT
 have H:=Lib.hid h;have H4:=Lib.hid h4;have HOk:=Lib.hid ok;have HEn:=Lib.hid hE
 have HL4:Hid (vs.length=4):=h.len.trans h4
 clear h h4 ok hE hT
 go_enter Tryz.func25,Tryz.ntmps25
 go_wp2_with (refine wpList_boxA rfl _ _ rfl vs rfl ?_)
 intro w1 hK hB hS
 have HK:=Lib.hid hK;have HB1:=Lib.hid hB;have HS1:=Lib.hid hS
 obtain ⟨g,hg⟩:∃g,w.heap.size=g:=⟨_,rfl⟩
 have HG:=Lib.hid hg
 rw [hg] at HK HS1 ⊢
 clear hK hB hS hg
 have kc:=fun (w:World) (C:Array Value) (n c:Nat)=>Lib.run_convert_bytes_const (P:=Tryz.prog) w 25 5 C n c Tryz.underlying25 Tryz.underlying5
 have hbA:Below w1.heap.size w1 (w1.alloc (.cells #[.int .u8 84,.int .u8 83,.int .u8 66,.int .u8 75,.int .u8 1] 5 (5,6))):=(Below.refl _ _).alloc (Nat.le_refl _) _
 have hsz2:(w1.alloc (.cells #[.int .u8 84,.int .u8 83,.int .u8 66,.int .u8 75,.int .u8 1] 5 (5,6))).heap.size=w1.heap.size+1:=by simp
 have hrd:=lit_rd_mark w1 #[.int .u8 84,.int .u8 83,.int .u8 66,.int .u8 75,.int .u8 1] (5,6) headL 5 rfl rfl (by decide)
 have HA2:Hid (AppB w (w1.alloc (.cells #[.int .u8 84,.int .u8 83,.int .u8 66,.int .u8 75,.int .u8 1] 5 (5,6))) headL (.slice (some ⟨w1.heap.size,0,none⟩) 5 5)):=
  ⟨hrd,fun k hk=>by have e:w1.heap.size=k:=Option.some.inj hk;have:=HB1.out.size;omega,HB1.out.trans (hbA.mono HB1.out.size),Or.inr ⟨by decide,_,rfl⟩⟩
 have HK2:=Lib.hid (HK.out.of_same (hbA.block g HK.out.lt))
 have HSz2:Hid (g<w1.heap.size∧(w1.alloc (.cells #[.int .u8 84,.int .u8 83,.int .u8 66,.int .u8 75,.int .u8 1] 5 (5,6))).heap.size=w1.heap.size+1):=⟨HK.out.lt,hsz2⟩
 clear hbA hsz2 hrd HK HB1 HS1
 go_wp2_with (refine wpList_allocA arrO4 rfl rfl ?_)
 intro w3 hK3 hB3 hS3
 have hB3':=hB3
 rw [← HSz2.out.2] at hB3'
 have HA3:=Lib.hid (HA2.out.below hB3')
 have HK3:=Lib.hid (HK2.out.of_same (hB3'.block g HK2.out.lt))
 have HJ3:=Lib.hid hK3
 have HV3:Hid (∀k,(Value.slice (some ⟨w1.heap.size,0,none⟩) 5 5).ownBlock=some k→g<k∧k≠w1.heap.size+1):=fun k hk=>by have e:w1.heap.size=k:=Option.some.inj hk;have:=HSz2.out.1;omega
 obtain ⟨h0,hh0⟩:∃h0,w1.heap.size+1=h0:=⟨_,rfl⟩
 rw [hh0] at HJ3 HV3 ⊢
 have HH:Hid (g<h0):=by show _<_;have:=HSz2.out.1;omega
 obtain ⟨lb,hlb⟩:∃lb,w1.heap.size=lb:=⟨_,rfl⟩
 rw [hlb] at HA3 HV3 ⊢
 clear hK3 hB3 hB3' hS3 hh0 hlb HA2 HK2 HSz2 kc
 go_wp2_with (refine wpList_loadA arrS rfl _ rfl g rfl _ HK3.out HL4.out ?_)
 go_loopw [3,10] (fun vv iv wr=>∃(i:Nat),i≤4∧iv = .int .i64 (i:Int)∧Hid (AppB w wr (asmTo S i) vv)∧Hid (Blk wr g vs)∧Hid (Blk wr h0 (natI (at4 S i)))∧Hid (∀k,vv.ownBlock=some k→g<k∧k≠h0)) (fun _ iv _=>4-(intOf iv).toNat)
 case atStart=>exact ⟨0,Nat.zero_le _,rfl,HA3.out,HK3.out,HJ3.out,HV3.out⟩
 case round=>
  obtain ⟨i,hi,rfl,HA,HKr,HJr,HV⟩:=hrel
  clear HA3 HK3 HJ3 HV3
  obtain ⟨pv,cv,hvv⟩:=HA.out.shape
  subst hvv
  have him:(i:Int)≤4:=by omega
  by_cases hlt:i<4
  ·have hlt':(i:Int)<4:=by omega
   obtain ⟨d,hd⟩:∃d,S[i]? = some d:=⟨_,List.getElem?_eq_getElem (by have:=H4.out;omega)⟩
   obtain ⟨p,c,hv,hr⟩:=H.out.get hd
   have HRd:=Lib.hid hr
   have hvi:=hv
   have HStep:=Lib.hid (asmTo_step hd)
   have HAt:=Lib.hid (at4_step hd hlt)
   have HLe:=Lib.hid (Nat.le_trans (sec_le hd) HEn.out)
   have HOd:=Lib.hid (HOk.out d (List.mem_of_getElem? hd))
   have hfl:=frameOf_length (1+i) d
   have HFl:Hid (frameOf (1+i) d≠[]∧d.length≤140737488352000):=⟨fun e=>by have:=congrArg List.length e;rw [hfl] at this;simp at this,by have:=HLe.out;omega⟩
   have hal:=at4_len (S:=S) i (by have:=H4.out;omega) (by omega)
   obtain ⟨x0,hx0⟩:∃x0,(at4 S i)[i]? = some x0:=⟨_,List.getElem?_eq_getElem (by omega)⟩
   have h0c:wr.cell? ⟨h0,i,none⟩=some (.int .i64 (x0:Int)):=by rw [HJr.out.cell,natI_get hx0]
   have h0f:wr.frozen? ⟨h0,i,none⟩=false:=HJr.out.free i
   have HLl:Hid ((asmTo S i).length≤140737488352000):=by show _≤_;have:=HLe.out;omega
   obtain ⟨L,hL⟩:∃L,asmTo S i=L:=⟨_,rfl⟩
   rw [hL] at HA HStep HAt HLe HLl HV ⊢
   have hll:(L.length:Int)≤140737488352000:=by have:=HLl.out;omega
   have hM:Mods (fun k=>k=h0) wr (wr.setCell ⟨h0,i,none⟩ (.int .i64 (L.length:Int))):=Mods.set _ _ _ _ (fun _=>rfl)
   have HA2:=Lib.hid (HA.out.mods hM (fun k hk=>(HV.out k hk).2) (fun k hk=>by have:=HG.out;have:=HH.out;omega))
   have HK2:=Lib.hid (hM.blk HKr.out (fun e=>by have:=HH.out;omega))
   have HJ2:Hid (Blk (wr.setCell ⟨h0,i,none⟩ (.int .i64 (L.length:Int))) h0 (natI (at4 S (i+1)))):=by
    have h:=HJr.out.set i (.int .i64 (L.length:Int))
    have e:(natI (at4 S i)).set i (.int .i64 (L.length:Int))=natI (at4 S (i+1)):=by rw [← HAt.out];simp [natI,List.map_set]
    rw [e] at h
    exact h
   have g0:(wr.setCell ⟨h0,i,none⟩ (.int .i64 (L.length:Int))).cell? ⟨g,i,none⟩=some (.slice p d.length c):=by rw [HK2.out.cell];exact hv
   have HT2:=Lib.hid (HT.out.below HA2.out.bel (Nat.le_refl _))
   have HFr:Hid (Calls Tryz.prog 51 #[.slice pv L.length cv,.int .i64 (1+(i:Int)),.slice p d.length c] (wr.setCell ⟨h0,i,none⟩ (.int .i64 (L.length:Int))) fun en w'=>∃v',en = .returned v'∧OwnB w w' (L++frameOf (1+i) d) v'∧Mods (fun k=>(Value.slice pv L.length cv).ownBlock=some k) (wr.setCell ⟨h0,i,none⟩ (.int .i64 (L.length:Int))) w'∧Fresh (wr.setCell ⟨h0,i,none⟩ (.int .i64 (L.length:Int))).heap.size (.slice pv L.length cv) v'):=
    (by rw [show (1+(i:Int))=((1+i:Nat):Int) by omega];exact ly_frame w _ L (1+i) _ d _ HT2.out HA2.out (by omega) (HRd.out.below HA2.out.bel) HOd.out.1 (by have h1:=HLe.out;have h2:=frameOf_length (1+i) d;have h3:=bytesOf_length d;omega))
   clear hd hv hr hfl hal hx0 hL hM HA HKr HJr
   have HVi:Hid (vs[i]? = some (.slice p d.length c)):=hvi
   go_wp2_with (refine wpList_indexA arrS rfl _ _ rfl vs rfl i rfl hlt _ HVi.out ?_)
   generalize wr.setCell ⟨h0,i,none⟩ (.int .i64 (L.length:Int))=w4 at *
   refine HFr.out.mono ?_
   rintro en w6 ⟨v6,rfl,k6,m6,f6⟩
   obtain ⟨L2,hL2⟩:∃L2,asmTo S (i+1)=L2:=⟨_,rfl⟩
   have HL2:=Lib.hid hL2
   have HO6:Hid (AppB w w6 L2 v6):=by show AppB _ _ _ _;rw [← hL2,HStep.out];exact AppB.of k6
   have HK6:=Lib.hid (m6.blk HK2.out (fun e=>by have:=(HV.out g e).1;omega))
   have HJ6:=Lib.hid (m6.blk HJ2.out (fun e=>(HV.out h0 e).2 rfl))
   have HV6:Hid (∀k,v6.ownBlock=some k→g<k∧k≠h0):=fun k hk=>by
    rcases f6 k hk with e | e
    ·exact HV.out k e
    ·have:=HK2.out.lt;have:=HJ2.out.lt;omega
   obtain ⟨p6,c6,hv6⟩:=HO6.out.shape
   subst hv6
   clear k6 m6 f6 HA2 HK2 HJ2 HV HLe HFl HAt HStep hL2 HT2 HFr g0 h0c h0f
   go_wp2_with fail
   go_round
   case rel=>exact ⟨i+1,by omega,by go_num,(by show AppB _ _ _ _;rw [HL2.out];exact HO6.out),HK6.out,HJ6.out,HV6.out⟩
   case measure=>simp [intOf];omega
  ·have hlt':¬(i:Int)<4:=by omega
   have hi4:i=4:=by omega
   subst hi4
   have HT4:Hid (S.take 4=S):=List.take_of_length_le (by have:=H4.out;omega)
   have hA4:=at4_four H4.out
   have hle:=asmTo_le S 4
   have HEl:Hid ((bodyL S).length+8=(asmL S).length):=by show _=_;rw [asmL,List.length_append,withCrc_length];rfl
   rw [hA4] at HJr
   have ho4:(offs 1 5 S).length=4:=by rw [offs_length];exact H4.out
   have HOf:=Lib.hid (fun x hx=>by
    have hl:=asmTo_len S 4
    rw [HT4.out] at hl
    have:=offs_le S 1 5 x hx;have:=HEn.out;omega:∀x∈offs 1 5 S,x<9223372036854775808)
   have HBo:Hid (bodyL S=asmTo S 4++frameOf 5 (contents (offs 1 5 S))):=by show _=_;rw [bodyL,asmTo_four H4.out]
   have HCl:=Lib.hid (contents_lt (offs 1 5 S))
   obtain ⟨O,hO⟩:∃O,offs 1 5 S=O:=⟨_,rfl⟩
   rw [hO] at HBo HCl HJr ho4 HOf
   have HRo:Hid (Rd wr 1 (.slice (some ⟨h0,0,none⟩) 4 4) O.length (natI O)):=by
    show Rd _ _ _ _ _
    rw [ho4]
    exact Rd.of_blk HJr.out (by rw [natI_length,ho4]) (by unfold maxLen;omega)
   have HC:=Lib.hid (ly_contents _ O wr HRo.out (by omega) HOf.out)
   obtain ⟨C,hC⟩:∃C,contents O=C:=⟨_,rfl⟩
   rw [hC] at HC HBo HCl
   obtain ⟨L,hL⟩:∃L,asmTo S 4=L:=⟨_,rfl⟩
   rw [hL] at HA HBo HV ⊢
   have hfl:=frameOf_length 5 C
   have HBl:Hid (L.length+(frameOf 5 C).length=(bodyL S).length∧(bodyL S).length+8≤140737488352000∧L.length+C.length≤140737488352000):=by
    have h1:=congrArg List.length HBo.out
    rw [List.length_append] at h1
    exact ⟨h1.symm,by have:=HEl.out;have:=HEn.out;omega,by have:=HEl.out;have:=HEn.out;have:=bytesOf_length C;omega⟩
   clear hle hC hL hfl hO hA4 ho4
   go_wp2_with fail
   refine HC.out.mono ?_
   rintro en w4 ⟨r4,rfl,hO⟩
   have HR4:=Lib.hid hO.rd
   have HA4:=Lib.hid (HA.out.below hO.bel)
   have HT4:=Lib.hid (HT.out.below HA4.out.bel (Nat.le_refl _))
   obtain ⟨p4,c4,hv4⟩:=hO.shape
   subst hv4
   clear hO HC HA HJr HKr HRo
   go_wp2_with fail
   refine (ly_frame w _ L 5 (.slice p4 C.length c4) C w4 HT4.out HA4.out (by decide) HR4.out HCl.out (by have:=HBl.out;omega)).mono ?_
   rintro en w6 ⟨v6,rfl,k6,m6,f6⟩
   rw [← HBo.out] at k6
   have HO6:=Lib.hid k6
   obtain ⟨p6,c6,hv6⟩:=k6.shape
   subst hv6
   have HOl:=Lib.hid (bodyL_lt H4.out HOk.out)
   clear k6 m6 f6 HV HBo HR4 HA4
   obtain ⟨Bd,hBd⟩:∃Bd,bodyL S=Bd:=⟨_,rfl⟩
   have HAs:Hid (asmL S=withCrc Bd++tailL):=by show _=_;rw [asmL,hBd]
   rw [hBd] at HO6 HOl HBl ⊢
   clear hBd
   go_wp2_with fail
   refine (crc_append _ Bd w6 (HT.out.below HO6.out.bel (Nat.le_refl _)) HO6.out.rd HOl.out (by have:=HBl.out;omega)).mono ?_
   rintro en w7 ⟨r7,rfl,hMd⟩
   have HB7:Hid (Below w.heap.size w w7):=HO6.out.bel.trans (hMd.2.mono HO6.out.bel.size)
   have HOz:=Lib.hid (owns_rebase hMd.1 (base':=0) (fun _ _=>Nat.zero_le _))
   have HLt:Hid (∀k,r7.ownBlock=some k→w.heap.size≤k):=fun k hk=>Nat.le_trans HO6.out.bel.size (hMd.1.lt k hk).1
   obtain ⟨p7,c7,hv7⟩:=(Rd.of_owns hMd.1).shape
   subst hv7
   have HBd:Hid (((withCrc Bd).length+(⟨#[75,66,83,84]⟩:ByteArray).size)*1≤140737488355328∧(withCrc Bd).length+(⟨#[75,66,83,84]⟩:ByteArray).size≤maxLen):=by
    show _∧_
    have h:=HBl.out
    rw [withCrc_length,show (⟨#[75,66,83,84]⟩:ByteArray).size=4 from rfl]
    unfold maxLen;omega
   clear hMd HO6
   go_wp2_with (at_builtin;refine wpList_extendStr Tryz.elemU8 Tryz.underlying9 _ _ _ _ HOz.out ⟨#[75,66,83,84]⟩ HBd.out rfl _ _ rfl rfl rfl ?_)
   intro v8 w8 hown hmods hfr
   have HO8:Hid (OwnB w w8 (asmL S) v8):=by
    refine ⟨?_,HB7.out.trans (hmods.below HB7.out.size (fun k hk e=>by have:=HLt.out k e;omega))⟩
    show w8.ownsRow _ _ 1 v8 (asmL S).length (u8s (asmL S))
    rw [HAs.out,List.length_append,u8s_append]
    refine owns_rebase hown (fun k hk=>?_)
    rcases hfr k hk with e | e
    ·exact HLt.out k e
    ·have:=HB7.out.size;omega
   obtain ⟨p8,c8,hv8⟩:∃p c,v8 = .slice p ((withCrc Bd).length+(⟨#[75,66,83,84]⟩:ByteArray).size) c:=(Rd.of_owns hown).shape
   subst hv8
   clear hown hmods hfr HOz HBd
   go_wp2_with fail
   go_ret
   exact ⟨_,rfl,HO8.out⟩
end Go.Proofs.YtdcgbgecbeegmaaGreatDoor
end
section
namespace Go.Proofs.YtdcgbgecbeegmaaGreatDoor
open Go Go.RowKit
theorem Tab.low {w:World} (h:Tab w) : 0 + 1≤w.heap.size:=World.block_lt_of_cell? w _ (h 0 (by decide))
theorem Tab.mods {S:Nat→Prop} {w w':World} (h:Tab w) (hm:Mods S w w') (hs:∀k,k < 0 + 1→¬S k):Tab w':=fun i hi=>hm.cell (h i hi) (hs _ (Nat.lt_succ_self _))
def T17 (w:World):Prop:=Tab w∧T9 w
def G17:Nat:=max (0 + 1) G9
theorem T17.low {w:World} (h:T17 w):G17≤w.heap.size:=by have h1:=h.1.low;have h2:=h.2.low;unfold G17;omega
theorem T17.keeps {S:Nat→Prop} {w w':World} (h:T17 w) (hm:Mods S w w') (hk:∀k,k<G17→¬S k):T17 w':=
 ⟨h.1.mods hm (fun k hlt=>hk k (by unfold G17;omega)),h.2.keeps hm (fun k hlt=>hk k (by unfold G17;omega))⟩
theorem T17.below {w w':World} (h:T17 w) (hb:Below w.heap.size w w'):T17 w':=h.keeps (Mods.of_below hb (fun _=>False)) (fun _ _ h=>h)
end Go.Proofs.YtdcgbgecbeegmaaGreatDoor
end
section
set_option maxRecDepth 20000
namespace Go.Proofs.YtdcgbgecbeegmaaGreatDoor
open Go Go.RowKit
theorem resultsA1 {P:Program} {t e:TypeId} {n:Nat} {z:Value} (hA:Arr P t e n z) {w:World} {fn:Func} {p u:Tmp} (h:fn.results = #[.cell p t,.tmp u]) (tmps:Array Value) (g:Nat) (hp:tmps.getD p undef = .pointer (some ⟨g,0,none⟩))
  (cs:List Value) (hb:Blk w g cs) (hl:cs.length=n):(results fn tmps).run P w = .ok (.tuple #[.agg cs.toArray,tmps.getD u undef]) w:=by
 obtain ⟨v,hg⟩:=hb
 obtain ⟨i,hi,_,hs⟩:=hA.hi
 have hp':tmps[p]?.getD undef = .pointer (some ⟨g,0,none⟩):=by simpa using hp
 have l1:=run_loadVar_row (P:=P) w g v t cs.toArray (0,0) _ hg hA.ht rfl (by rw [hi];simp [hs,hl])
 simp [results,h,hp',asAddr,l1]
set_option maxHeartbeats 4000000 in
theorem enc_sections (bv:Value) (b:List Ser) (w:World) (hT:T9 w) (h:RdB w bv b) (hz:Sized b) (hs:Mid b) :
  Calls Tryz.prog 14 #[bv] w fun e w'=>∃vs:List Value,e = .returned (.tuple #[.agg vs.toArray,.int .i64 (checkB b:Int)])∧RdS w' vs (secsOf b)∧Below w.heap.size w w':=by
 have H:=Lib.hid h;have HSm:=Lib.hid hs;have HSz:=Lib.hid hz;have HT:=Lib.hid hT
 obtain ⟨pb,cb,hv⟩:=h.shape
 subst hv
 clear h hs hz hT
 go_enter Tryz.func14,Tryz.ntmps14
 go_wp2_with (refine wpList_allocA arrS17 rfl rfl ?_)
 intro w1 hK1 hB1 hS1
 obtain ⟨g0,hg0⟩:∃g0,w.heap.size=g0:=⟨_,rfl⟩
 have HG0:=Lib.hid hg0
 have HB1:Hid (Below w.heap.size w w1):=hB1
 rw [hg0] at hK1 hB1 hS1 ⊢
 have HR1:Hid (Blk w1 g0 (List.replicate 4 (.slice none 0 0))):=hK1
 have HH1:=Lib.hid (H.out.below HB1.out)
 have hT1:T9 w1:=HT.out.below HB1.out
 have HT1:=Lib.hid hT1
 clear hK1 hB1 hS1 hg0 hT1
 go_wp2_with fail
 refine (modCheck_any _ b w1 HH1.out HSz.out HSm.out).mono ?_
 rintro e w2 ⟨rfl,hB⟩
 have HB2:Hid (Below w.heap.size w w2):=HB1.out.trans (hB.mono HB1.out.size)
 have HR2:Hid (Blk w2 g0 (List.replicate 4 (.slice none 0 0))):=HR1.out.of_same (hB.block g0 HR1.out.lt)
 have HH2:=Lib.hid (HH1.out.below hB)
 have HT2:=Lib.hid (HT1.out.below hB)
 have HSo:Hid (secsOf b=if checkB b=0 then secsE b else [[],[],[],[]]):=rfl
 have HSc:=Lib.hid (fun (hc:checkB b=0) (w:World) (hw:RdB w (.slice pb b.length cb) b) (hT:T9 w)=>sectionsOf_met _ b w hw hT HSm.out HSz.out hc)
 obtain ⟨ec,hec⟩:∃ec,checkB b=ec:=⟨_,rfl⟩
 have HEc:=Lib.hid hec
 rw [hec] at HSo HSc ⊢
 clear hB HB1 HR1 HH1 HT1 hec
 by_cases h0:ec=0
 ·subst h0
  have HSo2:Hid (secsOf b=secsE b):=by show _=_;rw [HSo.out,if_pos rfl]
  clear HSo
  go_wp2_with fail
  have HG2:Hid (g0<w2.heap.size):=HR2.out.lt
  refine (HSc.out trivial w2 HH2.out HT2.out).mono ?_
  rintro e w3 ⟨vs,rfl,hS,hSf,hB⟩
  have HFr:Hid (∀v∈vs,∀k,v.ownBlock=some k→k≠g0):=fun v hv k hk e=>by have:=hSf v hv k hk;have:=HG2.out;omega
  have HS3:=Lib.hid hS
  have HB3:Hid (Below w.heap.size w w3):=HB2.out.trans (hB.mono HB2.out.size)
  have HR3:Hid (Blk w3 g0 [.slice none 0 0,.slice none 0 0,.slice none 0 0,.slice none 0 0]):=HR2.out.of_same (hB.block g0 HR2.out.lt)
  have HVl:Hid (vs.length=4):=hS.len.trans (secsE_four b)
  have H1:=Lib.hid (rdS_one17 hS)
  clear hS hB HR2 HB2 HH2 HT2 HSc
  go_wp2_with (refine wpList_storeA arrS17 rfl _ _ rfl g0 rfl vs _ rfl HR3.out rfl HVl.out H1.out ?_)
  intro w4 hk hm hs
  have HK4:=Lib.hid hk
  have HB4:Hid (Below w.heap.size w w4):=HB3.out.trans (hm.below HB3.out.size (fun k hlt e=>by have:=HG0.out;have:k=g0:=e;omega))
  have HM4:=Lib.hid hm
  clear hk hm hs
  go_wp2_with fail
  refine bodyPost_ret (resultsA1 (p:=2) (u:=3) arrS17 (by kernel_rfl) _ g0 rfl vs HK4.out HVl.out) rfl ?_
  refine ⟨vs,by rw [HEc.out];rfl,?_,HB4.out⟩
  rw [HSo2.out]
  exact ⟨HS3.out.len,fun i v d hv hd=>(HS3.out.at_ i v d hv hd).mods HM4.out (fun k hk e=>HFr.out v (List.mem_of_getElem? hv) k hk e)⟩
 ·have hei:¬(ec:Int)=0:=by omega
  have heb:((ec:Int) == 0)=false:=by rw [beq_eq_false_iff_ne];exact hei
  have HSo2:Hid (secsOf b=[[],[],[],[]]):=by show _=_;rw [HSo.out,if_neg h0]
  have HR3:Hid (Blk w2 g0 [.slice none 0 0,.slice none 0 0,.slice none 0 0,.slice none 0 0]):=HR2.out
  have H4r:∀(u:Value),u∈[Value.slice none 0 0,.slice none 0 0,.slice none 0 0,.slice none 0 0]→u.oneCell'=true:=by simp [Value.oneCell']
  have H4:=Lib.hid H4r
  clear h0 HSo H4r HSc
  go_wp2_with (refine wpList_storeA arrS17 rfl _ _ rfl g0 rfl [.slice none 0 0,.slice none 0 0,.slice none 0 0,.slice none 0 0] _ rfl HR3.out rfl rfl H4.out ?_)
  intro w3 hk hm hs
  have HK3:=Lib.hid hk
  have HB3:Hid (Below w.heap.size w w3):=HB2.out.trans (hm.below HB2.out.size (fun k hlt e=>by have:=HG0.out;have:k=g0:=e;omega))
  clear hk hm hs
  go_wp2_with fail
  refine bodyPost_ret (resultsA1 (p:=2) (u:=3) arrS17 (by kernel_rfl) _ g0 rfl [.slice none 0 0,.slice none 0 0,.slice none 0 0,.slice none 0 0] HK3.out rfl) rfl ?_
  refine ⟨[.slice none 0 0,.slice none 0 0,.slice none 0 0,.slice none 0 0],by rw [HEc.out];rfl,?_,HB3.out⟩
  rw [HSo2.out]
  exact rdS_nil17 w3
set_option maxHeartbeats 4000000 in
theorem enc_encode (bv:Value) (b:List Ser) (w:World) (hT:T17 w) (h:RdB w bv b) (hz:Sized b) (hs:Mid b) :
  Calls Tryz.prog 11 #[bv] w (GotB w (encBl b)):=by
 have HSe:=Lib.hid (enc_sections bv b w hT.2 h hz hs)
 have HT:=Lib.hid hT.1
 have HO:Hid (checkB b=0→okS4 (secsE b)∧(asmL (secsE b)).length≤140737488352000):=fun e=>ok17 hs hz e
 have HSo:Hid (secsOf b=if checkB b=0 then secsE b else [[],[],[],[]]):=rfl
 have HE:Hid (encBl b=if checkB b=0 then (0,asmL (secsE b)) else (checkB b,[])):=rfl
 have H4:Hid ((secsOf b).length=4):=secsOf_four b
 obtain ⟨pb,cb,hv⟩:=h.shape
 subst hv
 obtain ⟨ec,hec⟩:∃ec,checkB b=ec:=⟨_,rfl⟩
 rw [hec] at HSe HO HSo HE
 clear hT h hz hs hec
 go_enter Tryz.func11,Tryz.ntmps11
 go_wp2_with fail
 refine HSe.out.mono ?_
 rintro e w1 ⟨vs,rfl,hS,hB⟩
 have HS1:=Lib.hid hS;have HB1:=Lib.hid hB
 have HV:Hid (vs.length=4):=hS.len.trans H4.out
 have H1:=Lib.hid (rdS_one17 hS)
 have HT1:Hid (Tab w1):=HT.out.mods (Mods.of_below hB (fun _=>False)) (fun _ _ e=>e)
 clear hS hB HSe HT
 go_wp2_with (refine wpList_varA arrS17 rfl rfl rfl _ _ rfl vs rfl rfl HV.out H1.out ?_)
 intro w2 hk hb hs
 obtain ⟨g,hg⟩:∃g,w1.heap.size=g:=⟨_,rfl⟩
 have HG:=Lib.hid hg
 have HB12:=Lib.hid hb
 rw [hg] at hk ⊢
 have HK2:=Lib.hid hk
 have HS2:=Lib.hid (HS1.out.below hb)
 have HT2:Hid (Tab w2):=HT1.out.mods (Mods.of_below hb (fun _=>False)) (fun _ _ e=>e)
 have HB2:Hid (Below w.heap.size w w2):=HB1.out.trans (hb.mono HB1.out.size)
 clear hk hb hs hg HS1 HT1
 by_cases h0:ec=0
 ·subst h0
  have HSo2:Hid (secsOf b=secsE b):=by show _=_;rw [HSo.out,if_pos rfl]
  have HE2:Hid (encBl b=(0,asmL (secsE b))):=by show _=_;rw [HE.out,if_pos rfl]
  rw [HSo2.out] at HS2
  obtain ⟨hok,hln⟩:=HO.out rfl
  have HOk:=Lib.hid hok;have HLn:=Lib.hid hln
  clear HSo HE HO hok hln
  go_wp2_with (refine wpList_loadA arrS17 rfl _ rfl g rfl _ HK2.out HV.out ?_)
  refine (ly_assemble vs (secsE b) w2 HT2.out HS2.out (secsE_four b) HOk.out HLn.out).mono ?_
  rintro e w3 ⟨r,rfl,hO⟩
  have HO3:=Lib.hid hO
  have HB3:=Lib.hid (HB2.out.trans (hO.bel.mono HB2.out.size))
  obtain ⟨pr,cr,hrv⟩:=hO.rd.shape
  subst hrv
  clear hO
  go_wp2_with fail
  go_ret2
  exact ⟨⟨_,by rw [HE2.out];rfl,by rw [HE2.out];exact HO3.out.rd,fun k hk=>by have:=(HO3.out.row.lt k hk).1;have:=HB2.out.size;omega⟩,HB3.out⟩
 ·have hei:¬(ec:Int)=0:=by omega
  have heb:((ec:Int) == 0)=false:=by rw [beq_eq_false_iff_ne];exact hei
  have HE2:Hid (encBl b=(ec,[])):=by show _=_;rw [HE.out,if_neg h0]
  clear h0 HE HO HSo
  go_wp2_with fail
  go_ret2
  exact ⟨⟨_,by rw [HE2.out];rfl,by rw [HE2.out];exact Rd.nil w2 1,fun k hk=>by cases hk⟩,HB2.out⟩
set_option maxHeartbeats 4000000 in
theorem enc_raw (bv:Value) (b:List Ser) (w:World) (hT:T17 w) (h:RdB w bv b) (hz:Sized b) (hs:Small b) :
  Calls Tryz.prog 18 #[bv] w (GotB w (rawBl b)):=by
 have HN:=Lib.hid (modNorm_any bv b w h hz hs)
 have HT:=Lib.hid hT
 have HMn:=Lib.hid (small_norm hs).mid;have HZn:=Lib.hid (sized_norm hz)
 have HE:Hid (rawBl b=if (normB b).1=0 then encBl (normB b).2 else ((normB b).1,[])):=rfl
 obtain ⟨pb,cb,hv⟩:=h.shape
 subst hv
 generalize normB b=P at *
 obtain ⟨ec,nb⟩:=P
 simp only at HMn HZn HE
 clear hT h hz hs
 go_enter Tryz.func18,Tryz.ntmps18
 go_wp2_with fail
 refine HN.out.mono ?_
 rintro e w1 ⟨r,rfl,hR,hB⟩
 have HR1:=Lib.hid hR;have HB1:=Lib.hid hB
 have hT1:T17 w1:=HT.out.below hB
 have HT1:=Lib.hid hT1
 obtain ⟨pr,cr,hrv⟩:=hR.shape
 subst hrv
 clear hR hB HN HT hT1
 by_cases h0:ec=0
 ·subst h0
  have HE2:Hid (rawBl b=encBl nb):=by show _=_;rw [HE.out,if_pos rfl]
  clear HE
  go_wp2_with fail
  refine (enc_encode _ nb w1 HT1.out HR1.out HZn.out HMn.out).mono ?_
  rintro e w2 ⟨⟨r,rfl,hR,hr⟩,hB⟩
  have HR2:=Lib.hid hR;have Hr:Hid (∀k,r.ownBlock=some k→w1.heap.size≤k):=hr
  have HB2:Hid (Below w.heap.size w w2):=HB1.out.trans (hB.mono HB1.out.size)
  clear hR hr hB
  go_wp2_with fail
  go_ret2
  exact ⟨⟨r,by rw [HE2.out];rfl,by rw [HE2.out];exact HR2.out,fun k hk=>Nat.le_trans HB1.out.size (Hr.out k hk)⟩,HB2.out⟩
 ·have hei:¬(ec:Int)=0:=by omega
  have heb:((ec:Int) == 0)=false:=by rw [beq_eq_false_iff_ne];exact hei
  have HE2:Hid (rawBl b=(ec,[])):=by show _=_;rw [HE.out,if_neg h0]
  clear h0 HE
  go_wp2_with fail
  go_ret2
  exact ⟨⟨_,by rw [HE2.out];rfl,by rw [HE2.out];exact Rd.nil w1 1,fun k hk=>by cases hk⟩,HB1.out⟩
end Go.Proofs.YtdcgbgecbeegmaaGreatDoor
end
section
namespace Go.Proofs.YtdcgbgecbeegmaaGreatDoor
open Go Go.RowKit
theorem encodeMet:EnIf G17 T17 where
 keeps:=fun h hm hk=>h.keeps hm hk
 low:=fun h=>h.low
 sections:=fun bv b w hT h hz hs=>enc_sections bv b w hT.2 h hz hs
 encode:=fun bv b w hT h hz hs=>enc_encode bv b w hT h hz hs
 raw:=fun bv b w hT h hz hs=>enc_raw bv b w hT h hz hs
end Go.Proofs.YtdcgbgecbeegmaaGreatDoor
end
section
set_option maxRecDepth 100000
namespace Go.Proofs.YtdcgbgecbeegmaaGreatDoor
open Go Go.RowKit
def listed:List (String × DataW Unit):=[("math/bits.deBruijn64tab",Rows.laid_math_bits_deBruijn64tab),("tsblock/times.forms",Rows.laid_tsblock_times_forms),("tsblock/crc.fourShifts",Rows.laid_tsblock_crc_fourShifts)]
theorem gZeros : Tryz.prog.globalNamed "math/bits.deBruijn64tab" = some 3:=by kernel_rfl
theorem tZeros:(Tryz.prog.globals[3]?).map (·.type)=some 362:=by kernel_rfl
theorem gFours : Tryz.prog.globalNamed "tsblock/crc.fourShifts" = some 0:=by kernel_rfl
theorem tFours:(Tryz.prog.globals[0]?).map (·.type)=some 273:=by kernel_rfl
theorem gForms : Tryz.prog.globalNamed "tsblock/times.forms" = some 1:=by kernel_rfl
theorem tForms:(Tryz.prog.globals[1]?).map (·.type)=some 279:=by kernel_rfl
theorem tab_vars {P:Program} {W:World} {name:String} {k:IntKind} {zs:List Int} {r:List (String × DataW Unit)} {q0:List MemPlace} {g:Nat} {t e:TypeId} {n:Nat}
  (hg:P.globalNamed name=some g) (hty:(P.globals[g]?).map (·.type)=some t) (ht:P.underlying t=some (.array n e)) (he:P.underlying e=some (.int k)) (hce:P.cellsOf e=1) (hct:P.cellsOf t=n)
  (h:DataW.LaidVars P W ((name,Lib.tabData k zs)::r) q0):Lib.TabIs P W name k zs:=by
 obtain ⟨_,_,cs,_,_,_,hg',ht',hvar,hd,_⟩:=h
 cases hg.symm.trans hg'
 cases hty.symm.trans ht'
 rw [Lib.TabIs,hvar,← Lib.cells_of_tab ht he hce hct hd]
theorem cell_tab {zs:List Nat} {W:World} {name:String} {k:IntKind} {g i:Nat} (h:Lib.TabIs Tryz.prog W name k (zs.map fun n:Nat=>(n:Int))) (hg : Tryz.prog.globalNamed name=some g) (hi:i<zs.length):W.cell? ⟨g,i,none⟩=some (.int k (zs.getD i 0:Nat)):=by
 have e:(zs.map fun n:Nat=>(n:Int)).getD i 0=((zs.getD i 0:Nat):Int):=by
  simp only [List.getD_eq_getElem?_getD,List.getElem?_map]
  cases zs[i]? <;> rfl
 rw [h.cell hg i (by simpa using hi),e]
def formData (k:Nat):DataW Unit:=.agg [.lit (.int .u64 (markT k:Int)),.lit (.int .i64 (markLenT k:Int)),.lit (.int .i64 (widthT k:Int))]
theorem listed_forms:Rows.laid_tsblock_times_forms=(.agg ((List.range 5).map formData):DataW Unit):=rfl
theorem one_cell_of {cs:List Value} {i:Nat} {u:Value} (h:(cs.drop i).take 1=[u]):cs[i]? = some u:=by
 have:=congrArg (·[0]?) h
 simpa [List.getElem?_take,List.getElem?_drop] using this
theorem form_of_trod {W:World} {fuel:Nat} {cs:List Value} {p:List MemPlace} {k:Nat} (h:DataW.trod (fun _=>()) Tryz.prog W 0 (fun _=>true) false fuel 250 cs=some (formData k,p)) :
  cs[0]? = some (.int .u64 (markT k:Int))∧cs[1]? = some (.int .i64 (markLenT k:Int))∧cs[2]? = some (.int .i64 (widthT k:Int)):=by
 obtain ⟨y0,y1,y2,n,hx,_,h0,h1,h2⟩:=Deep.trod_struct3 Tryz.underlying250 h
 obtain ⟨n0,c0,rfl,_⟩:=DataW.trod_int Tryz.underlying81 h0
 obtain ⟨n1,c1,rfl,_⟩:=DataW.trod_int Tryz.underlying3 h1
 obtain ⟨n2,c2,rfl,_⟩:=DataW.trod_int Tryz.underlying3 h2
 have hd:=congrArg Prod.fst hx
 simp only [formData,DataW.agg.injEq,List.cons.injEq,DataW.lit.injEq,Lit.int.injEq,true_and,and_true] at hd
 obtain ⟨e0,e1,e2⟩:=hd
 rw [e0,e1,e2]
 exact ⟨one_cell_of c0,one_cell_of c1,one_cell_of c2⟩
theorem forms_of_vars {W:World} {q0:List MemPlace} {r:List (String × DataW Unit)} (h:DataW.LaidVars Tryz.prog W (("tsblock/times.forms",Rows.laid_tsblock_times_forms)::r) q0):TabF W:=by
 obtain ⟨g',t',cs,fuel,p,q,hg',ht',hvar,hd,_,_⟩:=h
 obtain rfl:=Option.some.inj (gForms.symm.trans hg')
 obtain rfl:=Option.some.inj (tForms.symm.trans ht')
 rw [listed_forms] at hd
 obtain ⟨xs,m,_,hx,_,hxl,hi⟩:=DataW.trod_array Tryz.underlying279 hd
 have hce : Tryz.prog.cellsOf 250 = 3:=by kernel_rfl
 rw [hce] at hi
 have hm:(List.range 5).map formData=xs.map (·.1):=by
  have:=congrArg Prod.fst hx
  simpa using this
 intro k hk
 have hk5:k<5:=by omega
 have hxk:(xs.map (·.1))[k]? = some (formData k):=by rw [← hm];simp [hk5]
 rw [List.getElem?_map] at hxk
 obtain ⟨y,hy,hy1⟩:=Option.map_eq_some_iff.1 hxk
 have ht:=hi k hk5
 rw [hy] at ht
 obtain ⟨y1,y2⟩:=y
 simp only at hy1
 subst hy1
 obtain ⟨a0,a1,a2⟩:=form_of_trod ht
 have hc:∀j,j<3→W.cell? ⟨1,k*3+j,none⟩=((cs.toList.drop (k*3)).take 3)[j]?:=fun j hj=>by
  rw [World.var?_cell gForms hvar,List.getElem?_take,if_pos hj,List.getElem?_drop,Array.getElem?_toList]
 exact ⟨(hc 0 (by omega)).trans a0,(hc 1 (by omega)).trans a1,(hc 2 (by omega)).trans a2⟩
theorem tab_of_laid {W:World} (h:laidMetH Tryz.prog listed W):T17 W:=by
 rw [MakeChecks.laidMetH_plain _ _ _ (by kernel_rfl)] at h
 obtain ⟨_,h1,_⟩:=h
 have hZ:Lib.TabIs Tryz.prog W "math/bits.deBruijn64tab" .u8 (Lib.deBruijn64tab.map fun n:Nat=>(n:Int)):=
  tab_vars gZeros tZeros Tryz.underlying362 Tryz.underlying5 (by kernel_rfl) (by kernel_rfl) h1
 obtain ⟨_,_,_,_,_,_,_,_,_,_,h2,_⟩:=h1
 have hG:=forms_of_vars h2
 obtain ⟨_,_,_,_,_,_,_,_,_,_,h3,_⟩:=h2
 have hF:Lib.TabIs Tryz.prog W "tsblock/crc.fourShifts" .u32 (fours.map fun n:Nat=>(n:Int)):=
  tab_vars gFours tFours Tryz.underlying273 Tryz.underlying139 (by kernel_rfl) (by kernel_rfl) h3
 exact ⟨fun i hi=>cell_tab hF gFours (by simpa [fours] using hi),hG,fun i hi=>cell_tab hZ gZeros (by simpa using hi)⟩
theorem start_met (os:Os) (args:Array Value):laidMetH Tryz.prog listed ((World.laidAll Tryz.prog os listed).forCall (fun _ _=>0) ⟨#[],args,[]⟩).memory:=by
 rw [MakeChecks.laidMetH_plain _ _ _ (by kernel_rfl)]
 exact laidMet_laidAll args (by kernel_rfl) (by kernel_rfl)
theorem start_shaped (os:Os) (args:Array Value):((World.laidAll Tryz.prog os listed).forCall (fun _ _=>0) ⟨#[],args,[]⟩).Shaped Tryz.prog:=World.shaped_of_ZipB (by kernel_rfl) (by kernel_rfl)
end Go.Proofs.YtdcgbgecbeegmaaGreatDoor
end
