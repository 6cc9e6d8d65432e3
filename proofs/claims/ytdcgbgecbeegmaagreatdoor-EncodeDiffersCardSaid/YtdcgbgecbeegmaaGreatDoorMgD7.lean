/- Texts 7. -/
import Derived.Test.YtdcgbgecbeegmaaGreatDoorMgD4
import Derived.Test.YtdcgbgecbeegmaaGreatDoorMgD6
import Derived.Test.YtdcgbgecbeegmaaGreatDoorMgD5
import Derived.Test.YtdcgbgecbeegmaaGreatDoorMgD1
import Derived.Test.YtdcgbgecbeegmaaGreatDoorMgD3
import Derived.Laws.BitsAllLaws
import Derived.Test.YtdcgbgecbeegmaaGreatDoorMgD2
import Derived.Lib.SlBytesConst
import Derived.BigFrame
set_option linter.unusedVariables false
set_option linter.unusedSimpArgs false
section
set_option maxRecDepth 20000
namespace Go.Proofs.YtdcgbgecbeegmaaGreatDoor
open Go Go.RowKit
def prevB (b:List Ser) (i:Nat):Option (List Lab):=if i=0 then none else (b[i-1]?).map Prod.fst
def nextB (p:Option (List Lab)) (l:List Lab) (rest:Nat):Nat:=match p with
 | none=>rest
 | some q=>if cmpLabs q l=0 then 19 else if 0<cmpLabs q l then 16 else rest
theorem checkB_step {b:List Ser} {i:Nat} {s:Ser} (hx:b[i]? = some s) (h:checkB b=checkBFrom (prevB b i) (b.drop i)) :
  checkB b=if serErr s≠0 then serErr s else nextB (prevB b i) s.1 (checkBFrom (prevB b (i+1)) (b.drop (i+1))):=by
 have hlt:=(List.getElem?_eq_some_iff.1 hx).1
 have hd:b.drop i=s::b.drop (i+1):=by rw [List.drop_eq_getElem_cons hlt,(List.getElem?_eq_some_iff.1 hx).2]
 have hp:prevB b (i+1)=some s.1:=by rw [prevB,if_neg (by omega),Nat.add_sub_cancel,hx];rfl
 rw [h,hd,hp]
 conv=>lhs;unfold checkBFrom
 cases prevB b i<;>rfl
set_option maxHeartbeats 4000000 in
theorem ref_check12 (bv:Value) (b:List Ser) (w:World) (h:RdB w bv b) (hs:Mid b) (hz:Sized b) :
  Calls Tryz.prog 15 #[bv] w fun e w'=>e = .returned (.int .i64 (checkB b:Int))∧Below w.heap.size w w':=by
 have H:=Lib.hid h;have HSm:=Lib.hid hs;have HZ:=Lib.hid hz
 have HLg:=Lib.hid (ref_large12 bv b w h hs)
 obtain ⟨p,c,hv⟩:=h.shape
 subst hv
 have hmx:(b.length:Int)≤20000:=by have:=hs.len;omega
 clear h hs hz
 go_enter Tryz.func15,Tryz.ntmps15
 go_wp2_with fail
 refine HLg.out.mono ?_
 rintro e w1 ⟨rfl,rfl⟩
 go_wp2_with fail
 go_loopw [3] (fun iv wr=>∃(i:Nat),i≤b.length∧iv = .int .i64 (i:Int)∧Hid (checkB b=checkBFrom (prevB b i) (b.drop i))∧Hid (Below w1.heap.size w1 wr)) (fun iv _=>b.length-(intOf iv).toNat)
 case atStart=>exact ⟨0,Nat.zero_le _,rfl,rfl,Below.refl _ _⟩
 case round=>
  obtain ⟨i,hi,rfl,HC,HB⟩:=hrel
  have him:(i:Int)≤20000:=by omega
  by_cases hlt:i<b.length
  ·have hlt':(i:Int)<(b.length:Int):=by omega
   obtain ⟨⟨ls,ss⟩,hx⟩:∃s,b[i]? = some s:=⟨_,List.getElem?_eq_getElem hlt⟩
   obtain ⟨blk,off,h1,h2,e,⟨p1,k1,e1⟩,⟨p2,k2,e2⟩,hal⟩:=H.out.always hx
   subst e
   simp only at e1 e2
   subst e1
   subst e2
   have HAl:=Lib.hid hal
   have HSt:=Lib.hid (checkB_step hx HC.out)
   have hmem:=List.mem_of_getElem? hx
   have HL1:Hid (ls.length≤60000∧ss.length≤1000000):=⟨HSm.out.lab _ hmem,HSm.out.mem hmem⟩
   obtain ⟨c1,_,hsr⟩:=hal wr HB.out
   have HCk:=Lib.hid (ref_check11 _ ls wr hsr.1 (HZ.out _ hmem).1 (by have:=HL1.out.1;omega))
   have HX:=Lib.hid hx
   clear hx hal hsr hmem HC
   by_cases hc:checkL ls=0
   ·by_cases hss:ss.length=0
    ·have HE:Hid (checkB b=21):=by
      have hnil:ss=[]:=List.eq_nil_of_length_eq_zero hss
      have hser:serErr (ls,ss)=21:=by unfold serErr;rw [if_neg (not_not_intro hc),if_pos hnil]
      have:=HSt.out
      rw [hser] at this
      exact this
     rw [hc] at HCk
     have hssi:((ss.length:Int) == 0)=true:=by rw [beq_iff_eq];omega
     rw [hss] at HAl
     clear hc hssi HSt
     go_wp2_with fail
     refine HCk.out.mono ?_
     rintro e w2 ⟨rfl,hB⟩
     have HB2:Hid (Below w1.heap.size w1 w2):=HB.out.trans (hB.mono HB.out.size)
     have c2:=(HAl.out w2 HB2.out).2.1
     clear hB HCk c1
     go_wp2_with fail
     go_ret
     exact ⟨by rw [HE.out];rfl,HB2.out⟩
    ·have HSer:Hid (serErr (ls,ss)=timesL ss):=by
      show _=_
      unfold serErr
      rw [if_neg (not_not_intro hc),if_neg (fun e:ss=[]=>hss (by rw [e];rfl))]
     rw [hc] at HCk
     have hssi:((ss.length:Int) == 0)=false:=by rw [beq_eq_false_iff_ne];omega
     clear hc
     go_wp2_with fail
     refine HCk.out.mono ?_
     rintro e w2 ⟨rfl,hB⟩
     have HB2:Hid (Below w1.heap.size w1 w2):=HB.out.trans (hB.mono HB.out.size)
     have c2:=(HAl.out w2 HB2.out).2.1
     have HTm:=Lib.hid (ref_times12 _ ss w2 (HAl.out w2 HB2.out).2.2.2 (by have:=HL1.out.2;omega))
     clear hB HCk c1
     go_wp2_with fail
     refine HTm.out.mono ?_
     rintro e w3 ⟨rfl,q3,rfl⟩
     have HB3:Hid (Below w1.heap.size w1 (w2.drewN q3)):=HB2.out.trans ((Mods.drewN (fun _=>False) w2 q3).below HB2.out.size (fun _ _ e=>e))
     clear c2 HTm
     generalize w2.drewN q3=w3 at *
     by_cases ht:timesL ss=0
     ·have HSt2:Hid (checkB b=nextB (prevB b i) ls (checkBFrom (prevB b (i+1)) (b.drop (i+1)))):=by
       have:=HSt.out
       rw [HSer.out,if_neg (not_not_intro ht)] at this
       exact this
      rw [ht]
      clear ht HSt HSer
      by_cases h0:i=0
      ·subst h0
       have HE:Hid (checkB b=checkBFrom (prevB b (0+1)) (b.drop (0+1))):=HSt2.out
       clear HSt2
       go_wp2_with fail
       go_round
       case rel=>exact ⟨0+1,by omega,by go_num,HE.out,HB3.out⟩
       case measure=>simp [intOf];omega
      ·obtain ⟨k,rfl⟩:∃k,i=k+1:=⟨i-1,by omega⟩
       obtain ⟨⟨lq,sq⟩,hy⟩:∃s,b[k]? = some s:=⟨_,List.getElem?_eq_getElem (by omega)⟩
       obtain ⟨blk2,off2,g1,g2,e,⟨p3,k3,e3⟩,_,hal2⟩:=H.out.always hy
       simp only [Option.some.injEq,Addr.mk.injEq] at e
       obtain ⟨rfl,rfl,_⟩:=e
       simp only at e3
       subst e3
       have HL2:Hid (lq.length≤60000):=HSm.out.lab _ (List.mem_of_getElem? hy)
       have hprev:prevB b (k+1)=some lq:=by rw [prevB,if_neg (by omega),Nat.add_sub_cancel,hy];rfl
       have HE:Hid (checkB b=if cmpLabs lq ls=0 then 19 else if 0<cmpLabs lq ls then 16 else checkBFrom (prevB b (k+1+1)) (b.drop (k+1+1))):=by
        have:=HSt2.out
        rw [hprev] at this
        exact this
       have cA:=(hal2 w3 HB3.out).1
       have cB:=(HAl.out w3 HB3.out).1
       have hki:((k+1:Nat):Int)-1=(k:Int):=by omega
       have hkw:IntKind.i64.wrap (k:Int)=(k:Int):=IntWalk.i64_in _ (by omega)
       have hkN:k<b.length:=by omega
       have hk1:k+1<b.length:=hlt
       have hpos:(0:Int)<((k+1:Nat):Int):=by omega
       have hkl:(k:Int)<(b.length:Int):=by omega
       have HAq:=Lib.hid hal2
       have hdom:=cmpLabs_ok.dom lq ls
       clear hy hal2 hprev HSt2 h0
       obtain ⟨I,hI⟩:∃I,k+1=I:=⟨_,rfl⟩
       have HI:=Lib.hid hI
       rw [hI] at HAl HE him hlt' hki hk1 hpos ⊢
       rw [hI] at cB
       clear hI hi hlt
       go_wp2_with fail
       have HS:Hid (∀w':World,(w'.cell? ⟨blk,off+k*2,none⟩=some (.slice p3 lq.length k3)∧w'.cell? ⟨blk,off+I*2,none⟩=some (.slice p1 ls.length k1)∧True)→(w'.cell? ⟨blk,off+k*2,none⟩=some (.slice p3 lq.length k3)∧w'.cell? ⟨blk,off+I*2,none⟩=some (.slice p1 ls.length k1)∧True)):=fun _ h=>h
       refine wp_normal ?_
       refine wp_region_takeH (fun w':World=>w'.cell? ⟨blk,off+k*2,none⟩=some (.slice p3 lq.length k3)∧w'.cell? ⟨blk,off+I*2,none⟩=some (.slice p1 ls.length k1)∧True) [11] [0,1,2,3,4,5,6,7,8,9,10,11,12] (by kernel_rfl) (by kernel_rfl) (by kernel_rfl) ?_ ?_ ?_
       ·intro c a a' w hd h;cases h.1
       ·exact ⟨cA,cB,trivial⟩
       clear cA cB
       simp only [taken,List.map_cons,List.map_nil,List.getElem?_cons_succ,List.getElem?_cons_zero,Option.getD_some]
       repeat (first
        | (refine takeH_skip rfl ?_; simp only [Act.put, List.setIfInBounds_toArray, List.set_cons_succ, List.set_cons_zero])
        | (refine takeH_blind rfl rfl ?_; apply Exists.intro; refine ⟨fun w => ?_, ?_⟩; (go_simp; try with_reducible rfl); simp only [Act.put, List.setIfInBounds_toArray, List.set_cons_succ, List.set_cons_zero])
        | (refine takeH_reads rfl rfl ?_; apply Exists.intro; refine ⟨fun w' hS => ?_, ?_⟩; (obtain ⟨d0, d1, d2⟩ := HS.out w' hS; go_simp; try with_reducible rfl); simp only [Act.put, List.setIfInBounds_toArray, List.set_cons_succ, List.set_cons_zero]))
       refine takeH_call rfl rfl (fun K' hK=>?_)
       have HB4:Hid (Below w1.heap.size w1 w3.drew):=HB3.out.trans ((Mods.drew (fun _=>False) w3).below HB3.out.size (fun _ _ e=>e))
       have HCm:=Lib.hid (ref_compare11 _ _ lq ls w3.drew (HAq.out _ HB4.out).2.2.1 (HAl.out _ HB4.out).2.2.1 (by have:=HL2.out;omega) (by have:=HL1.out.1;omega))
       generalize w3.drew=w4 at *
       go_wp2_with fail
       refine HCm.out.mono ?_
       rintro en w5 ⟨rfl,hB⟩
       have HB5:Hid (Below w1.heap.size w1 w5):=HB4.out.trans (hB.mono HB4.out.size)
       refine hK _ _ ⟨(HAq.out _ HB5.out).1,(HAl.out _ HB5.out).1,trivial⟩ ?_
       clear hK K' hB HCm
       repeat (first
        | (refine takeH_skip rfl ?_; simp only [Act.put, List.setIfInBounds_toArray, List.set_cons_succ, List.set_cons_zero])
        | (refine takeH_blind rfl rfl ?_; apply Exists.intro; refine ⟨fun w => ?_, ?_⟩; (go_simp; try with_reducible rfl); simp only [Act.put, List.setIfInBounds_toArray, List.set_cons_succ, List.set_cons_zero])
        | (refine takeH_reads rfl rfl ?_; apply Exists.intro; refine ⟨fun w' hS => ?_, ?_⟩; (obtain ⟨d0, d1, d2⟩ := HS.out w' hS; go_simp; try with_reducible rfl); simp only [Act.put, List.setIfInBounds_toArray, List.set_cons_succ, List.set_cons_zero]))
       refine takeH_nil ⟨rfl,?_⟩
       clear HS
       generalize cmpLabs lq ls=cv at *
       rcases hdom with rfl | rfl | rfl
       ·have HE2:Hid (checkB b=checkBFrom (prevB b (I+1)) (b.drop (I+1))):=by rw [← HI.out];rw [← HI.out] at HE;exact HE.out
        clear HE
        go_wp2_with fail
        go_round
        case rel=>exact ⟨I+1,by omega,by go_num,HE2.out,HB5.out⟩
        case measure=>simp [intOf];omega
       ·have HE2:Hid (checkB b=19):=HE.out
        clear HE
        go_wp2_with fail
        go_ret
        exact ⟨by rw [HE2.out];rfl,HB5.out⟩
       ·have HE2:Hid (checkB b=16):=HE.out
        clear HE
        go_wp2_with fail
        go_ret
        exact ⟨by rw [HE2.out];rfl,HB5.out⟩
     ·have HE:Hid (checkB b=timesL ss):=by
       have:=HSt.out
       rw [HSer.out,if_pos ht] at this
       exact this
      have htb:((timesL ss:Int) == 0)=false:=by rw [beq_eq_false_iff_ne];omega
      clear ht HSt HSer
      generalize timesL ss=te at *
      go_wp2_with fail
      go_ret
      exact ⟨by rw [HE.out];rfl,HB3.out⟩
   ·have HE:Hid (checkB b=checkL ls):=by
     have hser:serErr (ls,ss)=checkL ls:=by unfold serErr;rw [if_pos hc]
     have:=HSt.out
     rw [hser,if_pos hc] at this
     exact this
    have hcb:((checkL ls:Int) == 0)=false:=by rw [beq_eq_false_iff_ne];omega
    clear hc HSt
    generalize checkL ls=ce at *
    go_wp2_with fail
    refine HCk.out.mono ?_
    rintro e w2 ⟨rfl,hB⟩
    have HB2:Hid (Below w1.heap.size w1 w2):=HB.out.trans (hB.mono HB.out.size)
    clear hB HCk c1
    go_wp2_with fail
    go_ret
    exact ⟨by rw [HE.out];rfl,HB2.out⟩
  ·have hlt':¬(i:Int)<(b.length:Int):=by omega
   have HE:Hid (checkB b=0):=by
    show _=_
    rw [HC.out,List.drop_of_length_le (by omega)]
    cases prevB b i<;>rfl
   go_wp2_with fail
   go_ret
   exact ⟨by rw [HE.out];rfl,HB.out⟩
end Go.Proofs.YtdcgbgecbeegmaaGreatDoor
end
section
namespace Go.Proofs.YtdcgbgecbeegmaaGreatDoor
open Go Go.RowKit
theorem u8s_le4 (S:Nat) (h:S<4294967296):u8s (le4 S)=[.int .u8 ((S:Int) % 256),.int .u8 ((S:Int) / 256 % 256),.int .u8 ((S:Int) / 65536 % 256),.int .u8 ((S:Int) / 16777216)]:=by
 have e:S / 16777216 % 256=S / 16777216:=by omega
 simp [u8s,le4,e]
theorem le4_length (S:Nat):(le4 S).length=4:=rfl
theorem upd_take_succ (s:Nat) (l:List Nat) (k:Nat) (h:k<l.length):upd s (l.take (k+1))=step8 (upd s (l.take k)) l[k]:=by
 rw [List.take_add_one,List.getElem?_eq_getElem h,Option.toList_some,upd_append];rfl
theorem upd_take_all (s:Nat) (l:List Nat):upd s (l.take l.length)=upd s l:=by rw [List.take_length]
end Go.Proofs.YtdcgbgecbeegmaaGreatDoor
end
section
namespace Go.Proofs.YtdcgbgecbeegmaaGreatDoor
open Go Go.RowKit
section
variable {P:Program}
theorem wpList_extendF {t e:TypeId} {sz bytes:Nat} (hE:Elem P t e sz bytes) (w:World) (v v2:Value) (n m:Nat) (xs news:List Value) (hs0:Rd w sz v n xs) (hfull:∃p,v = .slice p n n) (hr:Rd w sz v2 m news) (hm:0<m) (hn0:0<n) (h1:∀u∈news,u.oneCell'=true) (hb:(n+m)*bytes≤140737488355328∧n+m≤maxLen)
  {ops:Array Oper} {rest:List Oper} {o:Oper} {a:Act} {Q:Exit→Act→World→Prop} (hgd:Region.wanted o (yielded ops a.tmps)=true) (s x:Operand) (ho:o.op = .call { callee:=.builtin .append,args:=#[s,x],argTypes:=#[t,t] })
  (hs:a.eval s=v) (hx:a.eval x=v2)
  (h:∀v' w',w'.ownsRow w.heap.size e sz v' (n+m) (xs++news)→Below w.heap.size w w'→wpList P ops Q rest (a.put o.dst v') w'):wpList P ops Q (o::rest) a w:=by
 obtain ⟨i,z,hi,hz,hsize,hby,hzs⟩:=hE.hi
 obtain ⟨p,c,hv,hl0,_,_,hnil0,hcell0⟩:=hs0
 obtain ⟨p',hv'⟩:=hfull
 subst hv
 simp only [Value.slice.injEq] at hv'
 obtain ⟨rfl,_,rfl⟩:=hv'
 obtain ⟨p2,c2,rfl,hl,_,_,hnil,hcell⟩:=hr
 cases p with
 | none=>have:=(hnil0 rfl).1;omega
 | some ad0=>
  cases p2 with
  | none=>have:=(hnil rfl).1;omega
  | some ad=>
   subst hsize
   subst hby
   have hsmall:c+m≤9223372036854775807:=by have:=hb.2;simp only [maxLen] at this;omega
   have hrun:=run_append_grow (P:=P) w t o.type e i z hE.ht hi hz ad0 c c xs hl0 (hcell0 ad0 rfl) ad m c2 news hl (hcell ad rfl) (by omega) (by omega) (growslice_fits (by omega) hb.1)
   have hge:=grownCap_ge w (c+m) c e
   have hlen:(xs++news).length=(c+m)*i.size:=by rw [List.length_append,hl0,hl,Nat.add_mul]
   refine BigFrame.wpList_want hgd fun K hK=>?_
   unfold Oper.wp execOp
   simp only [ho,resolve,invoke,builtin,Sem.run_bind,Sem.run_pure,Result.andThen_ok,List.map_toArray,List.map_cons,List.map_nil,hs,hx,hrun]
   refine hK _ _ (h _ _ ⟨hlen,.inr ⟨w.heap.size,_,_,rfl,Nat.le_refl _,heap_alloc_new w.drew _,hge,grownCap_le_maxLen w (c+m) c e hb.2,?_,?_⟩⟩ ⟨rfl,rfl,rfl,by simp,fun k hk=>Below.heap_alloc w.drew _ k hk⟩)
   ·simp only [Array.size_append,List.size_toArray,size_zeroCells,hzs,hl0,hl,← Nat.add_mul]
    congr 1
    omega
   ·simp only [Array.toList_append,List.append_assoc]
    rw [← List.append_assoc,← hlen]
    exact List.take_left
end
structure AppB (w wr:World) (L:List Nat) (v:Value):Prop where
 rd:Rd wr 1 v L.length (u8s L)
 far:∀k,v.ownBlock=some k→w.heap.size≤k∧k<wr.heap.size
 bel:Below w.heap.size w wr
 how:OwnB w wr L v∨(L≠[]∧∃p,v = .slice p L.length L.length)
theorem AppB.of {w wr:World} {L:List Nat} {v:Value} (h:OwnB w wr L v):AppB w wr L v:=⟨h.rd,fun k hk=>h.row.lt k hk,h.bel,Or.inl h⟩
theorem AppB.shape {w wr:World} {L:List Nat} {v:Value} (h:AppB w wr L v):∃p c,v = .slice p L.length c:=h.rd.shape
theorem AppB.mods {S:Nat→Prop} {w wr w':World} {L:List Nat} {v:Value} (h:AppB w wr L v) (hm:Mods S wr w') (hS:∀k,v.ownBlock=some k→¬S k) (hb:∀k,k<w.heap.size→¬S k):AppB w w' L v:=by
 have hbel:=h.bel.trans (hm.below h.bel.size hb)
 refine ⟨h.rd.mods hm hS,fun k hk=>⟨(h.far k hk).1,Nat.lt_of_lt_of_le (h.far k hk).2 hm.size⟩,hbel,?_⟩
 rcases h.how with ho | hf
 ·exact Or.inl ⟨hm.owns ho.row hS,hbel⟩
 ·exact Or.inr hf
theorem AppB.below {w wr w':World} {L:List Nat} {v:Value} (h:AppB w wr L v) (hb:Below wr.heap.size wr w'):AppB w w' L v:=
 h.mods (Mods.of_below hb (fun _=>False)) (fun _ _ h=>h) (fun _ _ h=>h)
theorem wpList_extendA {P:Program} {t:TypeId} {bytes:Nat} (hE:Elem P t 5 1 bytes) (w wr:World) (v v2:Value) (L e:List Nat) (hA:AppB w wr L v) (hr:Rd wr 1 v2 e.length (u8s e)) (hne:e≠[]) (hb:(L.length+e.length)*bytes≤140737488355328∧L.length+e.length≤maxLen)
  {ops:Array Oper} {rest:List Oper} {o:Oper} {a:Act} {Q:Exit→Act→World→Prop} (hgd:Region.wanted o (yielded ops a.tmps)=true) (s x:Operand) (ho:o.op = .call { callee:=.builtin .append,args:=#[s,x],argTypes:=#[t,t] })
  (hs:a.eval s=v) (hx:a.eval x=v2)
  (h:∀v' w',OwnB w w' (L++e) v'→Mods (fun k=>v.ownBlock=some k) wr w'→Fresh wr.heap.size v v'→wpList P ops Q rest (a.put o.dst v') w'):wpList P ops Q (o::rest) a wr:=by
 rcases hA.how with hO | ⟨hL,hf⟩
 ·exact wpList_extend hE wr v v2 L.length e.length (u8s L) (u8s e) hO.base0 hr (u8s_oneCell _) hb hgd s x ho hs hx (fun v' w' k1 m1 f1=>h v' w' (hO.extended (e:=e) k1 m1 f1) m1 f1)
 ·have hl0:0<L.length:=List.length_pos_iff.2 hL
  have he0:0<e.length:=List.length_pos_iff.2 hne
  refine wpList_extendF hE wr v v2 L.length e.length (u8s L) (u8s e) hA.rd hf hr he0 hl0 (u8s_oneCell _) hb hgd s x ho hs hx (fun v' w' k1 b1=>h v' w' ⟨?_,hA.bel.trans (b1.mono hA.bel.size)⟩ (Mods.of_below b1 _) (fun k hk=>Or.inr (k1.lt k hk).1))
  show w'.ownsRow w.heap.size _ 1 v' (L++e).length (u8s (L++e))
  rw [List.length_append,u8s_append]
  exact owns_rebase k1 (fun k hk=>Nat.le_trans hA.bel.size (k1.lt k hk).1)
end Go.Proofs.YtdcgbgecbeegmaaGreatDoor
end
section
set_option maxRecDepth 20000
namespace Go.Proofs.YtdcgbgecbeegmaaGreatDoor
open Go Go.RowKit
theorem putS_snoc (S:List (List Nat)) (d:List Nat):∀id,putS id (S++[d])=putS id S++frameOf (id+S.length) d:=by
 induction S with
 | nil=>intro id;simp [putS]
 | cons x S ih=>intro id;rw [List.cons_append,putS,putS,ih,List.append_assoc,List.length_cons,show id+1+S.length=id+(S.length+1) by omega]
theorem offs_snoc (S:List (List Nat)) (d:List Nat):∀id a,offs id a (S++[d])=offs id a S++[a+(putS id S).length]:=by
 induction S with
 | nil=>intro id a;simp [offs,putS]
 | cons x S ih=>intro id a;rw [List.cons_append,offs,offs,ih,List.cons_append,putS,List.length_append,show a+(frameOf id x).length+(putS (id+1) S).length=a+((frameOf id x).length+(putS (id+1) S).length) by omega]
def asmTo (S:List (List Nat)) (i:Nat):List Nat:=headL++putS 1 (S.take i)
def atTo (S:List (List Nat)) (i:Nat):List Nat:=offs 1 5 (S.take i)++List.replicate (5-i) 0
theorem asmTo_step {S:List (List Nat)} {i:Nat} {d:List Nat} (h:S[i]? = some d):asmTo S (i+1)=asmTo S i++frameOf (1+i) d:=by
 have hi:=(List.getElem?_eq_some_iff.1 h).1
 have e:S.take (i+1)=S.take i++[d]:=by rw [List.take_add_one,h];rfl
 rw [asmTo,e,putS_snoc,List.length_take,Nat.min_eq_left (by omega),asmTo,List.append_assoc]
theorem asmTo_len (S:List (List Nat)) (i:Nat):(asmTo S i).length=5+(putS 1 (S.take i)).length:=by rw [asmTo,List.length_append];rfl
theorem asmTo_le (S:List (List Nat)) (i:Nat):(asmTo S i).length≤(asmL S).length:=by
 have key:∀(S:List (List Nat)) (id i:Nat),(putS id (S.take i)).length≤(putS id S).length:=by
  intro S
  induction S with
  | nil=>intro id i;simp [putS]
  | cons x S ih=>
   intro id i
   cases i with
   | zero=>simp [putS]
   | succ i=>rw [List.take_succ_cons,putS,putS,List.length_append,List.length_append];have:=ih (id+1) i;omega
 have:=key S 1 i
 rw [asmTo_len,asmL,List.length_append,withCrc_length,bodyL]
 simp only [List.length_append]
 have:headL.length=5:=rfl
 omega
theorem offs_le:∀(S:List (List Nat)) (id a:Nat),∀x∈offs id a S,x≤a+(putS id S).length
 | [],_,_,x,hx=>by cases hx
 | d::S,id,a,x,hx=>by
  rw [offs] at hx
  rw [putS,List.length_append]
  rcases List.mem_cons.1 hx with rfl | hx
  ·omega
  ·have:=offs_le S (id+1) _ x hx;omega
theorem atTo_four {S:List (List Nat)} (h4:S.length=4):atTo S 4=offs 1 5 S++[0]:=by
 rw [atTo,List.take_of_length_le (by omega)];rfl
theorem asmTo_four {S:List (List Nat)} (h4:S.length=4):asmTo S 4=headL++putS 1 S:=by
 rw [asmTo,List.take_of_length_le (by omega)]
theorem sec_le {S:List (List Nat)} {i:Nat} {d:List Nat} (h:S[i]? = some d):(asmTo S i).length+(frameOf (1+i) d).length≤(asmL S).length:=by
 have:=asmTo_le S (i+1)
 rw [asmTo_step h,List.length_append] at this
 exact this
end Go.Proofs.YtdcgbgecbeegmaaGreatDoor
end
section
namespace Go.Proofs.YtdcgbgecbeegmaaGreatDoor
open Go Go.RowKit
theorem encBl_lt {b:List Ser} (hs:Mid b) (hz:Sized b):∀c∈(encBl b).2,c<256:=by
 unfold encBl
 by_cases h:checkB b=0
 ·rw [if_pos h];exact asmL_lt (secsE_four b) (ok17 hs hz h).1
 ·rw [if_neg h];intro c hc;cases hc
theorem encBl_ok {b:List Ser} (h:checkB b=0):encBl b=(0,asmL (secsE b)):=by unfold encBl;rw [if_pos h]
def secsOf (b:List Ser):List (List Nat):=if checkB b=0 then secsE b else [[],[],[],[]]
theorem secsOf_four (b:List Ser):(secsOf b).length=4:=by unfold secsOf;split<;>rfl
theorem enc_decide17 {a b:List Ser} (sa:Mid a) (sb:Mid b) (za:Sized a) (zb:Sized b) (ka:checkB a=0) (kb:checkB b=0):decide (asmL (secsE a)=asmL (secsE b))=decide (a=b):=by
 have oa:=ok17 sa za ka;have ob:=ok17 sb zb kb
 have h:=enc_inj17 (sze17 sa za (block_of_check ka)) (sze17 sb zb (block_of_check kb)) encC_small17 oa.1 ob.1 (by have:=oa.2;omega) (by have:=ob.2;omega)
 by_cases e:a=b
 ·rw [decide_eq_true e,decide_eq_true (h.2 e)]
 ·rw [decide_eq_false e,decide_eq_false (fun f=>e (h.1 f))]
end Go.Proofs.YtdcgbgecbeegmaaGreatDoor
end
section
set_option maxRecDepth 20000
namespace Go.Proofs.YtdcgbgecbeegmaaGreatDoor
open Go Go.RowKit
theorem elemSer:Elem Tryz.prog 22 51 2 48:=Elem.mk' (z:=.agg #[.slice none 0 0,.slice none 0 0]) Tryz.underlying22 (by kernel_rfl) rfl (by decide)
abbrev OwnH:=Own2 51 (Prod.fst:Hd→Value) (Prod.snd:Hd→Value)
def SerOff (S:Nat→Prop) (h:Hd) (s:Ser):Prop:=(s.1≠[]→∀k,h.1.ownBlock=some k→¬S k)∧(s.2≠[]→∀k,h.2.ownBlock=some k→¬S k)
theorem samCells_ne {l:List Sam} (h:samCells l≠[]):l≠[]:=fun e=>h (by subst e;rfl)
theorem SerAt.mods {S:Nat→Prop} {w w':World} {h:Hd} {s:Ser} (k:SerAt w h s) (hm:Mods S w w') (ho:SerOff S h s):SerAt w' h s:=
 ⟨k.1.mods' hm (fun e=>ho.1 (labCells_ne e)),k.2.mods' hm (fun e=>ho.2 (samCells_ne e))⟩
structure NmAt (w wr:World) (hs:List Hd) (b:List Ser) (v:Value):Prop where
 row:OwnH w wr hs v
 len:hs.length=b.length
 ser:∀(i:Nat) (h:Hd) (s:Ser),hs[i]? = some h→b[i]? = some s→SerAt wr h s∧SerOff (fun k=>v.ownBlock=some k) h s
theorem NmAt.below {w wr w1:World} {hs:List Hd} {b:List Ser} {v:Value} (k:NmAt w wr hs b v) (hb:Below wr.heap.size wr w1):NmAt w w1 hs b v:=
 ⟨k.row.below hb,k.len,fun i h s hi hj=>⟨(k.ser i h s hi hj).1.below hb,(k.ser i h s hi hj).2⟩⟩
theorem NmAt.rd {w wr:World} {hs:List Hd} {b:List Ser} {v:Value} (k:NmAt w wr hs b v):RdB wr v b:=⟨⟨hs,k.row.rd,k.len,fun i h s hi hj=>(k.ser i h s hi hj).1⟩⟩
theorem NmAt.stored {w wr:World} {hs hs':List Hd} {b b':List Ser} {g n c i:Nat} {h:Hd} {s:Ser} (k:NmAt w wr hs b (.slice (some ⟨g,0,none⟩) n c)) (hsr:SerAt wr h s) (ho:SerOff (fun j=>j=g) h s) (e1:hs.set i h=hs') (e2:b.set i s=b') :
  NmAt w ((wr.setCell ⟨g,i*2,none⟩ h.1).setCell ⟨g,i*2+1,none⟩ h.2) hs' b' (.slice (some ⟨g,0,none⟩) n c):=by
 subst e1 e2
 have hm1:Mods (fun k=>k=g) wr (wr.setCell ⟨g,i*2,none⟩ h.1):=Mods.set _ _ _ _ (fun _=>rfl)
 have hm:Mods (fun k=>k=g) wr ((wr.setCell ⟨g,i*2,none⟩ h.1).setCell ⟨g,i*2+1,none⟩ h.2):=hm1.trans (Mods.set (fun k=>k=g) _ _ _ (fun _=>rfl)) (fun _ _ e=>e)
 have hc:∀(h:Hd) (s:Ser),SerOff (fun j=>j=g) h s→SerOff (fun j=>(Value.slice (some ⟨g,0,none⟩) n c).ownBlock=some j) h s:=fun h s a=>⟨fun e j hj hv=>a.1 e j hj (by simpa [Value.ownBlock] using hv.symm),fun e j hj hv=>a.2 e j hj (by simpa [Value.ownBlock] using hv.symm)⟩
 have hc':∀(h:Hd) (s:Ser),SerOff (fun j=>(Value.slice (some ⟨g,0,none⟩) n c).ownBlock=some j) h s→SerOff (fun j=>j=g) h s:=fun h s a=>⟨fun e j hj hv=>a.1 e j hj (by rw [hv];rfl),fun e j hj hv=>a.2 e j hj (by rw [hv];rfl)⟩
 refine ⟨k.row.stored (y:=h) rfl,by simp [k.len],fun j h' s' hi hj=>?_⟩
 rw [List.getElem?_set] at hi hj
 by_cases e:i=j
 ·subst e
  by_cases hl:i<hs.length
  ·rw [if_pos rfl,if_pos hl] at hi
   rw [if_pos rfl,if_pos (by rw [← k.len];exact hl)] at hj
   cases hi;cases hj
   exact ⟨hsr.mods hm ho,hc _ _ ho⟩
  ·rw [if_pos rfl,if_neg hl] at hi;cases hi
 ·rw [if_neg e] at hi hj
  obtain ⟨a,b⟩:=k.ser j h' s' hi hj
  exact ⟨a.mods hm (hc' _ _ b),b⟩
structure GotLb (w:World) (o:Nat × List Lab) (e:Ending) (w':World):Prop where
 res:∃r,e = .returned (.tuple #[r,.int .i64 (o.1:Int)])∧Rd w' 2 r o.2.length (labCells o.2)∧(∀k,r.ownBlock=some k→w.heap.size≤k)
 bel:Below w.heap.size w w'
theorem GotLb.fails {w w':World} {o:Nat × List Lab} {en:Nat} (h:Below w.heap.size w w') (ho:o=(en,[])):GotLb w o (.returned (.tuple #[.slice none 0 0,.int .i64 (en:Int)])) w':=by
 subst ho
 exact ⟨⟨_,rfl,Rd.nil _ _,fun k e=>by cases e⟩,h⟩
theorem firstErr_at {l:List Lab} {i:Nat} (h:∀x∈l.take i,oneL x=0) {x:Lab} (hx:l[i]? = some x) (he:oneL x≠0):firstErr l=oneL x:=by
 induction l generalizing i with
 | nil=>simp at hx
 | cons y l ih=>
  cases i with
  | zero=>simp at hx;subst hx;rw [firstErr,if_pos he]
  | succ i=>
   rw [firstErr,if_neg (not_not_intro (h y (by simp)))]
   exact ih (fun z hz=>h z (by rw [List.take_succ_cons];exact List.mem_cons_of_mem _ hz)) (by simpa using hx)
theorem RdB.nil (w:World):RdB w (.slice none 0 0) []:=⟨⟨[],Rd.nil w 2,rfl,fun i h s hi _=>by simp at hi⟩⟩
theorem firstErrB_at {l:List Ser} {i:Nat} (h:∀x∈l.take i,nErr x=0) {x:Ser} (hx:l[i]? = some x) (he:nErr x≠0):firstErrB l=nErr x:=by
 induction l generalizing i with
 | nil=>simp at hx
 | cons y l ih=>
  cases i with
  | zero=>simp at hx;subst hx;rw [firstErrB,if_pos he]
  | succ i=>
   rw [firstErrB,if_neg (not_not_intro (h y (by simp)))]
   exact ih (fun z hz=>h z (by rw [List.take_succ_cons];exact List.mem_cons_of_mem _ hz)) (by simpa using hx)
theorem normB_fails {l:List Ser} {i:Nat} (h:∀x∈l.take i,nErr x=0) {x:Ser} (hx:l[i]? = some x) (he:nErr x≠0):normB l=(nErr x,[]):=by
 have h1:=firstErrB_at h hx he
 unfold normB
 rw [h1,if_pos he]
def GotN (w:World) (o:Nat × List Ser) (e:Ending) (w':World):Prop:=∃r,e = .returned (.tuple #[r,.int .i64 (o.1:Int)])∧RdB w' r o.2∧Below w.heap.size w w'
theorem GotN.fails {w w':World} {o:Nat × List Ser} {en:Nat} (h:Below w.heap.size w w') (ho:o=(en,[])):GotN w o (.returned (.tuple #[.slice none 0 0,.int .i64 (en:Int)])) w':=by
 subst ho
 exact ⟨_,rfl,RdB.nil _,h⟩
end Go.Proofs.YtdcgbgecbeegmaaGreatDoor
end
section
namespace Go.Proofs.YtdcgbgecbeegmaaGreatDoor
open Go Go.RowKit
theorem normB_or (b:List Ser):(normB b).2=[]∨(normB b).2=sortE ltB (b.map nSer):=by
 unfold normB
 repeat' split
 all_goals simp
theorem normB_mem {b:List Ser} {s:Ser} (h:s∈(normB b).2):∃x∈b,s=nSer x:=by
 rcases normB_or b with e | e
 ·rw [e] at h;cases h
 ·rw [e] at h
  obtain ⟨x,hx,rfl⟩:=List.mem_map.1 ((sortE_perm _).mem_iff.1 h)
  exact ⟨x,hx,rfl⟩
theorem samplesB_perm {a b:List Ser} (h:a.Perm b):samplesB a=samplesB b:=(h.map _).sum_nat
theorem samplesB_nSer (b:List Ser):samplesB (b.map nSer)=samplesB b:=by
 induction b with
 | nil=>rfl
 | cons s b ih=>rw [List.map_cons,samplesB_cons,samplesB_cons,ih];simp [nSer,sortE_len]
theorem small_norm {b:List Ser} (h:Small b):Small (normB b).2:=by
 refine ⟨?_,?_,fun s hs=>?_⟩
 ·rcases normB_or b with e | e<;>rw [e]
  ·simp
  ·rw [sortE_len,List.length_map];exact h.len
 ·rcases normB_or b with e | e<;>rw [e]
  ·simp [samplesB]
  ·rw [samplesB_perm (sortE_perm _),samplesB_nSer];exact h.sam
 ·obtain ⟨x,hx,rfl⟩:=normB_mem hs
  have h1:=(norm_le x.1).2
  have h2:=h.lab x hx
  show (normL x.1).2.length≤200
  omega
theorem sized_norm {b:List Ser} (h:Sized b):Sized (normB b).2:=by
 intro s hs
 obtain ⟨x,hx,rfl⟩:=normB_mem hs
 exact ⟨norm_all (h x hx).1,fun y hy=>(h x hx).2 y ((sortE_perm _).mem_iff.1 hy)⟩
def rawBl (l:List Ser):Nat × List Nat:=if (normB l).1=0 then encBl (normB l).2 else ((normB l).1,[])
end Go.Proofs.YtdcgbgecbeegmaaGreatDoor
end
section
namespace Go.Proofs.YtdcgbgecbeegmaaGreatDoor
open Go Go.RowKit
section
variable {P:Program} {t e:TypeId} {n:Nat} {z:Value}
end
end Go.Proofs.YtdcgbgecbeegmaaGreatDoor
end
section
namespace Go.Proofs.YtdcgbgecbeegmaaGreatDoor
open Go Go.RowKit
section
variable {P:Program} {ops:Array Oper} {rest:List Oper} {a:Act} {w:World} {Q:Exit→Act→World→Prop} {t e:TypeId} {n:Nat} {z:Value}
theorem mods_fresh {w w1 w2:World} {k:Nat} (hb:Below w.heap.size w w1) (hm:Mods (fun j=>j=k) w1 w2) (hk:w.heap.size≤k):Below w.heap.size w w2:=
 hb.trans (hm.below hb.size (fun j hj e=>by omega))
theorem wpList_varA (hA:Arr P t e n z) {o1 o2:Oper} (hg1:o1.guard=none) (ho1:o1.op = .alloc t) (hg2:o2.guard=none) (x y:Operand) (ho2:o2.op = .store t x y) (cs:List Value)
  (hx:(a.put o1.dst (.pointer (some ⟨w.heap.size,0,none⟩))).eval x = .pointer (some ⟨w.heap.size,0,none⟩))
  (hy:(a.put o1.dst (.pointer (some ⟨w.heap.size,0,none⟩))).eval y = .agg cs.toArray) (hl:cs.length=n) (h1:∀u∈cs,u.oneCell'=true)
  (h:∀w',Blk w' w.heap.size cs→Below w.heap.size w w'→w'.heap.size=w.heap.size+1→wpList P ops Q rest ((a.put o1.dst (.pointer (some ⟨w.heap.size,0,none⟩))).put o2.dst undef) w'):wpList P ops Q (o1::o2::rest) a w:=by
 refine wpList_allocA hA hg1 ho1 fun w1 hk hb hs=>?_
 refine wpList_storeA hA hg2 x y ho2 w.heap.size hx cs _ hy hk (by simp) hl h1 fun w2 hk2 hm hs2=>?_
 exact h w2 hk2 (mods_fresh hb hm (Nat.le_refl _)) (by omega)
end
end Go.Proofs.YtdcgbgecbeegmaaGreatDoor
end
section
namespace Go.Proofs.YtdcgbgecbeegmaaGreatDoor
open Go Go.RowKit
theorem arrS17:Arr Tryz.prog 34 25 4 (.slice none 0 0):=Arr.mk' Tryz.underlying34 (by kernel_rfl) (by kernel_rfl) Tryz.underlying25 rfl
theorem rdS_one17 {w:World} {vs:List Value} {S:List (List Nat)} (h:RdS w vs S):∀u∈vs,u.oneCell'=true:=fun u hu=>by
 obtain ⟨i,hi⟩:=List.getElem?_of_mem hu
 have hlt:=(List.getElem?_eq_some_iff.1 hi).1
 obtain ⟨d,hd⟩:∃d,S[i]? = some d:=⟨_,List.getElem?_eq_getElem (by rw [← h.len];exact hlt)⟩
 obtain ⟨p,c,e⟩:=(h.at_ i u d hi hd).shape
 subst e
 rfl
theorem rdS_nil17 (w:World):RdS w [.slice none 0 0,.slice none 0 0,.slice none 0 0,.slice none 0 0] [[],[],[],[]]:=
 ⟨rfl,fun i v d hv hd=>by
  match i with
  | 0=>simp at hv hd;subst hv hd;exact Rd.nil w 1
  | 1=>simp at hv hd;subst hv hd;exact Rd.nil w 1
  | 2=>simp at hv hd;subst hv hd;exact Rd.nil w 1
  | 3=>simp at hv hd;subst hv hd;exact Rd.nil w 1
  | i+4=>simp at hv⟩
structure EnIf (G:Nat) (T:World→Prop):Prop where
 keeps:∀{S:Nat→Prop} {w w':World},T w→Mods S w w'→(∀k,k<G→¬S k)→T w'
 low:∀{w:World},T w→G≤w.heap.size
 sections:∀(bv:Value) (b:List Ser) (w:World),T w→RdB w bv b→Sized b→Mid b→
  Calls Tryz.prog 14 #[bv] w fun e w'=>∃vs:List Value,e = .returned (.tuple #[.agg vs.toArray,.int .i64 (checkB b:Int)])∧RdS w' vs (secsOf b)∧Below w.heap.size w w'
 encode:∀(bv:Value) (b:List Ser) (w:World),T w→RdB w bv b→Sized b→Mid b→
  Calls Tryz.prog 11 #[bv] w (GotB w (encBl b))
 raw:∀(bv:Value) (b:List Ser) (w:World),T w→RdB w bv b→Sized b→Small b→
  Calls Tryz.prog 18 #[bv] w (GotB w (rawBl b))
theorem EnIf.below {G:Nat} {T:World→Prop} (I:EnIf G T) {w w':World} (h:T w) (hb:Below w.heap.size w w'):T w':=I.keeps h (Mods.of_below hb (fun _=>False)) (fun _ _ h=>h)
set_option maxHeartbeats 2000000 in
theorem large10 (lv:Value) (l:List ByteArray) (w:World) (hl:Rd w 1 lv l.length (strs l)) (hs:∀s∈l,s.size≤9223372036854775807) :
  Calls Tryz.prog 50 #[lv] w fun e w'=>(e = .returned (.int .i64 1)∨(e = .returned (.int .i64 0)∧l.length≤500∧∀s∈l,s.size≤200000))∧Below w.heap.size w w':=by
 have HL:=Lib.hid hl;have HS:=Lib.hid hs
 obtain ⟨pl,cl,hv⟩:=hl.shape
 subst hv
 have hmax:(l.length:Int)≤9223372036854775807:=by have:=hl.le;unfold maxLen at this;omega
 clear hl hs
 go_enter Tryz.func50,Tryz.ntmps50
 go_wp2_with fail
 go_loopw [3,8] (fun nv iv wr=>∃(j N:Nat),j≤l.length∧N≤200000∧nv = .int .i64 (N:Int)∧iv = .int .i64 (j:Int)∧Hid ((j=0∨l.length≤500)∧∀s∈l.take j,s.size≤200000)∧Hid (Below w.heap.size w wr)) (fun _ iv _=>l.length-(intOf iv).toNat)
 case atStart=>exact ⟨0,0,Nat.zero_le _,Nat.zero_le _,rfl,rfl,⟨Or.inl rfl,by intro s hs;simp at hs⟩,Below.refl _ _⟩
 case round=>
  obtain ⟨j,N,hj,hN,rfl,rfl,HF,HB⟩:=hrel
  have hNi:(N:Int)≤200000:=by omega
  by_cases hlt:j<l.length
  ·have hlt':(j:Int)<(l.length:Int):=by omega
   obtain ⟨b,off,c',e,_,_,_⟩:=HL.out.at (fun e=>by have:=congrArg List.length e;rw [strs_length] at this;simp at this;subst this;simp at hlt)
   simp only [Value.slice.injEq] at e
   obtain ⟨rfl,_,rfl⟩:=e
   obtain ⟨x,hx⟩:∃x,l[j]? = some x:=⟨_,List.getElem?_eq_getElem hlt⟩
   have hcx:wr.cell? ⟨b,off+j,none⟩=some (.string x):=by rw [← (List.getElem?_eq_some_iff.1 hx).2];exact rd1_cell (HL.out.below HB.out) hlt
   have HX:=Lib.hid hx
   have hxm:(x.size:Int)≤9223372036854775807:=by have:=HS.out x (List.mem_of_getElem? hx);omega
   clear hx
   by_cases hz:(x.size:Int)≤200000
   ·by_cases hS:N+(1+x.size)≤200000
    ·have hS':¬(200000:Int)<(N:Int)+(1+(x.size:Int)):=by omega
     have hSm:(N:Int)+(1+(x.size:Int))≤200000:=by omega
     by_cases h5:l.length≤500
     ·have h5':¬(500:Int)<(l.length:Int):=by omega
      have HF2:Hid ((j+1=0∨l.length≤500)∧∀s∈l.take (j+1),s.size≤200000):=by
       refine ⟨Or.inr h5,fun s hs=>?_⟩
       rw [List.take_add_one,HX.out] at hs
       rcases List.mem_append.1 hs with e | e
       ·exact HF.out.2 s e
       ·simp at e;subst e;omega
      have hcs:((N+(1+x.size):Nat):Int)=(N:Int)+(1+(x.size:Int)):=by omega
      have HCs:=Lib.hid hcs
      have HH:Hid (N+(1+x.size)≤200000):=hS
      clear h5 hS hcs
      go_wp2_with fail
      go_round
      case rel=>exact ⟨j+1,N+(1+x.size),by omega,HH.out,by rw [HCs.out],by go_num,HF2.out,HB.out⟩
      case measure=>simp [intOf];omega
     ·have h5':(500:Int)<(l.length:Int):=by omega
      clear h5 hS
      go_wp2_with fail
      go_ret
      exact ⟨Or.inl rfl,HB.out⟩
    ·have hS':(200000:Int)<(N:Int)+(1+(x.size:Int)):=by omega
     clear hS
     go_wp2_with fail
     go_ret
     exact ⟨Or.inl rfl,HB.out⟩
   ·have hz':(200000:Int)≤(x.size:Int):=by omega
    have hS':(200000:Int)<(N:Int)+200001:=by omega
    go_wp2_with fail
    go_ret
    exact ⟨Or.inl rfl,HB.out⟩
  ·have hlt':¬(j:Int)<(l.length:Int):=by omega
   have HD:Hid (l.length≤500∧∀s∈l,s.size≤200000):=by
    have h:=HF.out
    rw [List.take_of_length_le (by omega)] at h
    refine ⟨?_,h.2⟩
    rcases h.1 with e | e<;>omega
   go_wp2_with fail
   go_ret
   exact ⟨Or.inr ⟨rfl,HD.out⟩,HB.out⟩
end Go.Proofs.YtdcgbgecbeegmaaGreatDoor
end
section
namespace Go.Proofs.YtdcgbgecbeegmaaGreatDoor
def LabSized (l:List Lab):Prop:=∀x∈l,x.1.size≤9223372036854775807∧x.2.size≤9223372036854775807
end Go.Proofs.YtdcgbgecbeegmaaGreatDoor
end
section
namespace Go.Proofs.YtdcgbgecbeegmaaGreatDoor
open Go Go.RowKit
set_option maxHeartbeats 1000000 in
theorem large11 (lv:Value) (l:List Lab) (w:World) (hl:Rd w 2 lv l.length (labCells l)) (hs:LabSized l) :
  Calls Tryz.prog 24 #[lv] w fun e w'=>(e = .returned (.int .i64 1)∨(e = .returned (.int .i64 0)∧l.length≤200∧∀s∈stringsL l,s.size≤200000))∧Below w.heap.size w w':=by
 have HL:=Lib.hid hl;have HS:=Lib.hid hs
 obtain ⟨pl,cl,hv⟩:=hl.shape
 subst hv
 clear hl hs
 by_cases hlt:(200:Int)<(l.length:Int)
 ·go_enter Tryz.func24,Tryz.ntmps24
  go_wp2_with fail
  go_ret
  exact ⟨Or.inl rfl,Below.refl _ _⟩
 ·have HN:Hid (l.length≤200):=by show _≤_;omega
  have HSt:=Lib.hid (ref_strings11 _ l w HL.out (by omega))
  have HSs:Hid (∀s∈stringsL l,s.size≤9223372036854775807):=fun s hs=>by
   obtain ⟨x,hx,h⟩:=List.mem_flatMap.1 hs
   simp only [List.mem_cons,List.not_mem_nil,or_false] at h
   rcases h with rfl | rfl
   ·exact (HS.out x hx).1
   ·exact (HS.out x hx).2
  generalize stringsL l=st at *
  go_enter Tryz.func24,Tryz.ntmps24
  go_wp2_with fail
  refine HSt.out.mono ?_
  rintro e w2 ⟨r,rfl,hO⟩
  have HB2:=Lib.hid hO.bel
  have HLg:=Lib.hid (large10 _ st w2 hO.rd HSs.out)
  obtain ⟨p2,c2,hv⟩:=hO.shape
  subst hv
  clear hO HSt
  go_wp2_with fail
  refine HLg.out.mono ?_
  rintro e w3 ⟨he,hB⟩
  have HB3:=Lib.hid (HB2.out.trans (hB.mono HB2.out.size))
  rcases he with rfl | ⟨rfl,_,h6⟩
  ·go_wp2_with fail
   go_ret
   exact ⟨Or.inl rfl,HB3.out⟩
  ·have H6:=Lib.hid h6
   clear h6
   go_wp2_with fail
   go_ret
   exact ⟨Or.inr ⟨rfl,HN.out,H6.out⟩,HB3.out⟩
end Go.Proofs.YtdcgbgecbeegmaaGreatDoor
end
section
set_option maxRecDepth 20000
namespace Go.Proofs.YtdcgbgecbeegmaaGreatDoor
open Go Go.RowKit
def flatLB (b:List Ser):List Lab:=b.flatMap fun s=>s.1
def cntB (b:List Ser):Nat:=(b.map fun s=>1+min s.2.length 3000).sum
theorem flatLB_step {b:List Ser} {i:Nat} {s:Ser} (h:b[i]? = some s):flatLB (b.take (i+1))=flatLB (b.take i)++s.1:=by
 rw [flatLB,List.take_add_one,h,List.flatMap_append];simp [flatLB]
theorem cntB_step {b:List Ser} {i:Nat} {s:Ser} (h:b[i]? = some s):cntB (b.take (i+1))=cntB (b.take i)+(1+min s.2.length 3000):=by
 rw [cntB,List.take_add_one,h,List.map_append,List.sum_append];simp [cntB]
theorem samples_of_cnt {b:List Ser} (h:cntB b≤3000):samplesB b≤3000:=by
 have key:∀b:List Ser,cntB b≤3000→samplesB b≤cntB b:=by
  intro b
  induction b with
  | nil=>intro _;simp [samplesB,cntB]
  | cons s b ih=>
   intro h
   have e:cntB (s::b)=1+min s.2.length 3000+cntB b:=by simp [cntB]
   rw [e] at h ⊢
   have:=ih (by omega)
   rw [samplesB_cons]
   omega
 exact Nat.le_trans (key b h) h
theorem flatLB_mem {b:List Ser} {s:Ser} {x:Lab} (hs:s∈b) (hx:x∈s.1):x∈flatLB b:=List.mem_flatMap.2 ⟨s,hs,hx⟩
set_option maxHeartbeats 2000000 in
theorem large12 (bv:Value) (b:List Ser) (w:World) (hb:RdB w bv b) (hz:Sized b) :
  Calls Tryz.prog 9 #[bv] w fun e w'=>(e = .returned (.int .i64 1)∨(e = .returned (.int .i64 0)∧Small b∧∀s∈b,∀x∈stringsL s.1,x.size≤200000))∧Below w.heap.size w w':=by
 have H:=Lib.hid hb;have HZ:=Lib.hid hz
 obtain ⟨p,c,hv⟩:=hb.shape
 subst hv
 have hmx0:=hb.le
 clear hb hz
 go_enter Tryz.func9,Tryz.ntmps9
 go_wp2_with fail
 go_loopw [3,4,9] (fun nv vv iv wr=>∃(j N:Nat),j≤b.length∧N≤3000∧nv = .int .i64 (N:Int)∧iv = .int .i64 (j:Int)∧Hid ((j=0∨b.length≤300)∧(∀s∈b.take j,s.1.length≤200)∧cntB (b.take j)=N∧(flatLB (b.take j)).length≤200*j)∧Hid (OwnL w wr (flatLB (b.take j)) vv)) (fun _ _ iv _=>b.length-(intOf iv).toNat)
 case atStart=>exact ⟨0,0,Nat.zero_le _,Nat.zero_le _,rfl,rfl,⟨Or.inl rfl,(by intro s hs;simp at hs),rfl,Nat.zero_le _⟩,Own2.nil w⟩
 case round=>
  obtain ⟨j,N,hj,hN,rfl,rfl,HF,HO⟩:=hrel
  have hNi:(N:Int)≤3000:=by omega
  obtain ⟨pv,cv,hvv⟩:=HO.out.shape
  subst hvv
  by_cases hlt:j<b.length
  ·have hlt':(j:Int)<(b.length:Int):=by omega
   obtain ⟨⟨ls,ss⟩,hx⟩:∃s,b[j]? = some s:=⟨_,List.getElem?_eq_getElem hlt⟩
   obtain ⟨blk,off,h1,h2,e,⟨p1,k1,e1⟩,⟨p2,k2,e2⟩,hal⟩:=H.out.always hx
   subst e
   simp only at e1 e2
   subst e1
   subst e2
   obtain ⟨cl,cs,hsr⟩:=hal wr HO.out.bel
   have HSr:Hid (Rd wr 2 (.slice p1 ls.length k1) ls.length (labCells ls)):=hsr.1
   have HSt:=Lib.hid (flatLB_step hx)
   have HCt:=Lib.hid (cntB_step hx)
   have HX:=Lib.hid hx
   have hlm:(ls.length:Int)≤9223372036854775807:=by have:=hsr.1.le;simp only at this;unfold maxLen at this;omega
   have hsm:(ss.length:Int)≤9223372036854775807:=by have:=hsr.2.le;simp only at this;unfold maxLen at this;omega
   clear hx hal hsr
   by_cases hz:(ss.length:Int)≤3000
   ·by_cases hS:N+(1+ss.length)≤3000
    ·have hS':¬(3000:Int)<(N:Int)+(1+(ss.length:Int)):=by omega
     by_cases h5:b.length≤300
     ·have h5':¬(300:Int)<(b.length:Int):=by omega
      by_cases h6:ls.length≤200
      ·have h6':¬(200:Int)<(ls.length:Int):=by omega
       have HF2:Hid ((j+1=0∨b.length≤300)∧(∀s∈b.take (j+1),s.1.length≤200)∧cntB (b.take (j+1))=N+(1+ss.length)∧(flatLB (b.take (j+1))).length≤200*(j+1)):=by
        refine ⟨Or.inr h5,fun s hs=>?_,?_,?_⟩
        ·rw [List.take_add_one,HX.out] at hs
         rcases List.mem_append.1 hs with e | e
         ·exact HF.out.2.1 s e
         ·simp at e;subst e;exact h6
        ·rw [HCt.out,HF.out.2.2.1];simp only;omega
        ·rw [HSt.out,List.length_append];have:=HF.out.2.2.2;simp only;omega
       have HDn:Hid ((flatLB (b.take j)).length≤60000):=by show _≤_;have:=HF.out.2.2.2;omega
       have H6:Hid (ls.length≤200):=h6
       have hcs:((N+(1+ss.length):Nat):Int)=(N:Int)+(1+(ss.length:Int)):=by omega
       have HCs:=Lib.hid hcs
       have HH:Hid (N+(1+ss.length)≤3000):=hS
       have hSm:(N:Int)+(1+(ss.length:Int))≤3000:=by omega
       clear h5 hS hcs h6 HCt HX HF
       generalize flatLB (b.take j)=D at *
       obtain ⟨dl,hdl⟩:∃dl,D.length=dl:=⟨_,rfl⟩
       have HDl:=Lib.hid hdl
       rw [hdl] at HO HDn ⊢
       clear hdl
       have hbA:Below wr.heap.size wr (wr.alloc (.cells #[.slice p1 ls.length k1,.slice p2 ss.length k2] 51)):=(Mods.alloc (fun _=>False) wr _).below (Nat.le_refl _) (fun _ _ e=>e)
       have HOa:=Lib.hid (HO.out.below hbA)
       have HSa:=Lib.hid (HSr.out.below hbA)
       have HOv:Hid ((wr.alloc (.cells #[.slice p1 ls.length k1,.slice p2 ss.length k2] 51)).ownsRow 0 108 2 (.slice pv dl cv) dl (labCells D)):=by
        have h:=HOa.out.base0
        rw [HDl.out] at h
        exact h
       have HLb:Hid ((dl+ls.length)*32≤140737488355328∧dl+ls.length≤maxLen):=by show _∧_;have:=HDn.out;have:=H6.out;unfold maxLen;omega
       have HSz:Hid ((wr.alloc (.cells #[.slice p1 ls.length k1,.slice p2 ss.length k2] 51)).heap.size=wr.heap.size+1):=by show _=_;simp
       clear hbA HO HSr
       go_wp2_with (at_builtin;refine wpList_extend elemLab _ _ _ _ _ _ _ HOv.out HSa.out (labCells_one ls) HLb.out rfl _ _ rfl rfl rfl ?_)
       intro v3 w3 m0 m1 f1
       rw [← HSz.out] at f1
       have HO3:Hid (OwnL w w3 (flatLB (b.take (j+1))) v3):=by
        show OwnL _ _ _ _
        rw [HSt.out]
        exact HOa.out.extended (by rw [HDl.out];exact m0) m1 f1
       obtain ⟨p3,c3,hv3⟩:=(Rd.of_owns m0).shape
       subst hv3
       clear m0 m1 f1 HOa HOv HSa
       go_wp2_with fail
       go_round
       case rel=>exact ⟨j+1,N+(1+ss.length),by omega,HH.out,by rw [HCs.out],by go_num,HF2.out,HO3.out⟩
       case measure=>simp [intOf];omega
      ·have h6':(200:Int)<(ls.length:Int):=by omega
       have HB1:Hid (Below w.heap.size w (wr.alloc (.cells #[.slice p1 ls.length k1,.slice p2 ss.length k2] 51))):=HO.out.bel.trans (((Mods.alloc (fun _=>False) wr _).below (Nat.le_refl _) (fun _ _ e=>e)).mono HO.out.bel.size)
       have hSm:(N:Int)+(1+(ss.length:Int))≤3000:=by omega
       clear h5 hS h6
       go_wp2_with fail
       go_ret
       exact ⟨Or.inl rfl,HB1.out⟩
     ·have h5':(300:Int)<(b.length:Int):=by omega
      have HB1:Hid (Below w.heap.size w (wr.alloc (.cells #[.slice p1 ls.length k1,.slice p2 ss.length k2] 51))):=HO.out.bel.trans (((Mods.alloc (fun _=>False) wr _).below (Nat.le_refl _) (fun _ _ e=>e)).mono HO.out.bel.size)
      have hSm:(N:Int)+(1+(ss.length:Int))≤3000:=by omega
      clear h5 hS
      go_wp2_with fail
      go_ret
      exact ⟨Or.inl rfl,HB1.out⟩
    ·have hS':(3000:Int)<(N:Int)+(1+(ss.length:Int)):=by omega
     have HB1:Hid (Below w.heap.size w (wr.alloc (.cells #[.slice p1 ls.length k1,.slice p2 ss.length k2] 51))):=HO.out.bel.trans (((Mods.alloc (fun _=>False) wr _).below (Nat.le_refl _) (fun _ _ e=>e)).mono HO.out.bel.size)
     clear hS
     go_wp2_with fail
     go_ret
     exact ⟨Or.inl rfl,HB1.out⟩
   ·have hz':(3000:Int)≤(ss.length:Int):=by omega
    have hS':(3000:Int)<(N:Int)+3001:=by omega
    have HB1:Hid (Below w.heap.size w (wr.alloc (.cells #[.slice p1 ls.length k1,.slice p2 ss.length k2] 51))):=HO.out.bel.trans (((Mods.alloc (fun _=>False) wr _).below (Nat.le_refl _) (fun _ _ e=>e)).mono HO.out.bel.size)
    go_wp2_with fail
    go_ret
    exact ⟨Or.inl rfl,HB1.out⟩
  ·have hlt':¬(j:Int)<(b.length:Int):=by omega
   have HD:Hid (Small b):=by
    obtain ⟨f1,f2,f3,_⟩:=HF.out
    rw [List.take_of_length_le (by omega)] at f2 f3
    exact ⟨by rcases f1 with e | e<;>omega,samples_of_cnt (by omega),f2⟩
   have hE:b.take j=b:=List.take_of_length_le (by omega)
   rw [hE] at HO ⊢
   have HLz:Hid (LabSized (flatLB b)):=fun x hx=>by
    obtain ⟨s,hs,hxs⟩:=List.mem_flatMap.1 hx
    exact (HZ.out s hs).1 x hxs
   have HLg:=Lib.hid (large11 _ (flatLB b) wr HO.out.rd HLz.out)
   have HMem:Hid (∀s∈b,∀x∈stringsL s.1,x∈stringsL (flatLB b)):=fun s hs x hx=>by
    obtain ⟨y,hy,hxy⟩:=List.mem_flatMap.1 hx
    exact List.mem_flatMap.2 ⟨y,flatLB_mem hs hy,hxy⟩
   have HB:=Lib.hid HO.out.bel
   clear HF HO hE
   generalize flatLB b=D at *
   go_wp2_with fail
   refine HLg.out.mono ?_
   rintro e w2 ⟨he,hB⟩
   have HB2:=Lib.hid (HB.out.trans (hB.mono HB.out.size))
   clear hB
   rcases he with rfl | ⟨rfl,_,h6⟩
   ·go_wp2_with fail
    go_ret
    exact ⟨Or.inl rfl,HB2.out⟩
   ·have H6:Hid (∀s∈b,∀x∈stringsL s.1,x.size≤200000):=fun s hs x hx=>h6 x (HMem.out s hs x hx)
    clear h6
    go_wp2_with fail
    go_ret
    exact ⟨Or.inr ⟨rfl,HD.out,H6.out⟩,HB2.out⟩
set_option maxHeartbeats 1000000 in
theorem ref_same09 (av bv:Value) (a b:List Sam) (w:World) (ha:Rd w 2 av a.length (samCells a)) (hb:Rd w 2 bv b.length (samCells b)) (hn:a.length≤1000000) (hm:b.length≤1000000) :
  Calls Tryz.prog 49 #[av,bv] w fun e w'=>e = .returned (.bool (decide (a=b)))∧∃q,w'=w.drewN q:=by
 have HA:=Lib.hid ha;have HB:=Lib.hid hb
 obtain ⟨pa,ca,hv⟩:=ha.shape
 subst hv
 obtain ⟨pb,cb,hv⟩:=hb.shape
 subst hv
 have hma:(a.length:Int)≤1000000:=by omega
 have hmb:(b.length:Int)≤1000000:=by omega
 clear ha hb hn hm
 by_cases hl:a.length=b.length
 ·have hlb:((a.length:Int) == (b.length:Int))=true:=by rw [beq_iff_eq];omega
  have HL:=Lib.hid hl
  have hli:(b.length:Int)=(a.length:Int):=by omega
  rw [← hl] at HB ⊢
  clear hl hlb hli hmb
  go_enter Tryz.func49,Tryz.ntmps49
  go_wp2_with fail
  go_loopw [5] (fun iv wr=>∃(i q:Nat),i≤a.length∧iv = .int .i64 (i:Int)∧Hid (a.take i=b.take i)∧wr=w.drewN q) (fun iv _=>a.length-(intOf iv).toNat)
  case atStart=>exact ⟨0,0,Nat.zero_le _,rfl,rfl,rfl⟩
  case round=>
   obtain ⟨i,q,hi,rfl,HT,rfl⟩:=hrel
   have him:(i:Int)≤1000000:=by omega
   by_cases hlt:i<a.length
   ·have hlt':(i:Int)<(a.length:Int):=by omega
    obtain ⟨⟨x1,x2⟩,hx⟩:∃x,a[i]? = some x:=⟨_,List.getElem?_eq_getElem hlt⟩
    obtain ⟨⟨y1,y2⟩,hy⟩:∃y,b[i]? = some y:=⟨_,List.getElem?_eq_getElem (by rw [← HL.out];exact hlt)⟩
    have hrb:Rd w 2 (.slice pb a.length cb) a.length (two (fun x:Sam=>Value.int .i64 x.1) (fun x:Sam=>Value.int .u64 (x.2:Int)) b):=samCells_two b ▸ HB.out
    obtain ⟨ba,oa,e⟩:=rd2_at (samCells_two a ▸ HA.out) hx
    subst e
    obtain ⟨bb,ob,e⟩:=rd2_at hrb hy
    subst e
    obtain ⟨c0,c1⟩:=rd2_cell (samCells_two a ▸ HA.out) hx
    obtain ⟨d0,d1⟩:=rd2_cell hrb hy
    have c0':(w.drewN q).cell? ⟨ba,oa+i*2,none⟩=some (.int .i64 x1):=c0
    have c1':(w.drewN q).cell? ⟨ba,oa+i*2+1,none⟩=some (.int .u64 (x2:Int)):=c1
    have d0':(w.drewN q).cell? ⟨bb,ob+i*2,none⟩=some (.int .i64 y1):=d0
    have d1':(w.drewN q).cell? ⟨bb,ob+i*2+1,none⟩=some (.int .u64 (y2:Int)):=d1
    have HX:=Lib.hid hx;have HY:=Lib.hid hy
    clear hx hy c0 c1 d0 d1 hrb
    obtain ⟨wq,hwq⟩:∃wq,w.drewN q=wq:=⟨_,rfl⟩
    have HWq:=Lib.hid hwq
    rw [hwq] at c0' c1' d0' d1' ⊢
    clear hwq
    have hne:∀(h:¬(x1=y1∧x2=y2)),decide (a=b)=false:=fun h=>decide_eq_false fun e=>by
     have h1:=HX.out
     rw [e,HY.out] at h1
     cases h1
     exact h ⟨rfl,rfl⟩
    by_cases e1:x1=y1
    ·by_cases e2:x2=y2
     ·have HT2:Hid (a.take (i+1)=b.take (i+1)):=by show _=_;rw [List.take_add_one,List.take_add_one,HT.out,HX.out,HY.out,e1,e2]
      subst e1
      subst e2
      clear hne
      go_wp2_with fail
      go_quiet (fail)
      obtain ⟨q3,hq3⟩:∃q,wq.drewN nq=w.drewN q:=⟨q+nq,by rw [← HWq.out,drewN_two]⟩
      have HQ3:=Lib.hid hq3
      clear c0' c1' d0' d1' hq3
      generalize wq.drewN nq=w2 at *
      go_wp2_with fail
      go_roundw
      case rel=>exact ⟨i+1,q3,by omega,by go_num,HT2.out,HQ3.out⟩
      case measure=>simp [intOf];omega
     ·have HR:=Lib.hid (hne (fun h=>e2 h.2))
      have he2:((x2:Int) == (y2:Int))=false:=by rw [beq_eq_false_iff_ne];omega
      subst e1
      clear hne e2
      go_wp2_with fail
      go_quiet (fail)
      have HW2:Hid (∃q,wq.drewN nq=w.drewN q):=⟨q+nq,by rw [← HWq.out,drewN_two]⟩
      clear c0' c1' d0' d1'
      generalize wq.drewN nq=w2 at *
      go_wp2_with fail
      go_ret
      exact ⟨by rw [HR.out];rfl,HW2.out⟩
    ·have HR:=Lib.hid (hne (fun h=>e1 h.1))
     have he1:(x1 == y1)=false:=by rw [beq_eq_false_iff_ne];exact e1
     clear hne e1
     go_wp2_with fail
     go_quiet (fail)
     have HW2:Hid (∃q,wq.drewN nq=w.drewN q):=⟨q+nq,by rw [← HWq.out,drewN_two]⟩
     clear c0' c1' d0' d1'
     generalize wq.drewN nq=w2 at *
     go_wp2_with fail
     go_ret
     exact ⟨by rw [HR.out];rfl,HW2.out⟩
   ·have hlt':¬(i:Int)<(a.length:Int):=by omega
    have HE:Hid (decide (a=b)=true):=decide_eq_true (by have:=HT.out;rw [List.take_of_length_le (by omega),List.take_of_length_le (by rw [← HL.out];omega)] at this;exact this)
    obtain ⟨wq,hwq⟩:∃wq,w.drewN q=wq:=⟨_,rfl⟩
    have HWq:=Lib.hid hwq
    rw [hwq]
    clear hwq
    go_wp2_with fail
    go_ret
    exact ⟨by rw [HE.out];rfl,q,HWq.out.symm⟩
 ·have hlb:((a.length:Int) == (b.length:Int))=false:=by rw [beq_eq_false_iff_ne];omega
  have HR:Hid (decide (a=b)=false):=decide_eq_false fun e=>hl (by rw [e])
  clear hl
  go_enter Tryz.func49,Tryz.ntmps49
  go_wp2_with fail
  go_ret
  exact ⟨by rw [HR.out];rfl,0,rfl⟩
theorem below_drewN' (w:World) (n:Nat):Below w.heap.size w (w.drewN n):=(Mods.drewN (fun _=>False) w n).below (Nat.le_refl _) (fun _ _ e=>e)
set_option maxHeartbeats 4000000 in
theorem ref_equal12 (av bv:Value) (a b:List Ser) (w:World) (ha:RdB w av a) (hb:RdB w bv b) (sa:Mid a) (sb:Mid b) :
  Calls Tryz.prog 23 #[av,bv] w fun e w'=>e = .returned (.bool (decide (a=b)))∧Below w.heap.size w w':=by
 have HA:=Lib.hid ha;have HB0:=Lib.hid hb;have SA:=Lib.hid sa;have SB:=Lib.hid sb
 obtain ⟨pa,ca,hv⟩:=ha.shape
 subst hv
 obtain ⟨pb,cb,hv⟩:=hb.shape
 subst hv
 have hma:(a.length:Int)≤20000:=by have:=sa.len;omega
 have hmb:(b.length:Int)≤20000:=by have:=sb.len;omega
 clear ha hb sa sb
 by_cases hl:a.length=b.length
 ·have HL:=Lib.hid hl
  rw [← hl] at HB0 ⊢
  clear hl hmb
  go_enter Tryz.func23,Tryz.ntmps23
  go_wp2_with fail
  go_loopw [5] (fun iv wr=>∃(i:Nat),i≤a.length∧iv = .int .i64 (i:Int)∧Hid (a.take i=b.take i)∧Hid (Below w.heap.size w wr)) (fun iv _=>a.length-(intOf iv).toNat)
  case atStart=>exact ⟨0,Nat.zero_le _,rfl,rfl,Below.refl _ _⟩
  case round=>
   obtain ⟨i,hi,rfl,HT,HB⟩:=hrel
   have him:(i:Int)≤20000:=by omega
   by_cases hlt:i<a.length
   ·have hlt':(i:Int)<(a.length:Int):=by omega
    obtain ⟨⟨x1,x2⟩,hx⟩:∃x,a[i]? = some x:=⟨_,List.getElem?_eq_getElem hlt⟩
    obtain ⟨⟨y1,y2⟩,hy⟩:∃y,b[i]? = some y:=⟨_,List.getElem?_eq_getElem (by rw [← HL.out];exact hlt)⟩
    obtain ⟨ba,oa,h1,h2,e,⟨p1,k1,e1⟩,⟨p2,k2,e2⟩,hal⟩:=HA.out.always hx
    subst e
    simp only at e1 e2
    subst e1
    subst e2
    obtain ⟨bb,ob,g1,g2,e,⟨p3,k3,e3⟩,⟨p4,k4,e4⟩,hbl⟩:=HB0.out.always hy
    subst e
    simp only at e3 e4
    subst e3
    subst e4
    have HAl:=Lib.hid hal;have HBl:=Lib.hid hbl
    have hmx:=List.mem_of_getElem? hx
    have hmy:=List.mem_of_getElem? hy
    have HLs:Hid (x1.length≤60000∧x2.length≤1000000∧y1.length≤60000∧y2.length≤1000000):=⟨SA.out.lab _ hmx,SA.out.mem hmx,SB.out.lab _ hmy,SB.out.mem hmy⟩
    have hne:Hid (¬(x1=y1∧x2=y2)→decide (a=b)=false):=fun h=>decide_eq_false fun e=>by
     rw [e,hy] at hx
     cases hx
     exact h ⟨rfl,rfl⟩
    have HT2:Hid (x1=y1→x2=y2→a.take (i+1)=b.take (i+1)):=fun e1 e2=>by rw [List.take_add_one,List.take_add_one,HT.out,hx,hy,e1,e2]
    obtain ⟨cA,cA2,hr1⟩:=hal wr HB.out
    clear hr1
    obtain ⟨cB,cB2,hr2⟩:=hbl wr HB.out
    clear hr2
    clear hx hy hal hbl hmx hmy
    have HCm:Hid (∀n,Calls Tryz.prog 32 #[.slice p1 x1.length k1,.slice p3 y1.length k3] (wr.drewN n) fun e w'=>e = .returned (.int .i64 (cmpLabs x1 y1))∧∃m,w'=(wr.drewN n).drewN m):=fun n=>
     have hb:Below w.heap.size w (wr.drewN n):=HB.out.trans ((below_drewN' wr n).mono HB.out.size)
     ref_compareD _ _ x1 y1 _ (HAl.out _ hb).2.2.1 (HBl.out _ hb).2.2.1 (by have:=HLs.out;omega) (by have:=HLs.out;omega)
    have HSm:Hid (∀n,Calls Tryz.prog 49 #[.slice p2 x2.length k2,.slice p4 y2.length k4] (wr.drewN n) fun e w'=>e = .returned (.bool (decide (x2=y2)))∧∃m,w'=(wr.drewN n).drewN m):=fun n=>
     have hb:Below w.heap.size w (wr.drewN n):=HB.out.trans ((below_drewN' wr n).mono HB.out.size)
     ref_same09 _ _ x2 y2 _ (HAl.out _ hb).2.2.2 (HBl.out _ hb).2.2.2 (by have:=HLs.out;omega) (by have:=HLs.out;omega)
    have hdom:=cmpLabs_ok.dom x1 y1
    have HXY:Hid (cmpLabs x1 y1=0↔x1=y1):=cmpLabs_ok.eq x1 y1
    clear HAl HBl
    generalize cmpLabs x1 y1=cv at *
    rcases hdom with rfl | rfl | rfl
    ·have HR:Hid (a≠b):=fun e=>by
      have:=hne.out (fun h=>by have:=HXY.out.2 h.1;cases this)
      rw [decide_eq_false_iff_not] at this
      exact this e
     clear HSm hne HT2 HXY
     go_wp2_with fail
     go_quiet ((go_at_call 32;exact Calls.quiet_of (HCm.out _)))
     have HB6:Hid (Below w.heap.size w (wr.drewN nq)):=HB.out.trans ((below_drewN' wr nq).mono HB.out.size)
     clear cA cB cA2 cB2
     generalize wr.drewN nq=w6 at *
     go_wp2_with fail
     go_ret
     exact ⟨by rw [decide_eq_false HR.out];rfl,HB6.out⟩
    ·have HXe:Hid (x1=y1):=HXY.out.1 rfl
     by_cases hs2:x2=y2
     ·have HT3:=Lib.hid (HT2.out HXe.out hs2)
      rw [decide_eq_true hs2] at HSm
      clear hs2 hne HT2 HXY HXe
      go_wp2_with fail
      go_quiet ((first | (go_at_call 32;exact Calls.quiet_of (HCm.out _)) | (go_at_call 49;exact Calls.quiet_of (HSm.out _))))
      have HB6:Hid (Below w.heap.size w (wr.drewN nq)):=HB.out.trans ((below_drewN' wr nq).mono HB.out.size)
      clear cA cB cA2 cB2
      generalize wr.drewN nq=w6 at *
      go_wp2_with fail
      go_round
      case rel=>exact ⟨i+1,by omega,by go_num,HT3.out,HB6.out⟩
      case measure=>simp [intOf];omega
     ·have HR:Hid (a≠b):=fun e=>by
       have:=hne.out (fun h=>hs2 h.2)
       rw [decide_eq_false_iff_not] at this
       exact this e
      rw [decide_eq_false hs2] at HSm
      clear hs2 hne HT2 HXY HXe
      go_wp2_with fail
      go_quiet ((first | (go_at_call 32;exact Calls.quiet_of (HCm.out _)) | (go_at_call 49;exact Calls.quiet_of (HSm.out _))))
      have HB6:Hid (Below w.heap.size w (wr.drewN nq)):=HB.out.trans ((below_drewN' wr nq).mono HB.out.size)
      clear cA cB cA2 cB2
      generalize wr.drewN nq=w6 at *
      go_wp2_with fail
      go_ret
      exact ⟨by rw [decide_eq_false HR.out];rfl,HB6.out⟩
    ·have HR:Hid (a≠b):=fun e=>by
      have:=hne.out (fun h=>by have:=HXY.out.2 h.1;cases this)
      rw [decide_eq_false_iff_not] at this
      exact this e
     clear HSm hne HT2 HXY
     go_wp2_with fail
     go_quiet ((go_at_call 32;exact Calls.quiet_of (HCm.out _)))
     have HB6:Hid (Below w.heap.size w (wr.drewN nq)):=HB.out.trans ((below_drewN' wr nq).mono HB.out.size)
     clear cA cB cA2 cB2
     generalize wr.drewN nq=w6 at *
     go_wp2_with fail
     go_ret
     exact ⟨by rw [decide_eq_false HR.out];rfl,HB6.out⟩
   ·have hlt':¬(i:Int)<(a.length:Int):=by omega
    have HE:Hid (decide (a=b)=true):=decide_eq_true (by have:=HT.out;rw [List.take_of_length_le (by omega),List.take_of_length_le (by rw [← HL.out];omega)] at this;exact this)
    go_wp2_with fail
    go_ret
    exact ⟨by rw [HE.out];rfl,HB.out⟩
 ·have hlb:((a.length:Int) == (b.length:Int))=false:=by rw [beq_eq_false_iff_ne];omega
  have HR:Hid (decide (a=b)=false):=decide_eq_false fun e=>hl (by rw [e])
  clear hl
  go_enter Tryz.func23,Tryz.ntmps23
  go_wp2_with fail
  go_ret
  exact ⟨by rw [HR.out];rfl,Below.refl _ _⟩
end Go.Proofs.YtdcgbgecbeegmaaGreatDoor
end
