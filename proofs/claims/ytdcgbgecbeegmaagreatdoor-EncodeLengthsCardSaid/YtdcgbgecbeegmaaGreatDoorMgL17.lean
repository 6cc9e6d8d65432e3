/- Texts 17. -/
import Derived.Test.YtdcgbgecbeegmaaGreatDoorMgL14
import Derived.Test.YtdcgbgecbeegmaaGreatDoorMgL16
import Derived.Test.YtdcgbgecbeegmaaGreatDoorMgL3
import Derived.Test.YtdcgbgecbeegmaaGreatDoorMgL1
import Derived.Test.YtdcgbgecbeegmaaGreatDoorMgL15
import Derived.Test.YtdcgbgecbeegmaaGreatDoorMgL13
import Derived.Test.YtdcgbgecbeegmaaGreatDoorMgL4
import Derived.Maps.RangeWalk
import Derived.Test.YtdcgbgecbeegmaaGreatDoorMgL12
import Derived.Test.YtdcgbgecbeegmaaGreatDoorMgL9
import Derived.RegionTactic
import Derived.BigRegion
import Derived.Deep.OwnRows
import Derived.Deep.CutRange
import Derived.Test.YtdcgbgecbeegmaaGreatDoorMgL7
set_option linter.unusedVariables false
set_option linter.unusedSimpArgs false
section
set_option maxRecDepth 20000
namespace Go.Proofs.YtdcgbgecbeegmaaGreatDoor
open Go Go.RowKit Go.Maps
set_option maxHeartbeats 8000000 in
theorem dictionary_any (lv:Value) (l:List Nat) (w:World) (hl:Rd w 1 lv l.length (u64s l)) (ok:∀t∈l,in64u t) (hn:l.length≤1000000000) :
  Calls Tryz.prog 236 #[lv] w fun e w'=>∃r,e = .returned r∧Made w w' 81 1 r (dictD l).length (u64s (dictD l)):=by
 have HL:=Lib.hid hl;have HOk:=Lib.hid ok;have HNn:=Lib.hid hn
 obtain ⟨pl,cl,hv⟩:=hl.shape
 subst hv
 have hni:(l.length:Int)≤1000000000:=by omega
 clear hl ok hn
 have hmm:=@run_makeMap Tryz.prog
 have HB0:Hid (Below w.heap.size w (w.alloc (.map #[] 0))):=(Below.refl _ _).alloc (Nat.le_refl _) _
 have HM0:Hid ((w.alloc (.map #[] 0)).ownsMap Tryz.prog 81 (plainElem (H:=Unit) Tryz.prog 4) w.heap.size 0 (.map [])):=World.ownsMap_made _ _ _ _
 go_enter Tryz.func236,Tryz.ntmps236
 go_wp2_with fail
 clear hmm
 go_loopw [11] (fun iv wr=>∃(i:Nat) (D:DataW Unit),i≤l.length∧iv = .int .i64 (i:Int)∧Hid (wr.ownsMap Tryz.prog 81 (plainElem (H:=Unit) Tryz.prog 4) w.heap.size i D)∧Hid (KeysU D (l.take i))∧Hid (Below w.heap.size w wr)) (fun iv _=>l.length-(intOf iv).toNat)
 case atStart=>exact ⟨0,_,Nat.zero_le _,rfl,HM0.out,by show KeysU _ _;rw [List.take_zero];exact KeysU.empty,HB0.out⟩
 case round=>
  obtain ⟨i,D,hi,rfl,HM,HK,HB⟩:=hrel
  clear HM0 HB0
  by_cases hlt:i<l.length
  ·have hlti:(i:Int)<(l.length:Int):=by omega
   obtain ⟨b,off,c',e,hnc,hncm,hcell⟩:=(HL.out.below HB.out).at (fun e=>by have:=congrArg List.length e;rw [u64s_length] at this;simp at this;subst this;simp at hlt)
   simp only [Value.slice.injEq] at e
   obtain ⟨rfl,_,rfl⟩:=e
   obtain ⟨y,hy⟩:∃y,l[i]=y:=⟨_,rfl⟩
   have hct:wr.cell? ⟨b,off+i,none⟩=some (.int .u64 (y:Int)):=by rw [← hy];exact hcell i _ (u64s_get l i hlt)
   have HY:Hid (in64u y):=by rw [← hy];exact HOk.out _ (List.getElem_mem hlt)
   have HT:Hid (l.take (i+1)=l.take i++[y]):=by show _=_;rw [List.take_add_one,List.getElem?_eq_getElem hlt,hy];rfl
   have HMx:Hid (i<maxLen):=by show _<_;have:=HNn.out;unfold maxLen;omega
   clear hcell hnc hncm hy
   go_wp2_with (first
    | (at_mapUpdate;refine wpList_mapUpdate_own _ rfl _ _ _ 345 rfl 81 4 law_u64 Tryz.underlying345 _ w.heap.size i _ rfl HM.out HMx.out _ _ _ rfl rfl (keyU_mk HY.out) _ [] (plainElem_bool Tryz.underlying4 true) ?_;intro w1 hown1 hgrow1)
    | go_in)
   have HM1:=Lib.hid hown1
   have HK1:Hid (KeysU (D.put (.int .u64 (y:Int)) (.lit (.bool true))) (l.take (i+1))):=by
    show KeysU _ _
    rw [HT.out]
    exact HK.out.put HM.out.isMap y _
   have HB1:=Lib.hid (HB.out.grown hgrow1 HB.out.size (fun j hj=>by cases hj;exact Nat.le_refl _))
   clear hown1 hgrow1
   go_round
   case rel=>exact ⟨i+1,_,by omega,by go_num,HM1.out,HK1.out,HB1.out⟩
   case measure=>simp [intOf]<;>omega
  ·have hlti:¬(i:Int)<(l.length:Int):=by omega
   have HK1:Hid (KeysU D l):=by
    have h:=HK.out
    rw [List.take_of_length_le (by omega)] at h
    exact h
   have HSz:Hid (Maps.size D≤l.length):=Nat.le_trans HM.out.size_le hi
   clear HK
   go_wp2_with (first
    | (at_range;refine wpList_range_own _ rfl _ 345 rfl 81 4 law_u64 Tryz.underlying345 _ w.heap.size i D rfl HM.out ?_;intro w0 hrg0 hg0 hs0)
    | go_in)
   try go_frame
   have HR0:=Lib.hid hrg0
   have HB2:=Lib.hid (HB.out.grown hg0 HB.out.size (fun j hj=>by cases hj))
   have HIt:Hid (w.heap.size≤wr.heap.size):=HB.out.size
   clear hrg0 hg0 hs0 HM HB
   generalize wr.heap.size=rb at *
   go_loopw [6] (fun v wr=>∃(left:Lit→Bool) (cnt:Nat) (ss:List Nat),Hid (wr.ranges Tryz.prog 81 (plainElem (H:=Unit) Tryz.prog 4) w.heap.size rb i D left cnt)∧Hid (ss.length+cnt≤l.length)∧Hid (wr.ownsRow 0 81 1 v ss.length (u64s ss))∧Hid (∀k,v.ownBlock=some k→w.heap.size<k∧k≠rb)∧Hid (ColU D left ss)∧Hid (Below w.heap.size w wr)) (fun _ wr=>wr.rangeLeft w.heap.size rb)
   case atStart=>exact ⟨_,_,[],HR0.out,by show _≤_;simpa using HSz.out,World.ownsRow_nil _ _ _ _,(by show ∀k,_;intro k e;cases e),ColU.start D,HB2.out⟩
   case round=>
    obtain ⟨left,cnt,ss,HR,HC,HO,HF,HL2,HB⟩:=hrel
    clear HR0 HB2
    go_wp2_with (first
     | (at_next;refine wpList_next_ranges _ rfl _ rfl 81 law_u64 (plainElem (H:=Unit) Tryz.prog 4) (fun x:Nat=>Value.int .u64 (x:Int)) (fun c:Nat=>Value.bool (decide (c=1))) keyU_shape boolR_nat w.heap.size rb i _ _ _ rfl HR.out ?_ ?_)
     | go_in)
    ·intro hc0 hl0
     have HMem:=Lib.hid (HL2.out.mem HK1.out hl0)
     clear hc0 hl0
     rcases HO.out.2 with ⟨hnil,hz⟩ | ⟨g,cap,cur,hv,hbase,hb,h1,h2,h3,h4⟩
     ·subst hnil
      have HE:Hid (dictD l=[]):=by
       have:ss=[]:=List.eq_nil_of_length_eq_zero hz
       subst this
       exact dictD_unique l [] List.Pairwise.nil HMem.out
      clear hz
      go_wp2_with fail
      refine (sort_nil wr).mono ?_
      rintro e w5 ⟨rfl,rfl⟩
      go_wp2_with fail
      go_ret
      refine ⟨_,rfl,?_,HB.out⟩
      rw [HE.out]
      exact World.ownsRow_nil _ _ _ _
     ·subst hv
      have hg:g<wr.heap.size:=(Array.getElem?_eq_some_iff.1 hb).1
      have hlen:ss.length<4611686018427387904:=by have:=HC.out;omega
      have HSU:Hid (SU wr wr g ss.length cap ss.toArray):=⟨by simp,by simpa using HO.out,Mods.refl _ _⟩
      have HS:=Lib.hid (sort_u64 g ss.length cap ss.toArray wr HSU.out hlen hg)
      clear hbase hb h1 h2 h3 h4 hg HSU
      go_wp2_with fail
      refine HS.out.mono ?_
      rintro e w5 ⟨rfl,z,hz1,hz2,hz3⟩
      have HE:=Lib.hid (sorted_dict HL2.out.1 HMem.out hz2 hz3)
      have HZ:=Lib.hid hz1
      have HZs:Hid ((dictD l).length=ss.length):=by show _=_;rw [← HE.out,Array.length_toList];exact HZ.out.sz
      clear hz1 hz2 hz3 HS
      go_wp2_with fail
      go_ret
      refine ⟨_,rfl,?_,?_⟩
      ·rw [HZs.out,← HE.out]
       exact owns_rebase HZ.out.row (fun k hk=>by have:=(HF.out k hk).1;omega)
      ·exact HB.out.trans (HZ.out.mods.below HB.out.size (fun k hk e=>by have:=(HF.out g rfl).1;omega))
    ·intro x c kl yd yp w2 cnt2 hkey hlk hv hat hrg2 hlt hg2 hs2 hen
     obtain ⟨x',ex,rfl,hx64⟩:=keyU_inv _ _ hkey
     have e2:(x:Int)=(x':Int):=by simpa using ex
     obtain rfl:x=x':=by omega
     have HR2:=Lib.hid hrg2
     have HG2:=Lib.hid hg2
     have HL3:=Lib.hid (HL2.out.step hlk hat)
     have HLt:=Lib.hid hlt
     have HO2:Hid (w2.ownsRow 0 81 1 u6 ss.length (u64s ss)):=(grown_mods (S:=fun k=>k=rb) hg2 (fun k e=>by cases e;rfl)).owns HO.out (fun k hk e=>(HF.out k hk).2 e)
     have HBd:Hid ((ss.length+1)*8≤140737488355328∧ss.length+1≤maxLen):=by show _∧_;have:=HC.out;unfold maxLen;omega
     clear hkey hlk hv hat hrg2 hg2 hs2 hlt ex e2 hx64
     go_wp2_with (first
      | (at_builtin;refine wpList_push Tryz.elemU64 w2 #[.int .u64 (x:Int)] _ _ _ HO2.out rfl (by simp [Value.oneCell']) HBd.out rfl _ _ rfl rfl rfl ?_;intro v5 w5 k1 k2 k3)
      | go_in)
     have HR3:=Lib.hid (HR2.out.kept (mods_grown k2) (fun e=>by have:=(HF.out _ e.symm).1;omega) (fun e=>(HF.out _ e.symm).2 rfl))
     have HO3:Hid (w5.ownsRow 0 81 1 v5 (ss++[x]).length (u64s (ss++[x]))):=by
      have h:=k1
      rw [show u64s (ss++[x])=u64s ss++[.int .u64 (x:Int)] by simp [u64s],List.length_append]
      exact h
     have HF3:Hid (∀k,v5.ownBlock=some k→w.heap.size<k∧k≠rb):=fun k hk=>by
      rcases k3 k hk with e | e
      ·exact HF.out k e
      ·have h1:=HR2.out.lt
       have h2:=HIt.out
       omega
     have HB3:Hid (Below w.heap.size w w5):=(HB.out.grown HG2.out HB.out.size (fun j hj=>by cases hj;exact HIt.out)).grown (mods_grown k2) (Nat.le_trans HB.out.size HG2.out.size) (fun j hj=>Nat.le_of_lt (HF.out j hj).1)
     have HC3:Hid ((ss++[x]).length+cnt2≤l.length):=by show _≤_;have:=HC.out;have:=HLt.out;rw [List.length_append,List.length_singleton];omega
     clear k1 k2 k3
     go_round
     case rel=>exact ⟨_,cnt2,ss++[x],HR3.out,HC3.out,HO3.out,HF3.out,HL3.out,HB3.out⟩
     case measure=>rw [HR3.out.left_eq,HR.out.left_eq];exact HLt.out
end Go.Proofs.YtdcgbgecbeegmaaGreatDoor
end
section
set_option maxRecDepth 20000
namespace Go.Proofs.YtdcgbgecbeegmaaGreatDoor
open Go Go.RowKit
theorem bitLen_width {c:Nat} (h1:1≤c) (h:c<4611686018427387904):Lib.bitLen (c-1)=widthD c:=by
 by_cases h2:c≤1
 ·obtain rfl:c=1:=by omega
  rw [widthD,if_pos h2];rfl
 ·have e1:=bitLen_pow (c-1) (by omega) (by omega)
  rw [widthD,if_neg h2]
  have e2:2 ^ (c-1).log2≤c-1:=Nat.log2_self_le (by omega)
  have e3:c-1<2 ^ ((c-1).log2+1):=Nat.lt_log2_self
  obtain ⟨L,hL⟩:∃L,Lib.bitLen (c-1)=L:=⟨_,rfl⟩
  obtain ⟨k,hk⟩:∃k,(c-1).log2=k:=⟨_,rfl⟩
  rw [hL] at e1 ⊢
  rw [hk] at e2 e3 ⊢
  have a1:2 ^ k<2 ^ L:=by omega
  have a2:k<L:=(Nat.pow_lt_pow_iff_right (by decide)).1 a1
  have a3:2 ^ L<2 ^ (k+2):=by
   have:2 ^ (k+2)=2*2 ^ (k+1):=by rw [Nat.pow_succ 2 (k+1)];omega
   omega
  have a4:L<k+2:=(Nat.pow_lt_pow_iff_right (by decide)).1 a3
  omega
theorem width_any (c:Int) (w:World) (hl : -9223372036854775808≤c) (hc:c≤1152921504606846976) :
  Calls Tryz.prog 237 #[.int .i64 c] w fun e w'=>e = .returned (.int .i64 (widthI c))∧w'=w:=by
 by_cases h:c<1
 ·have HW:Hid (widthI c=0):=by
   show _=_
   rw [widthI,widthD,if_pos (by omega)];rfl
  go_enter Tryz.func237,Tryz.ntmps237
  go_wp2_with fail
  go_ret
  rw [HW.out]
  exact ⟨rfl,rfl⟩
 ·obtain ⟨n,rfl⟩:∃n:Nat,c=(n:Int)+1:=⟨(c-1).toNat,by omega⟩
  have HW:Hid ((Lib.bitLen n:Int)=widthI ((n:Int)+1)):=by
   show _=_
   rw [widthI,show ((n:Int)+1).toNat=n+1 by omega,← bitLen_width (by omega) (by omega)];rfl
  have hc1:¬(n:Int)+1<1:=h
  have hs:(n:Int)+1-1=(n:Int):=by omega
  have hB:=Lib.hid (bits_len n (by omega) w)
  clear hl
  go_enter Tryz.func237,Tryz.ntmps237
  go_wp2_with fail
  refine hB.out.mono ?_
  rintro e w2 ⟨rfl,rfl⟩
  go_wp2_with fail
  go_ret
  rw [HW.out]
  exact ⟨rfl,rfl⟩
def BIn (d:List Nat) (x i j:Nat):Prop:=i≤j∧j≤d.length∧(∀k,k<i→d.getD k 0<x)∧(∀k,j≤k→k<d.length→x≤d.getD k 0)
theorem BIn.done {d:List Nat} {x i:Nat} (ha:Asc d) (hx:x∈d) (h:BIn d x i i):i<d.length∧d.getD i 0=x∧d.idxOf x=i:=by
 have hm:=List.idxOf_lt_length_of_mem hx
 have he:=getD_idxOf hx
 obtain ⟨h1,h2,h3,h4⟩:=h
 have hge:i≤d.idxOf x:=Nat.le_of_not_lt (fun hlt=>by have:=h3 _ hlt;omega)
 have heq:d.idxOf x=i:=by
  by_cases e:d.idxOf x=i
  ·exact e
  ·exfalso
   have h5:=h4 i (Nat.le_refl _) (by omega)
   have h6:d.getD i 0<d.getD (d.idxOf x) 0:=by
    rw [List.getD_eq_getElem?_getD,List.getD_eq_getElem?_getD,List.getElem?_eq_getElem hm,List.getElem?_eq_getElem (show i<d.length by omega)]
    exact List.pairwise_iff_getElem.1 ha i _ (by omega) hm (by omega)
   omega
 exact ⟨by omega,by rw [← heq];exact he,heq⟩
theorem asc_getD {d:List Nat} (ha:Asc d) {i j:Nat} (hij:i≤j) (hj:j<d.length):d.getD i 0≤d.getD j 0:=by
 by_cases e:i=j
 ·subst e;exact Nat.le_refl _
 ·rw [List.getD_eq_getElem?_getD,List.getD_eq_getElem?_getD,List.getElem?_eq_getElem hj,List.getElem?_eq_getElem (show i<d.length by omega)]
  exact Nat.le_of_lt (List.pairwise_iff_getElem.1 ha i j (by omega) hj (by omega))
theorem BIn.up {d:List Nat} {x i j h:Nat} (ha:Asc d) (b:BIn d x i j) (h2:h<j) (hl:d.getD h 0<x):BIn d x (h+1) j:=
 ⟨h2,b.2.1,fun k hk=>Nat.lt_of_le_of_lt (asc_getD ha (by omega) (by have:=b.2.1;omega)) hl,b.2.2.2⟩
theorem BIn.down {d:List Nat} {x i j h:Nat} (ha:Asc d) (b:BIn d x i j) (h1:i≤h) (h2:h<j) (hl:x≤d.getD h 0):BIn d x i h:=
 ⟨h1,by have:=b.2.1;omega,b.2.2.1,fun k hk hk2=>Nat.le_trans hl (asc_getD ha hk hk2)⟩
set_option maxHeartbeats 8000000 in
theorem binary_u64 (dv:Value) (d:List Nat) (x:Nat) (w:World) (hd:Rd w 1 dv d.length (u64s d)) (ha:Asc d) (hx:x∈d) (hn:d.length≤1000000000) :
  Calls Tryz.prog 282 #[dv,.int .u64 (x:Int)] w fun e w'=>e = .returned (.tuple #[.int .i64 (d.idxOf x:Int),.bool true])∧Below w.heap.size w w':=by
 have HD:=Lib.hid hd;have HA:=Lib.hid ha;have HX:=Lib.hid hx;have HNn:=Lib.hid hn
 obtain ⟨b,off,c,e,_,_,hcell⟩:=hd.at (fun e=>by have:=congrArg List.length e;rw [u64s_length] at this;simp at this;subst this;cases hx)
 subst e
 have HCl:Hid (∀(i:Nat),i<d.length→w.cell? ⟨b,off+i,none⟩=some (.int .u64 ((d.getD i 0:Nat):Int))):=fun i hi=>hcell i _ (by rw [u64s_get d i hi,List.getD_eq_getElem?_getD,List.getElem?_eq_getElem hi];rfl)
 have hni:(d.length:Int)≤1000000000:=by omega
 clear hd ha hx hcell hn
 go_enter Tryz.func282,Tryz.ntmps282
 go_wp2_with fail
 go_loopw [7,8] (fun iv jv wr=>∃(i j:Nat),iv = .int .i64 (i:Int)∧jv = .int .i64 (j:Int)∧Hid (BIn d x i j)∧Hid (Below w.heap.size w wr)) (fun iv jv _=>(intOf jv-intOf iv).toNat)
 case atStart=>exact ⟨0,d.length,rfl,rfl,⟨Nat.zero_le _,Nat.le_refl _,fun k hk=>by omega,fun k hk hk2=>by omega⟩,Below.refl _ _⟩
 case round=>
  obtain ⟨i,j,rfl,rfl,HB,HW⟩:=hrel
  by_cases hij:i<j
  ·have hiji:(i:Int)<(j:Int):=by omega
   obtain ⟨h,hh⟩:∃h,(i+j) / 2=h:=⟨_,rfl⟩
   have HH:Hid (((i:Int)+(j:Int)) / 2=(h:Int)):=by show _=_;omega
   have hj1:=HB.out.2.1
   have hjm:(j:Int)≤1000000000:=by omega
   have h1:i≤h:=by omega
   have h2:h<j:=by omega
   clear hh
   have hc1:wr.cell? ⟨b,off+(i+j) / 2,none⟩=some (.int .u64 ((d.getD h 0:Nat):Int)):=by
    rw [show (i+j) / 2=h by have:=HH.out;omega]
    exact (Mods.of_below HW.out (fun _=>False)).cell (HCl.out h (by omega)) (fun e=>e)
   have hhm:((i:Int)+(j:Int)) / 2<(d.length:Int):=by rw [HH.out];omega
   obtain ⟨y,hy⟩:∃y,d.getD h 0=y:=⟨_,rfl⟩
   rw [hy] at hc1
   have HY:=Lib.hid hy
   clear hy
   go_wp2_with fail
   refine (less_u64' y x wr).mono ?_
   rintro e w2 ⟨rfl,rfl⟩
   cases hl:ltU y x with
   | true=>
    have HB2:Hid (BIn d x (h+1) j):=HB.out.up HA.out h2 (by rw [HY.out];simpa [ltU] using hl)
    go_wp2_with fail
    go_round
    case rel=>exact ⟨h+1,j,by rw [HH.out];go_num,rfl,HB2.out,HW.out⟩
    case measure=>simp [intOf];have:=HH.out;omega
   | false=>
    have HB2:Hid (BIn d x i h):=HB.out.down HA.out h1 h2 (by rw [HY.out];simpa [ltU] using hl)
    go_wp2_with fail
    go_round
    case rel=>exact ⟨i,h,rfl,by rw [HH.out],HB2.out,HW.out⟩
    case measure=>simp [intOf];have:=HH.out;omega
  ·have hiji:¬(i:Int)<(j:Int):=by omega
   obtain rfl:i=j:=by have:=HB.out.1;omega
   obtain ⟨d1,d2,d3⟩:=HB.out.done HA.out HX.out
   have hc1:wr.cell? ⟨b,off+i,none⟩=some (.int .u64 (x:Int)):=by
    have h:=(Mods.of_below HW.out (fun _=>False)).cell (HCl.out i d1) (fun e=>e)
    rw [d2] at h
    exact h
   have d1i:(i:Int)<(d.length:Int):=by omega
   have HI:=Lib.hid d3
   clear d2 d3
   go_wp2_with fail
   go_ret2
   rw [HI.out]
   exact ⟨rfl,HW.out⟩
theorem upd_of_below {w w':World} (h:Below w.heap.size w w') (p:Nat) (v:Value):Upd w w' p v v:=⟨Mods.of_below h _,Fresh.refl _ _⟩
theorem Rd.upd {w w':World} {p:Nat} {v v' lv:Value} {l:List Nat} (h:Rd w 1 lv l.length (u64s l)) (hu:Upd w w' p v v') (hap:∀k,lv.ownBlock=some k→k≠p∧v.ownBlock≠some k):Rd w' 1 lv l.length (u64s l):=
 h.mods hu.mods (fun k hk e=>e.elim (hap k hk).1 (hap k hk).2)
theorem u64s_ne {l:List Nat} {i:Nat} (h:i<l.length):u64s l≠[]:=fun e=>by have:=congrArg List.length e;rw [u64s_length] at this;simp at this;subst this;simp at h
set_option maxHeartbeats 4000000 in
theorem put_dictionary (p:Nat) (v dv:Value) (bits:List Bool) (d:List Nat) (w:World) (hW:WriterIn w p v bits) (hd:Rd w 1 dv d.length (u64s d)) (h0:0<d.length) (hk:d.length≤128)
  (hap:∀k,dv.ownBlock=some k→k≠p∧v.ownBlock≠some k) (hz:bits.length+9000≤1125899906842000) :
  Calls Tryz.prog 238 #[.pointer (some ⟨p,0,none⟩),dv] w fun e w'=>e = .returned (.tuple #[])∧BitsPost p v (bits++(fieldBits (d.length-1) 7++wordsBits d)) w w':=by
 have HD:=Lib.hid hd;have HAp:=Lib.hid hap;have HZ:=Lib.hid hz
 have hni:(d.length:Int)≤128:=by omega
 have HB:=Lib.hid (wbits p v bits (d.length-1) 7 w hW (by omega) (by omega))
 have hc:(d.length:Int)-1=((d.length-1:Nat):Int):=by omega
 obtain ⟨m,hm⟩:∃m,d.length-1=m:=⟨_,rfl⟩
 rw [hm] at HB hc ⊢
 have hm0:(m:Int)≤128:=by omega
 obtain ⟨q,c,hv⟩:=hd.shape
 subst hv
 clear hd hap hz hW hm
 go_enter Tryz.func238,Tryz.ntmps238
 go_wp2_with fail
 refine HB.out.mono ?_
 rintro e w2 ⟨rfl,v2,hW2,hU2⟩
 have HW2:=Lib.hid hW2;have HU2:=Lib.hid hU2
 have HR2:=Lib.hid (HD.out.upd hU2 HAp.out)
 clear hW2 hU2 HB
 go_wp2_with fail
 go_loopw [14] (fun kv wr=>∃(k:Nat) (v':Value),k≤d.length∧kv = .int .i64 (k:Int)∧Hid (WriterIn wr p v' (bits++fieldBits m 7++wordsBits (d.take k)))∧Hid (Upd w wr p v v')∧Hid (Rd wr 1 (.slice q d.length c) d.length (u64s d))) (fun kv _=>d.length-(intOf kv).toNat)
 case atStart=>exact ⟨0,v2,Nat.zero_le _,rfl,by show WriterIn _ _ _ _;rw [List.take_zero];simpa [wordsBits] using HW2.out,HU2.out,HR2.out⟩
 case round=>
  obtain ⟨k,v',hkm,rfl,HW,HU,HR⟩:=hrel
  clear HW2 HU2 HR2
  by_cases hlt:k<d.length
  ·have hlti:(k:Int)<(d.length:Int):=by omega
   obtain ⟨b,off,c',e,_,_,hcell⟩:=HR.out.at (u64s_ne hlt)
   simp only [Value.slice.injEq] at e
   obtain ⟨rfl,_,rfl⟩:=e
   obtain ⟨y,hy⟩:∃y,d[k]=y:=⟨_,rfl⟩
   have hct:wr.cell? ⟨b,off+k,none⟩=some (.int .u64 (y:Int)):=by rw [← hy];exact hcell k _ (u64s_get d k hlt)
   have HT:Hid (wordsBits (d.take (k+1))=wordsBits (d.take k)++fieldBits y 64):=wordsBits_take d k hlt y hy
   have HC:=Lib.hid (wbits p v' _ y 64 wr HW.out (by omega) (by
    rw [List.length_append,List.length_append,fieldBits_length,wordsBits_len,List.length_take];have:=HZ.out;omega))
   clear hcell hy
   go_wp2_with fail
   refine HC.out.mono ?_
   rintro e w3 ⟨rfl,v3,hW3,hU3⟩
   have HW3:Hid (WriterIn w3 p v3 (bits++fieldBits m 7++wordsBits (d.take (k+1)))):=by
    show WriterIn _ _ _ _
    rw [HT.out,← List.append_assoc];exact hW3
   have HU3:=Lib.hid (HU.out.trans hU3)
   have HR3:=Lib.hid (HD.out.upd HU3.out HAp.out)
   clear hW3 hU3 HC
   go_wp2_with fail
   go_round
   case rel=>exact ⟨k+1,v3,by omega,by go_num,HW3.out,HU3.out,HR3.out⟩
   case measure=>simp [intOf];omega
  ·have hlti:¬(k:Int)<(d.length:Int):=by omega
   have HF:Hid (WriterIn wr p v' (bits++(fieldBits m 7++wordsBits d))):=by
    have h:=HW.out
    rw [List.take_of_length_le (by omega),List.append_assoc] at h
    exact h
   go_wp2_with fail
   go_end0
   exact ⟨rfl,v',HF.out,HU.out⟩
set_option maxHeartbeats 4000000 in
theorem put_indices (p:Nat) (v lv dv:Value) (bits:List Bool) (l d:List Nat) (w:World) (hW:WriterIn w p v bits) (hl:Rd w 1 lv l.length (u64s l)) (hd:Rd w 1 dv d.length (u64s d)) (ha:Asc d) (hin:∀x∈l,x∈d) (hk:d.length≤128)
  (hapl:∀k,lv.ownBlock=some k→k≠p∧v.ownBlock≠some k) (hapd:∀k,dv.ownBlock=some k→k≠p∧v.ownBlock≠some k) (hn:l.length≤1000000000) (hz:bits.length+7*l.length≤70368744177000) :
  Calls Tryz.prog 239 #[.pointer (some ⟨p,0,none⟩),lv,dv] w fun e w'=>e = .returned (.tuple #[])∧BitsPost p v (bits++indsBits d.length (l.map fun x=>d.idxOf x)) w w':=by
 have HL:=Lib.hid hl;have HD:=Lib.hid hd;have HAl:=Lib.hid hapl;have HAd:=Lib.hid hapd;have HZ:=Lib.hid hz;have HA:=Lib.hid ha;have HIn:=Lib.hid hin;have HW0:=Lib.hid hW
 have HK:=Lib.hid hk
 have hni:(l.length:Int)≤1000000000:=by omega
 have hdi:(d.length:Int)≤128:=by omega
 obtain ⟨q,c,hv⟩:=hl.shape
 subst hv
 obtain ⟨q2,c2,hv⟩:=hd.shape
 subst hv
 have HC0:=Lib.hid (width_any (d.length:Int) w (by omega) (by omega))
 have HWi:Hid (widthI (d.length:Int)=(widthD d.length:Int)):=by show _=_;rw [widthI,Int.toNat_natCast]
 have hw7:=width_le hk
 obtain ⟨t,ht⟩:∃t,widthD d.length=t:=⟨_,rfl⟩
 rw [ht] at HWi hw7
 rw [HWi.out] at HC0
 have HTt:=Lib.hid ht
 have hti:(t:Int)≤7:=by omega
 clear hl hd hapl hapd hz ha hin hW hk ht hn HWi
 go_enter Tryz.func239,Tryz.ntmps239
 go_wp2_with fail
 refine HC0.out.mono ?_
 rintro e w2 ⟨rfl,rfl⟩
 clear HC0
 go_wp2_with fail
 go_loopw [16] (fun kv wr=>∃(k:Nat) (v':Value),k≤l.length∧kv = .int .i64 (k:Int)∧Hid (WriterIn wr p v' (bits++indsBits d.length ((l.map fun x=>d.idxOf x).take k)))∧Hid (Upd w2 wr p v v')) (fun kv _=>l.length-(intOf kv).toNat)
 case atStart=>exact ⟨0,v,Nat.zero_le _,rfl,by show WriterIn _ _ _ _;rw [List.take_zero];simpa [indsBits] using HW0.out,Upd.refl _ _ _⟩
 case round=>
  obtain ⟨k,v',hkm,rfl,HW,HU⟩:=hrel
  by_cases hlt:k<l.length
  ·have hlti:(k:Int)<(l.length:Int):=by omega
   have HR:=Lib.hid (HL.out.upd HU.out HAl.out)
   have HRd:=Lib.hid (HD.out.upd HU.out HAd.out)
   obtain ⟨b,off,c',e,_,_,hcell⟩:=HR.out.at (u64s_ne hlt)
   simp only [Value.slice.injEq] at e
   obtain ⟨rfl,_,rfl⟩:=e
   obtain ⟨y,hy⟩:∃y,l[k]=y:=⟨_,rfl⟩
   have hct:wr.cell? ⟨b,off+k,none⟩=some (.int .u64 (y:Int)):=by rw [← hy];exact hcell k _ (u64s_get l k hlt)
   have HY:Hid (y∈d):=HIn.out y (by rw [← hy];exact List.getElem_mem hlt)
   obtain ⟨z,hz⟩:∃z,d.idxOf y=z:=⟨_,rfl⟩
   have hz1:z<d.length:=by rw [← hz];exact List.idxOf_lt_length_of_mem HY.out
   have hzi:(z:Int)<(d.length:Int):=by omega
   have hlk:k<(l.map fun x=>d.idxOf x).length:=by rw [List.length_map];exact hlt
   have HT:Hid (indsBits d.length ((l.map fun x=>d.idxOf x).take (k+1))=indsBits d.length ((l.map fun x=>d.idxOf x).take k)++fieldBits z t):=by
    show _=_
    rw [indsBits_take d.length (l.map fun x=>d.idxOf x) k hlk z (by rw [List.getElem_map,hy,hz]),HTt.out]
   have HS:=Lib.hid (binary_u64 (.slice q2 d.length c2) d y wr HRd.out HA.out HY.out (by have:=HK.out;omega))
   rw [hz] at HS
   have HLen:Hid ((bits++indsBits d.length ((l.map fun x=>d.idxOf x).take k)).length+64≤1125899906842624):=by
    show _≤_
    rw [List.length_append,indsBits_len,List.length_take,List.length_map,HTt.out]
    have h1:=Nat.mul_le_mul hw7 (Nat.min_le_right k l.length)
    have:=HZ.out
    omega
   clear hcell hy hlk hz
   go_wp2_with fail
   refine HS.out.mono ?_
   rintro e w3 ⟨rfl,hB3⟩
   have HW3:=Lib.hid (HW.out.below hB3)
   have HU3:=Lib.hid (HU.out.trans (upd_of_below hB3 p v'))
   clear hB3 HS
   have HC:=Lib.hid (wbits p v' _ z t w3 HW3.out (by omega) HLen.out)
   go_wp2_with fail
   refine HC.out.mono ?_
   rintro e w4 ⟨rfl,v4,hW4,hU4⟩
   have HW4:Hid (WriterIn w4 p v4 (bits++indsBits d.length ((l.map fun x=>d.idxOf x).take (k+1)))):=by
    show WriterIn _ _ _ _
    rw [HT.out,← List.append_assoc];exact hW4
   have HU4:=Lib.hid (HU3.out.trans hU4)
   clear hW4 hU4 HC HW3 HU3
   go_wp2_with fail
   go_round
   case rel=>exact ⟨k+1,v4,by omega,by go_num,HW4.out,HU4.out⟩
   case measure=>simp [intOf];omega
  ·have hlti:¬(k:Int)<(l.length:Int):=by omega
   have HF:Hid (WriterIn wr p v' (bits++indsBits d.length (l.map fun x=>d.idxOf x))):=by
    have h:=HW.out
    rw [List.take_of_length_le (by rw [List.length_map];omega)] at h
    exact h
   go_wp2_with fail
   go_end0
   exact ⟨rfl,v',HF.out,HU.out⟩
set_option maxHeartbeats 4000000 in
theorem dictval_put (p:Nat) (v lv:Value) (bits:List Bool) (l:List Nat) (w:World) (hW:WriterIn w p v bits) (hl:Rd w 1 lv l.length (u64s l)) (ok:∀t∈l,in64u t)
  (hap:l≠[]→∀k,lv.ownBlock=some k→k≠p∧v.ownBlock≠some k) (hn:l.length≤1000000000) (hz:bits.length+8199+7*l.length≤70368744177000) :
  Calls Tryz.prog 191 #[.pointer (some ⟨p,0,none⟩),lv] w fun e w'=>e = .returned (.int .i64 (if okD l then 0 else 7))∧BitsPost p v (bits++putD l) w w':=by
 by_cases hnil:l=[]
 ·subst hnil
  have HE:Hid (okD []=true∧bits++putD []=bits):=by
   show _∧_
   have:okD []=true:=by decide
   exact ⟨this,by rw [putD_ok this];simp [encD]⟩
  have HW:=Lib.hid hW
  obtain ⟨q,c,hv⟩:=hl.shape
  subst hv
  clear hl ok hap hz hW
  rw [HE.out.1,HE.out.2]
  go_enter Tryz.func191,Tryz.ntmps191
  go_wp2_with fail
  go_ret
  exact ⟨by simp,v,HW.out,Upd.refl _ _ _⟩
 ·have hpos:0<l.length:=List.length_pos_iff.2 hnil
  have HAl:=Lib.hid (hap hnil)
  have HL:=Lib.hid hl;have HOk:=Lib.hid ok;have HW:=Lib.hid hW;have HZ:=Lib.hid hz;have HN:=Lib.hid hn
  have HDi:=Lib.hid (dictionary_any lv l w hl ok hn)
  have HDl:=Lib.hid (dictD_len l)
  have HD0:Hid (0<(dictD l).length):=by
   show _<_
   obtain ⟨x,hx⟩:∃x,x∈l:=⟨l[0],List.getElem_mem hpos⟩
   exact List.length_pos_of_mem ((dictD_mem l x).2 hx)
  have HEn:Hid (okD l=true→putD l=fieldBits ((dictD l).length-1) 7++(wordsBits (dictD l)++indsBits (dictD l).length (l.map fun x=>(dictD l).idxOf x))):=fun h=>by rw [putD_ok h,encD,if_neg hnil]
  have HOd:Hid (okD l=decide ((dictD l).length≤128)):=by show _=_;rfl
  obtain ⟨q,c,hv⟩:=hl.shape
  subst hv
  have hne:¬(l.length:Int)=0:=by omega
  have hnb:((l.length:Int) == 0)=false:=by rw [beq_eq_false_iff_ne];exact hne
  obtain ⟨ev,hev⟩:∃ev:Int,(if okD l then 0 else 7)=ev:=⟨_,rfl⟩
  have HEv:=Lib.hid hev
  rw [hev]
  clear hl ok hap hz hW hn hnil hpos hev
  go_enter Tryz.func191,Tryz.ntmps191
  go_wp2_with fail
  refine HDi.out.mono ?_
  rintro e w2 ⟨r,rfl,hO,hB⟩
  obtain ⟨qd,cd,hv⟩:=(Rd.of_owns hO).shape
  subst hv
  have HR:=Lib.hid (Rd.of_owns hO)
  have HLow:Hid (∀k,(Value.slice qd (dictD l).length cd).ownBlock=some k→w.heap.size≤k):=fun k hk=>(hO.lt k hk).1
  have HB:=Lib.hid hB
  have HW2:=Lib.hid (HW.out.below hB)
  have HL2:=Lib.hid (HL.out.below hB)
  have HAd:Hid (∀k,(Value.slice qd (dictD l).length cd).ownBlock=some k→k≠p∧v.ownBlock≠some k):=fun k hk=>by
   have h1:=HLow.out k hk
   have h2:=HW.out.blk.lt
   exact ⟨by omega,fun e=>by have:=owns_lt HW.out.own k e;omega⟩
  clear hO hB HDi
  by_cases hk:(dictD l).length≤128
  ·have hki:¬(128:Int)<((dictD l).length:Int):=by omega
   have HOk1:Hid (okD l=true):=by show _=_;rw [HOd.out];exact decide_eq_true hk
   have HP1:=Lib.hid (put_dictionary p v _ bits (dictD l) w2 HW2.out HR.out HD0.out hk HAd.out (by have:=HZ.out;omega))
   go_wp2_with fail
   refine HP1.out.mono ?_
   rintro e w3 ⟨rfl,v3,hW3,hU3⟩
   have HW3:=Lib.hid hW3
   have HU3:=Lib.hid hU3
   have HL3:=Lib.hid (HL2.out.upd hU3 HAl.out)
   have HR3:=Lib.hid (HR.out.upd hU3 HAd.out)
   have HF3:=Lib.hid hU3.fresh
   have hap3:∀(u:Value) (k:Nat),u.ownBlock=some k→k<w2.heap.size→(k≠p∧v.ownBlock≠some k)→k≠p∧v3.ownBlock≠some k:=fun u k hk h1 h2=>⟨h2.1,fun e=>(HF3.out k e).elim h2.2 (fun h=>by omega)⟩
   have HP2:=Lib.hid (put_indices p v3 (.slice q l.length c) (.slice qd (dictD l).length cd) _ l (dictD l) w3 HW3.out HL3.out HR3.out (dictD_asc l) (fun x hx=>(dictD_mem l x).2 hx) hk
    (fun k hk=>hap3 _ k hk (u64s_ltD HL2.out (fun e=>by have:=HD0.out;rw [e] at this;simp [dictD,dictFrom] at this) k hk) (HAl.out k hk))
    (fun k hk=>hap3 _ k hk (u64s_ltD HR.out (fun e=>by have:=HD0.out;rw [e] at this;simp at this) k hk) (HAd.out k hk)) HN.out (by
     rw [List.length_append,List.length_append,fieldBits_length,wordsBits_len];have:=HZ.out;omega))
   clear hW3 hU3 hap3 HP1
   go_wp2_with fail
   refine HP2.out.mono ?_
   rintro e w4 ⟨rfl,v4,hW4,hU4⟩
   have HW4:Hid (WriterIn w4 p v4 (bits++putD l)):=by
    show WriterIn _ _ _ _
    rw [HEn.out HOk1.out]
    simpa [List.append_assoc] using hW4
   have HU4:=Lib.hid (((upd_of_below HB.out p v).trans HU3.out).trans hU4)
   clear hW4 hU4 HP2
   go_wp2_with fail
   go_ret
   rw [← HEv.out,HOk1.out]
   exact ⟨by simp,v4,HW4.out,HU4.out⟩
  ·have hki:(128:Int)<((dictD l).length:Int):=by omega
   have HOk1:Hid (okD l=false):=by show _=_;rw [HOd.out];exact decide_eq_false hk
   have HP:Hid (bits++putD l=bits):=by show _=_;rw [putD_no HOk1.out,List.append_nil]
   go_wp2_with fail
   go_ret
   rw [← HEv.out,HOk1.out,HP.out]
   exact ⟨by simp,v,HW2.out,upd_of_below HB.out p v⟩
set_option maxHeartbeats 4000000 in
theorem dictval_size (lv:Value) (l:List Nat) (w:World) (hl:Rd w 1 lv l.length (u64s l)) (ok:∀t∈l,in64u t) (hn:l.length≤1000000000) :
  Calls Tryz.prog 190 #[lv] w fun e w'=>e = .returned (.int .i64 (sizeD l))∧Below w.heap.size w w':=by
 by_cases hnil:l=[]
 ·subst hnil
  have HE:Hid (sizeD []=0):=by
   show _=_
   have:okD []=true:=by decide
   rw [sizeD,if_pos this];simp [encD]
  obtain ⟨q,c,hv⟩:=hl.shape
  subst hv
  clear hl ok
  rw [HE.out]
  go_enter Tryz.func190,Tryz.ntmps190
  go_wp2_with fail
  go_ret
  exact ⟨rfl,Below.refl _ _⟩
 ·have hpos:0<l.length:=List.length_pos_iff.2 hnil
  have hne:¬(l.length:Int)=0:=by omega
  have hnb:((l.length:Int) == 0)=false:=by rw [beq_eq_false_iff_ne];exact hne
  have HDi:=Lib.hid (dictionary_any lv l w hl ok hn)
  have HEn:Hid (okD l=true→sizeD l=7+((dictD l).length:Int)*64+(l.length:Int)*(widthD (dictD l).length:Int)):=fun h=>by
   rw [sizeD,if_pos h,encD,if_neg hnil,List.length_append,List.length_append,fieldBits_length,wordsBits_len,indsBits_len,List.length_map]
   simp only [Int.natCast_add,Int.natCast_mul]
   rw [Int.mul_comm (widthD _:Int)]
   omega
  have HOd:Hid (okD l=decide ((dictD l).length≤128)):=by show _=_;rfl
  have HN:=Lib.hid hn
  obtain ⟨q,c,hv⟩:=hl.shape
  subst hv
  have hli:(l.length:Int)≤1000000000:=by omega
  clear hl ok hn hnil hpos
  go_enter Tryz.func190,Tryz.ntmps190
  go_wp2_with fail
  refine HDi.out.mono ?_
  rintro e w2 ⟨r,rfl,hO,hB⟩
  obtain ⟨qd,cd,hv⟩:=(Rd.of_owns hO).shape
  subst hv
  have HB:=Lib.hid hB
  clear hO hB HDi
  by_cases hk:(dictD l).length≤128
  ·have hki:¬(128:Int)<((dictD l).length:Int):=by omega
   have HOk1:Hid (okD l=true):=by show _=_;rw [HOd.out];exact decide_eq_true hk
   have HSz:=Lib.hid (HEn.out HOk1.out)
   have hdi:((dictD l).length:Int)≤128:=by omega
   have HC0:=Lib.hid (width_any ((dictD l).length:Int) w2 (by omega) (by omega))
   have hw7:=width_le hk
   rw [show widthI ((dictD l).length:Int)=(widthD (dictD l).length:Int) by rw [widthI,Int.toNat_natCast]] at HC0
   generalize (dictD l).length=k at *
   generalize widthD k=t at *
   have hti:(t:Int)≤7:=by omega
   have hmb:(l.length:Int)*(t:Int)≤7000000000:=by
    have:=Int.mul_le_mul hli hti (by omega) (by omega)
    omega
   have hmp:(0:Int)≤(l.length:Int)*(t:Int):=Int.mul_nonneg (by omega) (by omega)
   clear hk
   go_wp2_with fail
   refine HC0.out.mono ?_
   rintro e w3 ⟨rfl,rfl⟩
   clear HC0
   go_wp2_with fail
   go_ret
   rw [HSz.out]
   exact ⟨by rfl,HB.out⟩
  ·have hki:(128:Int)<((dictD l).length:Int):=by omega
   have HOk1:Hid (sizeD l = -1):=by show _=_;rw [sizeD,HOd.out,decide_eq_false hk];rfl
   go_wp2_with fail
   go_ret
   rw [HOk1.out]
   exact ⟨by rfl,HB.out⟩
end Go.Proofs.YtdcgbgecbeegmaaGreatDoor
end
section
namespace Go.Proofs.YtdcgbgecbeegmaaGreatDoor
open Go Go.RowKit
def T9 (w:World):Prop:=TabF w∧TabZ w
def G9:Nat:=max 1 3 + 1
theorem g9_forms {k:Nat} (h:G9≤k) : 1 + 1≤k:=by unfold G9 at h;omega
theorem g9_zeros {k:Nat} (h:G9≤k) : 3 + 1≤k:=by unfold G9 at h;omega
theorem T9.low {w:World} (h:T9 w):G9≤w.heap.size:=by have h1:=h.1.lt;have h2:=h.2.lt;unfold G9;omega
theorem T9.keeps {S:Nat→Prop} {w w':World} (h:T9 w) (hm:Mods S w w') (hk:∀k,k<G9→¬S k):T9 w':=
 ⟨h.1.block (hm.block _ h.1.lt (hk _ (by unfold G9;omega))),h.2.block (hm.block _ h.2.lt (hk _ (by unfold G9;omega)))⟩
theorem T9.below {w w':World} (h:T9 w) (hb:Below w.heap.size w w'):T9 w':=h.keeps (Mods.of_below hb (fun _=>False)) (fun _ _ h=>h)
theorem put_times (p:Nat) (v lv:Value) (bits:List Bool) (l:List Int) (w:World) (hT:T9 w) (hW:WriterIn w p v bits) (hp:G9≤p) (hv:∀k,v.ownBlock=some k→G9≤k) (hl:Rd w 1 lv l.length (i64s l)) (ok:∀t∈l,in64 t)
  (hap:l≠[]→∀k,lv.ownBlock=some k→k≠p∧v.ownBlock≠some k) (hz:bits.length+68*l.length≤70368744177000) :
  Calls Tryz.prog 138 #[.pointer (some ⟨p,0,none⟩),lv] w fun e w'=>e = .returned (.int .i64 0)∧BitsPost p v (bits++encT l) w w':=by
 match l,hl,hap,hz with
 | [],hl,_,_=>
  rw [show encT []=[] from rfl,List.append_nil]
  exact times_put_nil p v lv bits w hW hl
 | t::tl,hl,hap,hz=>exact times_put_cons p v lv bits (t::tl) t tl rfl w hT.1 hW (g9_forms hp) (fun k hk=>g9_forms (hv k hk)) hl (hap (by simp)) hz
def PutsC (tag:Nat) (f:FuncId):Prop:=∀(p:Nat) (v lv:Value) (bits:List Bool) (l:List Nat) (w:World),T9 w→WriterIn w p v bits→G9≤p→(∀k,v.ownBlock=some k→G9≤k)→Rd w 1 lv l.length (u64s l)→(∀t∈l,in64u t)→
 (l≠[]→∀k,lv.ownBlock=some k→k≠p∧v.ownBlock≠some k)→l.length≤1000000→bits.length+8199+78*l.length≤70368744177000→
 Calls Tryz.prog f #[.pointer (some ⟨p,0,none⟩),lv] w fun e w'=>e = .returned (.int .i64 (if okC tag l then 0 else 7))∧BitsPost p v (bits++bitsC tag l) w w'
def SizesC (tag:Nat) (f:FuncId):Prop:=∀(lv:Value) (l:List Nat) (w:World),T9 w→Rd w 1 lv l.length (u64s l)→(∀t∈l,in64u t)→l.length≤1000000→
 Calls Tryz.prog f #[lv] w fun e w'=>e = .returned (.int .i64 (sizeC tag l))∧Below w.heap.size w w'
theorem puts1:PutsC 1 185:=fun p v lv bits l w hT hW hp hv hl ok hap hn hz=>by
 show Calls _ _ _ _ fun e w'=>e = .returned (.int .i64 0)∧BitsPost p v (bits++encV l) w w'
 match l,hl,ok,hap,hz with
 | [],hl,_,_,_=>
  rw [show encV []=[] from rfl,List.append_nil]
  exact xorval_put_nil p v lv bits w hW hl
 | t::tl,hl,ok,hap,hz=>exact xorval_put_cons p v lv bits (t::tl) t tl rfl w hT.2 hW (by have:=g9_zeros hp;omega) (fun e=>by have:=g9_zeros (hv _ e);omega) hl ok (hap (by simp)) (by omega)
theorem puts2:PutsC 2 188:=fun p v lv bits l w hT hW hp hv hl ok hap hn hz=>runval_put p v lv bits l w hW hl ok hap (by omega)
theorem puts3:PutsC 3 191:=fun p v lv bits l w hT hW hp hv hl ok hap hn hz=>dictval_put p v lv bits l w hW hl ok hap (by omega) (by omega)
theorem sizes1:SizesC 1 184:=fun lv l w hT hl ok hn=>by
 show Calls _ _ _ _ fun e w'=>e = .returned (.int .i64 ((encV l).length:Int))∧Below w.heap.size w w'
 match l,hl,ok,hn with
 | [],hl,_,_=>exact xorval_size_nil w lv hl
 | t::tl,hl,ok,hn=>exact xorval_size_cons lv (t::tl) t tl rfl w hT.2 hl ok (by omega)
theorem sizes2:SizesC 2 187:=fun lv l w hT hl ok hn=>runval_size lv l w hl ok (by omega)
theorem sizes3:SizesC 3 190:=fun lv l w hT hl ok hn=>(dictval_size lv l w hl ok (by omega)).mono fun e w' q=>by
 refine ⟨?_,q.2⟩
 rw [q.1,sizeD,sizeC]
 show _=Ending.returned (.int .i64 (if okD l=true then ((putD l).length:Int) else -1))
 split
 ·next h=>rw [putD_ok h]
 ·rfl
end Go.Proofs.YtdcgbgecbeegmaaGreatDoor
end
section
set_option maxRecDepth 100000
namespace Go.Proofs.YtdcgbgecbeegmaaGreatDoor
open Go Go.RowKit
def fnV (f:FuncId):Value:=.func (.func f) #[] #[]
def encCells:List Value:=[.nilFunc,.nilFunc,.nilFunc,fnV 184,fnV 185,fnV 186,fnV 187,fnV 188,fnV 189,fnV 190,fnV 191,fnV 192]
theorem strEnc:Str Tryz.prog 197 12 (List.replicate 12 .nilFunc):=Str.mk' Tryz.underlying197 rfl (by kernel_rfl) rfl
theorem strI3:Str Tryz.prog 239 3 [.int .i64 0,.int .i64 0,.int .i64 0]:=Str.mk' Tryz.underlying239 rfl (by kernel_rfl) rfl
set_option maxHeartbeats 2000000 in
theorem encodings_any (w:World):Calls Tryz.prog 139 #[] w fun e w'=>e = .returned (.agg encCells.toArray)∧Below w.heap.size w w':=by
 go_enter Tryz.func139,Tryz.ntmps139
 go_wp2_with (refine wpList_allocS strEnc rfl rfl ?_)
 intro w1 hK hB hs
 have HK:=Lib.hid hK;have HB:=Lib.hid hB;have HS:=Lib.hid hs
 clear hK hB hs
 go_wp2_with (refine wpList_storeS strEnc rfl _ _ rfl w.heap.size rfl encCells _ rfl HK.out rfl rfl (by simp [encCells,fnV,Value.oneCell']) ?_)
 intro w2 hK hM hs
 have HK2:=Lib.hid hK
 have HB2:Hid (Below w.heap.size w w2):=HB.out.trans (hM.below (by have:=HS.out;omega) (fun k hk e=>by omega))
 clear hK hM hs
 go_wp2_with fail
 refine bodyPost_ret (resultsS (p:=0) strEnc (by kernel_rfl) _ w.heap.size rfl encCells HK2.out rfl) rfl ⟨rfl,HB2.out⟩
def szF:Nat→FuncId
 | 0=>184
 | 1=>187
 | _=>190
theorem szF_call (i:Nat):∀(args:Array Value) (w:World),(callFunc (szF i) args).run Tryz.prog w = .ok (.enter (szF i) args) w:=by
 intro args w
 match i with
 | 0=>rfl
 | 1=>rfl
 | _+2=>rfl
theorem szF_sizes (i:Nat) (h:i<3):SizesC (i+1) (szF i):=by
 match i,h with
 | 0,_=>exact sizes1
 | 1,_=>exact sizes2
 | 2,_=>exact sizes3
def pF:Nat→FuncId
 | 0=>185
 | 1=>188
 | _=>191
def gF:Nat→FuncId
 | 0=>186
 | 1=>189
 | _=>192
theorem enc_at (i:Nat) (h:i<3):encCells[3+i*3]? = some (fnV (szF i))∧encCells[3+i*3+1]? = some (fnV (pF i))∧encCells[3+i*3+2]? = some (fnV (gF i)):=by
 match i,h with
 | 0,_=>exact ⟨rfl,rfl,rfl⟩
 | 1,_=>exact ⟨rfl,rfl,rfl⟩
 | 2,_=>exact ⟨rfl,rfl,rfl⟩
theorem strE:Str Tryz.prog 196 3 [.nilFunc,.nilFunc,.nilFunc]:=Str.mk' Tryz.underlying196 rfl (by kernel_rfl) rfl
def szs (l:List Nat) (i:Nat):List Value:=[.int .i64 (if 0<i then sizeC 1 l else 0),.int .i64 (if 1<i then sizeC 2 l else 0),.int .i64 (if 2<i then sizeC 3 l else 0)]
theorem szs_set (l:List Nat) (i:Nat) (h:i<3):(szs l i).set i (.int .i64 (sizeC (i+1) l))=szs l (i+1):=by
 match i,h with
 | 0,_=>rfl
 | 1,_=>rfl
 | 2,_=>rfl
structure SzIn (w wr:World) (l:List Nat) (g b i:Nat):Prop where
 bel:Below w.heap.size w wr
 own:Blk wr g (szs l i)
 enc:Blk wr b encCells
 res:Blk wr w.heap.size [.int .i64 0,.int .i64 0,.int .i64 0]
set_option maxHeartbeats 8000000 in
theorem chunk_sizes (lv:Value) (l:List Nat) (w:World) (hT:T9 w) (hl:Rd w 1 lv l.length (u64s l)) (ok:∀t∈l,in64u t) (hn:l.length≤1000000) :
  Calls Tryz.prog 180 #[lv] w fun e w'=>e = .returned (.agg #[.int .i64 (sizeC 1 l),.int .i64 (sizeC 2 l),.int .i64 (sizeC 3 l)])∧Below w.heap.size w w':=by
 have HT:=Lib.hid hT;have HL:=Lib.hid hl;have HOk:=Lib.hid ok;have HNn:=Lib.hid hn
 obtain ⟨q,c,hv⟩:=hl.shape
 subst hv
 clear hT hl ok hn
 go_enter Tryz.func180,Tryz.ntmps180
 go_wp2_with (refine wpList_allocS strI3 rfl rfl ?_)
 intro w1 hK hB hs
 have HB1:=Lib.hid hB
 have HR1:=Lib.hid hK
 have HS1:Hid (w.heap.size<w1.heap.size):=by show _<_;omega
 clear hK hB hs
 go_wp2_with (refine wpList_allocS strI3 rfl rfl ?_)
 intro w2 hK hB hs
 have HK2:Hid (Blk w2 w1.heap.size (szs l 0)):=hK
 have HB2:=Lib.hid (HB1.out.trans (hB.mono HB1.out.size))
 have HR2:Hid (Blk w2 w.heap.size [.int .i64 0,.int .i64 0,.int .i64 0]):=HR1.out.of_same (hB.block _ HR1.out.lt)
 have HS2:Hid (w1.heap.size<w2.heap.size):=by show _<_;omega
 clear hK hB hs HB1 HR1
 generalize w1.heap.size=g at *
 go_wp2_with fail
 refine (encodings_any w2).mono ?_
 rintro e w3 ⟨rfl,hB⟩
 have HK3:Hid (Blk w3 g (szs l 0)):=HK2.out.of_same (hB.block _ HK2.out.lt)
 have HR3:Hid (Blk w3 w.heap.size [.int .i64 0,.int .i64 0,.int .i64 0]):=HR2.out.of_same (hB.block _ HR2.out.lt)
 have HB3:=Lib.hid (HB2.out.trans (hB.mono HB2.out.size))
 have HS3:Hid (g<w3.heap.size):=by have:=HS2.out;have:=hB.size;show _<_;omega
 clear hB HK2 HR2
 go_wp2_with (refine wpList_allocS strEnc rfl rfl ?_)
 intro w4 hK hB hs
 have HE4:=Lib.hid hK
 have HK4:Hid (Blk w4 g (szs l 0)):=HK3.out.of_same (hB.block _ HK3.out.lt)
 have HR4:Hid (Blk w4 w.heap.size [.int .i64 0,.int .i64 0,.int .i64 0]):=HR3.out.of_same (hB.block _ HR3.out.lt)
 have HB4:=Lib.hid (HB3.out.trans (hB.mono HB3.out.size))
 clear hK hB hs HB3 HK3 HR3 HB2
 generalize w3.heap.size=b at *
 have HN:Hid (w.heap.size<g∧g<b):=⟨HS1.out,HS3.out⟩
 clear HS1 HS2 HS3
 go_wp2_with (refine wpList_storeS strEnc rfl _ _ rfl b rfl encCells _ rfl HE4.out rfl rfl (by simp [encCells,fnV,Value.oneCell']) ?_)
 intro w5 hK hM hs
 have HI5:Hid (SzIn w w5 l g b 0):=⟨HB4.out.trans (hM.below (HB4.out.size) (fun k hk e=>by have:=HN.out;omega)),hM.blk HK4.out (fun e=>by have:=HN.out;omega),hK,hM.blk HR4.out (fun e=>by have:=HN.out;omega)⟩
 clear hK hM hs HE4 HK4 HB4 HR4
 go_wp2_with fail
 go_loopw [10] (fun iv wr=>∃(i:Nat),i≤3∧iv = .int .i64 (i:Int)∧Hid (SzIn w wr l g b i)) (fun iv _=>3-(intOf iv).toNat)
 case atStart=>exact ⟨0,Nat.zero_le _,rfl,HI5.out⟩
 case round=>
  obtain ⟨i,hi,rfl,HI⟩:=hrel
  by_cases hlt:i<3
  ·have hlt':(i:Int)<3:=by omega
   obtain ⟨e0,e1,e2⟩:=enc_at i hlt
   have c0:wr.cell? ⟨b,3+i*3,none⟩=some (.func (.func (szF i)) #[] #[]):=(HI.out.enc.cell _).trans e0
   have c1:wr.cell? ⟨b,3+i*3+1,none⟩=some (.func (.func (pF i)) #[] #[]):=(HI.out.enc.cell _).trans e1
   have c2:wr.cell? ⟨b,3+i*3+2,none⟩=some (.func (.func (gF i)) #[] #[]):=(HI.out.enc.cell _).trans e2
   have HSz:=Lib.hid (szF_sizes i hlt)
   have hcf:=szF_call i
   have HSt:=Lib.hid (szs_set l i hlt)
   clear e0 e1 e2
   generalize szF i=sf at *
   generalize pF i=pf at *
   generalize gF i=gf at *
   go_wp2_with (refine wpList_allocS strE rfl rfl ?_)
   intro w6 hK hB hs
   have hI6:SzIn w w6 l g b i:=⟨HI.out.bel.trans (hB.mono HI.out.bel.size),HI.out.own.of_same (hB.block _ HI.out.own.lt),HI.out.enc.of_same (hB.block _ HI.out.enc.lt),HI.out.res.of_same (hB.block _ HI.out.res.lt)⟩
   have HK6:=Lib.hid hK
   have HI6:=Lib.hid hI6
   have HN6:Hid (b<wr.heap.size):=HI.out.enc.lt
   clear hK hB hs hI6 c0 c1 c2 HI
   generalize wr.heap.size=h6 at *
   go_wp2_with (refine wpList_storeS strE rfl _ _ rfl h6 rfl [.func (.func sf) #[] #[],.func (.func pf) #[] #[],.func (.func gf) #[] #[]] _ rfl HK6.out rfl rfl (by simp [Value.oneCell']) ?_)
   intro w7 hK hM hs
   have HI7:Hid (SzIn w w7 l g b i):=⟨HI6.out.bel.trans (hM.below HI6.out.bel.size (fun k hk e=>by have:=HN6.out;have:=HN.out;omega)),hM.blk HI6.out.own (fun e=>by have:=HN6.out;have:=HN.out;omega),hM.blk HI6.out.enc (fun e=>by have:=HN6.out;omega),hM.blk HI6.out.res (fun e=>by have:=HN6.out;have:=HN.out;omega)⟩
   have c0:=hK.three.1.1
   clear hK hM hs HK6 HI6
   go_wp2_with fail
   refine (HSz.out _ l w7 (HT.out.below HI7.out.bel) (HL.out.below HI7.out.bel) HOk.out HNn.out).mono ?_
   rintro e w8 ⟨rfl,hB⟩
   have hI8:SzIn w w8 l g b i:=⟨HI7.out.bel.trans (hB.mono HI7.out.bel.size),HI7.out.own.of_same (hB.block _ HI7.out.own.lt),HI7.out.enc.of_same (hB.block _ HI7.out.enc.lt),HI7.out.res.of_same (hB.block _ HI7.out.res.lt)⟩
   have HI8:=Lib.hid hI8
   clear hB hI8 HI7 c0 HSz hcf
   have cg:∃v,w8.cell? ⟨g,i,none⟩=some v:=by
    rw [HI8.out.own.cell]
    exact ⟨_,List.getElem?_eq_getElem (by simpa [szs] using hlt)⟩
   obtain ⟨vg,cg⟩:=cg
   have fg:=HI8.out.own.free i
   have HI9:Hid (SzIn w (w8.setCell ⟨g,i,none⟩ (.int .i64 (sizeC (i+1) l))) l g b (i+1)):=by
    have hn:=HN.out
    refine ⟨HI8.out.bel.trans ((Mods.set (fun k=>k=g) w8 ⟨g,i,none⟩ _ (fun _=>rfl)).below HI8.out.bel.size (fun k hk e=>by omega)),?_,HI8.out.enc.set_other (by show b≠g;omega) _,HI8.out.res.set_other (by show w.heap.size≠g;omega) _⟩
    have:=HI8.out.own.set i (.int .i64 (sizeC (i+1) l))
    rwa [HSt.out] at this
   clear HI8 HSt
   generalize sizeC (i+1) l=S at *
   go_wp2_with fail
   go_round
   case rel=>exact ⟨i+1,by omega,by go_num,HI9.out⟩
   case measure=>simp [intOf];omega
  ·have hlt':¬(i:Int)<3:=by omega
   obtain rfl:i=3:=by omega
   have h3:Blk wr g [.int .i64 (sizeC 1 l),.int .i64 (sizeC 2 l),.int .i64 (sizeC 3 l)]:=HI.out.own
   obtain ⟨⟨c0,c1,c2⟩,_⟩:=h3.three
   clear h3
   go_wp2_with (refine wpList_storeS strI3 rfl _ _ rfl w.heap.size rfl [.int .i64 (sizeC 1 l),.int .i64 (sizeC 2 l),.int .i64 (sizeC 3 l)] _ rfl HI.out.res rfl rfl (by simp [Value.oneCell']) ?_)
   intro w7 hK hM hs
   have HK:=Lib.hid hK
   have HB:Hid (Below w.heap.size w w7):=HI.out.bel.trans (hM.below HI.out.bel.size (fun k hk e=>by omega))
   clear hK hM hs
   go_wp2_with fail
   refine bodyPost_ret (resultsS (p:=2) strI3 (by kernel_rfl) _ w.heap.size rfl _ HK.out rfl) rfl ⟨rfl,HB.out⟩
theorem arrI3:Arr Tryz.prog 239 3 3 (.int .i64 0):=Arr.mk' Tryz.underlying239 rfl (by kernel_rfl) Tryz.underlying3 rfl
def bst (l:List Nat):Nat→Nat
 | 0=>0
 | i+1=>if 0≤sizeC (i+1) l∧sizeC (i+1) l<sizeC (bst l i+1) l then i else bst l i
theorem bst_le (l:List Nat) (i:Nat):bst l i≤i:=by
 induction i with
 | zero=>exact Nat.le_refl _
 | succ i ih=>
  rw [bst]
  split<;>omega
theorem bst_lt (l:List Nat) (i:Nat) (h:i≤3):bst l i<3:=by
 match i,h with
 | 0,_=>exact Nat.zero_lt_succ _
 | i+1,h=>
  rw [bst]
  have:=bst_le l i
  split<;>omega
theorem sizeC_two (l:List Nat):0≤sizeC 2 l:=by
 rw [sizeC,show okC 2 l=true from rfl,if_pos rfl]
 omega
theorem bst_choose (l:List Nat):1+bst l 3=chooseC l:=by
 have h2:=sizeC_two l
 have b1:bst l 1=0:=by rw [bst,bst];split<;>rfl
 have b2:bst l 2=if sizeC 2 l<sizeC 1 l then 1 else 0:=by
  rw [bst,b1]
  by_cases h:sizeC 2 l<sizeC 1 l
  ·rw [if_pos ⟨h2,h⟩,if_pos h]
  ·rw [if_neg (fun e=>h e.2),if_neg h]
 rw [bst,chooseC,b2]
 by_cases h:sizeC 2 l<sizeC 1 l
 ·rw [if_pos h,if_pos h]
  split<;>rfl
 ·rw [if_neg h,if_neg h]
  split<;>rfl
def szv (l:List Nat):List Value:=[.int .i64 (sizeC 1 l),.int .i64 (sizeC 2 l),.int .i64 (sizeC 3 l)]
theorem szv_get (l:List Nat) (i:Nat) (h:i<3):(szv l)[i]? = some (.int .i64 (sizeC (i+1) l)):=by
 match i,h with
 | 0,_=>rfl
 | 1,_=>rfl
 | 2,_=>rfl
structure ChIn (w wr:World) (l:List Nat) (g:Nat):Prop where
 bel:Below w.heap.size w wr
 own:Blk wr g (szv l)
set_option maxHeartbeats 8000000 in
theorem chunk_choose (lv:Value) (l:List Nat) (w:World) (hT:T9 w) (hl:Rd w 1 lv l.length (u64s l)) (ok:∀t∈l,in64u t) (hn:l.length≤1000000) :
  Calls Tryz.prog 135 #[lv] w fun e w'=>e = .returned (.int .i64 (chooseC l:Int))∧Below w.heap.size w w':=by
 have HSz:=Lib.hid (chunk_sizes lv l w hT hl ok hn)
 rw [← bst_choose]
 clear hT hl ok hn
 go_enter Tryz.func135,Tryz.ntmps135
 go_wp2_with fail
 refine HSz.out.mono ?_
 rintro e w1 ⟨rfl,hB⟩
 have HB1:=Lib.hid hB
 clear hB HSz
 go_wp2_with (refine wpList_allocS strI3 rfl rfl ?_)
 intro w2 hK hB hs
 have HK2:=Lib.hid hK
 have HB2:=Lib.hid (HB1.out.trans (hB.mono HB1.out.size))
 have HG:Hid (w.heap.size≤w1.heap.size):=HB1.out.size
 clear hK hB hs HB1
 generalize w1.heap.size=g at *
 go_wp2_with (refine wpList_storeS strI3 rfl _ _ rfl g rfl (szv l) _ rfl HK2.out rfl rfl (by simp [szv,Value.oneCell']) ?_)
 intro w3 hK hM hs
 have HI3:Hid (ChIn w w3 l g):=⟨HB2.out.trans (hM.below HB2.out.size (fun k hk e=>by have:=HG.out;omega)),hK⟩
 obtain ⟨⟨c0,c1,c2⟩,_⟩:=hK.three
 clear hK hM hs HK2 HB2
 go_wp2_with fail
 clear c0 c1 c2
 go_loopw [4,10] (fun bv iv wr=>∃(i:Nat),i≤3∧iv = .int .i64 (i:Int)∧bv = .int .i64 (bst l i:Int)∧Hid (ChIn w wr l g)) (fun _ iv _=>3-(intOf iv).toNat)
 case atStart=>exact ⟨0,Nat.zero_le _,rfl,rfl,HI3.out⟩
 case round=>
  obtain ⟨i,hi,rfl,rfl,HI⟩:=hrel
  by_cases hlt:i<3
  ·have hlt':(i:Int)<3:=by omega
   have HV:=Lib.hid (szv_get l i hlt)
   have hbl:=bst_lt l i hi
   have cb:wr.cell? ⟨g,bst l i,none⟩=some (.int .i64 (sizeC (bst l i+1) l)):=(HI.out.own.cell _).trans (szv_get l _ hbl)
   have HSt:Hid (bst l (i+1)=if 0≤sizeC (i+1) l∧sizeC (i+1) l<sizeC (bst l i+1) l then i else bst l i):=rfl
   generalize bst l i=B at *
   generalize sizeC (i+1) l=s at *
   generalize sizeC (B+1) l=t at *
   by_cases h0:0≤s
   ·by_cases h1:s<t
    ·go_wp2_with (refine wpList_indexA arrI3 rfl _ _ rfl (szv l) rfl i rfl hlt _ HV.out ?_)
     go_round
     case rel=>exact ⟨i+1,by omega,by go_num,by rw [HSt.out,if_pos ⟨h0,h1⟩],HI.out⟩
     case measure=>simp [intOf];omega
    ·have h2:t≤s:=by omega
     go_wp2_with (refine wpList_indexA arrI3 rfl _ _ rfl (szv l) rfl i rfl hlt _ HV.out ?_)
     go_round
     case rel=>exact ⟨i+1,by omega,by go_num,by rw [HSt.out,if_neg (fun e=>h1 e.2)],HI.out⟩
     case measure=>simp [intOf];omega
   ·have HS2:Hid (bst l (i+1)=B):=by show _=_;rw [HSt.out,if_neg (fun e=>h0 e.1)]
    go_wp2_with (refine wpList_indexA arrI3 rfl _ _ rfl (szv l) rfl i rfl hlt _ HV.out ?_)
    go_round
    case rel=>exact ⟨i+1,by omega,by go_num,by rw [HS2.out],HI.out⟩
    case measure=>simp [intOf];omega
  ·have hlt':¬(i:Int)<3:=by omega
   obtain rfl:i=3:=by omega
   have hbl:=bst_lt l 3 (Nat.le_refl _)
   go_wp2_with fail
   go_ret
   refine ⟨by go_num,HI.out.bel⟩
def fillW {α:Type} (z:α) (A:List α) (i:Nat):List α:=A.take i++List.replicate (A.length-i) z
theorem fillW_zero {α:Type} (z:α) (A:List α):fillW z A 0=List.replicate A.length z:=by simp [fillW]
theorem fillW_full {α:Type} (z:α) (A:List α):fillW z A A.length=A:=by simp [fillW]
theorem fillW_length {α:Type} (z:α) (A:List α) (i:Nat) (h:i≤A.length):(fillW z A i).length=A.length:=by simp [fillW];omega
theorem fillW_set {α:Type} (z:α) (A:List α) (i:Nat) (x:α) (h:A[i]? = some x):(fillW z A i).set i x=fillW z A (i+1):=by
 have hi:i<A.length:=(List.getElem?_eq_some_iff.1 h).1
 have e:A.length-i=(A.length-(i+1))+1:=by omega
 rw [fillW,fillW,e,List.replicate_succ,List.take_add_one,h]
 rw [List.set_append_right _ _ (by simp;omega)]
 simp [Nat.min_eq_left (Nat.le_of_lt hi)]
theorem i64s_set (l:List Int) (i:Nat) (x:Int):(i64s l).set i (.int .i64 x)=i64s (l.set i x):=by simp [i64s,List.map_set]
theorem u64s_set' (l:List Nat) (i x:Nat):(u64s l).set i (.int .u64 (x:Int))=u64s (l.set i x):=by simp [u64s,List.map_set]
structure SepIn (w wr:World) (l:List (Int × Nat)) (bt bv i:Nat):Prop where
 bel:Below w.heap.size w wr
 ts:Blk wr bt (i64s (fillW 0 (timesC l) i))
 vs:Blk wr bv (u64s (fillW 0 (valuesC l) i))
theorem SepIn.step {w wr:World} {l:List (Int × Nat)} {bt bv i:Nat} {t:Int} {x:Nat} (h:SepIn w wr l bt bv i) (hd:bt≠bv∧w.heap.size≤bt∧w.heap.size≤bv) (ht:(timesC l)[i]? = some t) (hx:(valuesC l)[i]? = some x) :
  SepIn w ((wr.setCell ⟨bt,i,none⟩ (.int .i64 t)).setCell ⟨bv,i,none⟩ (.int .u64 (x:Int))).drew l bt bv (i+1):=by
 have m1:=Mods.set (fun k=>k=bt) wr ⟨bt,i,none⟩ (.int .i64 t) (fun _=>rfl)
 have m2:=Mods.set (fun k=>k=bv) (wr.setCell ⟨bt,i,none⟩ (.int .i64 t)) ⟨bv,i,none⟩ (.int .u64 (x:Int)) (fun _=>rfl)
 have k1:=h.ts.set i (.int .i64 t)
 have k2:=(h.vs.set_other (a:=⟨bt,i,none⟩) (fun e=>hd.1 e.symm) (.int .i64 t)).set i (.int .u64 (x:Int))
 rw [i64s_set,fillW_set _ _ _ _ ht] at k1
 rw [u64s_set',fillW_set _ _ _ _ hx] at k2
 refine ⟨?_,k1.set_other (fun e=>hd.1 e) _,k2⟩
 have b1:=m1.below h.bel.size (fun k hk e=>by omega)
 have b2:=m2.below (Nat.le_trans h.bel.size m1.size) (fun k hk e=>by omega)
 exact ((h.bel.trans b1).trans b2).trans ⟨rfl,rfl,rfl,Nat.le_refl _,fun _ _=>rfl⟩
theorem strSam:Str Tryz.prog 110 2 [.int .i64 0,.int .u64 0]:=Str.mk' Tryz.underlying110 rfl (by kernel_rfl) rfl
theorem Blk.twoS {w:World} {g:Nat} {a b:Value} (h:Blk w g [a,b]):(w.cell? ⟨g,0,none⟩=some a∧w.cell? ⟨g,1,none⟩=some b):=⟨by rw [h.cell];rfl,by rw [h.cell];rfl⟩
theorem timesC_len (l:List (Int × Nat)):(timesC l).length=l.length:=by simp [timesC]
theorem valuesC_len (l:List (Int × Nat)):(valuesC l).length=l.length:=by simp [valuesC]
theorem i64s_zero (n:Nat):i64s (List.replicate n 0)=List.replicate n (.int .i64 0):=by simp [i64s]
theorem u64s_zero (n:Nat):u64s (List.replicate n 0)=List.replicate n (.int .u64 0):=by simp [u64s]
theorem made_one (z:Value) (n:Nat):(madeCells #[z] n).toList=List.replicate n z:=toList_madeCells_one z n
theorem sep_start1 (w:World) (n:Nat) (l:List (Int × Nat)) (h:l.length=n):SepIn w ((w.alloc (.cells (madeCells #[.int .i64 0] n) 2)).alloc (.cells (madeCells #[.int .u64 0] n) 81)).drew l w.heap.size (w.heap.size+1) 0:=by
 have h1:=(Blk.new w (madeCells #[.int .i64 0] n) 2).alloc (.cells (madeCells #[.int .u64 0] n) 81)
 have h2:=Blk.new (w.alloc (.cells (madeCells #[.int .i64 0] n) 2)) (madeCells #[.int .u64 0] n) 81
 rw [made_one] at h1 h2
 refine ⟨((((Below.refl _ w).alloc (Nat.le_refl _) _).alloc (by simp) _).trans ⟨rfl,rfl,rfl,Nat.le_refl _,fun _ _=>rfl⟩),?_,?_⟩
 ·rw [fillW_zero,timesC_len,h,i64s_zero];exact h1
 ·rw [fillW_zero,valuesC_len,h,u64s_zero]
  have e:(w.alloc (.cells (madeCells #[.int .i64 0] n) 2)).heap.size=w.heap.size+1:=by simp
  rw [e] at h2
  exact h2
theorem sep_start2 (w:World) (n:Nat) (l:List (Int × Nat)) (h:l.length=n):SepIn w ((w.alloc (.cells (madeCells #[.int .u64 0] n) 81)).alloc (.cells (madeCells #[.int .i64 0] n) 2)).drew l (w.heap.size+1) w.heap.size 0:=by
 have h1:=(Blk.new w (madeCells #[.int .u64 0] n) 81).alloc (.cells (madeCells #[.int .i64 0] n) 2)
 have h2:=Blk.new (w.alloc (.cells (madeCells #[.int .u64 0] n) 81)) (madeCells #[.int .i64 0] n) 2
 rw [made_one] at h1 h2
 refine ⟨((((Below.refl _ w).alloc (Nat.le_refl _) _).alloc (by simp) _).trans ⟨rfl,rfl,rfl,Nat.le_refl _,fun _ _=>rfl⟩),?_,?_⟩
 ·rw [fillW_zero,timesC_len,h,i64s_zero]
  have e:(w.alloc (.cells (madeCells #[.int .u64 0] n) 81)).heap.size=w.heap.size+1:=by simp
  rw [e] at h2
  exact h2
 ·rw [fillW_zero,valuesC_len,h,u64s_zero];exact h1
set_option maxHeartbeats 8000000 in
theorem chunk_separate (lv:Value) (l:List (Int × Nat)) (w:World) (hl:Rd w 2 lv l.length (samCells l)) (hn:l.length≤1000000) :
  Calls Tryz.prog 134 #[lv] w fun e w'=>∃tv vv,e = .returned (.tuple #[tv,vv])∧Rd w' 1 tv l.length (i64s (timesC l))∧Rd w' 1 vv l.length (u64s (valuesC l))∧(∀k,tv.ownBlock=some k→w.heap.size≤k)∧(∀k,vv.ownBlock=some k→w.heap.size≤k)∧Below w.heap.size w w':=by
 have HL:=Lib.hid hl;have HN:=Lib.hid hn
 obtain ⟨pl,cl,hv⟩:=hl.shape
 subst hv
 obtain ⟨n,hn'⟩:∃n,l.length=n:=⟨_,rfl⟩
 have HLn:=Lib.hid hn'
 rw [hn'] at HL HN ⊢
 have hn2:n≤1000000:=by rw [← hn'];exact hn
 have hmk1:=run_make_row' (P:=Tryz.prog) 112 2 (.int .i64 0) 8 Tryz.underlying112 Tryz.infoI64 rfl .i64 .i64 n (by omega) (by omega)
 have hmk2:=run_make_row' (P:=Tryz.prog) 113 81 (.int .u64 0) 8 Tryz.underlying113 Tryz.infoU64 rfl .i64 .i64 n (by omega) (by omega)
 clear hl hn hn' hn2
 go_enter Tryz.func134,Tryz.ntmps134
 go_wp2_with fail
 go_upto_region 1 with fail
 go_cut [4,5] from 8 to 13 (fun tv vv wx=>∃bt bv,tv = .slice (some ⟨bt,0,none⟩) n n∧vv = .slice (some ⟨bv,0,none⟩) n n∧Hid (SepIn w wx l bt bv 0∧bt≠bv∧w.heap.size≤bt∧w.heap.size≤bv))
 case first=>
  go_region
  ·go_wp2_with fail
   go_meet
   exact ⟨_,_,rfl,rfl,sep_start1 w n l HLn.out,by omega,by omega,by omega⟩
  ·go_wp2_with fail
   go_meet
   exact ⟨_,_,rfl,rfl,sep_start2 w n l HLn.out,by omega,by omega,by omega⟩
 case rest=>
 obtain ⟨bt,bv,rfl,rfl,HI0⟩:=hcut
 clear hmk1 hmk2
 have HD:Hid (bt≠bv∧w.heap.size≤bt∧w.heap.size≤bv):=HI0.out.2
 go_wp2_with fail
 go_loopw [16] (fun iv wr=>∃(i:Nat),i≤n∧iv = .int .i64 (i:Int)∧Hid (SepIn w wr l bt bv i)) (fun iv _=>n-(intOf iv).toNat)
 case atStart=>exact ⟨0,Nat.zero_le _,rfl,HI0.out.1⟩
 case round=>
  obtain ⟨i,hi,rfl,HI⟩:=hrel
  clear HI0
  have hib:(i:Int)≤1000000:=by have:=HN.out;omega
  by_cases hlt:i<n
  ·have hlt':(i:Int)<(n:Int):=by omega
   obtain ⟨t,x,htx⟩:∃t x,l[i]? = some (t,x):=⟨_,_,List.getElem?_eq_getElem (by rw [HLn.out];exact hlt)⟩
   obtain ⟨g1,g2⟩:=samCells_get l i t x htx
   obtain ⟨b,off,c',e,hnc,hncm,hcell⟩:=(HL.out.below HI.out.bel).at (fun e=>by rw [e] at g1;cases g1)
   simp only [Value.slice.injEq] at e
   obtain ⟨rfl,_,rfl⟩:=e
   have h1:=hcell _ _ g1
   have h2:=hcell _ _ g2
   rw [← Nat.add_assoc] at h2
   have HT:Hid ((timesC l)[i]? = some t):=by show _=_;simp [timesC,htx]
   have HV:Hid ((valuesC l)[i]? = some x):=by show _=_;simp [valuesC,htx]
   clear hcell hnc hncm g1 g2 htx
   go_wp2_with (refine wpList_allocS strSam rfl rfl ?_)
   intro w6 hK hB hs
   have HK6:=Lib.hid hK
   have HI6:Hid (SepIn w w6 l bt bv i):=⟨HI.out.bel.trans (hB.mono HI.out.bel.size),HI.out.ts.of_same (hB.block _ HI.out.ts.lt),HI.out.vs.of_same (hB.block _ HI.out.vs.lt)⟩
   have HH:Hid (bt<wr.heap.size∧bv<wr.heap.size∧w.heap.size≤wr.heap.size):=⟨HI.out.ts.lt,HI.out.vs.lt,HI.out.bel.size⟩
   clear hK hB hs HI h1 h2
   generalize wr.heap.size=h6 at *
   go_wp2_with (refine wpList_storeS strSam rfl _ _ rfl h6 rfl [.int .i64 t,.int .u64 (x:Int)] _ rfl HK6.out rfl rfl (by simp [Value.oneCell']) ?_)
   intro w7 hK hM hs
   have HI7:Hid (SepIn w w7 l bt bv i):=⟨HI6.out.bel.trans (hM.below HI6.out.bel.size (fun k hk e=>by have:=HH.out;omega)),hM.blk HI6.out.ts (fun e=>by have:=HH.out;omega),hM.blk HI6.out.vs (fun e=>by have:=HH.out;omega)⟩
   obtain ⟨c0,c1⟩:=hK.twoS
   clear hK hM hs HK6 HI6
   have hn1:bt≠bv:=HD.out.1
   have hn2:h6≠bt:=by have:=HH.out;omega
   have hn3:h6≠bv:=by have:=HH.out;omega
   obtain ⟨vt,ct⟩:∃v,w7.cell? ⟨bt,i,none⟩=some v:=by
    rw [HI7.out.ts.cell]
    exact ⟨_,List.getElem?_eq_getElem (by rw [i64s_length,fillW_length _ _ _ (by rw [timesC_len,HLn.out];exact hi),timesC_len,HLn.out];exact hlt)⟩
   obtain ⟨vv,cv⟩:∃v,w7.cell? ⟨bv,i,none⟩=some v:=by
    rw [HI7.out.vs.cell]
    exact ⟨_,List.getElem?_eq_getElem (by rw [u64s_length,fillW_length _ _ _ (by rw [valuesC_len,HLn.out];exact hi),valuesC_len,HLn.out];exact hlt)⟩
   have ft:=HI7.out.ts.free i
   have fv:=HI7.out.vs.free i
   go_wp2_with fail
   go_region
   go_wp2_with fail
   go_round
   case rel=>
    exact ⟨i+1,by omega,by go_num,HI7.out.step HD.out HT.out HV.out⟩
   case measure=>simp [intOf];omega
  ·have hlt':¬(i:Int)<(n:Int):=by omega
   obtain rfl:i=n:=by omega
   go_wp2_with fail
   go_ret2
   have ht:=HI.out.ts
   have hv:=HI.out.vs
   rw [show i=(timesC l).length by rw [timesC_len,HLn.out],fillW_full] at ht
   rw [show i=(valuesC l).length by rw [valuesC_len,HLn.out],fillW_full] at hv
   exact ⟨_,_,rfl,Rd.of_blk ht (by rw [i64s_length,timesC_len,HLn.out];omega) (by have:=HN.out;unfold maxLen;omega),Rd.of_blk hv (by rw [u64s_length,valuesC_len,HLn.out];omega) (by have:=HN.out;unfold maxLen;omega),(fun k e=>by cases e;exact HD.out.2.1),(fun k e=>by cases e;exact HD.out.2.2),HI.out.bel⟩
end Go.Proofs.YtdcgbgecbeegmaaGreatDoor
end
