/- Texts 10. -/
import Derived.Test.YtdcgbgecbeegmaaGreatDoorMgD1
import Derived.Test.YtdcgbgecbeegmaaGreatDoorMgD9
import Derived.Test.YtdcgbgecbeegmaaGreatDoorMgD5
import Derived.Test.YtdcgbgecbeegmaaGreatDoorMgD8
import Derived.Test.YtdcgbgecbeegmaaGreatDoorMgD6
import Derived.Test.YtdcgbgecbeegmaaGreatDoorMgD2
import Derived.Shelf.Small.Bits
import Derived.Shelf.Spec.TrailingZeros
import Derived.BigQuiet
set_option linter.unusedVariables false
set_option linter.unusedSimpArgs false
section
namespace Go.Proofs.YtdcgbgecbeegmaaGreatDoor
open Go Go.RowKit
theorem signed_0 (u:Nat) (hu:u<18446744073709551616) (w:World) :
  Calls Tryz.prog 268 #[.int .u64 (u:Int),.int .i64 0] w fun e w'=>e = .returned (.int .i64 (signT (u % 2 ^ 0) 0))∧w=w':=by
 have HE:Hid (wrap64 (IntKind.u64.wrap ((u:Int)*18446744073709551616)) / 18446744073709551616=signT (u % 2 ^ 0) 0):=by
  show _=_
  simp only [signT,IntKind.wrap_u64,w64_eq]
  omega
 go_enter Tryz.func268,Tryz.ntmps268
 go_wp2_with fail
 go_ret
 exact ⟨by rw [← HE.out];rfl,rfl⟩
theorem signed_7 (u:Nat) (hu:u<18446744073709551616) (w:World) :
  Calls Tryz.prog 268 #[.int .u64 (u:Int),.int .i64 7] w fun e w'=>e = .returned (.int .i64 (signT (u % 2 ^ 7) 7))∧w=w':=by
 have HE:Hid (wrap64 (IntKind.u64.wrap ((u:Int)*144115188075855872)) / 144115188075855872=signT (u % 2 ^ 7) 7):=by
  show _=_
  simp only [signT,IntKind.wrap_u64,w64_eq]
  omega
 go_enter Tryz.func268,Tryz.ntmps268
 go_wp2_with fail
 go_ret
 exact ⟨by rw [← HE.out];rfl,rfl⟩
theorem signed_12 (u:Nat) (hu:u<18446744073709551616) (w:World) :
  Calls Tryz.prog 268 #[.int .u64 (u:Int),.int .i64 12] w fun e w'=>e = .returned (.int .i64 (signT (u % 2 ^ 12) 12))∧w=w':=by
 have HE:Hid (wrap64 (IntKind.u64.wrap ((u:Int)*4503599627370496)) / 4503599627370496=signT (u % 2 ^ 12) 12):=by
  show _=_
  simp only [signT,IntKind.wrap_u64,w64_eq]
  omega
 go_enter Tryz.func268,Tryz.ntmps268
 go_wp2_with fail
 go_ret
 exact ⟨by rw [← HE.out];rfl,rfl⟩
theorem signed_32 (u:Nat) (hu:u<18446744073709551616) (w:World) :
  Calls Tryz.prog 268 #[.int .u64 (u:Int),.int .i64 32] w fun e w'=>e = .returned (.int .i64 (signT (u % 2 ^ 32) 32))∧w=w':=by
 have HE:Hid (wrap64 (IntKind.u64.wrap ((u:Int)*4294967296)) / 4294967296=signT (u % 2 ^ 32) 32):=by
  show _=_
  simp only [signT,IntKind.wrap_u64,w64_eq]
  omega
 go_enter Tryz.func268,Tryz.ntmps268
 go_wp2_with fail
 go_ret
 exact ⟨by rw [← HE.out];rfl,rfl⟩
theorem signed_64 (u:Nat) (hu:u<18446744073709551616) (w:World) :
  Calls Tryz.prog 268 #[.int .u64 (u:Int),.int .i64 64] w fun e w'=>e = .returned (.int .i64 (signT (u % 2 ^ 64) 64))∧w=w':=by
 have HE:Hid (wrap64 (u:Int)=signT (u % 2 ^ 64) 64):=by
  show _=_
  simp only [signT,w64_eq]
  omega
 go_enter Tryz.func268,Tryz.ntmps268
 go_wp2_with fail
 go_ret
 exact ⟨by rw [← HE.out];rfl,rfl⟩
theorem signed_any (u k:Nat) (hk:k≤4) (hu:u<18446744073709551616) (w:World) :
  Calls Tryz.prog 268 #[.int .u64 (u:Int),.int .i64 (widthT k:Int)] w fun e w'=>e = .returned (.int .i64 (signT (u % 2 ^ widthT k) (widthT k)))∧w=w':=by
 match k,hk with
 | 0,_=>exact signed_0 u hu w
 | 1,_=>exact signed_7 u hu w
 | 2,_=>exact signed_12 u hu w
 | 3,_=>exact signed_32 u hu w
 | 4,_=>exact signed_64 u hu w
def markT:Nat→Nat
 | 0=>0
 | 1=>2
 | 2=>6
 | 3=>14
 | _=>15
def markLenT:Nat→Nat
 | 0=>1
 | 1=>2
 | 2=>3
 | _=>4
def formCells (k:Nat):List Value:=[.int .u64 (markT k:Int),.int .i64 (markLenT k:Int),.int .i64 (widthT k:Int)]
def formV (k:Nat):Value:=.agg (formCells k).toArray
theorem mark_bits {k:Nat} (hk:k≤4):fieldBits (markT k) (markLenT k)=headT k:=by
 match k,hk with
 | 0,_=>rfl
 | 1,_=>rfl
 | 2,_=>rfl
 | 3,_=>rfl
 | 4,_=>rfl
theorem markLen_le (k:Nat):markLenT k≤4:=by unfold markLenT;split<;>omega
theorem fits_iff {x:Int} {k:Nat} (hk:k≤3):(signT (ofI x % 2 ^ widthT k) (widthT k)=x)↔formT x≤k:=by
 match k,hk with
 | 0,_=>
  simp only [widthT,signT,ofI,formT]
  repeat' split
  all_goals omega
 | 1,_=>
  simp only [widthT,signT,ofI,formT]
  repeat' split
  all_goals omega
 | 2,_=>
  simp only [widthT,signT,ofI,formT]
  repeat' split
  all_goals omega
 | 3,_=>
  simp only [widthT,signT,ofI,formT]
  repeat' split
  all_goals omega
theorem possible_any (x:Int) (k:Nat) (hk:k≤3) (w:World) :
  Calls Tryz.prog 226 #[formV k,.int .i64 x] w fun e w'=>e = .returned (.bool (decide (formT x≤k)))∧Below w.heap.size w w':=by
 have HX:Hid (signT (ofI x % 2 ^ widthT k) (widthT k)=x↔formT x≤k):=fits_iff hk
 have HS:=fun w=>Lib.hid (signed_any (ofI x) k (by omega) (ofI_lt x) w)
 have hwr:=wrap_ofI x
 have HC:Hid (formV k = .agg (formCells k).toArray):=rfl
 go_enter Tryz.func226,Tryz.ntmps226
 go_wp2_with (refine wpList_boxA rfl 250 (.tmp 0) rfl (formCells k) rfl ?_)
 intro w1 hb hB hs
 have HB:=Lib.hid hB
 have c2:w1.cell? ⟨w.heap.size,2,none⟩=some (.int .i64 (widthT k:Int)):=by rw [hb.cell];rfl
 clear hb hB hs
 go_wp2_with fail
 refine (HS w1).out.mono ?_
 rintro e w2 ⟨rfl,rfl⟩
 generalize signT (ofI x % 2 ^ widthT k) (widthT k)=y at *
 go_wp2_with fail
 go_ret
 refine ⟨ret_bool ?_,HB.out⟩
 by_cases h:y=x
 ·have:=HX.out.1 h
  simp [h,this]
 ·have:¬formT x≤k:=fun e=>h (HX.out.2 e)
  simp [h,this]
def TabF (w:World):Prop:=∀k,k≤4→w.cell? ⟨1,k*3,none⟩=some (.int .u64 (markT k:Int))∧w.cell? ⟨1,k*3+1,none⟩=some (.int .i64 (markLenT k:Int))∧w.cell? ⟨1,k*3+2,none⟩=some (.int .i64 (widthT k:Int))
theorem TabF.block {w w':World} (h:TabF w) (hb:w'.heap[1]? = w.heap[1]?):TabF w':=fun k hk=>by
 have:=h k hk
 unfold World.cell? at this ⊢
 rw [hb]
 exact this
theorem TabF.lt {w:World} (h:TabF w) : 1 < w.heap.size:=World.block_lt_of_cell? w _ (h 0 (by decide)).1
theorem TabF.below {w w':World} {B:Nat} (h:TabF w) (hb:Below B w w') (hB:w.heap.size≤B):TabF w':=h.block (hb.block _ (Nat.lt_of_lt_of_le h.lt hB))
theorem strForm:Str Tryz.prog 250 3 [.int .u64 0,.int .i64 0,.int .i64 0]:=Str.mk' Tryz.underlying250 rfl (by kernel_rfl) rfl
set_option maxHeartbeats 1000000 in
theorem formOf_any (x:Int) (w:World) (hT:TabF w) :
  Calls Tryz.prog 183 #[.int .i64 x] w fun e w'=>e = .returned (formV (formT x))∧Below w.heap.size w w':=by
 have hf4:=formT_le x
 go_enter Tryz.func183,Tryz.ntmps183
 go_wp2_with fail
 obtain ⟨w1,hw1⟩:∃w1,w.alloc (.cells #[.int .u64 0,.int .i64 0,.int .i64 0] 250)=w1:=⟨_,rfl⟩
 have HK1:Hid (Blk w1 w.heap.size [.int .u64 0,.int .i64 0,.int .i64 0]):=by rw [← hw1];exact Blk.new w _ _
 have HB1:Hid (Below w.heap.size w w1):=by rw [← hw1];exact (Below.refl _ w).alloc (Nat.le_refl _) _
 have HS1:Hid (w1.heap.size=w.heap.size+1):=by rw [← hw1];show _=_;simp
 have HT1:=Lib.hid (hT.below HB1.out (Nat.le_refl _))
 rw [hw1]
 clear hw1 hT
 go_loopw [3,4] (fun i c wr=>∃k:Nat,k≤4∧k≤formT x∧c = .int .i64 (k:Int)∧Hid (Below w1.heap.size w1 wr)) (fun _ c _=>4-(intOf c).toNat)
 case atStart=>exact ⟨0,by omega,by omega,rfl,Below.refl _ _⟩
 case round=>
  obtain ⟨k,hk4,hkf,rfl,HBr⟩:=hrel
  by_cases hlt:k<4
  ·have hlt':(k:Int)<4:=by omega
   have hlt5:(k:Int)<5:=by omega
   have HTr:=Lib.hid (HT1.out.below HBr.out (Nat.le_refl _))
   obtain ⟨t0,t1,t2⟩:=HTr.out k (by omega)
   have HP:=Lib.hid (possible_any x k (by omega) wr)
   go_wp2_with fail
   refine HP.out.mono ?_
   rintro e w2 ⟨rfl,hB2⟩
   have HB2:=Lib.hid (HBr.out.trans (hB2.mono HBr.out.size))
   have HT2:=Lib.hid (HTr.out.below hB2 (Nat.le_refl _))
   clear hB2 t0 t1 t2
   by_cases hp:formT x≤k
   ·obtain ⟨t0,t1,t2⟩:=HT2.out k (by omega)
    have hd:decide (formT x≤k)=true:=by simpa using hp
    have HK2:Hid (Blk w2 w.heap.size [.int .u64 0,.int .i64 0,.int .i64 0]):=HK1.out.of_same (HB2.out.block _ (by have:=HS1.out;omega))
    obtain ⟨⟨c0,c1,c2⟩,f0,f1,f2⟩:=HK2.out.three
    rw [hd]
    go_wp2_with fail
    have he:formT x=k:=by omega
    rw [he]
    refine bodyPost_ret (resultsS (p:=2) strForm (by kernel_rfl) _ w.heap.size rfl (formCells k) (HK2.out.set3 _ _ _) rfl) rfl ⟨rfl,?_⟩
    have h1:=HB1.out;have h2:=HB2.out
    exact (h1.trans (h2.mono h1.size)).trans ((mods_set3 _ _ _ _ _).below (Nat.le_trans h1.size h2.size) (fun j hj e=>by omega))
   ·have hd:decide (formT x≤k)=false:=by simpa using hp
    rw [hd]
    go_wp2_with fail
    go_round
    case rel=>exact ⟨k+1,by omega,by omega,by go_num,HB2.out⟩
    case measure=>simp [intOf];omega
  ·have hlt':¬(k:Int)<4:=by omega
   have he:formT x=4:=by omega
   have HTr:=Lib.hid (HT1.out.below HBr.out (Nat.le_refl _))
   have t0:wr.cell? ⟨1,12,none⟩=some (.int .u64 15):=(HTr.out 4 (by omega)).1
   have t1:wr.cell? ⟨1,13,none⟩=some (.int .i64 4):=(HTr.out 4 (by omega)).2.1
   have t2:wr.cell? ⟨1,14,none⟩=some (.int .i64 64):=(HTr.out 4 (by omega)).2.2
   have HK2:Hid (Blk wr w.heap.size [.int .u64 0,.int .i64 0,.int .i64 0]):=HK1.out.of_same (HBr.out.block _ (by have:=HS1.out;omega))
   obtain ⟨⟨c0,c1,c2⟩,f0,f1,f2⟩:=HK2.out.three
   have HE:=Lib.hid he
   clear he
   go_wp2_with fail
   rw [HE.out]
   refine bodyPost_ret (resultsS (p:=2) strForm (by kernel_rfl) _ w.heap.size rfl (formCells 4) (HK2.out.set3 _ _ _) rfl) rfl ⟨rfl,?_⟩
   have h1:=HB1.out;have h2:=HBr.out
   exact (h1.trans (h2.mono h1.size)).trans ((mods_set3 _ _ _ _ _).below (Nat.le_trans h1.size h2.size) (fun j hj e=>by omega))
theorem formOf_cells (x:Int) (w:World) (hT:TabF w) :
  Calls Tryz.prog 183 #[.int .i64 x] w fun e w'=>e = .returned (.agg #[.int .u64 (markT (formT x):Int),.int .i64 (markLenT (formT x):Int),.int .i64 (widthT (formT x):Int)])∧Below w.heap.size w w':=
 formOf_any x w hT
end Go.Proofs.YtdcgbgecbeegmaaGreatDoor
end
section
namespace Go.Proofs.YtdcgbgecbeegmaaGreatDoor
open Go Go.RowKit Go.Shelf
attribute [local go_sem] Oper.semAt_some
def changesT (last d:Int):List Int→List Int
 | []=>[]
 | t::l=>wrap64 (wrap64 (t-last)-d)::changesT t (wrap64 (t-last)) l
theorem encFrom_changes (last d:Int) (l:List Int):encFrom last d l=(changesT last d l).flatMap encX:=by
 induction l generalizing last d with
 | nil=>rfl
 | cons t l ih=>rw [encFrom,changesT,List.flatMap_cons,ih]
theorem changesT_length (last d:Int) (l:List Int):(changesT last d l).length=l.length:=by
 induction l generalizing last d with
 | nil=>rfl
 | cons t l ih=>rw [changesT,List.length_cons,List.length_cons,ih]
theorem new_changes (p:Option Addr) (m c:Nat) (w:World) (n:Nat) :
  CallsIn Fence.wide n Tryz.prog 182 #[.slice p m c] w fun e w'=>e = .returned (.func (.func 225) #[] #[.pointer (some ⟨w.heap.size,0,none⟩)])∧w'=w.alloc (.cells #[.slice p m c] 112):=by
 refine callsIn_wide.2 ?_
 go_enter Tryz.func182,Tryz.ntmps182
 go_wp2_with fail
 go_ret
 exact ⟨rfl,rfl⟩
set_option maxRecDepth 100000 in
set_option maxHeartbeats 1000000 in
theorem changes_gives (n:Nat) (hn:1≤n) (b:Nat) (lv:Value) (ls:List Int) (t0:Int) (tl:List Int) (els:ls=t0::tl) (w:World) (hc:w.cell? ⟨b,0,none⟩=some lv) (hl:Rd w 1 lv ls.length (i64s ls)) :
  SeqStopsK Fence.wide n Tryz.prog 225 #[.pointer (some ⟨b,0,none⟩)] (fun x:Int=>#[.int .i64 x]) (KeepAt (fun k=>k=b∨lv.ownBlock=some k)) (fun ys=>ys=changesT t0 0 tl) (fun _=>True) (changesT t0 0 tl).length w:=by
 intro l J Jx W hW hJ hJx hY h0
 have hb:b<w.heap.size:=World.block_lt_of_cell? w _ hc
 have HK0:Hid (KeepAt (fun k=>k=b∨lv.ownBlock=some k) w W):=fun k hk=>hW.block k (by
  rcases hk with e | e
  ·omega
  ·exact hl.lt (by rw [els];simp [i64s]) k e)
 have HC:=Lib.hid hc;have HL:=Lib.hid hl
 have HJ:=Lib.hid hJ;have HEL:=Lib.hid els
 have HY:=Lib.hid hY;have HN:Hid (ls.length=tl.length+1):=by show _=_;rw [els];rfl
 have hmax:(ls.length:Int)≤9223372036854775807:=by have:=hl.le;unfold maxLen at this;omega
 clear hc hJ els hY
 obtain ⟨p,c,hv⟩:=hl.shape
 subst hv
 clear hl
 obtain ⟨K,hK⟩:∃K:Nat→Prop,(fun k=>k=b∨(Value.slice p ls.length c).ownBlock=some k)=K:=⟨_,rfl⟩
 have HKb:Hid (K b):=by rw [← hK];exact Or.inl rfl
 have HKv:Hid (∀k,(Value.slice p ls.length c).ownBlock=some k→K k):=by rw [← hK];exact fun k hk=>Or.inr hk
 rw [hK] at HK0 HY
 clear hK
 refine callsIn_of_wp Tryz.func225 rfl trivial ?_ rfl
 simp only [Tryz.ntmps225,List.size_toArray,List.length_cons,List.length_nil,Nat.reduceAdd,Nat.reduceSub,Array.replicate_succ,Array.replicate_zero,List.push_toArray,List.append_toArray,List.nil_append,List.cons_append]
 gi_wp2
 gi_loopw [3,4] (fun dv iv wr=>∃(i k:Nat) (pre:List Int) (last d:Int),i=k+1∧i≤ls.length∧iv = .int .i64 (i:Int)∧dv = .int .i64 d∧Hid (ls[k]? = some last∧changesT t0 0 tl=pre++changesT last d (ls.drop i))∧Hid (J pre wr∧KeepAt K w wr)) (fun _ iv _=>ls.length-(intOf iv).toNat)
 case atStart=>exact ⟨1,0,[],t0,0,rfl,by rw [HN.out];omega,rfl,rfl,by rw [HEL.out];exact ⟨rfl,rfl⟩,h0,HK0.out⟩
 case round=>
  obtain ⟨i,k,pre,last,d,hik,h2,rfl,rfl,HP,HI⟩:=hrel
  have cb:=(HI.out.2.cell HKb.out 0).trans HC.out
  by_cases h:i<ls.length
  ·have hlt:(i:Int)<(ls.length:Int):=by omega
   have hi1:(i:Int)-1=(k:Int):=by omega
   have hkl:(k:Int)<(ls.length:Int):=by omega
   have HR:=Lib.hid (HI.out.2.rd HL.out HKv.out)
   obtain ⟨b0,off,c',e,_,_,hcl⟩:=HR.out.at (fun e=>by have:=congrArg List.length e;rw [i64s_length] at this;simp at this;subst this;simp at h)
   simp only [Value.slice.injEq] at e
   obtain ⟨rfl,_,rfl⟩:=e
   have c1:=hcl i (.int .i64 ls[i]) (by simp [i64s,h])
   have c2:=hcl k (.int .i64 last) (by rw [i64s,List.getElem?_map,HP.out.1];rfl)
   have HD:Hid (ls.drop i=ls[i]::ls.drop (i+1)):=List.drop_eq_getElem_cons h
   have HLi:Hid (ls[i]? = some ls[i]):=List.getElem?_eq_getElem h
   generalize ls[i]=t at *
   clear hcl HR hik
   gi_wp2
   refine wpIn_wide.2 ?_
   go_quiet (fail)
   have HI2:Hid (J pre (wr.drewN nq)∧KeepAt K w (wr.drewN nq)):=⟨HJ.out pre wr _ none HI.out.1 (grown_drewN wr nq) (fun r e=>by cases e),HI.out.2⟩
   clear HI cb c1 c2 hi1 hkl
   have hex:Hid (changesT t0 0 tl=pre++wrap64 (wrap64 (t-last)-d)::changesT t (wrap64 (t-last)) (ls.drop (i+1))):=by
    have:=HP.out.2
    rw [HD.out,changesT] at this
    exact this
   obtain ⟨fn,tmps,assign,body,hyl,hR⟩:=HY.out pre (wrap64 (wrap64 (t-last)-d)) (wr.drewN nq) HI2.out.1 (by rw [hex.out,List.length_append,List.length_cons];omega)
   have hex2:Hid (changesT t0 0 tl=(pre++[wrap64 (wrap64 (t-last)-d)])++changesT t (wrap64 (t-last)) (ls.drop (i+1))):=by show _=_;rw [hex.out,List.append_assoc];rfl
   have hRH:=Lib.hid hR
   clear HP HD hR hex
   generalize wr.drewN nq=wy at *
   gi_wp2
   refine hRH.out.mono ?_
   rintro e W3 (⟨rfl,hJ3,hk3⟩ | ⟨rfl,hJx3⟩)
   ·have HI3:=Lib.hid (And.intro hJ3 (keepAt_t HI2.out.2 hk3))
    clear hJ3 hk3
    gi_wp2
    go_roundw
    case rel=>exact ⟨i+1,i,_,t,wrap64 (t-last),rfl,by omega,by go_num,rfl,⟨HLi.out,hex2.out⟩,HI3.out⟩
    case measure=>simp [intOf];omega
   ·gi_wp2
    refine bodyPost_ret (results_none rfl _ _ _) rfl ?_
    exact ⟨⟨_,rfl⟩,.inr ⟨_,trivial,hJx3⟩⟩
  ·have hlt:¬(i:Int)<(ls.length:Int):=by omega
   have HE:Hid (changesT t0 0 tl=pre):=by
    show _=_
    rw [HP.out.2,List.drop_of_length_le (by omega),changesT,List.append_nil]
   clear HP hik
   gi_wp2
   go_end0
   refine ⟨⟨_,rfl⟩,.inl ?_⟩
   have:=HI.out.1
   rw [← HE.out] at this
   exact this
end Go.Proofs.YtdcgbgecbeegmaaGreatDoor
end
section
namespace Go.Proofs.YtdcgbgecbeegmaaGreatDoor
open Go Go.RowKit
theorem encT_changes (t0:Int) (tl:List Int):encT (t0::tl)=fieldBits (ofI t0) 64++(changesT t0 0 tl).flatMap encX:=by rw [encT,encFrom_changes]
theorem encX_all (ys:List Int):(ys.flatMap encX).length≤68*ys.length:=by
 induction ys with
 | nil=>exact Nat.le_refl _
 | cons y ys ih=>rw [List.flatMap_cons,List.length_append,List.length_cons];have:=encX_len y;omega
theorem i64s_lt {w:World} {lv:Value} {l:List Int} (hl:Rd w 1 lv l.length (i64s l)):l≠[]→∀k,lv.ownBlock=some k→k<w.heap.size:=fun hne=>hl.lt (fun e=>hne (by simpa [i64s] using e))
end Go.Proofs.YtdcgbgecbeegmaaGreatDoor
end
section
namespace Go.Proofs.YtdcgbgecbeegmaaGreatDoor
open Go Go.RowKit Go.Shelf
def PutIn (p:Nat) (v:Value) (W0:World) (out:List Bool) (W:World):Prop:=∃v',WriterIn W p v' out∧Upd W0 W p v v'
theorem putIn_own {β:Type} {B:Nat} {W0:World} (hB:W0.heap.size≤B) (p:Nat) (v:Value) (f:β→List Bool):OwnFrom B (fun s W=>PutIn p v W0 (f s) W):=by
 rintro s W W' row ⟨v',h1,h2⟩ hg hr
 have hr':∀r,row=some r→∃o:Obj,W.heap[r]? = some o∧o.isCells=false:=fun r e=>(hr r e).2
 exact ⟨v',⟨own_blk p (fun _:Unit=>[.int .i64 (f s).length,v']) () W W' row h1.blk hg hr',owns_abides h1.own hg hr',h1.ne⟩,⟨ownFrom_mods hB () W W' row h2.mods hg hr,h2.fresh⟩⟩
theorem putIn_keeps {p:Nat} {v':Value} {W W':World} {out:List Bool} (h:WriterIn W p v' out) (hm:Mods (fun k=>k=p∨v'.ownBlock=some k) W W'):KeepsOthers W W':=by
 refine KeepsOthers.of_mods hm (fun k o hk ho=>?_)
 rcases hk with rfl | hk
 ·obtain ⟨t,ht⟩:=h.blk
  rw [ht] at ho
  cases ho;rfl
 ·exact owns_isCells h.own k o hk ho
end Go.Proofs.YtdcgbgecbeegmaaGreatDoor
end
section
namespace Go.Proofs.YtdcgbgecbeegmaaGreatDoor
open Go Go.RowKit Go.Shelf
attribute [local go_sem] Oper.semAt_some
theorem encX_mark (x:Int):encX x=fieldBits (markT (formT x)) (markLenT (formT x))++fieldBits (ofI x) (widthT (formT x)):=by
 rw [mark_bits (formT_le x)];rfl
theorem times_put_nil (p:Nat) (v lv:Value) (bits:List Bool) (w:World) (hW:WriterIn w p v bits) (h:Rd w 1 lv 0 []) :
  Calls Tryz.prog 138 #[.pointer (some ⟨p,0,none⟩),lv] w fun e w'=>e = .returned (.int .i64 0)∧BitsPost p v bits w w':=by
 have HW:=Lib.hid hW
 clear hW
 obtain ⟨q,c,hv⟩:=h.shape
 subst hv
 go_enter Tryz.func138,Tryz.ntmps138
 go_wp2_with fail
 go_ret
 refine ⟨rfl,v,HW.out.below ((Below.refl _ _).alloc (Nat.le_refl _) _),?_⟩
 exact ⟨Mods.alloc _ _ _,Fresh.refl _ _⟩
set_option maxRecDepth 100000 in
set_option maxHeartbeats 2000000 in
theorem times_put_cons (p:Nat) (v lv:Value) (bits:List Bool) (ls:List Int) (t0:Int) (tl:List Int) (els:ls=t0::tl) (w:World) (hT:TabF w) (hW:WriterIn w p v bits) (hgp : 1 + 1≤p) (hgv:∀k,v.ownBlock=some k→1 + 1≤k)
  (hl:Rd w 1 lv ls.length (i64s ls)) (hap:∀k,lv.ownBlock=some k→k≠p∧v.ownBlock≠some k) (hz:bits.length+68*ls.length≤70368744177000) :
  Calls Tryz.prog 138 #[.pointer (some ⟨p,0,none⟩),lv] w fun e w'=>e = .returned (.int .i64 0)∧BitsPost p v (bits++encT ls) w w':=by
 have HLT:=Lib.hid (i64s_lt hl)
 obtain ⟨b0,off,c,e,_,_,hcl⟩:=hl.at (by rw [els];simp [i64s])
 subst e
 have HL:=Lib.hid hl;have HT:=Lib.hid hT;have HEL:=Lib.hid els;have HW:=Lib.hid hW
 have hne:(ls.length:Int)≠0:=by rw [els];simp only [List.length_cons];omega
 have hpos:(0:Int)<(ls.length:Int):=by omega
 have hnb:((ls.length:Int) == 0)=false:=by rw [beq_eq_false_iff_ne];exact hne
 have HZ:Hid (bits.length+68*(changesT t0 0 tl).length+68≤70368744177000):=by show _≤_;rw [changesT_length];rw [els,List.length_cons] at hz;omega
 have hc0:w.cell? ⟨b0,off,none⟩=some (.int .i64 t0):=by have:=hcl 0 (.int .i64 t0) (by rw [els];rfl);simpa using this
 have HAp:Hid (b0≠p∧v.ownBlock≠some b0∧b0<w.heap.size):=⟨(hap b0 rfl).1,(hap b0 rfl).2,World.block_lt_of_cell? w _ hc0⟩
 have HG:Hid (1 + 1≤p∧∀k,v.ownBlock=some k→1 + 1≤k):=⟨hgp,hgv⟩
 have hwr:=wrap_ofI t0
 clear hl hT els hz hcl hW hap hgp hgv
 refine (callsIn_wide (n:=9)).1 ?_
 refine callsIn_of_wp_marks Tryz.func138 rfl trivial ?_ rfl
 simp only [Tryz.ntmps138,List.size_toArray,List.length_cons,List.length_nil,Nat.reduceAdd,Nat.reduceSub,Array.replicate_succ,Array.replicate_zero,List.push_toArray,List.append_toArray,List.nil_append,List.cons_append]
 gi_wp2_with fail
 obtain ⟨w1,hw1⟩:∃w1,w.alloc (.cells #[.pointer (some ⟨p,0,none⟩)] 189)=w1:=⟨_,rfl⟩
 have hs1:w1.heap.size=w.heap.size+1:=by rw [← hw1];simp
 have hB1:Below w.heap.size w w1:=by rw [← hw1];exact (Below.refl _ w).alloc (Nat.le_refl _) _
 have hx1:Blk w1 w.heap.size [.pointer (some ⟨p,0,none⟩)]:=by rw [← hw1];exact Blk.new w _ _
 rw [hw1]
 clear hw1
 have hW1:=HW.out.below hB1
 have HPl:Hid (p<w.heap.size∧∀k,v.ownBlock=some k→k<w.heap.size):=⟨HW.out.blk.lt,owns_lt HW.out.own⟩
 have HWB:=Lib.hid (wbits p v bits (ofI t0) 64 w1.drew (hW1.mods (Mods.drew (fun _=>False) w1) (fun e=>e) (fun _ _ e=>e)) (by omega) (by have:=HZ.out;omega))
 have d0:w1.cell? ⟨w.heap.size,0,none⟩=some (.pointer (some ⟨p,0,none⟩)):=by rw [hx1.cell];rfl
 have d1:w1.cell? ⟨b0,off,none⟩=some (.int .i64 t0):=(hB1.cell HAp.out.2.2).trans hc0
 have HD1:=Lib.hid d1
 have HX1:=Lib.hid hx1;have HS1:=Lib.hid hs1;have HB1:=Lib.hid hB1
 have HC:Hid (∀w':World,(w'.cell? ⟨w.heap.size,0,none⟩=some (.pointer (some ⟨p,0,none⟩))∧w'.cell? ⟨b0,off,none⟩=some (.int .i64 t0)∧True)→(w'.cell? ⟨w.heap.size,0,none⟩=some (.pointer (some ⟨p,0,none⟩))∧w'.cell? ⟨b0,off,none⟩=some (.int .i64 t0)∧True)):=fun _ h=>h
 clear hW1 hx1 hs1 hB1 hc0
 refine wpIn_wide.2 (wp_normal ?_)
 have hposN:0<ls.length:=by omega
 refine wp_region_takeH (fun w':World=>w'.cell? ⟨w.heap.size,0,none⟩=some (.pointer (some ⟨p,0,none⟩))∧w'.cell? ⟨b0,off,none⟩=some (.int .i64 t0)∧True) [5] [0,1,2,3,4,5] (by kernel_rfl) (by kernel_rfl) (by kernel_rfl) ?_ ?_ ?_
 ·intro c a a' w hd h;cases h.1
 ·exact ⟨d0,d1,trivial⟩
 clear d0 d1
 simp only [taken,List.map_cons,List.map_nil,List.getElem?_cons_succ,List.getElem?_cons_zero,Option.getD_some]
 repeat (first
        | (refine takeH_skip rfl ?_; simp only [Act.put, List.setIfInBounds_toArray, List.set_cons_succ, List.set_cons_zero])
        | (refine takeH_blind rfl rfl ?_; apply Exists.intro; refine ⟨fun w => ?_, ?_⟩; (go_simp; try with_reducible rfl); simp only [Act.put, List.setIfInBounds_toArray, List.set_cons_succ, List.set_cons_zero])
        | (refine takeH_reads rfl rfl ?_; apply Exists.intro; refine ⟨fun w' hS => ?_, ?_⟩; (obtain ⟨d0, d1, d2⟩ := HC.out w' hS; go_simp; try with_reducible rfl); simp only [Act.put, List.setIfInBounds_toArray, List.set_cons_succ, List.set_cons_zero]))
 refine takeH_call rfl rfl (fun K' hK=>?_)
 go_wp2_with fail
 refine HWB.out.mono ?_
 rintro e w2 ⟨rfl,v2,hW2,hU2⟩
 have HU2:Hid (Upd w1 w2 p v v2):=⟨(Mods.drew (fun k=>k=p∨v.ownBlock=some k) w1).trans hU2.mods (fun _ _ e=>e),hU2.fresh⟩
 have HW2:=Lib.hid hW2
 have hxb:¬(w.heap.size=p∨v.ownBlock=some w.heap.size):=fun e=>by
  rcases e with e | e
  ·have:=HPl.out.1;omega
  ·have:=HPl.out.2 _ e;omega
 have HX2:=Lib.hid (HU2.out.mods.blk HX1.out hxb)
 have HT2:Hid (TabF w2):=(HT.out.below HB1.out (Nat.le_refl _)).block (HU2.out.mods.block _ (by have:=HT.out.lt;have:=HS1.out;omega) (fun e=>by
  rcases e with e | e
  ·have:=HG.out.1;omega
  ·have:=HG.out.2 _ e;omega))
 have hlb:∀k,(Value.slice (some ⟨b0,off,none⟩) ls.length c).ownBlock=some k→¬(k=p∨v.ownBlock=some k):=fun k hk e=>by
  obtain rfl:b0=k:=by simpa [Value.ownBlock] using hk
  rcases e with e | e
  ·exact HAp.out.1 e
  ·exact HAp.out.2.1 e
 have HL2:=Lib.hid ((HL.out.below HB1.out).mods HU2.out.mods hlb)
 refine hK _ _ ⟨by rw [HX2.out.cell];rfl,?_,trivial⟩ ?_
 ·exact HU2.out.mods.cell HD1.out (hlb b0 rfl)
 clear hK K' hW2 hU2 HWB hxb hlb
 refine takeH_nil ⟨rfl,?_⟩
 gi_wp2_with (refine ⟨trivial,?_⟩;gi_at_call 182;refine (new_changes _ _ c _ _).mono ?_;rintro e w' ⟨rfl,rfl⟩)
 obtain ⟨W0,hW0⟩:∃W0,w2.alloc (.cells #[.slice (some ⟨b0,off,none⟩) ls.length c] 112)=W0:=⟨_,rfl⟩
 have hs0:W0.heap.size=w2.heap.size+1:=by rw [← hW0];simp
 have hB0:Below w2.heap.size w2 W0:=by rw [← hW0];exact (Below.refl _ w2).alloc (Nat.le_refl _) _
 have hx0:W0.cell? ⟨w2.heap.size,0,none⟩=some (.slice (some ⟨b0,off,none⟩) ls.length c):=by
  have:=(Blk.new w2 #[.slice (some ⟨b0,off,none⟩) ls.length c] 112).cell 0
  rw [hW0] at this
  simpa using this
 rw [hW0]
 clear hW0
 have HX0:=Lib.hid (HX2.out.of_same (hB0.block _ HX2.out.lt))
 have HT0:=Lib.hid (HT2.out.below hB0 (Nat.le_refl _))
 have HW0:=Lib.hid (HW2.out.below hB0)
 have HP2:Hid (p<w2.heap.size∧(∀k,v2.ownBlock=some k→k<w2.heap.size)∧w1.heap.size≤w2.heap.size):=⟨HW2.out.blk.lt,owns_lt HW2.out.own,HU2.out.mods.size⟩
 have HV2:Hid (∀k,v2.ownBlock=some k→v.ownBlock=some k∨w1.heap.size≤k):=fun k hk=>HU2.out.fresh k hk
 have HKW:Hid (∀k,(k=w2.heap.size∨(Value.slice (some ⟨b0,off,none⟩) ls.length c).ownBlock=some k)→k≠p∧v2.ownBlock≠some k∧k<W0.heap.size):=fun k hk=>by
  have h1:=HP2.out.1;have h2:=HPl.out.1;have h3:=HS1.out;have h4:=HP2.out.2.2;have h5:=HAp.out
  rcases hk with e | e
  ·exact ⟨by omega,fun e2=>by have:=HP2.out.2.1 k e2;omega,by omega⟩
  ·obtain rfl:b0=k:=by simpa [Value.ownBlock] using e
   refine ⟨h5.1,fun e2=>?_,by omega⟩
   rcases HV2.out b0 e2 with e3 | e3
   ·exact h5.2.1 e3
   ·omega
 have HXn:Hid (¬(w.heap.size=p∨v2.ownBlock=some w.heap.size)):=fun e=>by
  have h1:=HPl.out.1;have h3:=HS1.out
  rcases e with e | e
  ·omega
  ·rcases HV2.out _ e with e3 | e3
   ·have:=HPl.out.2 _ e3;omega
   ·omega
 have HGn:Hid (¬(1 = p∨v2.ownBlock=some 1)):=fun e=>by
  have h1:=HG.out.1;have h3:=HS1.out;have h4:=HT.out.lt
  rcases e with e | e
  ·omega
  ·rcases HV2.out _ e with e3 | e3
   ·have:=HG.out.2 _ e3;omega
   ·omega
 have HGV:=Lib.hid (changes_gives 8 (by omega) w2.heap.size _ ls t0 tl HEL.out W0 hx0 (HL2.out.below hB0))
 have HS0:=Lib.hid hs0;have HB0:=Lib.hid hB0
 clear hx0 hs0 hB0
 obtain ⟨K,hK⟩:∃K:Nat→Prop,(fun k=>k=w2.heap.size∨(Value.slice (some ⟨b0,off,none⟩) ls.length c).ownBlock=some k)=K:=⟨_,rfl⟩
 have HKW2:Hid (∀k,K k→k≠p∧v2.ownBlock≠some k∧k<W0.heap.size):=by rw [← hK];exact HKW.out
 rw [hK] at HGV
 clear hK HKW
 obtain ⟨ys,hys⟩:∃ys,changesT t0 0 tl=ys:=⟨_,rfl⟩
 have HE:Hid (bits++encT ls=(bits++fieldBits (ofI t0) 64)++ys.flatMap encX):=by show _=_;rw [HEL.out,encT_changes,hys,List.append_assoc]
 have HO:Hid ((bits++fieldBits (ofI t0) 64).length=bits.length+64):=by show _=_;rw [List.length_append,fieldBits_length]
 rw [hys] at HGV HZ
 clear hys
 generalize bits++fieldBits (ofI t0) 64=out0 at *
 refine wpIn_rangeFunc_ownG rfl (by omega) (gf:=225) (lb:=#[.pointer (some ⟨w2.heap.size,0,none⟩)]) rfl trivial (enters_of Tryz.func225 (by kernel_rfl) rfl)
  HGV.out (fun h k=>keepAt_t h k) (fun W l o o' h1 h2 h3 h4=>keepAt_b (fun k hk=>(HKW2.out k hk).2.2) W l o o' h1 h2 h3 h4) (Below.refl _ _) (fun _=>rfl)
  (fun pre W=>PutIn p v2 W0 (out0++pre.flatMap encX) W)
  (fun _ _ _=>False)
  (putIn_own (Nat.le_refl _) p v2 (fun pre:List Int=>out0++pre.flatMap encX))
  (fun _ _ _ _ _ hs _ _=>hs)
  ⟨v2,by simpa using HW0.out,Upd.refl _ _ _⟩
  (fun x=>{ tmps:=#[.pointer (some ⟨p,0,none⟩),.slice (some ⟨b0,off,none⟩) ls.length c,.pointer (some ⟨w.heap.size,0,none⟩),undef,.int .i64 0,.int .i64 x,undef,.pointer (some ⟨p,0,none⟩),.bool false,.slice (some ⟨b0,off,none⟩) ls.length c,.int .i64 (ls.length:Int),.bool false,.pointer (some ⟨p,0,none⟩),.slice (some ⟨b0,off,none⟩) ls.length c,.pointer (some ⟨b0,off,none⟩),.int .i64 t0,.int .u64 (ofI t0:Int),.int .i64 0,.slice (some ⟨b0,off,none⟩) ls.length c,.func (.func 225) #[] #[.pointer (some ⟨w2.heap.size,0,none⟩)],.int .i64 x,undef,undef,undef,undef,undef,undef,undef,undef,undef,undef,undef,undef,undef,undef],defers:=[] }) ?assign ?body ?done ?stop
 case assign=>
  intro l x W K hK
  simp only [List.zip_toArray,List.zip_cons_cons,List.zip_nil_right,List.foldl_toArray,List.foldl_cons,List.foldl_nil,List.setIfInBounds_toArray,List.set_cons_zero,List.set_cons_succ]
  gi_wp2
  exact hK
 case body=>
  rintro l pre x W ⟨v',hW',hU'⟩ hlen
  have HTW:=Lib.hid (HT0.out.block (hU'.mods.block _ HT0.out.lt HGn.out))
  have HXW:=Lib.hid (hU'.mods.blk HX0.out HXn.out)
  have HF:=Lib.hid (formOf_cells x W HTW.out)
  have h1:=markLen_le (formT x)
  have h2:=widthT_le (formT x)
  have HEx:=Lib.hid (encX_mark x)
  have hwx:=wrap_ofI x
  have HZ2:Hid ((out0++pre.flatMap encX).length+136≤1125899906842624):=by show _≤_;have:=encX_all pre;have:=HZ.out;have:=HO.out;rw [List.length_append];omega
  have HW':=Lib.hid hW';have HU':=Lib.hid hU'
  have HPre:Hid (out0++(pre++[x]).flatMap encX=(out0++pre.flatMap encX)++encX x):=by show _=_;rw [List.flatMap_append,List.flatMap_cons,List.flatMap_nil,List.append_nil,List.append_assoc]
  clear hW' hU'
  generalize encX x=EX at *
  generalize markT (formT x)=m1 at *
  generalize markLenT (formT x)=m2 at *
  generalize widthT (formT x)=m3 at *
  generalize ofI x=ux at *
  have HPw:Hid (p<W.heap.size∧(∀k,v'.ownBlock=some k→k<W.heap.size)∧W0.heap.size≤W.heap.size):=⟨HW'.out.blk.lt,owns_lt HW'.out.own,HU'.out.mods.size⟩
  have HXl:Hid (w.heap.size<W.heap.size):=HXW.out.lt
  have HXv:Hid (¬(w.heap.size=p∨v'.ownBlock=some w.heap.size)):=fun e=>by
   rcases e with e | e
   ·exact HXn.out (Or.inl e)
   ·rcases HU'.out.fresh _ e with e2 | e2
    ·exact HXn.out (Or.inr e2)
    ·have:=HX0.out.lt;omega
  gi_wp2_with fail
  refine ⟨trivial,(CallsIn.inRound l (callsIn_wide.2 HF.out)).mono ?_⟩
  rintro e w3 ⟨rfl,hB3⟩
  have hW4:=HW'.out.below (hB3.trans (((Below.refl _ w3).alloc (Nat.le_refl _) (.cells #[.int .u64 (m1:Int),.int .i64 (m2:Int),.int .i64 (m3:Int)] 250)).mono hB3.size))
  have HWB4:=Lib.hid (wbits p v' _ m1 m2 _ hW4 (by omega) (by have:=HZ2.out;omega))
  have hx3:=HXW.out.of_same (hB3.block _ HXW.out.lt)
  have c0:w3.cell? ⟨w.heap.size,0,none⟩=some (.pointer (some ⟨p,0,none⟩)):=by rw [hx3.cell];rfl
  have hlt3:=hx3.lt
  have HX4:Hid (Blk (w3.alloc (.cells #[.int .u64 (m1:Int),.int .i64 (m2:Int),.int .i64 (m3:Int)] 250)) w.heap.size [.pointer (some ⟨p,0,none⟩)]):=hx3.alloc _
  have HF4:Hid (Blk (w3.alloc (.cells #[.int .u64 (m1:Int),.int .i64 (m2:Int),.int .i64 (m3:Int)] 250)) w3.heap.size [.int .u64 (m1:Int),.int .i64 (m2:Int),.int .i64 (m3:Int)]):=Blk.new w3 _ _
  have HFl:Hid (¬(w3.heap.size=p∨v'.ownBlock=some w3.heap.size)):=fun e=>by
   have h1:=HPw.out;have h2:=hB3.size
   rcases e with e | e
   ·omega
   ·have:=h1.2.1 _ e;omega
  have HM4:Hid (Mods (fun k=>k=p∨v'.ownBlock=some k) W (w3.alloc (.cells #[.int .u64 (m1:Int),.int .i64 (m2:Int),.int .i64 (m3:Int)] 250))):=(Mods.of_below hB3 _).trans (Mods.alloc _ _ _) (fun _ _ e=>e)
  clear hB3 hW4 hx3 HF
  gi_wp2_with fail
  refine ⟨trivial,(CallsIn.inRound l (callsIn_wide.2 HWB4.out)).mono ?_⟩
  rintro e w5 ⟨rfl,v5,hW5,hU5⟩
  have hx5:=hU5.mods.blk HX4.out HXv.out
  have hf5:=hU5.mods.blk HF4.out HFl.out
  have c5:w5.cell? ⟨w.heap.size,0,none⟩=some (.pointer (some ⟨p,0,none⟩)):=by rw [hx5.cell];rfl
  have d5:w5.cell? ⟨w3.heap.size,2,none⟩=some (.int .i64 (m3:Int)):=by rw [hf5.cell];rfl
  have HWB5:=Lib.hid (wbits p v5 _ ux m3 _ hW5 (by omega) (by have:=HZ2.out;rw [List.length_append,fieldBits_length];omega))
  have HU5:=Lib.hid hU5
  clear hx5 hf5 hU5 hW5 HWB4 c0
  gi_wp2_with fail
  refine ⟨trivial,(CallsIn.inRound l (callsIn_wide.2 HWB5.out)).mono ?_⟩
  rintro e w6 ⟨rfl,v6,hW6,hU6⟩
  have hU:Upd W w6 p v' v6:=Upd.trans (⟨HM4.out,Fresh.refl _ _⟩:Upd W (w3.alloc (.cells #[.int .u64 (m1:Int),.int .i64 (m2:Int),.int .i64 (m3:Int)] 250)) p v' v') (HU5.out.trans hU6)
  have HUf:=Lib.hid hU;have HWf:=Lib.hid hW6
  clear hU hW6 hU6 HWB5 HU5 HM4 HX4 HF4
  gi_wp2_with fail
  refine ⟨(putIn_keeps HW'.out HUf.out.mods).from _,fun k hk=>?_,v6,?_,HU'.out.trans HUf.out⟩
  ·have h1:=HKW2.out k hk
   refine HUf.out.mods.block k (by have:=HPw.out.2.2;omega) (fun e=>?_)
   rcases e with e | e
   ·exact h1.1 e
   ·rcases HU'.out.fresh k e with e2 | e2
    ·exact h1.2.1 e2
    ·omega
  ·have h:=HWf.out
   rw [List.append_assoc] at h
   rw [HPre.out,HEx.out]
   exact h
 case done=>
  rintro D zs W hD rfl hI hK
  have HI:=Lib.hid hI
  clear hI HGV
  gi_wp2
  refine ⟨by simp,.inl ⟨_,_,rfl,run_takeDeferred hK,?_⟩⟩
  refine ⟨_,results_tmp rfl _ _ _,rfl,?_⟩
  obtain ⟨v',hW',hU'⟩:=putIn_own (β:=Unit) (Nat.le_refl W0.heap.size) p v2 (fun _=>out0++zs.flatMap encX) () W (W.putObj D (.deferred none)) (some D) HI.out (grownBy_putObj' _ _ _) (fun r e=>by cases e;exact ⟨hD,_,hK,rfl⟩)
  have u1:Upd w w1 p v v:=⟨Mods.of_below HB1.out _,Fresh.refl _ _⟩
  have u2:Upd w2 W0 p v2 v2:=⟨Mods.of_below HB0.out _,Fresh.refl _ _⟩
  rw [HE.out]
  exact ⟨v',hW',u1.trans (HU2.out.trans (u2.trans hU'))⟩
 case stop=>
  rintro D c pre W _ _ h _
  exact h.elim
end Go.Proofs.YtdcgbgecbeegmaaGreatDoor
end
section
set_option maxRecDepth 20000
namespace Go.Proofs.YtdcgbgecbeegmaaGreatDoor
open Go Go.RowKit
theorem bitLen_log {f x:Nat} (h0:x≠0) (h:x<2 ^ f):Lib.bitLenAux f x=Nat.log2 x+1:=by
 induction f generalizing x with
 | zero=>simp at h;omega
 | succ f ih=>
  rw [Lib.bitLenAux,if_neg h0]
  by_cases h1:x / 2=0
  ·have:x=1:=by omega
   subst this
   cases f<;>rfl
  ·have hl:Nat.log2 x=Nat.log2 (x / 2)+1:=by rw [Nat.log2_def x,if_pos (by omega)]
   rw [ih h1 (by rw [Nat.pow_succ] at h;omega),hl];omega
theorem lead_bitLen {x:Nat} (h0:x≠0) (h:x<18446744073709551616):(64:Int)-(Lib.bitLen x:Int)=(leadV x:Int):=by
 have h1:Nat.log2 x<64:=(Nat.log2_lt h0).2 (by simpa using h)
 rw [Lib.bitLen,bitLen_log h0 (by simpa using h),leadV];omega
theorem trail_ctz (f x:Nat):Lib.ctzFrom f x=tz f x:=by
 induction f generalizing x with
 | zero=>rfl
 | succ f ih=>
  rw [Lib.ctzFrom,tz,ih]
  by_cases h:x % 2=1
  ·rw [if_pos h,if_neg (by omega)]
  ·rw [if_neg h,if_pos (by omega)]
theorem trail_lib {x:Nat} (h0:x≠0):Lib.ctz 64 x=trailV x:=by rw [Lib.ctz,if_neg h0,trail_ctz];rfl
def renL:Go.Shelf.Ren:=⟨fun | 129=>169 | 134=>292 | n=>n,fun | 3=>3 | 4=>4 | 5=>5 | 9=>9 | 46=>177 | 53=>81 | n=>n,fun n=>n⟩
theorem laysL:Go.Proofs.Lays.n134 Tryz.prog renL:={ mixed:=by kernel_rfl,f129:=Tryz.func169.trans (congrArg some (by kernel_rfl)),f134:=Tryz.func292.trans (congrArg some (by kernel_rfl)),t3:=Tryz.underlying3,a3:=Tryz.isAgg3,z3:=Tryz.sizeOf3,v3:=Tryz.zeroValue3,t4:=Tryz.underlying4,a4:=Tryz.isAgg4,z4:=Tryz.sizeOf4,v4:=Tryz.zeroValue4,t5:=Tryz.underlying5,a5:=Tryz.isAgg5,z5:=Tryz.sizeOf5,v5:=Tryz.zeroValue5,t9:=Tryz.underlying9,a9:=Tryz.isAgg9,z9:=Tryz.sizeOf9,v9:=Tryz.zeroValue9,t46:=Tryz.underlying177,a46:=Tryz.isAgg177,z46:=Tryz.sizeOf177,v46:=Tryz.zeroValue177,t53:=Tryz.underlying81,a53:=Tryz.isAgg81,z53:=Tryz.sizeOf81,v53:=Tryz.zeroValue81 }
def renT:Go.Shelf.Ren:=⟨fun | 29=>293 | n=>n,fun | 0=>0 | 3=>3 | 4=>4 | 5=>5 | 22=>81 | 25=>177 | 54=>362 | n=>n,fun | 1=>3 | n=>n⟩
theorem laysT:Go.Proofs.Lays7.n29 Tryz.prog renT:={ mixed:=by kernel_rfl,f29:=Tryz.func293.trans (congrArg some (by kernel_rfl)),t0:=Tryz.underlying0,a0:=Tryz.isAgg0,z0:=Tryz.sizeOf0,v0:=Tryz.zeroValue0,i0:=by kernel_rfl,t3:=Tryz.underlying3,a3:=Tryz.isAgg3,z3:=Tryz.sizeOf3,v3:=Tryz.zeroValue3,i3:=by kernel_rfl,t4:=Tryz.underlying4,a4:=Tryz.isAgg4,z4:=Tryz.sizeOf4,v4:=Tryz.zeroValue4,i4:=by kernel_rfl,t5:=Tryz.underlying5,a5:=Tryz.isAgg5,z5:=Tryz.sizeOf5,v5:=Tryz.zeroValue5,i5:=by kernel_rfl,t22:=Tryz.underlying81,a22:=Tryz.isAgg81,z22:=Tryz.sizeOf81,v22:=Tryz.zeroValue81,i22:=by kernel_rfl,t25:=Tryz.underlying177,a25:=Tryz.isAgg177,z25:=Tryz.sizeOf177,v25:=Tryz.zeroValue177,i25:=by kernel_rfl,t54:=Tryz.underlying362,a54:=Tryz.isAgg362,z54:=Tryz.sizeOf362,g1:=by kernel_rfl }
def TabZ (w:World):Prop:=TabAt 3 Lib.deBruijn64tab w
theorem TabZ.lt {w:World} (h:TabZ w) : 3 < w.heap.size:=World.block_lt_of_cell? w _ (h 0 (by decide))
theorem TabZ.block {w w':World} (h:TabZ w) (hb:w'.heap[3]? = w.heap[3]?):TabZ w':=fun j hj=>by
 have:=h j hj
 unfold World.cell? at this ⊢
 rw [hb]
 exact this
theorem TabZ.below {w w':World} {B:Nat} (h:TabZ w) (hb:Below B w w') (hB:w.heap.size≤B):TabZ w':=h.block (hb.block _ (Nat.lt_of_lt_of_le h.lt hB))
theorem lz64 (x:Nat) (hx:x<18446744073709551616) (h0:x≠0) (w:World):Calls Tryz.prog 292 #[.int .u64 (x:Int)] w fun e w'=>e = .returned (.int .i64 (leadV x:Int))∧w'=w:=
 (Any.bits_LeadingZeros64 laysL (x:Int) w (by omega) (by omega)).mono fun e w' h=>by
  rw [Int.toNat_natCast,lead_bitLen h0 hx] at h
  exact h
theorem tz64 (x:Nat) (hx:x<18446744073709551616) (h0:x≠0) (w:World) (hT:TabZ w):Calls Tryz.prog 293 #[.int .u64 (x:Int)] w fun e w'=>e = .returned (.int .i64 (trailV x:Int))∧w'=w:=
 (Any7.bits_TrailingZeros64 laysT x hx w (fun _=>hT)).mono fun e w' h=>by
  rw [trail_lib h0] at h
  exact h
def wl (win:Option (Nat × Nat)):Nat:=match win with | none=>0 | some (L,_)=>L
def ww (win:Option (Nat × Nat)):Nat:=match win with | none=>0 | some (L,t)=>64-L-t
def sL (win:Option (Nat × Nat)) (x:Nat):Nat:=if x=0 then 0 else if fits win x then wl win else leadV x
def sW (win:Option (Nat × Nat)) (x:Nat):Nat:=if x=0 then 0 else if fits win x then ww win else 64-leadV x-trailV x
def sN (win:Option (Nat × Nat)) (x:Nat):Bool:=if x=0 then false else if fits win x then false else true
theorem strWin:Str Tryz.prog 281 2 [.int .i64 0,.int .i64 0]:=Str.mk' Tryz.underlying281 rfl (by kernel_rfl) rfl
theorem strStep:Str Tryz.prog 285 3 [.int .i64 0,.int .i64 0,.bool false]:=Str.mk' Tryz.underlying285 rfl (by kernel_rfl) rfl
theorem trailing_any (a b:Nat) (ha:a≤1000) (hb:b≤1000) (w:World) :
  Calls Tryz.prog 272 #[.agg #[.int .i64 (a:Int),.int .i64 (b:Int)]] w fun e w'=>e = .returned (.int .i64 ((64:Int)-(a:Int)-(b:Int)))∧Below w.heap.size w w':=by
 have ha':(a:Int)≤1000:=by omega
 have hb':(b:Int)≤1000:=by omega
 go_enter Tryz.func272,Tryz.ntmps272
 go_wp2_with fail
 go_ret
 exact ⟨rfl,(Below.refl _ _).alloc (Nat.le_refl _) _⟩
theorem windowOf_any (x:Nat) (hx:x<18446744073709551616) (h0:x≠0) (w:World) (hT:TabZ w) :
  Calls Tryz.prog 270 #[.int .u64 (x:Int)] w fun e w'=>e = .returned (.agg #[.int .i64 (leadV x:Int),.int .i64 ((64-leadV x-trailV x:Nat):Int)])∧Below w.heap.size w w':=by
 have HW:=Lib.hid (window hx h0)
 have HL:=fun w=>Lib.hid (lz64 x hx h0 w)
 have HTz:=fun w hT=>Lib.hid (tz64 x hx h0 w hT)
 have HT:=Lib.hid hT
 have e1:(64:Int)-(leadV x:Int)-(trailV x:Int)=((64-leadV x-trailV x:Nat):Int):=by have:=HW.out;omega
 have HE:=Lib.hid e1
 clear e1 hT hx h0
 have hl:(leadV x:Int)≤63:=by have:=HW.out;omega
 have ht:(trailV x:Int)≤63:=by have:=HW.out;omega
 generalize leadV x=L at *
 generalize trailV x=t at *
 go_enter Tryz.func270,Tryz.ntmps270
 go_wp2_with fail
 obtain ⟨w1,hw1⟩:∃w1,w.alloc (.cells #[.int .i64 0,.int .i64 0] 281)=w1:=⟨_,rfl⟩
 have hK1:Blk w1 w.heap.size [.int .i64 0,.int .i64 0]:=by rw [← hw1];exact Blk.new w _ _
 have HB1:Hid (Below w.heap.size w w1):=by rw [← hw1];exact (Below.refl _ w).alloc (Nat.le_refl _) _
 rw [hw1]
 clear hw1
 refine (HL _).out.mono ?_
 rintro e w2 ⟨rfl,hww⟩
 subst hww
 go_wp2_with fail
 refine (HTz _ (HT.out.below HB1.out (Nat.le_refl _))).out.mono ?_
 rintro e w2 ⟨rfl,hww⟩
 subst hww
 have c0:w2.cell? ⟨w.heap.size,0,none⟩=some (.int .i64 0):=by rw [hK1.cell];rfl
 have c1:w2.cell? ⟨w.heap.size,1,none⟩=some (.int .i64 0):=by rw [hK1.cell];rfl
 have f0:=hK1.free 0
 have f1:=hK1.free 1
 have HK1:=Lib.hid hK1
 clear hK1
 go_wp2_with fail
 rw [HE.out]
 refine bodyPost_ret (resultsS (p:=2) strWin (by kernel_rfl) _ w.heap.size rfl [.int .i64 (L:Int),.int .i64 ((64-L-t:Nat):Int)] ?_ rfl) rfl ⟨rfl,?_⟩
 ·simpa using (HK1.out.set 0 (.int .i64 (L:Int))).set 1 (.int .i64 ((64-L-t:Nat):Int))
 ·exact HB1.out.trans (((Mods.set (fun k=>k=w.heap.size) w2 ⟨w.heap.size,0,none⟩ _ (fun _=>rfl)).trans (Mods.set (fun k=>k=w.heap.size) _ ⟨w.heap.size,1,none⟩ _ (fun _=>rfl)) (fun _ _ e=>e)).below HB1.out.size (fun j hj e=>by omega))
theorem fits_any (L wd x:Nat) (hw:L+wd≤64) (hx:x<18446744073709551616) (h0:x≠0) (w:World) (hT:TabZ w) :
  Calls Tryz.prog 269 #[.agg #[.int .i64 (L:Int),.int .i64 (wd:Int)],.int .u64 (x:Int)] w fun e w'=>e = .returned (.bool (decide (L≤leadV x)&&decide (64-L-wd≤trailV x)))∧Below w.heap.size w w':=by
 have HL:=fun w=>Lib.hid (lz64 x hx h0 w)
 have HTz:=fun w hT=>Lib.hid (tz64 x hx h0 w hT)
 have HTr:=fun w=>Lib.hid (trailing_any L wd (by omega) (by omega) w)
 have HWin:=Lib.hid (window hx h0)
 have HT:=Lib.hid hT;have HWd:=Lib.hid hw
 clear hT hx h0
 generalize leadV x=ld at *
 generalize trailV x=tr at *
 go_enter Tryz.func269,Tryz.ntmps269
 go_wp2_with fail
 obtain ⟨w1,hw1⟩:∃w1,w.alloc (.cells #[.int .i64 (L:Int),.int .i64 (wd:Int)] 281)=w1:=⟨_,rfl⟩
 have HK1:Hid (Blk w1 w.heap.size [.int .i64 (L:Int),.int .i64 (wd:Int)]):=by rw [← hw1];exact Blk.new w _ _
 have HB1:Hid (Below w.heap.size w w1):=by rw [← hw1];exact (Below.refl _ w).alloc (Nat.le_refl _) _
 rw [hw1]
 clear hw1
 have HC:Hid (∀w':World,(w'.cell? ⟨w.heap.size,0,none⟩=some (.int .i64 (L:Int))∧w'.cell? ⟨w.heap.size,1,none⟩=some (.int .i64 (wd:Int))∧True)→(w'.cell? ⟨w.heap.size,0,none⟩=some (.int .i64 (L:Int))∧w'.cell? ⟨w.heap.size,1,none⟩=some (.int .i64 (wd:Int))∧True)):=fun _ h=>h
 refine wp_region_takeH (fun w':World=>w'.cell? ⟨w.heap.size,0,none⟩=some (.int .i64 (L:Int))∧w'.cell? ⟨w.heap.size,1,none⟩=some (.int .i64 (wd:Int))∧True) [1,7,9] [0,2,3,1,4,5,6,8,7,9,10,11,12] (by kernel_rfl) (by kernel_rfl) (by kernel_rfl) ?_ ?_ ?_
 ·intro c a a' w hd h;exact ⟨hd ▸ h.1,h.2⟩
 ·exact ⟨by rw [World.cell?_drew,HK1.out.cell];rfl,by rw [World.cell?_drew,HK1.out.cell];rfl,trivial⟩
 simp only [taken,List.map_cons,List.map_nil,List.getElem?_cons_succ,List.getElem?_cons_zero,Option.getD_some]
 repeat (first
        | (refine takeH_skip rfl ?_; simp only [Act.put, List.setIfInBounds_toArray, List.set_cons_succ, List.set_cons_zero])
        | (refine takeH_blind rfl rfl ?_; apply Exists.intro; refine ⟨fun w => ?_, ?_⟩; (go_simp; try with_reducible rfl); simp only [Act.put, List.setIfInBounds_toArray, List.set_cons_succ, List.set_cons_zero])
        | (refine takeH_reads rfl rfl ?_; apply Exists.intro; refine ⟨fun w' hS => ?_, ?_⟩; (obtain ⟨d0, d1, d2⟩ := HC.out w' hS; go_simp; try with_reducible rfl); simp only [Act.put, List.setIfInBounds_toArray, List.set_cons_succ, List.set_cons_zero]))
 refine takeH_call rfl rfl (fun K' hK=>?_)
 go_wp2_with fail
 refine (HL _).out.mono ?_
 rintro e w2 ⟨rfl,hww⟩
 have HW2:Hid (w2=w1.drew):=hww
 have HS2:Hid (w2.cell? ⟨w.heap.size,0,none⟩=some (.int .i64 (L:Int))∧w2.cell? ⟨w.heap.size,1,none⟩=some (.int .i64 (wd:Int))∧True):=by show _∧_;rw [hww];exact ⟨by rw [World.cell?_drew,HK1.out.cell];rfl,by rw [World.cell?_drew,HK1.out.cell];rfl,trivial⟩
 have HT2:Hid (TabZ w2):=by show TabZ _;rw [hww];exact (HT.out.below HB1.out (Nat.le_refl _)).block rfl
 have HB2:Hid (Below w.heap.size w w2):=by show Below _ _ _;rw [hww];exact HB1.out.drew
 refine hK _ _ HS2.out ?_
 clear hK K' hww HW2 HB1 HK1
 have hl63:(ld:Int)≤63:=by have:=HWin.out;omega
 have ht63:(tr:Int)≤63:=by have:=HWin.out;omega
 by_cases hle:L≤ld
 ·have hle':(L:Int)≤(ld:Int):=by omega
  have hd1:decide (L≤ld)=true:=by simpa using hle
  have hd1':decide ((L:Int)≤(ld:Int))=true:=by simpa using hle'
  have HD1:=Lib.hid hd1
  clear hle hd1
  repeat (first
        | (refine takeH_skip rfl ?_; simp only [Act.put, List.setIfInBounds_toArray, List.set_cons_succ, List.set_cons_zero])
        | (refine takeH_blind rfl rfl ?_; apply Exists.intro; refine ⟨fun w => ?_, ?_⟩; (go_simp; try with_reducible rfl); simp only [Act.put, List.setIfInBounds_toArray, List.set_cons_succ, List.set_cons_zero])
        | (refine takeH_reads rfl rfl ?_; apply Exists.intro; refine ⟨fun w' hS => ?_, ?_⟩; (obtain ⟨d0, d1, d2⟩ := HC.out w' hS; go_simp; try with_reducible rfl); simp only [Act.put, List.setIfInBounds_toArray, List.set_cons_succ, List.set_cons_zero]))
  refine takeH_call rfl rfl (fun K' hK=>?_)
  go_wp2_with fail
  refine (HTz _ HT2.out).out.mono ?_
  rintro e w3 ⟨rfl,hww⟩
  subst hww
  refine hK _ _ HS2.out ?_
  clear hK K'
  repeat (first
        | (refine takeH_skip rfl ?_; simp only [Act.put, List.setIfInBounds_toArray, List.set_cons_succ, List.set_cons_zero])
        | (refine takeH_blind rfl rfl ?_; apply Exists.intro; refine ⟨fun w => ?_, ?_⟩; (go_simp; try with_reducible rfl); simp only [Act.put, List.setIfInBounds_toArray, List.set_cons_succ, List.set_cons_zero])
        | (refine takeH_reads rfl rfl ?_; apply Exists.intro; refine ⟨fun w' hS => ?_, ?_⟩; (obtain ⟨d0, d1, d2⟩ := HC.out w' hS; go_simp; try with_reducible rfl); simp only [Act.put, List.setIfInBounds_toArray, List.set_cons_succ, List.set_cons_zero]))
  refine takeH_call rfl rfl (fun K' hK=>?_)
  go_wp2_with fail
  refine (HTr _).out.mono ?_
  rintro e w4 ⟨rfl,hB4⟩
  have HB4:Hid (Below w.heap.size w w4):=HB2.out.trans (hB4.mono HB2.out.size)
  refine hK _ _ ⟨(hB4.cell (World.block_lt_of_cell? w3 _ HS2.out.1)).trans HS2.out.1,(hB4.cell (World.block_lt_of_cell? w3 _ HS2.out.2.1)).trans HS2.out.2.1,trivial⟩ ?_
  clear hK K' hB4
  have e2:(64:Int)-(L:Int)-(wd:Int)=((64-L-wd:Nat):Int):=by have:=HWd.out;omega
  have HD2:Hid (decide (64-L-wd≤tr)=decide (((64-L-wd:Nat):Int)≤(tr:Int))):=by show _=_;rw [decide_eq_decide];omega
  rw [e2]
  clear e2
  generalize ((64-L-wd:Nat):Int)=T at *
  repeat (first
        | (refine takeH_skip rfl ?_; simp only [Act.put, List.setIfInBounds_toArray, List.set_cons_succ, List.set_cons_zero])
        | (refine takeH_blind rfl rfl ?_; apply Exists.intro; refine ⟨fun w => ?_, ?_⟩; (go_simp; try with_reducible rfl); simp only [Act.put, List.setIfInBounds_toArray, List.set_cons_succ, List.set_cons_zero])
        | (refine takeH_reads rfl rfl ?_; apply Exists.intro; refine ⟨fun w' hS => ?_, ?_⟩; (obtain ⟨d0, d1, d2⟩ := HC.out w' hS; go_simp; try with_reducible rfl); simp only [Act.put, List.setIfInBounds_toArray, List.set_cons_succ, List.set_cons_zero]))
  refine takeH_nil ?_
  go_wp2_with fail
  go_ret
  exact ⟨by rw [HD1.out,HD2.out];rfl,HB4.out⟩
 ·have hle':¬(L:Int)≤(ld:Int):=by omega
  have hd1:decide (L≤ld)=false:=by simpa using hle
  have hd1':decide ((L:Int)≤(ld:Int))=false:=by simpa using hle'
  have HD1:=Lib.hid hd1
  clear hle hd1
  repeat (first
        | (refine takeH_skip rfl ?_; simp only [Act.put, List.setIfInBounds_toArray, List.set_cons_succ, List.set_cons_zero])
        | (refine takeH_blind rfl rfl ?_; apply Exists.intro; refine ⟨fun w => ?_, ?_⟩; (go_simp; try with_reducible rfl); simp only [Act.put, List.setIfInBounds_toArray, List.set_cons_succ, List.set_cons_zero])
        | (refine takeH_reads rfl rfl ?_; apply Exists.intro; refine ⟨fun w' hS => ?_, ?_⟩; (obtain ⟨d0, d1, d2⟩ := HC.out w' hS; go_simp; try with_reducible rfl); simp only [Act.put, List.setIfInBounds_toArray, List.set_cons_succ, List.set_cons_zero]))
  refine takeH_nil ?_
  go_wp2_with fail
  go_ret
  exact ⟨by rw [HD1.out];rfl,HB2.out⟩
set_option maxHeartbeats 1000000 in
theorem stepFor_any (g:Nat) (win:Option (Nat × Nat)) (x:Nat) (ho:okW win) (hx:x<18446744073709551616) (w:World) (hT:TabZ w) (c1:w.cell? ⟨g,1,none⟩=some (.int .i64 (wl win:Int))) (c2:w.cell? ⟨g,2,none⟩=some (.int .i64 (ww win:Int))) :
  Calls Tryz.prog 227 #[.pointer (some ⟨g,0,none⟩),.int .u64 (x:Int)] w fun e w'=>e = .returned (.agg #[.int .i64 (sL win x:Int),.int .i64 (sW win x:Int),.bool (sN win x)])∧Below w.heap.size w w':=by
 have HT:=Lib.hid hT
 have HG:Hid (g<w.heap.size):=World.block_lt_of_cell? w _ c1
 obtain ⟨w1,hw1⟩:∃w1,w.alloc (.cells #[.int .i64 0,.int .i64 0,.bool false] 285)=w1:=⟨_,rfl⟩
 have HK1:Hid (Blk w1 w.heap.size [.int .i64 0,.int .i64 0,.bool false]):=by rw [← hw1];exact Blk.new w _ _
 have HB1:Hid (Below w.heap.size w w1):=by rw [← hw1];exact (Below.refl _ w).alloc (Nat.le_refl _) _
 have HC1:Hid (w1.cell? ⟨g,1,none⟩=some (.int .i64 (wl win:Int))∧w1.cell? ⟨g,2,none⟩=some (.int .i64 (ww win:Int))):=⟨(HB1.out.cell HG.out).trans c1,(HB1.out.cell HG.out).trans c2⟩
 obtain ⟨⟨d0,d1,d2⟩,f0,f1,f2⟩:=HK1.out.three
 clear hT c1 c2
 go_enter Tryz.func227,Tryz.ntmps227
 by_cases h0:x=0
 ·subst h0
  go_wp2_with fail
  refine bodyPost_ret (resultsS (p:=4) strStep (by kernel_rfl) _ w.heap.size rfl [.int .i64 0,.int .i64 0,.bool false] (HK1.out.set3 _ _ _) rfl) rfl ⟨rfl,?_⟩
  exact HB1.out.trans ((mods_set3 _ _ _ _ _).below HB1.out.size (fun j hj e=>by omega))
 ·have h0b:((x:Int) == 0)=false:=by rw [beq_eq_false_iff_ne];omega
  have HT1:=Lib.hid (HT.out.below HB1.out (Nat.le_refl _))
  have HWo:∀w2,Hid (Below w1.heap.size w1 w2)→Hid (Calls Tryz.prog 270 #[.int .u64 (x:Int)] w2 fun e w'=>e = .returned (.agg #[.int .i64 (leadV x:Int),.int .i64 ((64-leadV x-trailV x:Nat):Int)])∧Below w2.heap.size w2 w'):=fun w2 h=>windowOf_any x hx h0 w2 (HT1.out.block (h.out.block _ HT1.out.lt))
  match win,ho,HC1 with
  | none,ho,HC1=>
   obtain ⟨e1,e2⟩:=HC1.out
   simp only [wl,ww] at e1 e2
   go_wp2_with fail
   have HI:Hid (Below w1.heap.size w1 w1):=Below.refl _ _
   refine (HWo _ HI).out.mono ?_
   rintro e w3 ⟨rfl,hB3⟩
   have HK3:=Lib.hid (HK1.out.of_same (hB3.block _ HK1.out.lt))
   have HB3:Hid (Below w.heap.size w w3):=HB1.out.trans (hB3.mono HB1.out.size)
   clear hB3 d0 d1 d2 f0 f1 f2
   obtain ⟨⟨d0,d1,d2⟩,f0,f1,f2⟩:=HK3.out.three
   obtain ⟨wd,hwd⟩:∃wd,64-leadV x-trailV x=wd:=⟨_,rfl⟩
   have HWd:=Lib.hid hwd
   rw [hwd]
   clear hwd
   go_wp2_with fail
   have hs:sL none x=leadV x∧sW none x=wd∧sN none x=true:=by simp only [sL,sW,sN,h0,fits,HWd.out,if_false,Bool.false_eq_true];exact ⟨trivial,trivial,trivial⟩
   refine bodyPost_ret (resultsS (p:=4) strStep (by kernel_rfl) _ w.heap.size rfl [.int .i64 (leadV x:Int),.int .i64 (wd:Int),.bool true] (HK3.out.set3 _ _ _) rfl) rfl ⟨by rw [hs.1,hs.2.1,hs.2.2],?_⟩
   exact HB3.out.trans ((mods_set3 _ _ _ _ _).below HB3.out.size (fun j hj e=>by omega))
  | some (L,t),ho,HC1=>
   have hle:=ho L t rfl
   obtain ⟨e1,e2⟩:=HC1.out
   simp only [wl,ww] at e1 e2
   have HF:=Lib.hid (fits_any L (64-L-t) x (by omega) hx h0 w1 HT1.out)
   have hwb:(((64-L-t:Nat):Int) == 0)=false:=by rw [beq_eq_false_iff_ne];omega
   rw [show 64-L-(64-L-t)=t by omega] at HF
   have HFt:Hid (fits (some (L,t)) x=(decide (L≤leadV x)&&decide (t≤trailV x))):=rfl
   rw [← HFt.out] at HF
   have HWd:Hid (ww (some (L,t))=64-L-t):=rfl
   clear HFt
   generalize 64-L-t=wd at *
   go_wp2_with fail
   refine HF.out.mono ?_
   rintro e w2 ⟨rfl,hB2⟩
   have HK2:=Lib.hid (HK1.out.of_same (hB2.block _ HK1.out.lt))
   have HB2:=Lib.hid hB2
   have HC2:Hid (w2.cell? ⟨g,1,none⟩=some (.int .i64 (L:Int))∧w2.cell? ⟨g,2,none⟩=some (.int .i64 (wd:Int))):=⟨(hB2.cell (World.block_lt_of_cell? w1 _ e1)).trans e1,(hB2.cell (World.block_lt_of_cell? w1 _ e2)).trans e2⟩
   clear hB2 d0 d1 d2 f0 f1 f2 e1 e2
   obtain ⟨⟨d0,d1,d2⟩,f0,f1,f2⟩:=HK2.out.three
   obtain ⟨e1,e2⟩:=HC2.out
   by_cases hf:fits (some (L,t)) x=true
   ·rw [hf]
    have HFf:=Lib.hid hf
    clear hf
    go_wp2_with fail
    have hs:sL (some (L,t)) x=L∧sW (some (L,t)) x=wd∧sN (some (L,t)) x=false:=by simp only [sL,sW,sN,h0,HFf.out,HWd.out,wl,if_false,if_true];exact ⟨trivial,trivial,trivial⟩
    refine bodyPost_ret (resultsS (p:=4) strStep (by kernel_rfl) _ w.heap.size rfl [.int .i64 (L:Int),.int .i64 (wd:Int),.bool false] (HK2.out.set3 _ _ _) rfl) rfl ⟨by rw [hs.1,hs.2.1,hs.2.2],?_⟩
    exact (HB1.out.trans (HB2.out.mono HB1.out.size)).trans ((mods_set3 _ _ _ _ _).below (Nat.le_trans HB1.out.size HB2.out.size) (fun j hj e=>by omega))
   ·have hf:fits (some (L,t)) x=false:=by simpa using hf
    rw [hf]
    have HFf:=Lib.hid hf
    clear hf
    go_wp2_with fail
    refine (HWo _ HB2).out.mono ?_
    rintro e w3 ⟨rfl,hB3⟩
    have HK3:=Lib.hid (HK2.out.of_same (hB3.block _ HK2.out.lt))
    have HB3:Hid (Below w.heap.size w w3):=(HB1.out.trans (HB2.out.mono HB1.out.size)).trans (hB3.mono (Nat.le_trans HB1.out.size HB2.out.size))
    clear hB3 d0 d1 d2 f0 f1 f2
    obtain ⟨⟨d0,d1,d2⟩,f0,f1,f2⟩:=HK3.out.three
    obtain ⟨wd2,hwd⟩:∃wd2,64-leadV x-trailV x=wd2:=⟨_,rfl⟩
    have HWd2:=Lib.hid hwd
    rw [hwd]
    clear hwd
    go_wp2_with fail
    have hs:sL (some (L,t)) x=leadV x∧sW (some (L,t)) x=wd2∧sN (some (L,t)) x=true:=by simp only [sL,sW,sN,h0,HFf.out,HWd2.out,if_false,Bool.false_eq_true];exact ⟨trivial,trivial,trivial⟩
    refine bodyPost_ret (resultsS (p:=4) strStep (by kernel_rfl) _ w.heap.size rfl [.int .i64 (leadV x:Int),.int .i64 (wd2:Int),.bool true] (HK3.out.set3 _ _ _) rfl) rfl ⟨by rw [hs.1,hs.2.1,hs.2.2],?_⟩
    exact HB3.out.trans ((mods_set3 _ _ _ _ _).below HB3.out.size (fun j hj e=>by omega))
def advC (last x L wd a b:Nat) (c:Bool):List Value:=[.int .u64 ((last ^^^ x:Nat):Int),.int .i64 ((if c then a else L:Nat):Int),.int .i64 ((if c then b else wd:Nat):Int)]
theorem Blk.facts4 {w:World} {g:Nat} {a b c:Value} {rest:List Value} (h:Blk w g (a::b::c::rest)):(w.cell? ⟨g,0,none⟩=some a∧w.cell? ⟨g,1,none⟩=some b∧w.cell? ⟨g,2,none⟩=some c)∧(w.frozen? ⟨g,0,none⟩=false∧w.frozen? ⟨g,1,none⟩=false∧w.frozen? ⟨g,2,none⟩=false):=
 ⟨⟨by rw [h.cell];rfl,by rw [h.cell];rfl,by rw [h.cell];rfl⟩,h.free 0,h.free 1,h.free 2⟩
set_option maxHeartbeats 1000000 in
theorem advance_any (g last x L wd a b:Nat) (c:Bool) (rest:List Value) (hla:last<18446744073709551616) (hx:x<18446744073709551616) (w:World) (h:Blk w g ([.int .u64 (last:Int),.int .i64 (L:Int),.int .i64 (wd:Int)]++rest)) :
  Calls Tryz.prog 228 #[.pointer (some ⟨g,0,none⟩),.int .u64 (x:Int),.agg #[.int .i64 (a:Int),.int .i64 (b:Int),.bool c]] w fun e w'=>e = .returned (.tuple #[])∧Blk w' g (advC last x L wd a b c++rest)∧Mods (fun k=>k=g) w w':=by
 have HX:Hid (bits .xor .u64 (last:Int) (x:Int)=((last ^^^ x:Nat):Int)):=bits_xor_u64_nat last x hla hx
 obtain ⟨w1,hw1⟩:∃w1,w.alloc (.cells #[.int .i64 (a:Int),.int .i64 (b:Int),.bool c] 285)=w1:=⟨_,rfl⟩
 have HK1:Hid (Blk w1 w.heap.size [.int .i64 (a:Int),.int .i64 (b:Int),.bool c]):=by rw [← hw1];exact Blk.new w _ _
 have HB1:Hid (Below w.heap.size w w1):=by rw [← hw1];exact (Below.refl _ w).alloc (Nat.le_refl _) _
 have HG:Hid (g<w.heap.size):=h.lt
 have HS1:Hid (Blk w1 g (.int .u64 (last:Int) :: .int .i64 (L:Int) :: .int .i64 (wd:Int)::rest)):=h.of_same (HB1.out.block _ HG.out)
 obtain ⟨⟨d0,d1,d2⟩,_⟩:=HK1.out.three
 obtain ⟨⟨s0,s1,s2⟩,f0,f1,f2⟩:=HS1.out.facts4
 have hne:w.heap.size≠g:=by have:=HG.out;omega
 have hne':g≠w.heap.size:=by have:=HG.out;omega
 clear h
 cases c with
 | true=>
  go_enter Tryz.func228,Tryz.ntmps228
  go_wp2_with fail
  go_end0
  rw [HX.out]
  refine ⟨rfl,?_,?_⟩
  ·simpa [advC] using ((HS1.out.set 0 (.int .u64 ((last ^^^ x:Nat):Int))).set 1 (.int .i64 (a:Int))).set 2 (.int .i64 (b:Int))
  ·exact (Mods.of_below HB1.out _).trans (mods_set3 w1 g _ _ _) (fun _ _ e=>e)
 | false=>
  go_enter Tryz.func228,Tryz.ntmps228
  go_wp2_with fail
  go_end0
  rw [HX.out]
  refine ⟨rfl,?_,?_⟩
  ·simpa [advC] using HS1.out.set 0 (.int .u64 ((last ^^^ x:Nat):Int))
  ·exact (Mods.of_below HB1.out _).trans (Mods.set (fun k=>k=g) w1 ⟨g,0,none⟩ _ (fun _=>rfl)) (fun _ _ e=>e)
def stepN (a b:Nat) (c:Bool):Nat:=if a=0∧b=0 then 1 else if c then 14+b else 2+b
theorem size_anyX (a b:Nat) (c:Bool) (hab:(a=0∧b=0)∨1≤b) (hb:b≤1000) (ha:a≤1000) (w:World) :
  Calls Tryz.prog 229 #[.agg #[.int .i64 (a:Int),.int .i64 (b:Int),.bool c]] w fun e w'=>e = .returned (.int .i64 (stepN a b c:Int))∧Below w.heap.size w w':=by
 have hb':(b:Int)≤1000:=by omega
 rcases hab with ⟨rfl,rfl⟩ | h1
 ·go_enter Tryz.func229,Tryz.ntmps229
  go_wp2_with fail
  go_ret
  exact ⟨rfl,(Below.refl _ w).alloc (Nat.le_refl _) _⟩
 ·have hbb:((b:Int) == 0)=false:=by rw [beq_eq_false_iff_ne];omega
  have hb1:(1:Int)≤(b:Int):=by omega
  have HN:Hid ¬(a=0∧b=0):=by show ¬_;omega
  have HNt:Hid (stepN a b true=14+b):=by show _=_;rw [stepN,if_neg HN.out,if_pos rfl]
  have HNf:Hid (stepN a b false=2+b):=by show _=_;rw [stepN,if_neg HN.out,if_neg (by decide)]
  cases c with
  | true=>
   go_enter Tryz.func229,Tryz.ntmps229
   go_wp2_with fail
   go_ret
   exact ⟨by rw [HNt.out];go_num,(Below.refl _ w).alloc (Nat.le_refl _) _⟩
  | false=>
   go_enter Tryz.func229,Tryz.ntmps229
   go_wp2_with fail
   go_ret
   exact ⟨by rw [HNf.out];go_num,(Below.refl _ w).alloc (Nat.le_refl _) _⟩
end Go.Proofs.YtdcgbgecbeegmaaGreatDoor
end
