/- Texts 23. -/
import Derived.Test.YtdcgbgecbeegmaaGreatDoorMgD17
import Derived.Test.YtdcgbgecbeegmaaGreatDoorMgD5
import Derived.Test.YtdcgbgecbeegmaaGreatDoorMgD6
import Derived.Test.YtdcgbgecbeegmaaGreatDoorMgD3
import Derived.StillTailTactics
import Derived.Laws.EntriesVeiled
import Derived.Test.YtdcgbgecbeegmaaGreatDoorMgD18
import Derived.Shelf.SlSortCmp.NoneTotal
import Derived.Test.YtdcgbgecbeegmaaGreatDoorMgD22
import Derived.Test.YtdcgbgecbeegmaaGreatDoorMgD11
import Derived.Test.YtdcgbgecbeegmaaGreatDoorMgD20
import Derived.Test.YtdcgbgecbeegmaaGreatDoorMgD21
import Derived.Test.YtdcgbgecbeegmaaGreatDoorMgD7
set_option linter.unusedVariables false
set_option linter.unusedSimpArgs false
section
set_option maxRecDepth 20000
namespace Go.Proofs.YtdcgbgecbeegmaaGreatDoor
open Go Go.RowKit
def orZ:List Int→Int
 | []=>0
 | x::l=>if x=0 then orZ l else x
theorem orZ_at {l:List Int} {i:Nat} {x:Int} (h:l[i]? = some x) (e:orZ l=orZ (l.drop i)):orZ l=if x=0 then orZ (l.drop (i+1)) else x:=by
 have h1:l.drop i=x::l.drop (i+1):=by rw [List.drop_eq_getElem_cons (List.getElem?_eq_some_iff.1 h).1,(List.getElem?_eq_some_iff.1 h).2]
 rw [e,h1];rfl
theorem cmpOr_any (v:Value) (l:List Int) (w:World) (hl:Rd w 1 v l.length (i64s l)) (hn:l.length≤1000) :
  Calls Tryz.prog 148 #[v] w fun e w'=>e = .returned (.int .i64 (orZ l))∧w'=w:=by
 have HL:=Lib.hid hl
 obtain ⟨p,c,hv⟩:=hl.shape
 subst hv
 have hlm:(l.length:Int)≤1000:=by omega
 clear hl hn
 go_enter Tryz.func148,Tryz.ntmps148
 go_wp2_with fail
 go_loopw [8] (fun iv wr=>∃(i:Nat),i≤l.length∧iv = .int .i64 (i:Int)∧Hid (orZ l=orZ (l.drop i))∧wr=w) (fun iv _=>l.length-(intOf iv).toNat)
 case atStart=>exact ⟨0,Nat.zero_le _,rfl,rfl,rfl⟩
 case round=>
  obtain ⟨i,hi,rfl,HO,rfl⟩:=hrel
  have him:(i:Int)≤1000:=by omega
  by_cases hlt:i<l.length
  ·have hlt':(i:Int)<(l.length:Int):=by omega
   obtain ⟨x,hx⟩:∃x,l[i]? = some x:=⟨_,List.getElem?_eq_getElem hlt⟩
   obtain ⟨b,off,c',e,_,_,hcell⟩:=HL.out.at (fun e=>by have:=congrArg List.length e;rw [i64s_length] at this;rw [this] at hlt;simp at hlt)
   simp only [Value.slice.injEq] at e
   obtain ⟨rfl,_,rfl⟩:=e
   have c0:wr.cell? ⟨b,off+i,none⟩=some (.int .i64 x):=hcell i _ (by rw [i64s,List.getElem?_map,hx];rfl)
   have HX:=Lib.hid (orZ_at hx HO.out)
   clear hcell hx hlt HO
   by_cases h0:x=0
   ·subst h0
    rw [if_pos rfl] at HX
    go_wp2_with fail
    go_round
    case rel=>exact ⟨i+1,by omega,by go_num,HX.out,by first | rfl | trivial⟩
    case measure=>simp [intOf];omega
   ·rw [if_neg h0] at HX
    have hxb:(x == 0)=false:=by rw [beq_eq_false_iff_ne];exact h0
    go_wp2_with fail
    go_ret
    exact ⟨by rw [HX.out];rfl,rfl⟩
  ·have hlt':¬(i:Int)<(l.length:Int):=by omega
   have HX:Hid (orZ l=0):=by have h:=HO.out;rw [List.drop_of_length_le (by omega)] at h;exact h
   go_wp2_with fail
   go_ret
   exact ⟨by rw [HX.out];rfl,rfl⟩
theorem orZ_lab (x y:Lab):orZ [ordS x.1 y.1,ordS x.2 y.2]=cmpLab x y:=by
 show (if ordS x.1 y.1=0 then (if ordS x.2 y.2=0 then 0 else ordS x.2 y.2) else ordS x.1 y.1)=cmpLab x y
 unfold cmpLab cmpP
 split
 ·split
  ·next h=>exact h.symm
  ·rfl
 ·rfl
set_option maxHeartbeats 4000000 in
theorem po_compare (x y:Lab) (w:World) :
  Calls Tryz.prog 109 #[.agg #[.string x.1,.string x.2],.agg #[.string y.1,.string y.2]] w fun e w'=>e = .returned (.int .i64 (cmpLab x y))∧Grw w w':=by
 obtain ⟨xn,xv⟩:=x
 obtain ⟨yn,yv⟩:=y
 show Calls Tryz.prog 109 #[.agg #[.string xn,.string xv],.agg #[.string yn,.string yv]] w fun e w'=>e = .returned (.int .i64 (cmpLab (xn,xv) (yn,yv)))∧Grw w w'
 obtain ⟨w1,hw1⟩:∃w1,w1=w.alloc (.cells #[.string xn,.string xv] 108):=⟨_,rfl⟩
 obtain ⟨w2,hw2⟩:∃w2,w2=w1.alloc (.cells #[.string yn,.string yv] 108):=⟨_,rfl⟩
 have HW:Hid ((w.alloc (.cells #[.string xn,.string xv] 108)).alloc (.cells #[.string yn,.string yv] 108)=w2):=by show _=_;rw [hw2,hw1]
 have HG:Hid (Grw w w2.drew):=by show Grw _ _;rw [hw2,hw1];exact (((Grw.refl w).alloc _).alloc _).drew
 have hs1:w1.heap.size=w.heap.size+1:=by rw [hw1];simp
 have HX:Hid (Blk w2.drew w.heap.size [.string xn,.string xv]):=by
  show Blk _ _ _
  rw [hw2,hw1];exact ((Blk.new w _ _).alloc _).drew
 have HY:Hid (Blk w2.drew (w.heap.size+1) [.string yn,.string yv]):=by
  show Blk _ _ _
  rw [← hs1,hw2];exact (Blk.new w1 _ _).drew
 have HE:=Lib.hid (orZ_lab (xn,xv) (yn,yv))
 simp only at HE
 have HC1:=Lib.hid (fun W=>strCompare_any xn yn W)
 have HC2:=Lib.hid (fun W=>strCompare_any xv yv W)
 generalize ordS xn yn=o1 at *
 generalize ordS xv yv=o2 at *
 generalize cmpLab (xn,xv) (yn,yv)=cc at *
 clear hw1 hw2 hs1
 go_enter Tryz.func109,Tryz.ntmps109
 go_wp2_with fail
 rw [HW.out]
 clear HW
 obtain ⟨bx,hbx⟩:∃bx,w.heap.size=bx:=⟨_,rfl⟩
 rw [hbx] at HX HY ⊢
 clear hbx
 obtain ⟨bye,hby⟩:∃by',bx+1=by':=⟨_,rfl⟩
 rw [hby] at HY ⊢
 clear hby
 have HS:Hid (∀w':World,(w'.cell? ⟨bx,0,none⟩=some (.string xn)∧w'.cell? ⟨bx,1,none⟩=some (.string xv)∧w'.cell? ⟨bye,0,none⟩=some (.string yn)∧w'.cell? ⟨bye,1,none⟩=some (.string yv))→(w'.cell? ⟨bx,0,none⟩=some (.string xn)∧w'.cell? ⟨bx,1,none⟩=some (.string xv)∧w'.cell? ⟨bye,0,none⟩=some (.string yn)∧w'.cell? ⟨bye,1,none⟩=some (.string yv))):=fun _ h=>h
 refine wp_normal ?_
 refine wp_region_takeH (fun w':World=>w'.cell? ⟨bx,0,none⟩=some (.string xn)∧w'.cell? ⟨bx,1,none⟩=some (.string xv)∧w'.cell? ⟨bye,0,none⟩=some (.string yn)∧w'.cell? ⟨bye,1,none⟩=some (.string yv)) [4,9,10,11] [0,1,2,3,5,6,7,8,4,9,10,11,12] (by kernel_rfl) (by kernel_rfl) (by kernel_rfl) ?_ ?_ ?_
 ·intro c a a' w hd h;cases h.1
 ·exact ⟨HX.out.cell 0,HX.out.cell 1,HY.out.cell 0,HY.out.cell 1⟩
 simp only [taken,List.map_cons,List.map_nil,List.getElem?_cons_succ,List.getElem?_cons_zero,Option.getD_some]
 generalize w2.drew=w3 at *
 repeat (first
        | (refine takeH_skip rfl ?_; simp only [Act.put, List.setIfInBounds_toArray, List.set_cons_succ, List.set_cons_zero])
        | (refine takeH_blind rfl rfl ?_; apply Exists.intro; refine ⟨fun w => ?_, ?_⟩; (go_simp; try with_reducible rfl); simp only [Act.put, List.setIfInBounds_toArray, List.set_cons_succ, List.set_cons_zero])
        | (refine takeH_reads rfl rfl ?_; apply Exists.intro; refine ⟨fun w' hS => ?_, ?_⟩; (obtain ⟨d0, d1, d2, d3⟩ := HS.out w' hS; go_simp; try with_reducible rfl); simp only [Act.put, List.setIfInBounds_toArray, List.set_cons_succ, List.set_cons_zero]))
 refine takeH_call rfl rfl (fun K' hK=>?_)
 go_wp2_with fail
 refine (HC1.out _).mono ?_
 rintro en w4 ⟨rfl,rfl⟩
 refine hK _ _ ⟨HX.out.cell 0,HX.out.cell 1,HY.out.cell 0,HY.out.cell 1⟩ ?_
 clear hK K' HC1
 repeat (first
        | (refine takeH_skip rfl ?_; simp only [Act.put, List.setIfInBounds_toArray, List.set_cons_succ, List.set_cons_zero])
        | (refine takeH_blind rfl rfl ?_; apply Exists.intro; refine ⟨fun w => ?_, ?_⟩; (go_simp; try with_reducible rfl); simp only [Act.put, List.setIfInBounds_toArray, List.set_cons_succ, List.set_cons_zero])
        | (refine takeH_reads rfl rfl ?_; apply Exists.intro; refine ⟨fun w' hS => ?_, ?_⟩; (obtain ⟨d0, d1, d2, d3⟩ := HS.out w' hS; go_simp; try with_reducible rfl); simp only [Act.put, List.setIfInBounds_toArray, List.set_cons_succ, List.set_cons_zero]))
 refine takeH_call rfl rfl (fun K' hK=>?_)
 go_wp2_with fail
 refine (HC2.out _).mono ?_
 rintro en w5 ⟨rfl,rfl⟩
 refine hK _ _ ⟨HX.out.cell 0,HX.out.cell 1,HY.out.cell 0,HY.out.cell 1⟩ ?_
 clear hK K' HC2
 obtain ⟨w6,hw6⟩:∃w6,w6=w5.alloc (.cells #[.int .i64 o1,.int .i64 o2] 3):=⟨_,rfl⟩
 have HW6:Hid (w5.alloc (.cells #[.int .i64 o1,.int .i64 o2] 3)=w6):=hw6.symm
 have HG6:Hid (Grw w w6):=by show Grw _ _;rw [hw6];exact HG.out.alloc _
 have HX6:Hid (Blk w6 bx [.string xn,.string xv]):=by show Blk _ _ _;rw [hw6];exact HX.out.alloc _
 have HY6:Hid (Blk w6 bye [.string yn,.string yv]):=by show Blk _ _ _;rw [hw6];exact HY.out.alloc _
 have HRd:Hid (Rd w6 1 (.slice (some ⟨w5.heap.size,0,none⟩) 2 2) [o1,o2].length (i64s [o1,o2])):=by
  show Rd _ _ _ _ _
  rw [hw6];exact Rd.of_blk (n:=2) (Blk.new w5 _ _) rfl (by simp [maxLen])
 have HOr:=Lib.hid (cmpOr_any _ [o1,o2] w6 HRd.out (by simp))
 rw [HE.out] at HOr
 clear hw6 HX HY HG HRd HE
 repeat (first
        | (refine takeH_skip rfl ?_; simp only [Act.put, List.setIfInBounds_toArray, List.set_cons_succ, List.set_cons_zero])
        | (refine takeH_blind rfl rfl ?_; apply Exists.intro; refine ⟨fun w => ?_, ?_⟩; (go_simp; try with_reducible rfl); simp only [Act.put, List.setIfInBounds_toArray, List.set_cons_succ, List.set_cons_zero])
        | (refine takeH_reads rfl rfl ?_; apply Exists.intro; refine ⟨fun w' hS => ?_, ?_⟩; (obtain ⟨d0, d1, d2, d3⟩ := HS.out w' hS; go_simp; try with_reducible rfl); simp only [Act.put, List.setIfInBounds_toArray, List.set_cons_succ, List.set_cons_zero]))
 refine takeH_call rfl rfl (fun K' hK=>?_)
 go_wp2_with fail
 rw [HW6.out]
 refine hK _ _ ⟨HX6.out.cell 0,HX6.out.cell 1,HY6.out.cell 0,HY6.out.cell 1⟩ ?_
 clear hK K' HW6
 repeat (first
        | (refine takeH_skip rfl ?_; simp only [Act.put, List.setIfInBounds_toArray, List.set_cons_succ, List.set_cons_zero])
        | (refine takeH_blind rfl rfl ?_; apply Exists.intro; refine ⟨fun w => ?_, ?_⟩; (go_simp; try with_reducible rfl); simp only [Act.put, List.setIfInBounds_toArray, List.set_cons_succ, List.set_cons_zero])
        | (refine takeH_reads rfl rfl ?_; apply Exists.intro; refine ⟨fun w' hS => ?_, ?_⟩; (obtain ⟨d0, d1, d2, d3⟩ := HS.out w' hS; go_simp; try with_reducible rfl); simp only [Act.put, List.setIfInBounds_toArray, List.set_cons_succ, List.set_cons_zero]))
 refine takeH_call rfl rfl (fun K' hK=>?_)
 go_wp2_with fail
 refine HOr.out.mono ?_
 rintro en w7 ⟨rfl,rfl⟩
 refine hK _ _ ⟨HX6.out.cell 0,HX6.out.cell 1,HY6.out.cell 0,HY6.out.cell 1⟩ ?_
 clear hK K' HOr
 repeat (first
        | (refine takeH_skip rfl ?_; simp only [Act.put, List.setIfInBounds_toArray, List.set_cons_succ, List.set_cons_zero])
        | (refine takeH_blind rfl rfl ?_; apply Exists.intro; refine ⟨fun w => ?_, ?_⟩; (go_simp; try with_reducible rfl); simp only [Act.put, List.setIfInBounds_toArray, List.set_cons_succ, List.set_cons_zero])
        | (refine takeH_reads rfl rfl ?_; apply Exists.intro; refine ⟨fun w' hS => ?_, ?_⟩; (obtain ⟨d0, d1, d2, d3⟩ := HS.out w' hS; go_simp; try with_reducible rfl); simp only [Act.put, List.setIfInBounds_toArray, List.set_cons_succ, List.set_cons_zero]))
 refine takeH_nil ?_
 go_wp2_with fail
 go_ret
 exact ⟨rfl,HG6.out⟩
theorem build_order (x y:Lab) (p q:Option Addr) (n c m d:Nat) (w:World) :
  Calls Tryz.prog 108 #[.agg #[.string x.1,.string x.2,.slice p n c],.agg #[.string y.1,.string y.2,.slice q m d]] w fun e w'=>e = .returned (.int .i64 (cmpLab x y))∧Grw w w':=by
 obtain ⟨xn,xv⟩:=x
 obtain ⟨yn,yv⟩:=y
 show Calls Tryz.prog 108 #[.agg #[.string xn,.string xv,.slice p n c],.agg #[.string yn,.string yv,.slice q m d]] w fun e w'=>e = .returned (.int .i64 (cmpLab (xn,xv) (yn,yv)))∧Grw w w'
 obtain ⟨w1,hw1⟩:∃w1,w1=w.alloc (.cells #[.string xn,.string xv,.slice p n c] 157):=⟨_,rfl⟩
 obtain ⟨w2,hw2⟩:∃w2,w2=w1.alloc (.cells #[.string yn,.string yv,.slice q m d] 157):=⟨_,rfl⟩
 have HW:Hid ((w.alloc (.cells #[.string xn,.string xv,.slice p n c] 157)).alloc (.cells #[.string yn,.string yv,.slice q m d] 157)=w2):=by show _=_;rw [hw2,hw1]
 have HG:Hid (Grw w w2):=by show Grw _ _;rw [hw2,hw1];exact ((Grw.refl w).alloc _).alloc _
 have hs1:w1.heap.size=w.heap.size+1:=by rw [hw1];simp
 have hX:Blk w2 w.heap.size [.string xn,.string xv,.slice p n c]:=by rw [hw2,hw1];exact (Blk.new w _ _).alloc _
 have hY:Blk w2 (w.heap.size+1) [.string yn,.string yv,.slice q m d]:=by rw [← hs1,hw2];exact Blk.new w1 _ _
 have x0:w2.cell? ⟨w.heap.size,0,none⟩=some (.string xn):=hX.cell 0
 have x1:w2.cell? ⟨w.heap.size,1,none⟩=some (.string xv):=hX.cell 1
 have y0:w2.cell? ⟨w.heap.size+1,0,none⟩=some (.string yn):=hY.cell 0
 have y1:w2.cell? ⟨w.heap.size+1,1,none⟩=some (.string yv):=hY.cell 1
 have HC:=Lib.hid (po_compare (xn,xv) (yn,yv) w2)
 clear hw1 hw2 hX hY hs1
 generalize cmpLab (xn,xv) (yn,yv)=o at *
 go_enter Tryz.func108,Tryz.ntmps108
 go_wp2_with fail
 rw [HW.out]
 clear HW
 go_wp2_with fail
 refine HC.out.mono ?_
 rintro e w3 ⟨rfl,hG⟩
 have HG2:=Lib.hid (HG.out.trans hG)
 clear HC hG x0 x1 y0 y1
 go_wp2_with fail
 go_ret
 exact ⟨rfl,HG2.out⟩
end Go.Proofs.YtdcgbgecbeegmaaGreatDoor
end
section
set_option maxRecDepth 20000
namespace Go.Proofs.YtdcgbgecbeegmaaGreatDoor
open Go Go.RowKit
def renSortEnt:Go.Shelf.Ren:=⟨fun | 6=>107 | 14=>147 | 15=>122 | 20=>199 | 21=>200 | 22=>201 | 23=>202 | 24=>203 | 25=>204 | 26=>205 | 27=>206 | 28=>168 | 29=>169 | 46=>244 | 47=>218 | 48=>219 | 49=>245 | 50=>246 | 57=>284 | n=>n,fun | 0=>0 | 3=>3 | 4=>4 | 5=>5 | 9=>9 | 22=>104 | 24=>157 | 25=>164 | 39=>177 | 45=>223 | 46=>224 | 50=>158 | 53=>139 | 55=>81 | 66=>267 | 70=>271 | 76=>321 | 77=>210 | n=>n,fun n=>n⟩
theorem laysSortEnt:Go.Proofs.SlLaysF0.n6 Tryz.prog renSortEnt:={ mixed:=by kernel_rfl,f6:=⟨ "slices.SortFunc[[]tsblock/postings.Entry,tsblock/postings.Entry]",by decide,Tryz.func107.trans (congrArg some (by kernel_rfl))⟩,f14:=⟨ "slices.pdqsortCmpFunc[tsblock/postings.Entry]",by decide,Tryz.func147.trans (congrArg some (by kernel_rfl))⟩,f15:=Tryz.func122.trans (congrArg some (by kernel_rfl)),f20:=⟨ "slices.insertionSortCmpFunc[tsblock/postings.Entry]",by decide,Tryz.func199.trans (congrArg some (by kernel_rfl))⟩,f21:=⟨ "slices.heapSortCmpFunc[tsblock/postings.Entry]",by decide,Tryz.func200.trans (congrArg some (by kernel_rfl))⟩,f22:=⟨ "slices.breakPatternsCmpFunc[tsblock/postings.Entry]",by decide,Tryz.func201.trans (congrArg some (by kernel_rfl))⟩,f23:=⟨ "slices.choosePivotCmpFunc[tsblock/postings.Entry]",by decide,Tryz.func202.trans (congrArg some (by kernel_rfl))⟩,f24:=⟨ "slices.reverseRangeCmpFunc[tsblock/postings.Entry]",by decide,Tryz.func203.trans (congrArg some (by kernel_rfl))⟩,f25:=⟨ "slices.partialInsertionSortCmpFunc[tsblock/postings.Entry]",by decide,Tryz.func204.trans (congrArg some (by kernel_rfl))⟩,f26:=⟨ "slices.partitionEqualCmpFunc[tsblock/postings.Entry]",by decide,Tryz.func205.trans (congrArg some (by kernel_rfl))⟩,f27:=⟨ "slices.partitionCmpFunc[tsblock/postings.Entry]",by decide,Tryz.func206.trans (congrArg some (by kernel_rfl))⟩,f28:=Tryz.func168.trans (congrArg some (by kernel_rfl)),f29:=Tryz.func169.trans (congrArg some (by kernel_rfl)),f46:=⟨ "slices.siftDownCmpFunc[tsblock/postings.Entry]",by decide,Tryz.func244.trans (congrArg some (by kernel_rfl))⟩,f47:=Tryz.func218.trans (congrArg some (by kernel_rfl)),f48:=Tryz.func219.trans (congrArg some (by kernel_rfl)),f49:=⟨ "slices.medianAdjacentCmpFunc[tsblock/postings.Entry]",by decide,Tryz.func245.trans (congrArg some (by kernel_rfl))⟩,f50:=⟨ "slices.medianCmpFunc[tsblock/postings.Entry]",by decide,Tryz.func246.trans (congrArg some (by kernel_rfl))⟩,f57:=⟨ "slices.order2CmpFunc[tsblock/postings.Entry]",by decide,Tryz.func284.trans (congrArg some (by kernel_rfl))⟩,t0:=Tryz.underlying0,a0:=Tryz.isAgg0,z0:=Tryz.sizeOf0,v0:=Tryz.zeroValue0,t3:=Tryz.underlying3,a3:=Tryz.isAgg3,z3:=Tryz.sizeOf3,v3:=Tryz.zeroValue3,t4:=Tryz.underlying4,a4:=Tryz.isAgg4,z4:=Tryz.sizeOf4,v4:=Tryz.zeroValue4,t5:=Tryz.underlying5,a5:=Tryz.isAgg5,z5:=Tryz.sizeOf5,v5:=Tryz.zeroValue5,t9:=Tryz.underlying9,a9:=Tryz.isAgg9,z9:=Tryz.sizeOf9,v9:=Tryz.zeroValue9,t22:=Tryz.underlying104,a22:=Tryz.isAgg104,z22:=Tryz.sizeOf104,v22:=Tryz.zeroValue104,t25:=Tryz.underlying164,a25:=Tryz.isAgg164,z25:=Tryz.sizeOf164,v25:=Tryz.zeroValue164,t39:=Tryz.underlying177,a39:=Tryz.isAgg177,z39:=Tryz.sizeOf177,v39:=Tryz.zeroValue177,t45:=Tryz.underlying223,a45:=Tryz.isAgg223,z45:=Tryz.sizeOf223,v45:=Tryz.zeroValue223,t46:=Tryz.underlying224,a46:=Tryz.isAgg224,z46:=Tryz.sizeOf224,v46:=Tryz.zeroValue224,t50:=Tryz.underlying158,a50:=Tryz.isAgg158,z50:=Tryz.sizeOf158,v50:=Tryz.zeroValue158,t53:=Tryz.underlying139,a53:=Tryz.isAgg139,z53:=Tryz.sizeOf139,v53:=Tryz.zeroValue139,t55:=Tryz.underlying81,a55:=Tryz.isAgg81,z55:=Tryz.sizeOf81,v55:=Tryz.zeroValue81,t66:=Tryz.underlying267,a66:=Tryz.isAgg267,z66:=Tryz.sizeOf267,v66:=Tryz.zeroValue267,t70:=Tryz.underlying271,a70:=Tryz.isAgg271,z70:=Tryz.sizeOf271,v70:=Tryz.zeroValue271,t76:=Tryz.underlying321,a76:=Tryz.isAgg321,z76:=Tryz.sizeOf321,v76:=Tryz.zeroValue321,t77:=Tryz.underlying210,a77:=Tryz.isAgg210,z77:=Tryz.sizeOf210,v77:=Tryz.zeroValue210 }
abbrev EntEl (w:World) (g:Nat):Type:={p:EntV // Rd w 1 p.2 p.1.2.length (i64s p.1.2)∧SerOff1 (fun k=>k=g) p.2 p.1.2}
instance (w:World) (g:Nat):Inhabited (EntEl w g):=⟨⟨(((⟨#[]⟩,⟨#[]⟩),[]),.slice none 0 0),⟨Rd.nil _ _,fun e=>absurd rfl e⟩⟩⟩
section
variable {w:World} {g:Nat}
def encEn (x:EntEl w g):List Value:=entC x.1
theorem encEn_one (x:EntEl w g):∀v∈encEn x,v.oneCell'=true:=by
 intro v hv
 obtain ⟨p1,c1,e1⟩:=x.2.1.shape
 simp only [encEn,entC,List.mem_cons,List.not_mem_nil,or_false] at hv
 rcases hv with rfl | rfl | rfl
 ·rfl
 ·rfl
 ·rw [e1];rfl
def cmpEn (x y:EntEl w g):Int:=cmpLab x.1.1.1 y.1.1.1
theorem ltOf_cmpEn:ltOf (cmpEn (w:=w) (g:=g))=fun x y=>ltE x.1.1.1 y.1.1.1:=by
 funext x y
 show decide (cmpLab x.1.1.1 y.1.1.1<0)=decide (cmpLab x.1.1.1 y.1.1.1 = -1)
 rw [decide_eq_decide]
 have:=cmpLab_ok.dom x.1.1.1 y.1.1.1
 omega
theorem swo_cmpEn:Go.Sort.SWO (ltOf (cmpEn (w:=w) (g:=g))):=by
 rw [ltOf_cmpEn]
 refine ⟨fun x=>ltE_ok.irr _,fun x y z=>ltE_ok.tr _ _ _,fun x y z h1 h2=>?_⟩
 rcases Bool.eq_false_or_eq_true (ltE x.1.1.1 z.1.1.1) with e | e
 ·rcases Bool.eq_false_or_eq_true (ltE y.1.1.1 x.1.1.1) with f | f
  ·have:=ltE_ok.tr _ _ _ f e
   rw [h2] at this;cases this
  ·have hxy:=ltE_ok.tot _ _ h1 f
   rw [hxy,h2] at e;cases e
 ·exact e
theorem encEn_flat (l:List (EntEl w g)):l.flatMap encEn=entCells (l.map fun x=>x.1):=by
 induction l with
 | nil=>rfl
 | cons x l ih=>rw [List.flatMap_cons,ih];rfl
end
theorem sort_ent (w0 w:World) (v:Value) (M:List EntV) (h:EnAt 157 w0 w M v) (hn:M.length≤1000000) :
  Calls Tryz.prog 107 #[v,.func (.func 108) #[] #[]] w fun e w'=>e = .returned (.tuple #[])∧∃M',List.Perm M' M∧M'.Pairwise (fun a b=>ltE b.1.1 a.1.1=false)∧EnAt 157 w0 w' M' v:=by
 have hrow:=h.row
 rcases hrow.2 with ⟨hv,h0⟩ | ⟨g,cap,cur,hv,hbase,hgb,r1,r2,r3,r4⟩
 ·subst hv
  refine (AnyF.slices_SortFunc_none laysSortEnt none 0 _ w).mono ?_
  rintro e w' ⟨rfl,rfl⟩
  have hb0:M=[]:=List.eq_nil_of_length_eq_zero h0
  exact ⟨rfl,M,List.Perm.refl _,by rw [hb0];exact List.Pairwise.nil,h⟩
 ·subst hv
  have hall:∀p∈M,Rd w 1 p.2 p.1.2.length (i64s p.1.2)∧SerOff1 (fun k=>k=g) p.2 p.1.2:=fun p hp=>
   ⟨(h.ser p hp).1,fun e k hk hg=>(h.ser p hp).2 e k hk (by rw [hg];rfl)⟩
  obtain ⟨l,hlm⟩:∃l:List (EntEl w g),l.map Subtype.val=M:=⟨M.pmap (fun p h=>⟨p,h⟩) hall,by rw [List.map_pmap];exact (List.pmap_eq_map (f:=id) _).trans (List.map_id _)⟩
  have hl1:l.map (fun x=>x.1)=M:=hlm
  have hln:M.length=l.length:=by rw [← hl1,List.length_map]
  rw [← hl1,← encEn_flat,List.length_map] at r4
  have hk:∀x:EntEl w g,(encEn x).length=3:=fun _=>rfl
  have hH:Go.Sort.HoldsK encEn 3 w g 0 l.toArray:=holdsK_of_block encEn 3 hk (by decide) hgb r4
  have hC:=AnyQ.slices_SortFunc laysSortEnt 3 Tryz.isAgg157 Tryz.sizeOf157 encEn hk encEn_one cmpEn swo_cmpEn 108 #[] g 0 cap l.toArray w
   (fun _ _=>rfl) (fun m os dk _ x y=>by
    obtain ⟨p1,c1,e1⟩:=x.2.1.shape
    obtain ⟨p2,c2,e2⟩:=y.2.1.shape
    have hc:=build_order x.1.1.1 y.1.1.1 p1 p2 x.1.1.2.length c1 y.1.1.2.length c2
    have hx:encEn x=[.string x.1.1.1.1,.string x.1.1.1.2,.slice p1 x.1.1.2.length c1]:=by rw [← e1];rfl
    have hy:encEn y=[.string y.1.1.1.1,.string y.1.1.1.2,.slice p2 y.1.1.2.length c2]:=by rw [← e2];rfl
    rw [hx,hy]
    exact hc _) hH (Array.getElem?_eq_some_iff.1 hgb).1 (by simp;omega)
  have hsz:l.toArray.size=l.length:=by simp
  rw [hsz,← hln] at hC
  refine hC.mono ?_
  rintro e w' ⟨rfl,d',n,os,hp,hsr,rfl⟩
  have hds:d'.size=M.length:=by rw [hp.1,hsz,hln]
  have hm:=mods_sortedK (w:=w) (g:=g) (n:=n) (os:=os) (Go.Sort.flatK encEn 3 d')
  have h3:d'.toList.Perm l:=by
   have h3:=hp.2.2
   rw [show d'.extract 0 M.length=d' by rw [← hds];exact Array.extract_size] at h3
   rw [hln,show l.toArray.extract 0 l.length=l.toArray by rw [← hsz];exact Array.extract_size] at h3
   exact h3
  have hbg:w0.heap.size≤g:=hbase
  refine ⟨rfl,d'.toList.map (fun x=>x.1),?_,?_,⟨?_,?_,?_⟩⟩
  ·rw [← hl1];exact h3.map _
  ·refine List.pairwise_map.2 (List.pairwise_iff_getElem.2 ?_)
   intro i j hi hj hij
   have h4:=hsr i j (Nat.zero_le _) hij (by rw [← hds];simpa using hj)
   rw [ltOf_cmpEn,getElem!_pos d' i (by simpa using hi),getElem!_pos d' j (by simpa using hj)] at h4
   simpa using h4
  ·have h5:=ownsRow_sortedK encEn 3 hk (by decide) (n:=n) (os:=os) (d:=d') hds hbase hgb r1 r2 r3
   rw [encEn_flat] at h5
   rw [List.length_map,show d'.toList.length=M.length by rw [← hds];simp]
   exact h5
  ·exact h.bel.trans (hm.below h.bel.size (fun k hk e=>by have:k=g:=e;omega))
  ·intro p hp'
   obtain ⟨x,hx,rfl⟩:=List.mem_map.1 hp'
   refine ⟨x.2.1.mods' hm (fun e k hk hg=>x.2.2 (i64s_ne15 e) k hk hg),fun e k hk hg=>x.2.2 e k hk ?_⟩
   simpa [Value.ownBlock] using hg.symm
end Go.Proofs.YtdcgbgecbeegmaaGreatDoor
end
section
set_option maxRecDepth 20000
namespace Go.Proofs.YtdcgbgecbeegmaaGreatDoor
open Go Go.RowKit
theorem elemEntP:Elem Tryz.prog 104 157 3 56:=Elem.mk' (z:=.agg #[.string ⟨#[]⟩,.string ⟨#[]⟩,.slice none 0 0]) Tryz.underlying104 (by kernel_rfl) rfl (by decide)
end Go.Proofs.YtdcgbgecbeegmaaGreatDoor
end
section
set_option maxRecDepth 20000
namespace Go.Proofs.YtdcgbgecbeegmaaGreatDoor
open Go Go.RowKit Go.Maps
theorem elemRow15:Elem Tryz.prog 59 3 1 8:=Elem.mk' (z:=.int .i64 0) Tryz.underlying59 (by kernel_rfl) rfl (by decide)
set_option maxHeartbeats 16000000 in
theorem prg_build15 (mv : Value) (m : List (List Lab)) (w : World) (hm : RdBL w mv m) (hn : m.length ≤ 1000000) (hfl : m.flatten.length ≤ 1000000) (hnd : ∀ s ∈ m, s.Nodup) (hsz : ∀ x ∈ m.flatten, LabFits x) :
    Calls Tryz.prog 66 #[mv] w fun e w' => ∃ v, e = .returned v ∧ RdE w' v (buildP m) ∧ Below w.heap.size w w' := by
  have HM := Lib.hid hm; have HN := Lib.hid hn; have HFl := Lib.hid hfl; have HNd := Lib.hid hnd; have HSz := Lib.hid hsz
  obtain ⟨pm, cm, hv⟩ := hm.shape
  subst hv
  have hni : (m.length : Int) ≤ 1000000 := by omega
  have hmm := @run_makeMap Tryz.prog
  have HB0 : Hid (Below w.heap.size w (w.alloc (.map #[] 0))) := (Below.refl _ _).alloc (Nat.le_refl _) _
  have HG0 : Hid (Grp (w.alloc (.map #[] 0)) w.heap.size (w.heap.size + 1) (flatTo m 0).length (posTo m 0)) := (Grp.made w).congr (fun x => rfl)
  clear hm hn hfl hnd hsz
  go_enter Tryz.func66, Tryz.ntmps66
  go_wp2_with fail
  clear hmm
  go_loopw [14] (fun iv wr => ∃ (k : Nat), k ≤ m.length ∧ iv = .int .i64 (k : Int) ∧ Hid (Grp wr w.heap.size (w.heap.size + 1) (flatTo m k).length (posTo m k)) ∧ Hid (Below w.heap.size w wr)) (fun iv _ => m.length - (intOf iv).toNat)
  case atStart => exact ⟨0, Nat.zero_le _, rfl, HG0.out, HB0.out⟩
  case round =>
    obtain ⟨k, hk, rfl, HG, HB⟩ := hrel
    have hkm : (k : Int) ≤ 1000000 := by omega
    by_cases hlt : k < m.length
    · have hlt' : (k : Int) < (m.length : Int) := by omega
      obtain ⟨s, hs⟩ : ∃ s, m[k]? = some s := ⟨_, List.getElem?_eq_getElem hlt⟩
      obtain ⟨blk, off, p1, c1, e, hat⟩ := HM.out.always hs
      subst e
      have d0 := (hat wr HB.out).1
      have HAt : Hid (∀ w', Below w.heap.size w w' → Rd w' 2 (.slice p1 s.length c1) s.length (labCells s)) := fun w' hb => (hat w' hb).2
      have HS := Lib.hid hs
      have hmem := List.mem_of_getElem? hs
      have HSn : Hid (s.Nodup) := HNd.out s hmem
      have HSf : Hid (∀ x ∈ s, LabFits x) := fun x hx => HSz.out x (List.mem_flatten.2 ⟨s, hmem, hx⟩)
      have HLn : Hid ((flatTo m k).length + s.length ≤ 1000000) := by
        show _ ≤ _
        rw [← flatTo_len hs]
        exact Nat.le_trans (flatTo_le m _) HFl.out
      have hsi : (s.length : Int) ≤ 1000000 := by have := HLn.out; omega
      have HG1 : Hid (Grp wr w.heap.size (w.heap.size + 1) ((flatTo m k).length + 0) (rowsTo m k s 0)) := HG.out.congr (rowsTo_zero m k s)
      have HBo := Lib.hid HB.out
      clear hs hat hmem HG HG0 HB0
      go_wp2_with fail
      obtain ⟨wq, hwq⟩ : ∃ wq, wq = wr := ⟨_, rfl⟩
      rw [← hwq] at HG1 HBo d0 HB ⊢
      clear hwq
      go_loopw [21] (fun jv wr => ∃ (j : Nat), j ≤ s.length ∧ jv = .int .i64 (j : Int) ∧ Hid (Grp wr w.heap.size (w.heap.size + 1) ((flatTo m k).length + j) (rowsTo m k s j)) ∧ Hid (Below w.heap.size w wr)) (fun jv _ => s.length - (intOf jv).toNat)
      case atStart => exact ⟨0, Nat.zero_le _, rfl, HG1.out, HBo.out⟩
      case round =>
        obtain ⟨j, hj, rfl, HG, HBj⟩ := hrel
        clear HG1 HBo d0 HB
        have hjm : (j : Int) ≤ 1000000 := by omega
        by_cases hjl : j < s.length
        · have hjl' : (j : Int) < (s.length : Int) := by omega
          obtain ⟨x, hx⟩ : ∃ x, s[j]? = some x := ⟨_, List.getElem?_eq_getElem hjl⟩
          obtain ⟨b1, o1, e, hlab⟩ := rdLab_at (HAt.out wr HBj.out) hx
          subst e
          obtain ⟨c0, c1'⟩ := hlab wr (Below.refl _ _)
          have HXf := Lib.hid (HSf.out x (List.mem_of_getElem? hx))
          have HSt := Lib.hid (rowsTo_step (m := m) (k := k) HSn.out hx)
          obtain ⟨xn, xv⟩ := x
          simp only at c0 c1'
          obtain ⟨w2, hw2⟩ : ∃ w2, w2 = (wr.alloc (.cells #[.string xn, .string xv] 108)).alloc (.cells #[.int .i64 (k : Int)] 3) := ⟨_, rfl⟩
          have HW : Hid ((wr.alloc (.cells #[.string xn, .string xv] 108)).alloc (.cells #[.int .i64 (k : Int)] 3) = w2) := hw2.symm
          have hb2 : Below wr.heap.size wr w2 := by rw [hw2]; exact ((Below.refl _ wr).alloc (Nat.le_refl _) _).alloc (by simp) _
          have hs2 : w2.heap.size = wr.heap.size + 2 := by rw [hw2]; simp
          have hk2 : Blk w2 (wr.heap.size + 1) [.int .i64 (k : Int)] := by
            rw [hw2]
            have h := Blk.new (wr.alloc (.cells #[.string xn, .string xv] 108)) #[.int .i64 (k : Int)] 3
            have e : (wr.alloc (.cells #[.string xn, .string xv] 108)).heap.size = wr.heap.size + 1 := by simp
            rwa [e] at h
          have hg2 := HG.out.below hb2
          have HLj : Hid ((flatTo m k).length + j + 1 ≤ 1000000) := by show _ ≤ _; have := HLn.out; omega
          obtain ⟨v0, st, w3, hrun, hown, hmods, hsz3, hback⟩ := grp_entry hg2 (by have := HLj.out; unfold maxLen; omega) (xn, xv) HXf.out
          have HBw : Hid (w.heap.size < wr.heap.size) := by
            show _ < _
            obtain ⟨es, clock, g⟩ := HG.out
            exact (Array.getElem?_eq_some_iff.1 g.blk).1
          have HR3 : Hid (Rd w3 1 (.slice (some ⟨wr.heap.size + 1, 0, none⟩) 1 1) 1 [.int .i64 (k : Int)]) := Rd.of_blk (n := 1) (hmods.blk hk2 (fun e => by have := HBw.out; omega)) rfl (by simp [maxLen])
          have HLr : Hid ((rowsTo m k s j (xn, xv)).length ≤ 1000000) := Nat.le_trans (rowsTo_len m k s j _) (by omega)
          generalize rowsTo m k s j (xn, xv) = R at *
          obtain ⟨pv, cv, hv0⟩ := (Rd.of_owns hown).shape
          subst hv0
          have HRun : Hid ((Instr.mapEntry 161 (.map (some w.heap.size)) (.agg #[.string xn, .string xv])).run Tryz.prog ((wr.alloc (.cells #[.string xn, .string xv] 108)).alloc (.cells #[.int .i64 (k : Int)] 3)) = .ok (.tuple #[.slice pv R.length cv, .int .i64 (st : Int)]) w3) := by show _ = _; rw [HW.out]; exact hrun
          have HOw : Hid (w3.ownsRow 0 3 1 (.slice pv R.length cv) R.length (i64s R)) := owns_rebase hown (fun _ _ => Nat.zero_le _)
          have HOb : Hid (∀ kk, (Value.slice pv R.length cv).ownBlock = some kk → w.heap.size + 1 ≤ kk) := fun kk hkk => (hown.lt kk hkk).1
          have HBk := Lib.hid hback
          have HS3 : Hid (w3.heap.size = wr.heap.size + 2) := hsz3.trans hs2
          have HB3 : Hid (Below w.heap.size w w3) := (HBj.out.trans (hb2.mono (Nat.le_of_lt HBw.out))).trans (hmods.below (by rw [hs2]; have := HBw.out; omega) (fun kk hkk e => by omega))
          have HLx : Hid ((R.length + 1) * 8 ≤ 140737488355328 ∧ R.length + 1 ≤ maxLen) := by show _ ∧ _; have := HLr.out; unfold maxLen; omega
          clear hw2 hb2 hs2 hk2 hg2 hrun hown hmods hsz3 hback hlab hx HG HBj HW
          go_wp2_with (first
            | (refine wpList_mapEntry15 rfl _ _ _ rfl HRun.out rfl rfl ?_)
            | (at_builtin; refine wpList_extend elemRow15 _ _ _ _ _ _ _ HOw.out HR3.out (by simp [Value.oneCell']) HLx.out rfl _ _ rfl rfl rfl ?_; intro v4 w4 k4 m4 f4
               have hown4 : w4.ownsRow (w.heap.size + 1) 3 1 v4 (R ++ [(k : Int)]).length (i64s (R ++ [(k : Int)])) := by
                 have e : i64s (R ++ [(k : Int)]) = i64s R ++ [.int .i64 (k : Int)] := by simp [i64s]
                 rw [e, List.length_append]
                 refine owns_rebase k4 (fun kk hkk => ?_)
                 rcases f4 kk hkk with f | f
                 · exact HOb.out kk f
                 · have := HS3.out; have := HBw.out; omega
               obtain ⟨w5, hrun5, hg5, hm5⟩ := HBk.out w4 v4 (k : Int) m4 hown4 f4
               have HG5 : Hid (Grp w5 w.heap.size (w.heap.size + 1) ((flatTo m k).length + (j + 1)) (rowsTo m k s (j + 1))) := hg5.congr HSt.out
               have HB5 : Hid (Below w.heap.size w w5) := (HB3.out.trans (m4.below (by have := HS3.out; have := HBw.out; omega) (fun kk hkk e => by have := HOb.out kk e; omega))).trans (hm5.below (by have := m4.size; have := HS3.out; have := HBw.out; omega) (fun kk hkk e => by omega))
               have hrun5' : (Instr.entryStore 161 (.map (some w.heap.size)) (.int .i64 (st : Int)) v4).run Tryz.prog w4 = .ok () w5 := hrun5
               clear hown4 hrun5 hg5 hm5 k4 m4 f4))
          clear hrun5'
          go_round
          case rel => exact ⟨j + 1, by omega, by go_num, HG5.out, HB5.out⟩
          case measure => simp [intOf]; omega
        · have hjl' : ¬ (j : Int) < (s.length : Int) := by omega
          have HG2 : Hid (Grp wr w.heap.size (w.heap.size + 1) (flatTo m (k + 1)).length (posTo m (k + 1))) := by
            show Grp _ _ _ _ _
            have e : (flatTo m (k + 1)).length = (flatTo m k).length + j := by rw [flatTo_len HS.out]; omega
            rw [e]
            exact HG.out.congr (rowsTo_end HS.out j (by omega))
          clear HG
          go_wp2_with fail
          go_round
          case rel => exact ⟨k + 1, by omega, by go_num, HG2.out, HBj.out⟩
          case measure => simp [intOf]; omega
    · have hlt' : ¬ (k : Int) < (m.length : Int) := by omega
      obtain rfl : k = m.length := by omega
      obtain ⟨D, hown, hmap⟩ := HG.out.mapOf
      have HOw := Lib.hid hown; have HMp := Lib.hid hmap
      have HNf : Hid ((flatTo m m.length).length ≤ 1000000) := Nat.le_trans (flatTo_le m _) HFl.out
      have HBw : Hid (w.heap.size < wr.heap.size) := by
        show _ < _
        obtain ⟨es, clock, g⟩ := HG.out
        exact (Array.getElem?_eq_some_iff.1 g.blk).1
      obtain ⟨N, hN⟩ : ∃ N, (flatTo m m.length).length = N := ⟨_, rfl⟩
      rw [hN] at HOw HNf
      have HSzD : Hid (Maps.size D ≤ N) := HOw.out.size_le
      clear hown hmap hN HG HG0 HB0 hk hlt
      go_wp2_with (first
        | (at_range; refine wpList_range_own _ rfl _ 161 rfl 108 59 keyedLab15 Tryz.underlying161 _ w.heap.size N D rfl HOw.out ?_; intro w0 hrg0 hg0 hs0)
        | go_in)
      try go_frame
      obtain ⟨rb, hrb⟩ : ∃ rb, wr.heap.size = rb := ⟨_, rfl⟩
      have HRb := Lib.hid hrb
      rw [hrb] at hrg0 HBw ⊢
      have HB00 : Hid (Below rb wr w0) := by show Below _ _ _; rw [← hrb]; exact ⟨hg0.os, hg0.tape, hg0.output, hg0.size, fun i hi => hg0.block i hi (by simp)⟩
      have HR0 := Lib.hid hrg0
      have HE0 : Hid (EnAt 157 w w0 [] (.slice none 0 0)) := ⟨World.ownsRow_nil _ _ _ _, HB.out.trans (HB00.out.mono (by have := HBw.out; omega)), fun p hp => by cases hp⟩
      have HBo := Lib.hid HB.out
      obtain ⟨wq, hwq⟩ : ∃ wq, wq = wr := ⟨_, rfl⟩
      rw [← hwq] at HRb HB00 HMp HOw HBo
      clear hrg0 hg0 hs0 hrb hwq HB HOw
      go_loopw [8] (fun v wr => ∃ (left : Lit → Bool) (cnt : Nat) (M : List EntV), Hid (wr.ranges Tryz.prog 108 R15 w.heap.size rb N D left cnt) ∧ Hid (M.length + cnt ≤ N) ∧ Hid (EnAt 157 w wr M v) ∧ Hid (∀ k, v.ownBlock = some k → rb < k) ∧ Hid (ColE D left (M.map fun p => p.1.1)) ∧ Hid (∀ p ∈ M, p.1.2 = posTo m m.length p.1.1 ∧ ∀ j, p.2.ownBlock = some j → j < rb) ∧ Hid (Below rb wq wr)) (fun _ wr => wr.rangeLeft w.heap.size rb)
      case atStart => exact ⟨_, _, [], HR0.out, (by show _ ≤ _; simpa using HSzD.out), HE0.out, (by intro k e; cases e), ColE.start D, (by intro p hp; cases hp), HB00.out⟩
      case round =>
        obtain ⟨left, cnt, M, HR, HC, HE, HF, HL, HP, HBq⟩ := hrel
        clear HR0 HE0 HB00
        obtain ⟨pv, cv, hvv⟩ := HE.out.shape
        subst hvv
        go_wp2_with (first
          | (at_next; refine wpList_next_ranges _ rfl _ rfl 108 keyedLab15 R15 (fun x : Lab => Value.agg #[.string x.1, .string x.2]) (fun q : Option Addr × Nat × Nat => Value.slice q.1 q.2.1 q.2.2) (fun key kl h => by obtain ⟨x, hx, _⟩ := keyOf_lab_inv h; exact ⟨x, hx⟩) (fun v y h => (R15_inv h).2) w.heap.size rb N _ _ _ rfl HR.out ?_ ?_)
          | go_in)
        · intro hc0 hl0
          have HMm := Lib.hid (HL.out.mem HMp.out hl0 (fun x hx => HSz.out x (by have h := posTo_ne.1 hx; rwa [flatTo, List.take_length] at h)))
          have HLen : Hid (M.length ≤ 1000000) := by show _ ≤ _; have := HC.out; have := HNf.out; omega
          have HSo := Lib.hid (sort_ent w wr _ M HE.out HLen.out)
          have HLn := Lib.hid HL.out.1
          have HPp := Lib.hid HP.out
          clear hc0 hl0 HR HC HL HF HBq HE HP
          go_wp2_with fail
          refine HSo.out.mono ?_
          rintro e w5 ⟨rfl, M', hperm, hsrt, hE5⟩
          have hpm : (M'.map fun p => p.1.1).Perm (M.map fun p => p.1.1) := hperm.map _
          have HBuilt : Hid (M'.map Prod.fst = buildP m) := built hsrt (hpm.nodup_iff.2 HLn.out) (fun x => by rw [hpm.mem_iff]; exact HMm.out x) (fun p hp => (HPp.out p (hperm.mem_iff.1 hp)).1)
          have HE5 := Lib.hid hE5
          clear HSo hperm hsrt hE5 hpm
          go_wp2_with fail
          go_ret
          exact ⟨_, rfl, by rw [← HBuilt.out]; exact HE5.out.rd, HE5.out.bel⟩
        · intro xn xv q1 q2 q3 kl yd yp w2 cnt2 hkey hlk hv hat hrg2 hlt2 hg2 hs2 hen
          obtain ⟨rfl, rfl⟩ : yd = .held (.slice q1 q2 q3) ∧ yp = [] := by simpa using (R15_inv hv).1
          obtain ⟨x', ex, rfl, hxf⟩ := keyOf_lab_inv hkey
          obtain rfl : (xn, xv) = x' := labK_inj ex
          obtain ⟨hFne, hown⟩ := HMp.out.at_ (xn, xv) _ hxf hat
          have HL3 := Lib.hid (HL.out.step hxf hlk hat)
          obtain ⟨S, hS⟩ : ∃ S, posTo m m.length (xn, xv) = S := ⟨_, rfl⟩
          have HS := Lib.hid hS
          rw [hS] at hFne hown
          have hq2 : q2 = S.length := by
            obtain ⟨_, _, e⟩ := (Rd.of_owns hown).shape
            simp only [Value.slice.injEq] at e
            exact e.2.1
          subst hq2
          have hlow : ∀ j, (Value.slice q1 S.length q3).ownBlock = some j → j < rb := fun j hj => by have := (hown.lt j hj).2; rw [HRb.out] at this; exact this
          have HLow := Lib.hid hlow
          have hm2 : Mods (fun k => k = rb) wr w2 := ⟨hg2.os, hg2.tape, hg2.output, hg2.size, fun k hk hn => hg2.block k hk (fun e => hn (by cases e; rfl))⟩
          have HB2 : Hid (Below rb wq w2) := HBq.out.trans (hm2.below (by have := HR.out.lt; omega) (fun k hk e => by omega))
          have hE2 : EnAt 157 w w2 M (.slice pv M.length cv) := HE.out.turned hm2 (fun j hj e => by have := HF.out j hj; omega) (fun p hp j hj e => by have := (HP.out p hp).2 j hj; omega) (fun j hj e => by have := HBw.out; omega)
          have hbA : Below w2.heap.size w2 (w2.alloc (.cells #[.string xn, .string xv] 108)) := (Below.refl _ _).alloc (Nat.le_refl _) _
          have HEa := Lib.hid (hE2.below hbA)
          have HSa : Hid (Rd (w2.alloc (.cells #[.string xn, .string xv] 108)) 1 (.slice q1 S.length q3) S.length (i64s S)) := ((Rd.of_owns hown).below (by rw [HRb.out]; exact HB2.out)).below hbA
          have HOff : Hid (SerOff1 (fun j => (Value.slice pv M.length cv).ownBlock = some j) (.slice q1 S.length q3) S) := fun _ j hj he => by have h1 := hlow j hj; have h2 := HF.out j he; omega
          have HOz : Hid ((w2.alloc (.cells #[.string xn, .string xv] 108)).ownsRow 0 157 3 (.slice pv M.length cv) M.length (entCells M)) := HEa.out.base0
          have HLz : Hid ((M.length + 1) * 56 ≤ 140737488355328 ∧ M.length + 1 ≤ maxLen) := by show _ ∧ _; have := HC.out; have := HNf.out; unfold maxLen; omega
          have HSz2 : Hid ((w2.alloc (.cells #[.string xn, .string xv] 108)).heap.size = w2.heap.size + 1) := by show _ = _; simp
          have HR2 := Lib.hid hrg2
          have HLt := Lib.hid hlt2
          have HC3 : Hid (M.length + 1 + cnt2 ≤ N) := by show _ ≤ _; have := HC.out; omega
          have HBa : Hid (Below rb wq (w2.alloc (.cells #[.string xn, .string xv] 108))) := HB2.out.trans (hbA.mono (by have := hrg2.lt; omega))
          have hen' : (Instr.entry (.pointer (some ⟨rb, 0, none⟩))).run Tryz.prog w2 = .ok (.tuple #[.agg #[.string xn, .string xv], .slice q1 S.length q3]) w2 := hen
          clear hkey hlk hv hat hrg2 hlt2 hg2 hs2 hen ex hFne hown hlow hm2 hE2 hbA hS HL hxf
          go_wp2_with (at_builtin; refine wpList_push elemEntP _ #[.string xn, .string xv, .slice q1 S.length q3] _ _ _ HOz.out rfl (by simp [Value.oneCell']) HLz.out rfl _ _ rfl rfl (by show _ = Value.slice (some ⟨World.heap _ |>.size, 0, none⟩) 1 1; rw [HSz2.out]; rfl) ?_)
          intro v3 w3 k3 m3 f3
          have HN3 : Hid (EnAt 157 w w3 (M ++ [(((xn, xv), S), .slice q1 S.length q3)]) v3) :=
            HEa.out.pushed (p := (((xn, xv), S), .slice q1 S.length q3)) HSa.out HOff.out k3 m3 (by rw [HSz2.out]; exact f3)
          have HR3 := Lib.hid ((HR2.out.alloc (.cells #[.string xn, .string xv] 108)).kept (mods_grown15 m3) (fun e => by have h1 := HF.out _ e.symm; have h2 := HBw.out; omega) (fun e => by have h1 := HF.out _ e.symm; omega))
          have HF3 : Hid (∀ k, v3.ownBlock = some k → rb < k) := fun k hk => by
            rcases f3 k hk with e | e
            · exact HF.out k e
            · have := HR2.out.lt; omega
          have HP3 : Hid (∀ p ∈ M ++ [(((xn, xv), S), Value.slice q1 S.length q3)], p.1.2 = posTo m m.length p.1.1 ∧ ∀ j, p.2.ownBlock = some j → j < rb) := fun p hp => by
            rcases List.mem_append.1 hp with e | e
            · exact HP.out p e
            · rw [List.mem_singleton.1 e]
              exact ⟨HS.out.symm, HLow.out⟩
          have HL4 : Hid (ColE D (fun z => left z && !z.sameKey (klOf (xn, xv))) ((M ++ [(((xn, xv), S), Value.slice q1 S.length q3)]).map fun p => p.1.1)) := by
            show ColE _ _ _
            rw [List.map_append]; exact HL3.out
          have HB3 : Hid (Below rb wq w3) := HBa.out.trans (m3.below (by have := HR2.out.lt; rw [HSz2.out]; omega) (fun k hk e => by have := HF.out k e; omega))
          have HC4 : Hid ((M ++ [(((xn, xv), S), Value.slice q1 S.length q3)]).length + cnt2 ≤ N) := by show _ ≤ _; rw [List.length_append]; exact HC3.out
          obtain ⟨p3, c3, hv3⟩ := (Rd.of_owns k3).shape
          subst hv3
          clear k3 m3 f3 HOz HEa HSa HOff HE HP HF hen' HC
          go_wp2_with fail
          go_round
          case rel => exact ⟨_, cnt2, M ++ [(((xn, xv), S), Value.slice q1 S.length q3)], HR3.out, HC4.out, HN3.out, HF3.out, HL4.out, HP3.out, HB3.out⟩
          case measure => rw [HR3.out.left_eq, HR.out.left_eq]; exact HLt.out
end Go.Proofs.YtdcgbgecbeegmaaGreatDoor
end
section
set_option maxRecDepth 20000
namespace Go.Proofs.YtdcgbgecbeegmaaGreatDoor
open Go Go.RowKit
theorem names_nodup17 {s:List Lab} (h:AscB ltN s):s.Nodup:=by
 refine List.Pairwise.imp (fun {a b} hab e=>?_) h
 subst e
 have:ltN a a=false:=by unfold ltN;exact ltS_ok.irr _
 rw [this] at hab
 cases hab
set_option maxHeartbeats 8000000 in
theorem sectionsOf_met (bv:Value) (b:List Ser) (w:World) (h:RdB w bv b) (hT:T9 w) (hsm:Mid b) (hsz:Sized b) (hck:checkB b=0) :
  Calls Tryz.prog 28 #[bv] w fun e w'=>∃vs:List Value,e = .returned (.agg vs.toArray)∧RdS w' vs (secsE b)∧(∀v∈vs,∀k,v.ownBlock=some k→w.heap.size≤k)∧Below w.heap.size w w':=by
 have hblk:=block_of_check hck
 have H:=Lib.hid h;have HSm:=Lib.hid hsm;have HSz:=Lib.hid hsz;have HT:=Lib.hid hT;have HBk:=Lib.hid hblk
 obtain ⟨pb,cb,hv⟩:=h.shape
 subst hv
 clear h hsm hsz hT hck hblk
 go_enter Tryz.func28,Tryz.ntmps28
 go_wp2_with (refine wpList_allocA arrS17 rfl rfl ?_)
 intro w1 hK1 hB1 hS1
 obtain ⟨g0,hg0⟩:∃g0,w.heap.size=g0:=⟨_,rfl⟩
 have HG0:=Lib.hid hg0
 have HB1:Hid (Below w.heap.size w w1):=hB1
 rw [hg0] at hK1 hB1 hS1 ⊢
 have HR1:Hid (Blk w1 g0 (List.replicate 4 (.slice none 0 0))):=hK1
 have HH1:=Lib.hid (H.out.below HB1.out)
 have hT1:T9 w1:=HT.out.below HB1.out
 have HT1:=Lib.hid hT1
 clear hK1 hB1 hS1 hg0 hT1
 go_wp2_with fail
 refine (modSymbols_any _ b w1 HH1.out HSm.out).mono ?_
 rintro e w2 ⟨tv,rfl,hO⟩
 obtain ⟨pt,ct,hv⟩:=hO.rd.shape
 subst hv
 have HT2:=Lib.hid hO.rd
 have HB2:=Lib.hid hO.bel
 have HH2:=Lib.hid (HH1.out.below hO.bel)
 clear hO
 go_wp2_with fail
 refine (collect_met _ b w2 HH2.out (HT1.out.below HB2.out) HSm.out HSz.out HBk.out.ne).mono ?_
 rintro e w3 ⟨lv,sv,rfl,hL,hS,hSf,hB⟩
 obtain ⟨pl,nl,cl,hv⟩:∃p n c,lv = .slice p n c:=by obtain ⟨p,c,e⟩:=hL.shape;exact ⟨p,_,c,e⟩
 subst hv
 obtain ⟨ps,cs,hv⟩:=hS.shape
 subst hv
 have HT3:=Lib.hid (HT2.out.below hB)
 have HL3:=Lib.hid hL
 have HS3:=Lib.hid hS
 have HZ1:Hid (w.heap.size≤w1.heap.size∧w1.heap.size≤w2.heap.size∧w2.heap.size≤w3.heap.size):=⟨HB1.out.size,HB2.out.size,hB.size⟩
 have HSf:Hid (∀k,(Value.slice ps (chunksB b).length cs).ownBlock=some k→w2.heap.size≤k):=hSf
 have HH3:=Lib.hid (HH2.out.below hB)
 have HB13:Hid (Below w1.heap.size w1 w3):=HB2.out.trans (hB.mono HB2.out.size)
 have HR3:Hid (Blk w3 g0 (List.replicate 4 (.slice none 0 0))):=HR1.out.of_same (HB13.out.block g0 HR1.out.lt)
 have HG3:Hid (g0<w2.heap.size∧w2.heap.size≤w3.heap.size):=⟨Nat.lt_of_lt_of_le HR1.out.lt HB2.out.size,hB.size⟩
 clear hL hS hSf hB HT2 HH2 HB2 HH1 HR1
 go_wp2_with (refine wpList_allocA arrS17 rfl rfl ?_)
 intro w4 hK4 hB4 hS4
 obtain ⟨q,hq⟩:∃q,w3.heap.size=q:=⟨_,rfl⟩
 have HQ:=Lib.hid hq
 have HB34:Hid (Below w3.heap.size w3 w4):=hB4
 rw [hq] at hK4 hB4 hS4 ⊢
 have HQ4:Hid (Blk w4 q (List.replicate 4 (.slice none 0 0))):=hK4
 have HKp:Hid (∀W,Below q w4 W→Below w3.heap.size w3 W∧Rd W 1 (.slice pt (tabS (symsB b)).length ct) (tabS (symsB b)).length (strs (tabS (symsB b)))∧RdR W (.slice pl nl cl) (b.map recE)∧RdB W (.slice pb b.length cb) b):=fun W hW=>by
  have h3:Below w3.heap.size w3 W:=HB34.out.trans (by rw [HQ.out];exact hW)
  exact ⟨h3,HT3.out.below h3,HL3.out.below h3,HH3.out.below h3⟩
 have HRs:Hid (∀W,Below q w4 W→Blk W g0 (List.replicate 4 (.slice none 0 0))):=fun W hW=>HR3.out.of_same ((HKp.out W hW).1.block g0 HR3.out.lt)
 have HW4:Hid (Below q w4 w4):=Below.refl _ _
 clear hK4 hB4 hS4 hq
 have hK0:=HKp.out w4 HW4.out
 have HT4:=Lib.hid hK0.2.1
 clear hK0
 go_wp2_with fail
 refine (encode_met _ (tabS (symsB b)) w4 HT4.out (by have:=tab17 HSm.out;exact Nat.le_trans this (by decide))).mono ?_
 rintro e u1 ⟨⟨r0,rfl,hR0,hr0⟩,hB⟩
 obtain ⟨p0,c0,hv0⟩:=hR0.shape
 subst hv0
 have HS4:Hid (q<w4.heap.size):=HQ4.out.lt
 have HW1:Hid (Below q w4 u1):=hB.mono (Nat.le_of_lt HS4.out)
 have HQ1:Hid (Blk u1 q (List.replicate 4 (.slice none 0 0))):=HQ4.out.of_same (hB.block q HQ4.out.lt)
 have HF0:Hid (∀k,(Value.slice p0 (encSyR (tabS (symsB b))).2.length c0).ownBlock=some k→w3.heap.size≤k):=fun k hk=>by have:=hr0 k hk;have:=HS4.out;have:=HQ.out;omega
 have HR0:Hid (∀W',Mods (fun k=>k=q∨k=g0) u1 W'→Rd W' 1 (.slice p0 (encSyR (tabS (symsB b))).2.length c0) (encSyR (tabS (symsB b))).2.length (u8s (encSyR (tabS (symsB b))).2)):=fun W' hm=>hR0.mods hm (fun k hk e=>by have:=hr0 k hk;have:=HS4.out;have:=HG3.out;have:=HQ.out;omega)
 have a0:u1.cell? ⟨q,0,none⟩=some (.slice none 0 0):=by rw [HQ1.out.cell];rfl
 have a1:=HQ1.out.free 0
 generalize hD0:(encSyR (tabS (symsB b))).2=D0 at *
 generalize (encSyR (tabS (symsB b))).1=E0 at *
 have HD0:=Lib.hid hD0
 have hs2:Mods (fun k=>k=q) u1 (u1.setCell ⟨q,0,none⟩ (.slice p0 D0.length c0)):=Mods.set _ _ _ _ (fun _=>rfl)
 have HQ2:Hid (Blk (u1.setCell ⟨q,0,none⟩ (.slice p0 D0.length c0)) q [.slice p0 D0.length c0,.slice none 0 0,.slice none 0 0,.slice none 0 0]):=by
  have h:=HQ1.out.set 0 (.slice p0 D0.length c0)
  show Blk _ _ _
  simpa using h
 have HM2:=Lib.hid hs2
 have HW2:Hid (Below q w4 (u1.setCell ⟨q,0,none⟩ (.slice p0 D0.length c0))):=HW1.out.trans (hs2.below (Nat.le_trans (Nat.le_of_lt HS4.out) hB.size) (fun k hk e=>by omega))
 clear hR0 hr0 hB hD0 hs2 HT4 HQ1 HQ4 HW1
 go_wp2_with fail
 clear a0 a1
 generalize u1.setCell ⟨q,0,none⟩ (.slice p0 D0.length c0)=u2 at *
 obtain ⟨_,hT2,hL2,_⟩:=HKp.out u2 HW2.out
 have HRc:=recs17 HSm.out
 have HC13:=Lib.hid (prg_encode13o _ _ (tabS (symsB b)) (b.map recE) u2 hT2 (Nat.le_trans (tab17 HSm.out) (by decide)) (tabS_asc _) hL2 (by have:=HRc.1;omega) (fun r hr=>by have:=HRc.2 r hr;omega) (fun r hr n hn=>by have:=(HRc.2 r hr).2.2 n hn;omega) (Nat.le_trans (encRc17 HSm.out) (by decide)))
 clear hT2 hL2 HRc
 refine HC13.out.mono ?_
 rintro e u3 ⟨⟨r1,rfl,hR1⟩,hB⟩
 have hr1:∀k,r1.ownBlock=some k→u2.heap.size≤k:=fun k hk=>(hR1.lt k hk).1
 have hR1:=Rd.of_owns hR1
 obtain ⟨p1,c1,hv1⟩:=hR1.shape
 subst hv1
 have HS2:Hid (q<u2.heap.size):=HQ2.out.lt
 have HW3:Hid (Below q w4 u3):=HW2.out.trans (hB.mono (Nat.le_of_lt HS2.out))
 have HF1:Hid (∀k,(Value.slice p1 (encRcR (tabS (symsB b)) (b.map recE)).2.length c1).ownBlock=some k→w3.heap.size≤k):=fun k hk=>by have:=hr1 k hk;have:=HS2.out;have:=HQ.out;omega
 have HR1:Hid (∀W',Mods (fun k=>k=q∨k=g0) u3 W'→Rd W' 1 (.slice p1 (encRcR (tabS (symsB b)) (b.map recE)).2.length c1) (encRcR (tabS (symsB b)) (b.map recE)).2.length (u8s (encRcR (tabS (symsB b)) (b.map recE)).2)):=fun W' hm=>hR1.mods hm (fun k hk e=>by have:=hr1 k hk;have:=HS2.out;have:=HG3.out;have:=HQ.out;omega)
 have HQ3:Hid (Blk u3 q [.slice p0 D0.length c0,.slice none 0 0,.slice none 0 0,.slice none 0 0]):=HQ2.out.of_same (hB.block q HQ2.out.lt)
 have a0:u3.cell? ⟨q,1,none⟩=some (.slice none 0 0):=by rw [HQ3.out.cell];rfl
 have a1:=HQ3.out.free 1
 have a2:u3.cell? ⟨q,2,none⟩=some (.slice none 0 0):=by rw [HQ3.out.cell];rfl
 have a3:=HQ3.out.free 2
 generalize hD1:(encRcR (tabS (symsB b)) (b.map recE)).2=D1 at *
 generalize (encRcR (tabS (symsB b)) (b.map recE)).1=E1 at *
 have HD1:=Lib.hid hD1
 have hs4:Mods (fun k=>k=q) u3 ((u3.setCell ⟨q,1,none⟩ (.slice p1 D1.length c1)).setCell ⟨q,2,none⟩ (.slice ps (chunksB b).length cs)):=(Mods.set (fun k=>k=q) u3 ⟨q,1,none⟩ (.slice p1 D1.length c1) (fun _=>rfl)).trans (Mods.set (fun k=>k=q) _ _ _ (fun _=>rfl)) (fun _ _ e=>e)
 have HQ5:Hid (Blk ((u3.setCell ⟨q,1,none⟩ (.slice p1 D1.length c1)).setCell ⟨q,2,none⟩ (.slice ps (chunksB b).length cs)) q [.slice p0 D0.length c0,.slice p1 D1.length c1,.slice ps (chunksB b).length cs,.slice none 0 0]):=by
  have h:=(HQ3.out.set 1 (.slice p1 D1.length c1)).set 2 (.slice ps (chunksB b).length cs)
  show Blk _ _ _
  simpa using h
 have HM3:Hid (Mods (fun k=>k=q) u2 u3):=Mods.of_below hB _
 have HM4:=Lib.hid hs4
 have HW5:Hid (Below q w4 ((u3.setCell ⟨q,1,none⟩ (.slice p1 D1.length c1)).setCell ⟨q,2,none⟩ (.slice ps (chunksB b).length cs))):=HW3.out.trans (hs4.below (Nat.le_of_lt HQ3.out.lt) (fun k hk e=>by omega))
 clear hR1 hr1 hB hD1 hs4 HQ2 HQ3 HC13 HW2 HW3
 go_wp2_with fail
 clear a0 a1 a2 a3
 generalize (u3.setCell ⟨q,1,none⟩ (.slice p1 D1.length c1)).setCell ⟨q,2,none⟩ (.slice ps (chunksB b).length cs)=u4 at *
 obtain ⟨_,_,_,hB4⟩:=HKp.out u4 HW5.out
 refine (labelSets_met _ b u4 hB4 (by have:=HSm.out.len;omega)).mono ?_
 rintro e u5 ⟨sv5,rfl,hs5,hA5⟩
 have HA5:=Lib.hid hA5
 obtain ⟨p5,n5,c5,hv5⟩:∃p n c,sv5 = .slice p n c:=by obtain ⟨p,c,e⟩:=hA5.rd.shape;exact ⟨p,_,c,e⟩
 subst hv5
 clear hA5 hB4
 go_wp2_with fail
 refine (prg_build15 _ (b.map Prod.fst) u5 HA5.out.rd (by have:=(sets17 HSm.out).1;omega) (by have:=(sets17 HSm.out).2;omega) (fun s hs=>by
  obtain ⟨x,hx,rfl⟩:=List.mem_map.1 hs
  exact names_nodup17 (HBk.out.lab x hx).1) (fun y hy=>by
  obtain ⟨l,hl,hyl⟩:=List.mem_flatten.1 hy
  obtain ⟨x,hx,rfl⟩:=List.mem_map.1 hl
  have h:=(HSz.out x hx).1 y hyl
  exact ⟨by unfold maxLen;omega,by unfold maxLen;omega⟩)).mono ?_
 rintro e u6 ⟨v6,rfl,hE6,hB6⟩
 have HE6:=Lib.hid hE6
 obtain ⟨p6,n6,c6,hv6⟩:∃p n c,v6 = .slice p n c:=by obtain ⟨p,c,e⟩:=hE6.shape;exact ⟨p,_,c,e⟩
 subst hv6
 have HB6:Hid (Below u4.heap.size u4 u6):=HA5.out.row.bel.trans (hB6.mono HA5.out.row.bel.size)
 clear hE6 hB6
 have HS5:Hid (q<u4.heap.size):=HQ5.out.lt
 have HW6:Hid (Below q w4 u6):=HW5.out.trans (HB6.out.mono (Nat.le_of_lt HS5.out))
 obtain ⟨_,hT6,_,_⟩:=HKp.out u6 HW6.out
 have HI17:=idx17 HSm.out
 have HC15:=Lib.hid (prg_encode15o _ _ (tabS (symsB b)) (buildP (b.map Prod.fst)) u6 hT6 (Nat.le_trans (tab17 HSm.out) (by decide)) (tabS_asc _) HE6.out (by have:=HI17.1;omega) (fun e he=>⟨(HI17.2.1 e he).1,by have:=(HI17.2.1 e he).2.1;omega,fun x hx=>by have:=(HI17.2.1 e he).2.2 x hx;omega⟩) (Nat.le_trans (ents17 HSm.out) (by decide)))
 clear hT6 HI17
 go_wp2_with fail
 refine HC15.out.mono ?_
 rintro e u7 ⟨⟨r3,rfl,hR3⟩,hB⟩
 have hr3:∀k,r3.ownBlock=some k→u6.heap.size≤k:=fun k hk=>(hR3.lt k hk).1
 have hR3:=Rd.of_owns hR3
 obtain ⟨p3,c3,hv3⟩:=hR3.shape
 subst hv3
 have HS6:Hid (u4.heap.size≤u6.heap.size):=HB6.out.size
 have HF3:Hid (∀k,(Value.slice p3 (encPoR (tabS (symsB b)) (buildP (b.map Prod.fst))).2.length c3).ownBlock=some k→w3.heap.size≤k):=fun k hk=>by have:=hr3 k hk;have:=HS5.out;have:=HS6.out;have:=HQ.out;omega
 have HR3':Hid (∀W',Mods (fun k=>k=q∨k=g0) u7 W'→Rd W' 1 (.slice p3 (encPoR (tabS (symsB b)) (buildP (b.map Prod.fst))).2.length c3) (encPoR (tabS (symsB b)) (buildP (b.map Prod.fst))).2.length (u8s (encPoR (tabS (symsB b)) (buildP (b.map Prod.fst))).2)):=fun W' hm=>hR3.mods hm (fun k hk e=>by have:=hr3 k hk;have:=HS5.out;have:=HS6.out;have:=HG3.out;have:=HQ.out;omega)
 have HB7:Hid (Below u4.heap.size u4 u7):=HB6.out.trans (hB.mono HB6.out.size)
 have HQ7:Hid (Blk u7 q [.slice p0 D0.length c0,.slice p1 D1.length c1,.slice ps (chunksB b).length cs,.slice none 0 0]):=HQ5.out.of_same (HB7.out.block q HQ5.out.lt)
 have a0:u7.cell? ⟨q,3,none⟩=some (.slice none 0 0):=by rw [HQ7.out.cell];rfl
 have a1:=HQ7.out.free 3
 generalize hD3:(encPoR (tabS (symsB b)) (buildP (b.map Prod.fst))).2=D3 at *
 generalize (encPoR (tabS (symsB b)) (buildP (b.map Prod.fst))).1=E3 at *
 have HD3:=Lib.hid hD3
 have hs8:Mods (fun k=>k=q) u7 (u7.setCell ⟨q,3,none⟩ (.slice p3 D3.length c3)):=Mods.set _ _ _ _ (fun _=>rfl)
 have HQ8:Hid (Blk (u7.setCell ⟨q,3,none⟩ (.slice p3 D3.length c3)) q [.slice p0 D0.length c0,.slice p1 D1.length c1,.slice ps (chunksB b).length cs,.slice p3 D3.length c3]):=by
  have h:=HQ7.out.set 3 (.slice p3 D3.length c3)
  show Blk _ _ _
  simpa using h
 have HM8':=Lib.hid hs8
 have HM8:Hid (Mods (fun k=>k=q) u4 (u7.setCell ⟨q,3,none⟩ (.slice p3 D3.length c3))):=(Mods.of_below HB7.out _).trans hs8 (fun _ _ e=>e)
 have HW8:Hid (Below q w4 (u7.setCell ⟨q,3,none⟩ (.slice p3 D3.length c3))):=HW5.out.trans (HM8.out.below (Nat.le_of_lt HS5.out) (fun k hk e=>by omega))
 clear hR3 hr3 hB hD3 hs8 HQ7 HQ5 HC15 HA5 HE6 HB6 HW6 HB7 HW5
 have HG8:Hid (Blk (u7.setCell ⟨q,3,none⟩ (.slice p3 D3.length c3)) g0 [.slice none 0 0,.slice none 0 0,.slice none 0 0,.slice none 0 0]):=HRs.out _ HW8.out
 have H4r:∀(u:Value),u∈[Value.slice p0 D0.length c0,.slice p1 D1.length c1,.slice ps (chunksB b).length cs,.slice p3 D3.length c3]→u.oneCell'=true:=by simp [Value.oneCell']
 have H4:=Lib.hid H4r
 clear H4r
 go_wp2_with (first
  | (refine wpList_loadA arrS17 rfl _ rfl q rfl _ HQ8.out rfl ?_)
  | (refine wpList_storeA arrS17 rfl _ _ rfl g0 rfl [.slice p0 D0.length c0,.slice p1 D1.length c1,.slice ps (chunksB b).length cs,.slice p3 D3.length c3] _ rfl HG8.out rfl rfl H4.out ?_))
 intro u9 hb9 hm9 hs9
 have HB9:=Lib.hid hb9;have HM10:=Lib.hid hm9
 clear hb9 hm9 hs9 a0 a1
 go_wp2_with fail
 refine bodyPost_ret (resultsA (p:=2) arrS17 (by kernel_rfl) _ g0 rfl [.slice p0 D0.length c0,.slice p1 D1.length c1,.slice ps (chunksB b).length cs,.slice p3 D3.length c3] HB9.out rfl) rfl ?_
 have up:∀{A B:World},Mods (fun k=>k=q) A B→Mods (fun k=>k=q∨k=g0) A B:=fun h=>h.mono (fun _ _ e=>Or.inl e)
 have m10:Mods (fun k=>k=q∨k=g0) (u7.setCell ⟨q,3,none⟩ (.slice p3 D3.length c3)) u9:=HM10.out.mono (fun _ _ e=>Or.inr e)
 have m7:=(up HM8'.out).trans m10 (fun _ _ e=>e)
 have m4:=(up HM8.out).trans m10 (fun _ _ e=>e)
 have m3:=(up HM4.out).trans m4 (fun _ _ e=>e)
 have m2:=(up HM3.out).trans m3 (fun _ _ e=>e)
 have m1:=(up HM2.out).trans m2 (fun _ _ e=>e)
 obtain ⟨hb8,_,_,_⟩:=HKp.out _ HW8.out
 have hsv:Rd u9 1 (.slice ps (chunksB b).length cs) (chunksB b).length (u8s (chunksB b)):=(HS3.out.below hb8).mods HM10.out (fun k hk e=>by have:=HSf.out k hk;have:=HG3.out;have:k=g0:=e;omega)
 have hbel:Below w.heap.size w u9:=by
  have h1:Below w1.heap.size w1 (u7.setCell ⟨q,3,none⟩ (.slice p3 D3.length c3)):=HB13.out.trans (hb8.mono HB13.out.size)
  have h2:Below w.heap.size w (u7.setCell ⟨q,3,none⟩ (.slice p3 D3.length c3)):=HB1.out.trans (h1.mono HB1.out.size)
  exact h2.trans (HM10.out.below h2.size (fun k hk e=>by have:=HG0.out;have:k=g0:=e;omega))
 refine ⟨_,rfl,⟨rfl,fun i v d hv hd=>?_⟩,fun v hv k hk=>?_,hbel⟩
 rotate_left
 ·have hz:=HZ1.out
  simp only [List.mem_cons,List.not_mem_nil,or_false] at hv
  rcases hv with rfl | rfl | rfl | rfl
  ·have:=HF0.out k hk;omega
  ·have:=HF1.out k hk;omega
  ·have:=HSf.out k hk;omega
  ·have:=HF3.out k hk;omega
 have hsec:secsE b=[D0,D1,chunksB b,D3]:=by rw [← HD0.out,← HD1.out,← HD3.out];rfl
 rw [hsec] at hd
 match i with
 | 0=>simp at hv hd;subst hv hd;exact HR0.out u9 m1
 | 1=>simp at hv hd;subst hv hd;exact HR1.out u9 m3
 | 2=>simp at hv hd;subst hv hd;exact hsv
 | 3=>simp at hv hd;subst hv hd;exact HR3'.out u9 m7
 | i+4=>simp at hv
end Go.Proofs.YtdcgbgecbeegmaaGreatDoor
end
section
namespace Go.Proofs.YtdcgbgecbeegmaaGreatDoor
open Go Go.RowKit
theorem wpList_fromTo {P:Program} {t e:TypeId} {sz bytes:Nat} (hE:Elem P t e sz bytes) (w:World) (v:Value) (n i k:Nat) (vs:List Value) (h0:Rd w sz v n vs) (hi:i≤k) (hk:k≤n)
  {ops:Array Oper} {rest:List Oper} {o:Oper} {a:Act} {Q:Exit→Act→World→Prop} (hgd:Region.wanted o (yielded ops a.tmps)=true) (s x y:Operand) (ho:o.op = .slice t s (some x) (some y) none)
  (hs:a.eval s=v) (hx:a.eval x = .int .i64 (i:Int)) (hy:a.eval y = .int .i64 (k:Int))
  (h:∀p c,Rd w sz (.slice p (k-i) c) (k-i) ((vs.take (k*sz)).drop (i*sz))→wpList P ops Q rest (a.put o.dst (.slice p (k-i) c)) w):wpList P ops Q (o::rest) a w:=by
 obtain ⟨p,c,hv⟩:=h0.shape
 subst hv
 have hnc:n≤c:=by obtain ⟨_,_,e,_,h,_⟩:=h0;cases e;exact h
 have hr:=exec_fromTo hE w p n c i k hi (by omega) s x y ho hs hx hy
 have hR:=h0.fromTo i k hi hk
 obtain ⟨p2,c2,hs2⟩:=hR.shape
 rw [hs2] at hr hR
 refine BigFrame.wpList_want hgd fun K hK=>?_
 unfold Oper.wp
 rw [hr]
 exact hK _ _ (h _ _ hR)
end Go.Proofs.YtdcgbgecbeegmaaGreatDoor
end
