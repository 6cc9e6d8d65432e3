/- Texts 16. -/
import Derived.Test.YtdcgbgecbeegmaaGreatDoorMgL14
import Derived.Test.YtdcgbgecbeegmaaGreatDoorMgL15
import Derived.Test.YtdcgbgecbeegmaaGreatDoorMgL1
set_option linter.unusedVariables false
set_option linter.unusedSimpArgs false
section
set_option maxRecDepth 20000
namespace Go.Proofs.YtdcgbgecbeegmaaGreatDoor
open Go Go.RowKit
def PdqAt (g n c:Nat) (a b l:Nat) (d:Array Nat) (w:World):Prop:=
 Calls Tryz.prog 295 #[.slice (some ⟨g,0,none⟩) n c,.int .i64 (a:Int),.int .i64 (b:Int),.int .i64 (l:Int)] w fun e w'=>e = .returned (.tuple #[])∧∃z,SU w w' g n c z∧Sort.PermIn a b d z∧Sort.SortedIn ltU a b z
structure PS (w wr:World) (g n c a b:Nat) (d:Array Nat) (a' b':Nat) (x:Array Nat):Prop where
 su:SU w wr g n c x
 pq:PQ a b d a' b' x
 glt:g<wr.heap.size
section
variable {w wr wz:World} {g n c a b a' b' m q:Nat} {d x y z:Array Nat}
theorem PS.perm (h:PS w wr g n c a b d a' b' x) (hs:SU wr wz g n c y) (hp:Sort.PermIn a' b' x y):PS w wz g n c a b d a' b' y:=
 ⟨h.su.trans hs,h.pq.perm hp,Nat.lt_of_lt_of_le h.glt hs.mods.size⟩
theorem PS.same (h:PS w wr g n c a b d a' b' x) (hs:SU wr wz g n c x):PS w wz g n c a b d a' b' x:=h.perm hs (Sort.permIn_refl _ _ _)
theorem PS.ends (h:PS w wr g n c a b d a' b' x) (hs:SU wr wz g n c y) (hp:Sort.PermIn a' b' x y) (ho:Sort.SortedIn ltU a' b' y):∃z,SU w wz g n c z∧Sort.PermIn a b d z∧Sort.SortedIn ltU a b z:=
 ⟨y,h.su.trans hs,h.pq.glue y hp ho⟩
theorem PS.equal (h:PS w wr g n c a b d a' b' x) (hq:a'≤q) (hqb:q<b') (h0:0<a') (hl:ltU x[a'-1]! x[q]! = false) (hp:PartedE wr wz g n c a' b' x y m x[q]!):PS w wz g n c a b d m b' y:=
 ⟨h.su.trans hp.su,h.pq.equal hq hqb h0 hl hp,Nat.lt_of_lt_of_le h.glt hp.su.mods.size⟩
theorem PS.drewN (h:PS w wr g n c a b d a' b' x) (k:Nat):PS w (wr.drewN k) g n c a b d a' b' x:=⟨h.su.drewN k,h.pq,h.glt⟩
end
set_option maxHeartbeats 400000000 in
theorem pdq_step (g n c N a b l:Nat) (d:Array Nat) (w:World) (IH0:∀(a b l:Nat) (d:Array Nat) (w:World),b-a<N→SU w w g n c d→a≤b→b≤n→l≤100→g<w.heap.size→Sort.Below ltU a b d→PdqAt g n c a b l d w)
  (hN:b-a≤N) (h:SU w w g n c d) (hab:a≤b) (hb:b≤n) (hl100:l≤100) (hg:g<w.heap.size) (hbl:Sort.Below ltU a b d) (hn:n<4611686018427387904):PdqAt g n c a b l d w:=by
 have IH:=Lib.hid IH0
 clear IH0
 have HS:Hid (PS w w g n c a b d a b d):=⟨h,PQ.start hab (by rw [h.sz];exact hb) hbl,hg⟩
 clear h hbl hg
 unfold PdqAt
 go_enter Tryz.func295,Tryz.ntmps295
 go_wp2_with fail
 go_loopw [1,2,3,8,9] (fun av bv lv pv sv wr=>∃(a' b' l':Nat) (wb wp:Bool) (x:Array Nat),av = .int .i64 (a':Int)∧bv = .int .i64 (b':Int)∧lv = .int .i64 (l':Int)∧pv = .bool wb∧sv = .bool wp∧l'≤100∧Hid (PS w wr g n c a b d a' b' x)) (fun av bv _ _ _ _=>(intOf bv-intOf av).toNat)
 case atStart=>exact ⟨a,b,l,true,true,d,rfl,rfl,rfl,rfl,rfl,hl100,HS.out⟩
 case round=>
  obtain ⟨a',b',l',wb,wp,x,rfl,rfl,rfl,rfl,rfl,hl',HX⟩:=hrel
  clear HS
  have ha1:=HX.out.pq.h1;have ha2:=HX.out.pq.h2;have ha3:=HX.out.pq.h3
  by_cases h12:b'-a'≤12
  ·have h12':(b':Int)-(a':Int)≤12:=by omega
   have HI:=Lib.hid (insertion_u64 g n c a' b' x wr HX.out.su.here ha2 (by omega) hn)
   have HP:=Lib.hid (Sort.insertionSort_holds swo_ltU x a' b' ha2 (by rw [HX.out.su.sz];omega))
   go_wp2_with fail
   refine HI.out.mono ?_
   rintro e w1 ⟨rfl,h1⟩
   have HF:=Lib.hid (HX.out.ends h1 HP.out.1 HP.out.2)
   clear h1 HI HP
   go_wp2_with fail
   refine bodyPost_ret (results_none rfl _ _ _) rfl ?_
   exact ⟨rfl,HF.out⟩
  ·have h12':¬(b':Int)-(a':Int)≤12:=by omega
   rcases l' with _ | l'
   ·have HI:=Lib.hid (heap_sort_u64 g n c a' b' x wr HX.out.su.here (by omega) (by omega) hn)
    have HP:=Lib.hid (Sort.heapSort_holds swo_ltU x a' b' ha2 (by rw [HX.out.su.sz];omega))
    go_wp2_with fail
    refine HI.out.mono ?_
    rintro e w1 ⟨rfl,h1⟩
    have HF:=Lib.hid (HX.out.ends h1 HP.out.1 HP.out.2)
    clear h1 HI HP
    go_wp2_with fail
    refine bodyPost_ret (results_none rfl _ _ _) rfl ?_
    exact ⟨rfl,HF.out⟩
   ·have hl0:¬(((l'+1:Nat):Int)=0):=by omega
    cases wb with
    | true=>
     cases wp with
     | true=>
      have HC:=Lib.hid (choose_pivot_u64 g n c a' b' x wr HX.out.su.here (by omega) (by omega) hn HX.out.glt)
      go_wp2_with fail
      refine HC.out.mono ?_
      rintro e w2 ⟨q,t,rfl,⟨hq1,hq2⟩,h2⟩
      have HY:=Lib.hid (HX.out.same h2)
      clear h2 HC HX
      by_cases ht2:t=2
      ·subst ht2
       have HC:=Lib.hid (reverse_range_u64 g n c a' b' x w2 HY.out.su.here (by omega) (by omega) hn)
       obtain ⟨q,HQ,hq1,hq2⟩:∃q2:Nat,Hid ((b':Int)-1-((q:Int)-(a':Int))=(q2:Int))∧a'≤q2∧q2<b':=⟨(b'-1)-(q-a'),by show _=_;omega,by omega,by omega⟩
       go_wp2_with fail
       refine HC.out.mono ?_
       rintro e w3 ⟨rfl,y0,h3,hp3⟩
       have HY3:=Lib.hid (HY.out.perm h3 hp3)
       clear h3 hp3 HC HY
       go_wp2_with fail
       rw [HQ.out]
       clear HQ
       obtain ⟨pr,hpr⟩:∃pr,Sort.partialInsertionSort ltU y0 a' b'=pr:=⟨_,rfl⟩
       have hst:=Sort.partialInsertionSort_holds swo_ltU y0 a' b' (by omega) (by rw [HY3.out.su.sz];omega) HY3.out.pq.below
       have hcl:=partialInsertion_u64 g n c a' b' y0 w3 HY3.out.su.here (by omega) (by omega) hn
       rw [hpr] at hst hcl
       have HST:=Lib.hid hst
       have HCL:=Lib.hid hcl
       clear hst hcl hpr
       obtain ⟨y,rb⟩:=pr
       cases rb with
       | true=>
        try go_wp2_with fail
        refine HCL.out.mono ?_
        rintro e w4 ⟨rfl,h4⟩
        have HF:=Lib.hid (HY3.out.ends h4 HST.out.1 (HST.out.2 (by simp)))
        clear h4 HCL
        go_wp2_with fail
        refine bodyPost_ret (results_none rfl _ _ _) rfl ?_
        exact ⟨rfl,HF.out⟩
       | false=>
        try go_wp2_with fail
        refine HCL.out.mono ?_
        rintro e w4 ⟨rfl,h4⟩
        have HZ:=Lib.hid (HY3.out.perm h4 HST.out.1)
        clear h4 HCL HST HY3
        rcases Nat.eq_zero_or_pos a' with ha0 | ha0
        ·have hgd:decide (0<a')=false:=decide_eq_false (by omega)
         clear ha0
         try go_wp2_with fail
         go_quiet ((go_at_call 296;refine Calls.quiet_of_same (less_u64' _ _ _)))
         have HE:=Lib.hid (HZ.out.drewN nq)
         generalize World.drewN _ nq=wq at *
         clear HZ hgd
         have HC:=Lib.hid (partition_u64 g n c a' b' q y wq HE.out.su.here hq1 hq2 (by omega) hn)
         go_wp2_with fail
         refine HC.out.mono ?_
         rintro e w5 ⟨m,rr,y,rfl,hP⟩
         have HP:=Lib.hid hP
         have hm1:=hP.b1;have hm2:=hP.b2
         clear hP HC
         have HW5:=Lib.hid ((HE.out.su.trans HP.out.su).here)
         have hg5:g<w5.heap.size:=Nat.lt_of_lt_of_le HE.out.glt HP.out.su.mods.size
         have Hg5:=Lib.hid hg5
         clear hg5
         by_cases hlr:m-a'<b'-m
         ·have hlr':(m:Int)-(a':Int)<(b':Int)-(m:Int):=by omega
          have HR:=Lib.hid (IH.out a' m (l'+1) y w5 (by omega) HW5.out (by omega) (by omega) (by omega) Hg5.out (HE.out.pq.partL HP.out))
          go_wp2_with fail
          refine Calls.mono (R:=fun e w'=>e = .returned (.tuple #[])∧∃z,SU w5 w' g n c z∧Sort.PermIn a' m y z∧Sort.SortedIn ltU a' m z) HR.out ?_
          rintro e w6 ⟨rfl,z,hz1,hz2,hz3⟩
          have HS6:Hid (PS w w6 g n c a b d (m+1) b' z):=⟨(HE.out.su.trans HP.out.su).trans hz1,HE.out.pq.left HP.out hz2 hz3,Nat.lt_of_lt_of_le Hg5.out hz1.mods.size⟩
          clear hz1 hz2 hz3 HR HP HW5 Hg5 HE hlr'
          go_wp2_with fail
          go_round
          case rel=>exact ⟨(m+1),b',(l'+1),_,_,_,by go_num,rfl,by go_num,rfl,rfl,by omega,HS6.out⟩
          case measure=>simp [intOf]<;>omega
         ·have hlr':¬(m:Int)-(a':Int)<(b':Int)-(m:Int):=by omega
          have HR:=Lib.hid (IH.out (m+1) b' (l'+1) y w5 (by omega) HW5.out (by omega) (by omega) (by omega) Hg5.out (HE.out.pq.partR HP.out))
          go_wp2_with fail
          refine Calls.mono (R:=fun e w'=>e = .returned (.tuple #[])∧∃z,SU w5 w' g n c z∧Sort.PermIn (m+1) b' y z∧Sort.SortedIn ltU (m+1) b' z) HR.out ?_
          rintro e w6 ⟨rfl,z,hz1,hz2,hz3⟩
          have HS6:Hid (PS w w6 g n c a b d a' m z):=⟨(HE.out.su.trans HP.out.su).trans hz1,HE.out.pq.right HP.out hz2 hz3,Nat.lt_of_lt_of_le Hg5.out hz1.mods.size⟩
          clear hz1 hz2 hz3 HR HP HW5 Hg5 HE hlr'
          go_wp2_with fail
          go_round
          case rel=>exact ⟨a',m,(l'+1),_,_,_,by go_num,rfl,by go_num,rfl,rfl,by omega,HS6.out⟩
          case measure=>simp [intOf]<;>omega
        ·have hgd:decide ((a':Int)>0)=true:=decide_eq_true (by omega)
         obtain ⟨a1,ha1⟩:∃a1,a'-1=a1:=⟨_,rfl⟩
         have ha1i:(a':Int)-1=(a1:Int):=by omega
         have hc1:=HZ.out.su.cell (i:=a1) (by omega)
         have hc0:=HZ.out.su.cell (i:=q) (by omega)
         have hn1:(a1:Int)<(n:Int):=by omega
         have hn0:(q:Int)<(n:Int):=by omega
         obtain ⟨p,hp⟩:∃p,y[a1]! = p:=⟨_,rfl⟩
         obtain ⟨v,hv⟩:∃v,y[q]! = v:=⟨_,rfl⟩
         rw [hp] at hc1
         rw [hv] at hc0
         have HPP:Hid (y[a'-1]! = p):=by show _=_;rw [ha1];exact hp
         have HV:=Lib.hid hv
         have HA1:=Lib.hid ha1
         clear hp hv ha1
         try go_wp2_with fail
         go_quiet ((go_at_call 296;refine Calls.quiet_of_same (less_u64' _ _ _)))
         have HE:=Lib.hid (HZ.out.drewN nq)
         generalize World.drewN _ nq=wq at *
         clear HZ hgd hc1 hc0 hn1
         cases hlv:ltU p v with
         | false=>
          have HC:=Lib.hid (partition_equal_u64 g n c a' b' q y wq HE.out.su.here hq1 hq2 (by omega) hn)
          go_wp2_with fail
          refine HC.out.mono ?_
          rintro e w5 ⟨m,y,rfl,hP⟩
          have hm1:=hP.b1;have hm2:=hP.b2
          have HS6:Hid (PS w w5 g n c a b d m b' y):=HE.out.equal hq1 hq2 ha0 (by rw [HPP.out,HV.out];exact hlv) hP
          clear hP HC HE HPP HV HA1 ha1i hn0
          go_wp2_with fail
          go_round
          case rel=>exact ⟨m,b',(l'+1),_,_,_,by go_num,rfl,by go_num,rfl,rfl,by omega,HS6.out⟩
          case measure=>simp [intOf]<;>omega
         | true=>
          clear HPP HV HA1 ha1i hn0
          have HC:=Lib.hid (partition_u64 g n c a' b' q y wq HE.out.su.here hq1 hq2 (by omega) hn)
          go_wp2_with fail
          refine HC.out.mono ?_
          rintro e w5 ⟨m,rr,y,rfl,hP⟩
          have HP:=Lib.hid hP
          have hm1:=hP.b1;have hm2:=hP.b2
          clear hP HC
          have HW5:=Lib.hid ((HE.out.su.trans HP.out.su).here)
          have hg5:g<w5.heap.size:=Nat.lt_of_lt_of_le HE.out.glt HP.out.su.mods.size
          have Hg5:=Lib.hid hg5
          clear hg5
          by_cases hlr:m-a'<b'-m
          ·have hlr':(m:Int)-(a':Int)<(b':Int)-(m:Int):=by omega
           have HR:=Lib.hid (IH.out a' m (l'+1) y w5 (by omega) HW5.out (by omega) (by omega) (by omega) Hg5.out (HE.out.pq.partL HP.out))
           go_wp2_with fail
           refine Calls.mono (R:=fun e w'=>e = .returned (.tuple #[])∧∃z,SU w5 w' g n c z∧Sort.PermIn a' m y z∧Sort.SortedIn ltU a' m z) HR.out ?_
           rintro e w6 ⟨rfl,z,hz1,hz2,hz3⟩
           have HS6:Hid (PS w w6 g n c a b d (m+1) b' z):=⟨(HE.out.su.trans HP.out.su).trans hz1,HE.out.pq.left HP.out hz2 hz3,Nat.lt_of_lt_of_le Hg5.out hz1.mods.size⟩
           clear hz1 hz2 hz3 HR HP HW5 Hg5 HE hlr'
           go_wp2_with fail
           go_round
           case rel=>exact ⟨(m+1),b',(l'+1),_,_,_,by go_num,rfl,by go_num,rfl,rfl,by omega,HS6.out⟩
           case measure=>simp [intOf]<;>omega
          ·have hlr':¬(m:Int)-(a':Int)<(b':Int)-(m:Int):=by omega
           have HR:=Lib.hid (IH.out (m+1) b' (l'+1) y w5 (by omega) HW5.out (by omega) (by omega) (by omega) Hg5.out (HE.out.pq.partR HP.out))
           go_wp2_with fail
           refine Calls.mono (R:=fun e w'=>e = .returned (.tuple #[])∧∃z,SU w5 w' g n c z∧Sort.PermIn (m+1) b' y z∧Sort.SortedIn ltU (m+1) b' z) HR.out ?_
           rintro e w6 ⟨rfl,z,hz1,hz2,hz3⟩
           have HS6:Hid (PS w w6 g n c a b d a' m z):=⟨(HE.out.su.trans HP.out.su).trans hz1,HE.out.pq.right HP.out hz2 hz3,Nat.lt_of_lt_of_le Hg5.out hz1.mods.size⟩
           clear hz1 hz2 hz3 HR HP HW5 Hg5 HE hlr'
           go_wp2_with fail
           go_round
           case rel=>exact ⟨a',m,(l'+1),_,_,_,by go_num,rfl,by go_num,rfl,rfl,by omega,HS6.out⟩
           case measure=>simp [intOf]<;>omega
      ·have ht2':(t == 2)=false:=by simpa using ht2
       by_cases ht1:t=1
       ·subst ht1
        clear ht2 ht2'
        obtain ⟨pr,hpr⟩:∃pr,Sort.partialInsertionSort ltU x a' b'=pr:=⟨_,rfl⟩
        have hst:=Sort.partialInsertionSort_holds swo_ltU x a' b' (by omega) (by rw [HY.out.su.sz];omega) HY.out.pq.below
        have hcl:=partialInsertion_u64 g n c a' b' x w2 HY.out.su.here (by omega) (by omega) hn
        rw [hpr] at hst hcl
        have HST:=Lib.hid hst
        have HCL:=Lib.hid hcl
        clear hst hcl hpr
        obtain ⟨y,rb⟩:=pr
        cases rb with
        | true=>
         try go_wp2_with fail
         refine HCL.out.mono ?_
         rintro e w4 ⟨rfl,h4⟩
         have HF:=Lib.hid (HY.out.ends h4 HST.out.1 (HST.out.2 (by simp)))
         clear h4 HCL
         go_wp2_with fail
         refine bodyPost_ret (results_none rfl _ _ _) rfl ?_
         exact ⟨rfl,HF.out⟩
        | false=>
         try go_wp2_with fail
         refine HCL.out.mono ?_
         rintro e w4 ⟨rfl,h4⟩
         have HZ:=Lib.hid (HY.out.perm h4 HST.out.1)
         clear h4 HCL HST HY
         rcases Nat.eq_zero_or_pos a' with ha0 | ha0
         ·have hgd:decide (0<a')=false:=decide_eq_false (by omega)
          clear ha0
          try go_wp2_with fail
          go_quiet ((go_at_call 296;refine Calls.quiet_of_same (less_u64' _ _ _)))
          have HE:=Lib.hid (HZ.out.drewN nq)
          generalize World.drewN _ nq=wq at *
          clear HZ hgd
          have HC:=Lib.hid (partition_u64 g n c a' b' q y wq HE.out.su.here hq1 hq2 (by omega) hn)
          go_wp2_with fail
          refine HC.out.mono ?_
          rintro e w5 ⟨m,rr,y,rfl,hP⟩
          have HP:=Lib.hid hP
          have hm1:=hP.b1;have hm2:=hP.b2
          clear hP HC
          have HW5:=Lib.hid ((HE.out.su.trans HP.out.su).here)
          have hg5:g<w5.heap.size:=Nat.lt_of_lt_of_le HE.out.glt HP.out.su.mods.size
          have Hg5:=Lib.hid hg5
          clear hg5
          by_cases hlr:m-a'<b'-m
          ·have hlr':(m:Int)-(a':Int)<(b':Int)-(m:Int):=by omega
           have HR:=Lib.hid (IH.out a' m (l'+1) y w5 (by omega) HW5.out (by omega) (by omega) (by omega) Hg5.out (HE.out.pq.partL HP.out))
           go_wp2_with fail
           refine Calls.mono (R:=fun e w'=>e = .returned (.tuple #[])∧∃z,SU w5 w' g n c z∧Sort.PermIn a' m y z∧Sort.SortedIn ltU a' m z) HR.out ?_
           rintro e w6 ⟨rfl,z,hz1,hz2,hz3⟩
           have HS6:Hid (PS w w6 g n c a b d (m+1) b' z):=⟨(HE.out.su.trans HP.out.su).trans hz1,HE.out.pq.left HP.out hz2 hz3,Nat.lt_of_lt_of_le Hg5.out hz1.mods.size⟩
           clear hz1 hz2 hz3 HR HP HW5 Hg5 HE hlr'
           go_wp2_with fail
           go_round
           case rel=>exact ⟨(m+1),b',(l'+1),_,_,_,by go_num,rfl,by go_num,rfl,rfl,by omega,HS6.out⟩
           case measure=>simp [intOf]<;>omega
          ·have hlr':¬(m:Int)-(a':Int)<(b':Int)-(m:Int):=by omega
           have HR:=Lib.hid (IH.out (m+1) b' (l'+1) y w5 (by omega) HW5.out (by omega) (by omega) (by omega) Hg5.out (HE.out.pq.partR HP.out))
           go_wp2_with fail
           refine Calls.mono (R:=fun e w'=>e = .returned (.tuple #[])∧∃z,SU w5 w' g n c z∧Sort.PermIn (m+1) b' y z∧Sort.SortedIn ltU (m+1) b' z) HR.out ?_
           rintro e w6 ⟨rfl,z,hz1,hz2,hz3⟩
           have HS6:Hid (PS w w6 g n c a b d a' m z):=⟨(HE.out.su.trans HP.out.su).trans hz1,HE.out.pq.right HP.out hz2 hz3,Nat.lt_of_lt_of_le Hg5.out hz1.mods.size⟩
           clear hz1 hz2 hz3 HR HP HW5 Hg5 HE hlr'
           go_wp2_with fail
           go_round
           case rel=>exact ⟨a',m,(l'+1),_,_,_,by go_num,rfl,by go_num,rfl,rfl,by omega,HS6.out⟩
           case measure=>simp [intOf]<;>omega
         ·have hgd:decide ((a':Int)>0)=true:=decide_eq_true (by omega)
          obtain ⟨a1,ha1⟩:∃a1,a'-1=a1:=⟨_,rfl⟩
          have ha1i:(a':Int)-1=(a1:Int):=by omega
          have hc1:=HZ.out.su.cell (i:=a1) (by omega)
          have hc0:=HZ.out.su.cell (i:=q) (by omega)
          have hn1:(a1:Int)<(n:Int):=by omega
          have hn0:(q:Int)<(n:Int):=by omega
          obtain ⟨p,hp⟩:∃p,y[a1]! = p:=⟨_,rfl⟩
          obtain ⟨v,hv⟩:∃v,y[q]! = v:=⟨_,rfl⟩
          rw [hp] at hc1
          rw [hv] at hc0
          have HPP:Hid (y[a'-1]! = p):=by show _=_;rw [ha1];exact hp
          have HV:=Lib.hid hv
          have HA1:=Lib.hid ha1
          clear hp hv ha1
          try go_wp2_with fail
          go_quiet ((go_at_call 296;refine Calls.quiet_of_same (less_u64' _ _ _)))
          have HE:=Lib.hid (HZ.out.drewN nq)
          generalize World.drewN _ nq=wq at *
          clear HZ hgd hc1 hc0 hn1
          cases hlv:ltU p v with
          | false=>
           have HC:=Lib.hid (partition_equal_u64 g n c a' b' q y wq HE.out.su.here hq1 hq2 (by omega) hn)
           go_wp2_with fail
           refine HC.out.mono ?_
           rintro e w5 ⟨m,y,rfl,hP⟩
           have hm1:=hP.b1;have hm2:=hP.b2
           have HS6:Hid (PS w w5 g n c a b d m b' y):=HE.out.equal hq1 hq2 ha0 (by rw [HPP.out,HV.out];exact hlv) hP
           clear hP HC HE HPP HV HA1 ha1i hn0
           go_wp2_with fail
           go_round
           case rel=>exact ⟨m,b',(l'+1),_,_,_,by go_num,rfl,by go_num,rfl,rfl,by omega,HS6.out⟩
           case measure=>simp [intOf]<;>omega
          | true=>
           clear HPP HV HA1 ha1i hn0
           have HC:=Lib.hid (partition_u64 g n c a' b' q y wq HE.out.su.here hq1 hq2 (by omega) hn)
           go_wp2_with fail
           refine HC.out.mono ?_
           rintro e w5 ⟨m,rr,y,rfl,hP⟩
           have HP:=Lib.hid hP
           have hm1:=hP.b1;have hm2:=hP.b2
           clear hP HC
           have HW5:=Lib.hid ((HE.out.su.trans HP.out.su).here)
           have hg5:g<w5.heap.size:=Nat.lt_of_lt_of_le HE.out.glt HP.out.su.mods.size
           have Hg5:=Lib.hid hg5
           clear hg5
           by_cases hlr:m-a'<b'-m
           ·have hlr':(m:Int)-(a':Int)<(b':Int)-(m:Int):=by omega
            have HR:=Lib.hid (IH.out a' m (l'+1) y w5 (by omega) HW5.out (by omega) (by omega) (by omega) Hg5.out (HE.out.pq.partL HP.out))
            go_wp2_with fail
            refine Calls.mono (R:=fun e w'=>e = .returned (.tuple #[])∧∃z,SU w5 w' g n c z∧Sort.PermIn a' m y z∧Sort.SortedIn ltU a' m z) HR.out ?_
            rintro e w6 ⟨rfl,z,hz1,hz2,hz3⟩
            have HS6:Hid (PS w w6 g n c a b d (m+1) b' z):=⟨(HE.out.su.trans HP.out.su).trans hz1,HE.out.pq.left HP.out hz2 hz3,Nat.lt_of_lt_of_le Hg5.out hz1.mods.size⟩
            clear hz1 hz2 hz3 HR HP HW5 Hg5 HE hlr'
            go_wp2_with fail
            go_round
            case rel=>exact ⟨(m+1),b',(l'+1),_,_,_,by go_num,rfl,by go_num,rfl,rfl,by omega,HS6.out⟩
            case measure=>simp [intOf]<;>omega
           ·have hlr':¬(m:Int)-(a':Int)<(b':Int)-(m:Int):=by omega
            have HR:=Lib.hid (IH.out (m+1) b' (l'+1) y w5 (by omega) HW5.out (by omega) (by omega) (by omega) Hg5.out (HE.out.pq.partR HP.out))
            go_wp2_with fail
            refine Calls.mono (R:=fun e w'=>e = .returned (.tuple #[])∧∃z,SU w5 w' g n c z∧Sort.PermIn (m+1) b' y z∧Sort.SortedIn ltU (m+1) b' z) HR.out ?_
            rintro e w6 ⟨rfl,z,hz1,hz2,hz3⟩
            have HS6:Hid (PS w w6 g n c a b d a' m z):=⟨(HE.out.su.trans HP.out.su).trans hz1,HE.out.pq.right HP.out hz2 hz3,Nat.lt_of_lt_of_le Hg5.out hz1.mods.size⟩
            clear hz1 hz2 hz3 HR HP HW5 Hg5 HE hlr'
            go_wp2_with fail
            go_round
            case rel=>exact ⟨a',m,(l'+1),_,_,_,by go_num,rfl,by go_num,rfl,rfl,by omega,HS6.out⟩
            case measure=>simp [intOf]<;>omega
       ·have ht1':(t == 1)=false:=by simpa using ht1
        rcases Nat.eq_zero_or_pos a' with ha0 | ha0
        ·have hgd:decide (0<a')=false:=decide_eq_false (by omega)
         clear ha0
         try go_wp2_with fail
         go_quiet ((go_at_call 296;refine Calls.quiet_of_same (less_u64' _ _ _)))
         have HE:=Lib.hid (HY.out.drewN nq)
         generalize World.drewN _ nq=wq at *
         clear HY hgd
         have HC:=Lib.hid (partition_u64 g n c a' b' q x wq HE.out.su.here hq1 hq2 (by omega) hn)
         go_wp2_with fail
         refine HC.out.mono ?_
         rintro e w5 ⟨m,rr,y,rfl,hP⟩
         have HP:=Lib.hid hP
         have hm1:=hP.b1;have hm2:=hP.b2
         clear hP HC
         have HW5:=Lib.hid ((HE.out.su.trans HP.out.su).here)
         have hg5:g<w5.heap.size:=Nat.lt_of_lt_of_le HE.out.glt HP.out.su.mods.size
         have Hg5:=Lib.hid hg5
         clear hg5
         by_cases hlr:m-a'<b'-m
         ·have hlr':(m:Int)-(a':Int)<(b':Int)-(m:Int):=by omega
          have HR:=Lib.hid (IH.out a' m (l'+1) y w5 (by omega) HW5.out (by omega) (by omega) (by omega) Hg5.out (HE.out.pq.partL HP.out))
          go_wp2_with fail
          refine Calls.mono (R:=fun e w'=>e = .returned (.tuple #[])∧∃z,SU w5 w' g n c z∧Sort.PermIn a' m y z∧Sort.SortedIn ltU a' m z) HR.out ?_
          rintro e w6 ⟨rfl,z,hz1,hz2,hz3⟩
          have HS6:Hid (PS w w6 g n c a b d (m+1) b' z):=⟨(HE.out.su.trans HP.out.su).trans hz1,HE.out.pq.left HP.out hz2 hz3,Nat.lt_of_lt_of_le Hg5.out hz1.mods.size⟩
          clear hz1 hz2 hz3 HR HP HW5 Hg5 HE hlr'
          go_wp2_with fail
          go_round
          case rel=>exact ⟨(m+1),b',(l'+1),_,_,_,by go_num,rfl,by go_num,rfl,rfl,by omega,HS6.out⟩
          case measure=>simp [intOf]<;>omega
         ·have hlr':¬(m:Int)-(a':Int)<(b':Int)-(m:Int):=by omega
          have HR:=Lib.hid (IH.out (m+1) b' (l'+1) y w5 (by omega) HW5.out (by omega) (by omega) (by omega) Hg5.out (HE.out.pq.partR HP.out))
          go_wp2_with fail
          refine Calls.mono (R:=fun e w'=>e = .returned (.tuple #[])∧∃z,SU w5 w' g n c z∧Sort.PermIn (m+1) b' y z∧Sort.SortedIn ltU (m+1) b' z) HR.out ?_
          rintro e w6 ⟨rfl,z,hz1,hz2,hz3⟩
          have HS6:Hid (PS w w6 g n c a b d a' m z):=⟨(HE.out.su.trans HP.out.su).trans hz1,HE.out.pq.right HP.out hz2 hz3,Nat.lt_of_lt_of_le Hg5.out hz1.mods.size⟩
          clear hz1 hz2 hz3 HR HP HW5 Hg5 HE hlr'
          go_wp2_with fail
          go_round
          case rel=>exact ⟨a',m,(l'+1),_,_,_,by go_num,rfl,by go_num,rfl,rfl,by omega,HS6.out⟩
          case measure=>simp [intOf]<;>omega
        ·have hgd:decide ((a':Int)>0)=true:=decide_eq_true (by omega)
         obtain ⟨a1,ha1⟩:∃a1,a'-1=a1:=⟨_,rfl⟩
         have ha1i:(a':Int)-1=(a1:Int):=by omega
         have hc1:=HY.out.su.cell (i:=a1) (by omega)
         have hc0:=HY.out.su.cell (i:=q) (by omega)
         have hn1:(a1:Int)<(n:Int):=by omega
         have hn0:(q:Int)<(n:Int):=by omega
         obtain ⟨p,hp⟩:∃p,x[a1]! = p:=⟨_,rfl⟩
         obtain ⟨v,hv⟩:∃v,x[q]! = v:=⟨_,rfl⟩
         rw [hp] at hc1
         rw [hv] at hc0
         have HPP:Hid (x[a'-1]! = p):=by show _=_;rw [ha1];exact hp
         have HV:=Lib.hid hv
         have HA1:=Lib.hid ha1
         clear hp hv ha1
         try go_wp2_with fail
         go_quiet ((go_at_call 296;refine Calls.quiet_of_same (less_u64' _ _ _)))
         have HE:=Lib.hid (HY.out.drewN nq)
         generalize World.drewN _ nq=wq at *
         clear HY hgd hc1 hc0 hn1
         cases hlv:ltU p v with
         | false=>
          have HC:=Lib.hid (partition_equal_u64 g n c a' b' q x wq HE.out.su.here hq1 hq2 (by omega) hn)
          go_wp2_with fail
          refine HC.out.mono ?_
          rintro e w5 ⟨m,y,rfl,hP⟩
          have hm1:=hP.b1;have hm2:=hP.b2
          have HS6:Hid (PS w w5 g n c a b d m b' y):=HE.out.equal hq1 hq2 ha0 (by rw [HPP.out,HV.out];exact hlv) hP
          clear hP HC HE HPP HV HA1 ha1i hn0
          go_wp2_with fail
          go_round
          case rel=>exact ⟨m,b',(l'+1),_,_,_,by go_num,rfl,by go_num,rfl,rfl,by omega,HS6.out⟩
          case measure=>simp [intOf]<;>omega
         | true=>
          clear HPP HV HA1 ha1i hn0
          have HC:=Lib.hid (partition_u64 g n c a' b' q x wq HE.out.su.here hq1 hq2 (by omega) hn)
          go_wp2_with fail
          refine HC.out.mono ?_
          rintro e w5 ⟨m,rr,y,rfl,hP⟩
          have HP:=Lib.hid hP
          have hm1:=hP.b1;have hm2:=hP.b2
          clear hP HC
          have HW5:=Lib.hid ((HE.out.su.trans HP.out.su).here)
          have hg5:g<w5.heap.size:=Nat.lt_of_lt_of_le HE.out.glt HP.out.su.mods.size
          have Hg5:=Lib.hid hg5
          clear hg5
          by_cases hlr:m-a'<b'-m
          ·have hlr':(m:Int)-(a':Int)<(b':Int)-(m:Int):=by omega
           have HR:=Lib.hid (IH.out a' m (l'+1) y w5 (by omega) HW5.out (by omega) (by omega) (by omega) Hg5.out (HE.out.pq.partL HP.out))
           go_wp2_with fail
           refine Calls.mono (R:=fun e w'=>e = .returned (.tuple #[])∧∃z,SU w5 w' g n c z∧Sort.PermIn a' m y z∧Sort.SortedIn ltU a' m z) HR.out ?_
           rintro e w6 ⟨rfl,z,hz1,hz2,hz3⟩
           have HS6:Hid (PS w w6 g n c a b d (m+1) b' z):=⟨(HE.out.su.trans HP.out.su).trans hz1,HE.out.pq.left HP.out hz2 hz3,Nat.lt_of_lt_of_le Hg5.out hz1.mods.size⟩
           clear hz1 hz2 hz3 HR HP HW5 Hg5 HE hlr'
           go_wp2_with fail
           go_round
           case rel=>exact ⟨(m+1),b',(l'+1),_,_,_,by go_num,rfl,by go_num,rfl,rfl,by omega,HS6.out⟩
           case measure=>simp [intOf]<;>omega
          ·have hlr':¬(m:Int)-(a':Int)<(b':Int)-(m:Int):=by omega
           have HR:=Lib.hid (IH.out (m+1) b' (l'+1) y w5 (by omega) HW5.out (by omega) (by omega) (by omega) Hg5.out (HE.out.pq.partR HP.out))
           go_wp2_with fail
           refine Calls.mono (R:=fun e w'=>e = .returned (.tuple #[])∧∃z,SU w5 w' g n c z∧Sort.PermIn (m+1) b' y z∧Sort.SortedIn ltU (m+1) b' z) HR.out ?_
           rintro e w6 ⟨rfl,z,hz1,hz2,hz3⟩
           have HS6:Hid (PS w w6 g n c a b d a' m z):=⟨(HE.out.su.trans HP.out.su).trans hz1,HE.out.pq.right HP.out hz2 hz3,Nat.lt_of_lt_of_le Hg5.out hz1.mods.size⟩
           clear hz1 hz2 hz3 HR HP HW5 Hg5 HE hlr'
           go_wp2_with fail
           go_round
           case rel=>exact ⟨a',m,(l'+1),_,_,_,by go_num,rfl,by go_num,rfl,rfl,by omega,HS6.out⟩
           case measure=>simp [intOf]<;>omega
     | false=>
      have HC:=Lib.hid (choose_pivot_u64 g n c a' b' x wr HX.out.su.here (by omega) (by omega) hn HX.out.glt)
      go_wp2_with fail
      refine HC.out.mono ?_
      rintro e w2 ⟨q,t,rfl,⟨hq1,hq2⟩,h2⟩
      have HY:=Lib.hid (HX.out.same h2)
      clear h2 HC HX
      by_cases ht2:t=2
      ·subst ht2
       have HC:=Lib.hid (reverse_range_u64 g n c a' b' x w2 HY.out.su.here (by omega) (by omega) hn)
       obtain ⟨q,HQ,hq1,hq2⟩:∃q2:Nat,Hid ((b':Int)-1-((q:Int)-(a':Int))=(q2:Int))∧a'≤q2∧q2<b':=⟨(b'-1)-(q-a'),by show _=_;omega,by omega,by omega⟩
       go_wp2_with fail
       refine HC.out.mono ?_
       rintro e w3 ⟨rfl,y0,h3,hp3⟩
       have HY3:=Lib.hid (HY.out.perm h3 hp3)
       clear h3 hp3 HC HY
       go_wp2_with fail
       rw [HQ.out]
       clear HQ
       rcases Nat.eq_zero_or_pos a' with ha0 | ha0
       ·have hgd:decide (0<a')=false:=decide_eq_false (by omega)
        clear ha0
        try go_wp2_with fail
        go_quiet ((go_at_call 296;refine Calls.quiet_of_same (less_u64' _ _ _)))
        have HE:=Lib.hid (HY3.out.drewN nq)
        generalize World.drewN _ nq=wq at *
        clear HY3 hgd
        have HC:=Lib.hid (partition_u64 g n c a' b' q y0 wq HE.out.su.here hq1 hq2 (by omega) hn)
        go_wp2_with fail
        refine HC.out.mono ?_
        rintro e w5 ⟨m,rr,y,rfl,hP⟩
        have HP:=Lib.hid hP
        have hm1:=hP.b1;have hm2:=hP.b2
        clear hP HC
        have HW5:=Lib.hid ((HE.out.su.trans HP.out.su).here)
        have hg5:g<w5.heap.size:=Nat.lt_of_lt_of_le HE.out.glt HP.out.su.mods.size
        have Hg5:=Lib.hid hg5
        clear hg5
        by_cases hlr:m-a'<b'-m
        ·have hlr':(m:Int)-(a':Int)<(b':Int)-(m:Int):=by omega
         have HR:=Lib.hid (IH.out a' m (l'+1) y w5 (by omega) HW5.out (by omega) (by omega) (by omega) Hg5.out (HE.out.pq.partL HP.out))
         go_wp2_with fail
         refine Calls.mono (R:=fun e w'=>e = .returned (.tuple #[])∧∃z,SU w5 w' g n c z∧Sort.PermIn a' m y z∧Sort.SortedIn ltU a' m z) HR.out ?_
         rintro e w6 ⟨rfl,z,hz1,hz2,hz3⟩
         have HS6:Hid (PS w w6 g n c a b d (m+1) b' z):=⟨(HE.out.su.trans HP.out.su).trans hz1,HE.out.pq.left HP.out hz2 hz3,Nat.lt_of_lt_of_le Hg5.out hz1.mods.size⟩
         clear hz1 hz2 hz3 HR HP HW5 Hg5 HE hlr'
         go_wp2_with fail
         go_round
         case rel=>exact ⟨(m+1),b',(l'+1),_,_,_,by go_num,rfl,by go_num,rfl,rfl,by omega,HS6.out⟩
         case measure=>simp [intOf]<;>omega
        ·have hlr':¬(m:Int)-(a':Int)<(b':Int)-(m:Int):=by omega
         have HR:=Lib.hid (IH.out (m+1) b' (l'+1) y w5 (by omega) HW5.out (by omega) (by omega) (by omega) Hg5.out (HE.out.pq.partR HP.out))
         go_wp2_with fail
         refine Calls.mono (R:=fun e w'=>e = .returned (.tuple #[])∧∃z,SU w5 w' g n c z∧Sort.PermIn (m+1) b' y z∧Sort.SortedIn ltU (m+1) b' z) HR.out ?_
         rintro e w6 ⟨rfl,z,hz1,hz2,hz3⟩
         have HS6:Hid (PS w w6 g n c a b d a' m z):=⟨(HE.out.su.trans HP.out.su).trans hz1,HE.out.pq.right HP.out hz2 hz3,Nat.lt_of_lt_of_le Hg5.out hz1.mods.size⟩
         clear hz1 hz2 hz3 HR HP HW5 Hg5 HE hlr'
         go_wp2_with fail
         go_round
         case rel=>exact ⟨a',m,(l'+1),_,_,_,by go_num,rfl,by go_num,rfl,rfl,by omega,HS6.out⟩
         case measure=>simp [intOf]<;>omega
       ·have hgd:decide ((a':Int)>0)=true:=decide_eq_true (by omega)
        obtain ⟨a1,ha1⟩:∃a1,a'-1=a1:=⟨_,rfl⟩
        have ha1i:(a':Int)-1=(a1:Int):=by omega
        have hc1:=HY3.out.su.cell (i:=a1) (by omega)
        have hc0:=HY3.out.su.cell (i:=q) (by omega)
        have hn1:(a1:Int)<(n:Int):=by omega
        have hn0:(q:Int)<(n:Int):=by omega
        obtain ⟨p,hp⟩:∃p,y0[a1]! = p:=⟨_,rfl⟩
        obtain ⟨v,hv⟩:∃v,y0[q]! = v:=⟨_,rfl⟩
        rw [hp] at hc1
        rw [hv] at hc0
        have HPP:Hid (y0[a'-1]! = p):=by show _=_;rw [ha1];exact hp
        have HV:=Lib.hid hv
        have HA1:=Lib.hid ha1
        clear hp hv ha1
        try go_wp2_with fail
        go_quiet ((go_at_call 296;refine Calls.quiet_of_same (less_u64' _ _ _)))
        have HE:=Lib.hid (HY3.out.drewN nq)
        generalize World.drewN _ nq=wq at *
        clear HY3 hgd hc1 hc0 hn1
        cases hlv:ltU p v with
        | false=>
         have HC:=Lib.hid (partition_equal_u64 g n c a' b' q y0 wq HE.out.su.here hq1 hq2 (by omega) hn)
         go_wp2_with fail
         refine HC.out.mono ?_
         rintro e w5 ⟨m,y,rfl,hP⟩
         have hm1:=hP.b1;have hm2:=hP.b2
         have HS6:Hid (PS w w5 g n c a b d m b' y):=HE.out.equal hq1 hq2 ha0 (by rw [HPP.out,HV.out];exact hlv) hP
         clear hP HC HE HPP HV HA1 ha1i hn0
         go_wp2_with fail
         go_round
         case rel=>exact ⟨m,b',(l'+1),_,_,_,by go_num,rfl,by go_num,rfl,rfl,by omega,HS6.out⟩
         case measure=>simp [intOf]<;>omega
        | true=>
         clear HPP HV HA1 ha1i hn0
         have HC:=Lib.hid (partition_u64 g n c a' b' q y0 wq HE.out.su.here hq1 hq2 (by omega) hn)
         go_wp2_with fail
         refine HC.out.mono ?_
         rintro e w5 ⟨m,rr,y,rfl,hP⟩
         have HP:=Lib.hid hP
         have hm1:=hP.b1;have hm2:=hP.b2
         clear hP HC
         have HW5:=Lib.hid ((HE.out.su.trans HP.out.su).here)
         have hg5:g<w5.heap.size:=Nat.lt_of_lt_of_le HE.out.glt HP.out.su.mods.size
         have Hg5:=Lib.hid hg5
         clear hg5
         by_cases hlr:m-a'<b'-m
         ·have hlr':(m:Int)-(a':Int)<(b':Int)-(m:Int):=by omega
          have HR:=Lib.hid (IH.out a' m (l'+1) y w5 (by omega) HW5.out (by omega) (by omega) (by omega) Hg5.out (HE.out.pq.partL HP.out))
          go_wp2_with fail
          refine Calls.mono (R:=fun e w'=>e = .returned (.tuple #[])∧∃z,SU w5 w' g n c z∧Sort.PermIn a' m y z∧Sort.SortedIn ltU a' m z) HR.out ?_
          rintro e w6 ⟨rfl,z,hz1,hz2,hz3⟩
          have HS6:Hid (PS w w6 g n c a b d (m+1) b' z):=⟨(HE.out.su.trans HP.out.su).trans hz1,HE.out.pq.left HP.out hz2 hz3,Nat.lt_of_lt_of_le Hg5.out hz1.mods.size⟩
          clear hz1 hz2 hz3 HR HP HW5 Hg5 HE hlr'
          go_wp2_with fail
          go_round
          case rel=>exact ⟨(m+1),b',(l'+1),_,_,_,by go_num,rfl,by go_num,rfl,rfl,by omega,HS6.out⟩
          case measure=>simp [intOf]<;>omega
         ·have hlr':¬(m:Int)-(a':Int)<(b':Int)-(m:Int):=by omega
          have HR:=Lib.hid (IH.out (m+1) b' (l'+1) y w5 (by omega) HW5.out (by omega) (by omega) (by omega) Hg5.out (HE.out.pq.partR HP.out))
          go_wp2_with fail
          refine Calls.mono (R:=fun e w'=>e = .returned (.tuple #[])∧∃z,SU w5 w' g n c z∧Sort.PermIn (m+1) b' y z∧Sort.SortedIn ltU (m+1) b' z) HR.out ?_
          rintro e w6 ⟨rfl,z,hz1,hz2,hz3⟩
          have HS6:Hid (PS w w6 g n c a b d a' m z):=⟨(HE.out.su.trans HP.out.su).trans hz1,HE.out.pq.right HP.out hz2 hz3,Nat.lt_of_lt_of_le Hg5.out hz1.mods.size⟩
          clear hz1 hz2 hz3 HR HP HW5 Hg5 HE hlr'
          go_wp2_with fail
          go_round
          case rel=>exact ⟨a',m,(l'+1),_,_,_,by go_num,rfl,by go_num,rfl,rfl,by omega,HS6.out⟩
          case measure=>simp [intOf]<;>omega
      ·have ht2':(t == 2)=false:=by simpa using ht2
       rcases Nat.eq_zero_or_pos a' with ha0 | ha0
       ·have hgd:decide (0<a')=false:=decide_eq_false (by omega)
        clear ha0
        try go_wp2_with fail
        go_quiet ((go_at_call 296;refine Calls.quiet_of_same (less_u64' _ _ _)))
        have HE:=Lib.hid (HY.out.drewN nq)
        generalize World.drewN _ nq=wq at *
        clear HY hgd
        have HC:=Lib.hid (partition_u64 g n c a' b' q x wq HE.out.su.here hq1 hq2 (by omega) hn)
        go_wp2_with fail
        refine HC.out.mono ?_
        rintro e w5 ⟨m,rr,y,rfl,hP⟩
        have HP:=Lib.hid hP
        have hm1:=hP.b1;have hm2:=hP.b2
        clear hP HC
        have HW5:=Lib.hid ((HE.out.su.trans HP.out.su).here)
        have hg5:g<w5.heap.size:=Nat.lt_of_lt_of_le HE.out.glt HP.out.su.mods.size
        have Hg5:=Lib.hid hg5
        clear hg5
        by_cases hlr:m-a'<b'-m
        ·have hlr':(m:Int)-(a':Int)<(b':Int)-(m:Int):=by omega
         have HR:=Lib.hid (IH.out a' m (l'+1) y w5 (by omega) HW5.out (by omega) (by omega) (by omega) Hg5.out (HE.out.pq.partL HP.out))
         go_wp2_with fail
         refine Calls.mono (R:=fun e w'=>e = .returned (.tuple #[])∧∃z,SU w5 w' g n c z∧Sort.PermIn a' m y z∧Sort.SortedIn ltU a' m z) HR.out ?_
         rintro e w6 ⟨rfl,z,hz1,hz2,hz3⟩
         have HS6:Hid (PS w w6 g n c a b d (m+1) b' z):=⟨(HE.out.su.trans HP.out.su).trans hz1,HE.out.pq.left HP.out hz2 hz3,Nat.lt_of_lt_of_le Hg5.out hz1.mods.size⟩
         clear hz1 hz2 hz3 HR HP HW5 Hg5 HE hlr'
         go_wp2_with fail
         go_round
         case rel=>exact ⟨(m+1),b',(l'+1),_,_,_,by go_num,rfl,by go_num,rfl,rfl,by omega,HS6.out⟩
         case measure=>simp [intOf]<;>omega
        ·have hlr':¬(m:Int)-(a':Int)<(b':Int)-(m:Int):=by omega
         have HR:=Lib.hid (IH.out (m+1) b' (l'+1) y w5 (by omega) HW5.out (by omega) (by omega) (by omega) Hg5.out (HE.out.pq.partR HP.out))
         go_wp2_with fail
         refine Calls.mono (R:=fun e w'=>e = .returned (.tuple #[])∧∃z,SU w5 w' g n c z∧Sort.PermIn (m+1) b' y z∧Sort.SortedIn ltU (m+1) b' z) HR.out ?_
         rintro e w6 ⟨rfl,z,hz1,hz2,hz3⟩
         have HS6:Hid (PS w w6 g n c a b d a' m z):=⟨(HE.out.su.trans HP.out.su).trans hz1,HE.out.pq.right HP.out hz2 hz3,Nat.lt_of_lt_of_le Hg5.out hz1.mods.size⟩
         clear hz1 hz2 hz3 HR HP HW5 Hg5 HE hlr'
         go_wp2_with fail
         go_round
         case rel=>exact ⟨a',m,(l'+1),_,_,_,by go_num,rfl,by go_num,rfl,rfl,by omega,HS6.out⟩
         case measure=>simp [intOf]<;>omega
       ·have hgd:decide ((a':Int)>0)=true:=decide_eq_true (by omega)
        obtain ⟨a1,ha1⟩:∃a1,a'-1=a1:=⟨_,rfl⟩
        have ha1i:(a':Int)-1=(a1:Int):=by omega
        have hc1:=HY.out.su.cell (i:=a1) (by omega)
        have hc0:=HY.out.su.cell (i:=q) (by omega)
        have hn1:(a1:Int)<(n:Int):=by omega
        have hn0:(q:Int)<(n:Int):=by omega
        obtain ⟨p,hp⟩:∃p,x[a1]! = p:=⟨_,rfl⟩
        obtain ⟨v,hv⟩:∃v,x[q]! = v:=⟨_,rfl⟩
        rw [hp] at hc1
        rw [hv] at hc0
        have HPP:Hid (x[a'-1]! = p):=by show _=_;rw [ha1];exact hp
        have HV:=Lib.hid hv
        have HA1:=Lib.hid ha1
        clear hp hv ha1
        try go_wp2_with fail
        go_quiet ((go_at_call 296;refine Calls.quiet_of_same (less_u64' _ _ _)))
        have HE:=Lib.hid (HY.out.drewN nq)
        generalize World.drewN _ nq=wq at *
        clear HY hgd hc1 hc0 hn1
        cases hlv:ltU p v with
        | false=>
         have HC:=Lib.hid (partition_equal_u64 g n c a' b' q x wq HE.out.su.here hq1 hq2 (by omega) hn)
         go_wp2_with fail
         refine HC.out.mono ?_
         rintro e w5 ⟨m,y,rfl,hP⟩
         have hm1:=hP.b1;have hm2:=hP.b2
         have HS6:Hid (PS w w5 g n c a b d m b' y):=HE.out.equal hq1 hq2 ha0 (by rw [HPP.out,HV.out];exact hlv) hP
         clear hP HC HE HPP HV HA1 ha1i hn0
         go_wp2_with fail
         go_round
         case rel=>exact ⟨m,b',(l'+1),_,_,_,by go_num,rfl,by go_num,rfl,rfl,by omega,HS6.out⟩
         case measure=>simp [intOf]<;>omega
        | true=>
         clear HPP HV HA1 ha1i hn0
         have HC:=Lib.hid (partition_u64 g n c a' b' q x wq HE.out.su.here hq1 hq2 (by omega) hn)
         go_wp2_with fail
         refine HC.out.mono ?_
         rintro e w5 ⟨m,rr,y,rfl,hP⟩
         have HP:=Lib.hid hP
         have hm1:=hP.b1;have hm2:=hP.b2
         clear hP HC
         have HW5:=Lib.hid ((HE.out.su.trans HP.out.su).here)
         have hg5:g<w5.heap.size:=Nat.lt_of_lt_of_le HE.out.glt HP.out.su.mods.size
         have Hg5:=Lib.hid hg5
         clear hg5
         by_cases hlr:m-a'<b'-m
         ·have hlr':(m:Int)-(a':Int)<(b':Int)-(m:Int):=by omega
          have HR:=Lib.hid (IH.out a' m (l'+1) y w5 (by omega) HW5.out (by omega) (by omega) (by omega) Hg5.out (HE.out.pq.partL HP.out))
          go_wp2_with fail
          refine Calls.mono (R:=fun e w'=>e = .returned (.tuple #[])∧∃z,SU w5 w' g n c z∧Sort.PermIn a' m y z∧Sort.SortedIn ltU a' m z) HR.out ?_
          rintro e w6 ⟨rfl,z,hz1,hz2,hz3⟩
          have HS6:Hid (PS w w6 g n c a b d (m+1) b' z):=⟨(HE.out.su.trans HP.out.su).trans hz1,HE.out.pq.left HP.out hz2 hz3,Nat.lt_of_lt_of_le Hg5.out hz1.mods.size⟩
          clear hz1 hz2 hz3 HR HP HW5 Hg5 HE hlr'
          go_wp2_with fail
          go_round
          case rel=>exact ⟨(m+1),b',(l'+1),_,_,_,by go_num,rfl,by go_num,rfl,rfl,by omega,HS6.out⟩
          case measure=>simp [intOf]<;>omega
         ·have hlr':¬(m:Int)-(a':Int)<(b':Int)-(m:Int):=by omega
          have HR:=Lib.hid (IH.out (m+1) b' (l'+1) y w5 (by omega) HW5.out (by omega) (by omega) (by omega) Hg5.out (HE.out.pq.partR HP.out))
          go_wp2_with fail
          refine Calls.mono (R:=fun e w'=>e = .returned (.tuple #[])∧∃z,SU w5 w' g n c z∧Sort.PermIn (m+1) b' y z∧Sort.SortedIn ltU (m+1) b' z) HR.out ?_
          rintro e w6 ⟨rfl,z,hz1,hz2,hz3⟩
          have HS6:Hid (PS w w6 g n c a b d a' m z):=⟨(HE.out.su.trans HP.out.su).trans hz1,HE.out.pq.right HP.out hz2 hz3,Nat.lt_of_lt_of_le Hg5.out hz1.mods.size⟩
          clear hz1 hz2 hz3 HR HP HW5 Hg5 HE hlr'
          go_wp2_with fail
          go_round
          case rel=>exact ⟨a',m,(l'+1),_,_,_,by go_num,rfl,by go_num,rfl,rfl,by omega,HS6.out⟩
          case measure=>simp [intOf]<;>omega
    | false=>
     have HB:=Lib.hid (break_u64 g n c a' b' x wr HX.out.su.here (by omega) (by omega) hn HX.out.glt)
     go_wp2_with fail
     refine HB.out.mono ?_
     rintro e w1 ⟨rfl,x1,h1,hp1⟩
     have HX1:=Lib.hid (HX.out.perm h1 hp1)
     clear h1 hp1 HB HX
     have HC:=Lib.hid (choose_pivot_u64 g n c a' b' x1 w1 HX1.out.su.here (by omega) (by omega) hn HX1.out.glt)
     go_wp2_with fail
     refine HC.out.mono ?_
     rintro e w2 ⟨q,t,rfl,⟨hq1,hq2⟩,h2⟩
     have HY:=Lib.hid (HX1.out.same h2)
     clear h2 HC HX1
     by_cases ht2:t=2
     ·subst ht2
      have HC:=Lib.hid (reverse_range_u64 g n c a' b' x1 w2 HY.out.su.here (by omega) (by omega) hn)
      obtain ⟨q,HQ,hq1,hq2⟩:∃q2:Nat,Hid ((b':Int)-1-((q:Int)-(a':Int))=(q2:Int))∧a'≤q2∧q2<b':=⟨(b'-1)-(q-a'),by show _=_;omega,by omega,by omega⟩
      go_wp2_with fail
      refine HC.out.mono ?_
      rintro e w3 ⟨rfl,y0,h3,hp3⟩
      have HY3:=Lib.hid (HY.out.perm h3 hp3)
      clear h3 hp3 HC HY
      go_wp2_with fail
      rw [HQ.out]
      clear HQ
      rcases Nat.eq_zero_or_pos a' with ha0 | ha0
      ·have hgd:decide (0<a')=false:=decide_eq_false (by omega)
       clear ha0
       try go_wp2_with fail
       go_quiet ((go_at_call 296;refine Calls.quiet_of_same (less_u64' _ _ _)))
       have HE:=Lib.hid (HY3.out.drewN nq)
       generalize World.drewN _ nq=wq at *
       clear HY3 hgd
       have HC:=Lib.hid (partition_u64 g n c a' b' q y0 wq HE.out.su.here hq1 hq2 (by omega) hn)
       go_wp2_with fail
       refine HC.out.mono ?_
       rintro e w5 ⟨m,rr,y,rfl,hP⟩
       have HP:=Lib.hid hP
       have hm1:=hP.b1;have hm2:=hP.b2
       clear hP HC
       have HW5:=Lib.hid ((HE.out.su.trans HP.out.su).here)
       have hg5:g<w5.heap.size:=Nat.lt_of_lt_of_le HE.out.glt HP.out.su.mods.size
       have Hg5:=Lib.hid hg5
       clear hg5
       by_cases hlr:m-a'<b'-m
       ·have hlr':(m:Int)-(a':Int)<(b':Int)-(m:Int):=by omega
        have HR:=Lib.hid (IH.out a' m l' y w5 (by omega) HW5.out (by omega) (by omega) (by omega) Hg5.out (HE.out.pq.partL HP.out))
        go_wp2_with fail
        refine Calls.mono (R:=fun e w'=>e = .returned (.tuple #[])∧∃z,SU w5 w' g n c z∧Sort.PermIn a' m y z∧Sort.SortedIn ltU a' m z) HR.out ?_
        rintro e w6 ⟨rfl,z,hz1,hz2,hz3⟩
        have HS6:Hid (PS w w6 g n c a b d (m+1) b' z):=⟨(HE.out.su.trans HP.out.su).trans hz1,HE.out.pq.left HP.out hz2 hz3,Nat.lt_of_lt_of_le Hg5.out hz1.mods.size⟩
        clear hz1 hz2 hz3 HR HP HW5 Hg5 HE hlr'
        go_wp2_with fail
        go_round
        case rel=>exact ⟨(m+1),b',l',_,_,_,by go_num,rfl,by go_num,rfl,rfl,by omega,HS6.out⟩
        case measure=>simp [intOf]<;>omega
       ·have hlr':¬(m:Int)-(a':Int)<(b':Int)-(m:Int):=by omega
        have HR:=Lib.hid (IH.out (m+1) b' l' y w5 (by omega) HW5.out (by omega) (by omega) (by omega) Hg5.out (HE.out.pq.partR HP.out))
        go_wp2_with fail
        refine Calls.mono (R:=fun e w'=>e = .returned (.tuple #[])∧∃z,SU w5 w' g n c z∧Sort.PermIn (m+1) b' y z∧Sort.SortedIn ltU (m+1) b' z) HR.out ?_
        rintro e w6 ⟨rfl,z,hz1,hz2,hz3⟩
        have HS6:Hid (PS w w6 g n c a b d a' m z):=⟨(HE.out.su.trans HP.out.su).trans hz1,HE.out.pq.right HP.out hz2 hz3,Nat.lt_of_lt_of_le Hg5.out hz1.mods.size⟩
        clear hz1 hz2 hz3 HR HP HW5 Hg5 HE hlr'
        go_wp2_with fail
        go_round
        case rel=>exact ⟨a',m,l',_,_,_,by go_num,rfl,by go_num,rfl,rfl,by omega,HS6.out⟩
        case measure=>simp [intOf]<;>omega
      ·have hgd:decide ((a':Int)>0)=true:=decide_eq_true (by omega)
       obtain ⟨a1,ha1⟩:∃a1,a'-1=a1:=⟨_,rfl⟩
       have ha1i:(a':Int)-1=(a1:Int):=by omega
       have hc1:=HY3.out.su.cell (i:=a1) (by omega)
       have hc0:=HY3.out.su.cell (i:=q) (by omega)
       have hn1:(a1:Int)<(n:Int):=by omega
       have hn0:(q:Int)<(n:Int):=by omega
       obtain ⟨p,hp⟩:∃p,y0[a1]! = p:=⟨_,rfl⟩
       obtain ⟨v,hv⟩:∃v,y0[q]! = v:=⟨_,rfl⟩
       rw [hp] at hc1
       rw [hv] at hc0
       have HPP:Hid (y0[a'-1]! = p):=by show _=_;rw [ha1];exact hp
       have HV:=Lib.hid hv
       have HA1:=Lib.hid ha1
       clear hp hv ha1
       try go_wp2_with fail
       go_quiet ((go_at_call 296;refine Calls.quiet_of_same (less_u64' _ _ _)))
       have HE:=Lib.hid (HY3.out.drewN nq)
       generalize World.drewN _ nq=wq at *
       clear HY3 hgd hc1 hc0 hn1
       cases hlv:ltU p v with
       | false=>
        have HC:=Lib.hid (partition_equal_u64 g n c a' b' q y0 wq HE.out.su.here hq1 hq2 (by omega) hn)
        go_wp2_with fail
        refine HC.out.mono ?_
        rintro e w5 ⟨m,y,rfl,hP⟩
        have hm1:=hP.b1;have hm2:=hP.b2
        have HS6:Hid (PS w w5 g n c a b d m b' y):=HE.out.equal hq1 hq2 ha0 (by rw [HPP.out,HV.out];exact hlv) hP
        clear hP HC HE HPP HV HA1 ha1i hn0
        go_wp2_with fail
        go_round
        case rel=>exact ⟨m,b',l',_,_,_,by go_num,rfl,by go_num,rfl,rfl,by omega,HS6.out⟩
        case measure=>simp [intOf]<;>omega
       | true=>
        clear HPP HV HA1 ha1i hn0
        have HC:=Lib.hid (partition_u64 g n c a' b' q y0 wq HE.out.su.here hq1 hq2 (by omega) hn)
        go_wp2_with fail
        refine HC.out.mono ?_
        rintro e w5 ⟨m,rr,y,rfl,hP⟩
        have HP:=Lib.hid hP
        have hm1:=hP.b1;have hm2:=hP.b2
        clear hP HC
        have HW5:=Lib.hid ((HE.out.su.trans HP.out.su).here)
        have hg5:g<w5.heap.size:=Nat.lt_of_lt_of_le HE.out.glt HP.out.su.mods.size
        have Hg5:=Lib.hid hg5
        clear hg5
        by_cases hlr:m-a'<b'-m
        ·have hlr':(m:Int)-(a':Int)<(b':Int)-(m:Int):=by omega
         have HR:=Lib.hid (IH.out a' m l' y w5 (by omega) HW5.out (by omega) (by omega) (by omega) Hg5.out (HE.out.pq.partL HP.out))
         go_wp2_with fail
         refine Calls.mono (R:=fun e w'=>e = .returned (.tuple #[])∧∃z,SU w5 w' g n c z∧Sort.PermIn a' m y z∧Sort.SortedIn ltU a' m z) HR.out ?_
         rintro e w6 ⟨rfl,z,hz1,hz2,hz3⟩
         have HS6:Hid (PS w w6 g n c a b d (m+1) b' z):=⟨(HE.out.su.trans HP.out.su).trans hz1,HE.out.pq.left HP.out hz2 hz3,Nat.lt_of_lt_of_le Hg5.out hz1.mods.size⟩
         clear hz1 hz2 hz3 HR HP HW5 Hg5 HE hlr'
         go_wp2_with fail
         go_round
         case rel=>exact ⟨(m+1),b',l',_,_,_,by go_num,rfl,by go_num,rfl,rfl,by omega,HS6.out⟩
         case measure=>simp [intOf]<;>omega
        ·have hlr':¬(m:Int)-(a':Int)<(b':Int)-(m:Int):=by omega
         have HR:=Lib.hid (IH.out (m+1) b' l' y w5 (by omega) HW5.out (by omega) (by omega) (by omega) Hg5.out (HE.out.pq.partR HP.out))
         go_wp2_with fail
         refine Calls.mono (R:=fun e w'=>e = .returned (.tuple #[])∧∃z,SU w5 w' g n c z∧Sort.PermIn (m+1) b' y z∧Sort.SortedIn ltU (m+1) b' z) HR.out ?_
         rintro e w6 ⟨rfl,z,hz1,hz2,hz3⟩
         have HS6:Hid (PS w w6 g n c a b d a' m z):=⟨(HE.out.su.trans HP.out.su).trans hz1,HE.out.pq.right HP.out hz2 hz3,Nat.lt_of_lt_of_le Hg5.out hz1.mods.size⟩
         clear hz1 hz2 hz3 HR HP HW5 Hg5 HE hlr'
         go_wp2_with fail
         go_round
         case rel=>exact ⟨a',m,l',_,_,_,by go_num,rfl,by go_num,rfl,rfl,by omega,HS6.out⟩
         case measure=>simp [intOf]<;>omega
     ·have ht2':(t == 2)=false:=by simpa using ht2
      rcases Nat.eq_zero_or_pos a' with ha0 | ha0
      ·have hgd:decide (0<a')=false:=decide_eq_false (by omega)
       clear ha0
       try go_wp2_with fail
       go_quiet ((go_at_call 296;refine Calls.quiet_of_same (less_u64' _ _ _)))
       have HE:=Lib.hid (HY.out.drewN nq)
       generalize World.drewN _ nq=wq at *
       clear HY hgd
       have HC:=Lib.hid (partition_u64 g n c a' b' q x1 wq HE.out.su.here hq1 hq2 (by omega) hn)
       go_wp2_with fail
       refine HC.out.mono ?_
       rintro e w5 ⟨m,rr,y,rfl,hP⟩
       have HP:=Lib.hid hP
       have hm1:=hP.b1;have hm2:=hP.b2
       clear hP HC
       have HW5:=Lib.hid ((HE.out.su.trans HP.out.su).here)
       have hg5:g<w5.heap.size:=Nat.lt_of_lt_of_le HE.out.glt HP.out.su.mods.size
       have Hg5:=Lib.hid hg5
       clear hg5
       by_cases hlr:m-a'<b'-m
       ·have hlr':(m:Int)-(a':Int)<(b':Int)-(m:Int):=by omega
        have HR:=Lib.hid (IH.out a' m l' y w5 (by omega) HW5.out (by omega) (by omega) (by omega) Hg5.out (HE.out.pq.partL HP.out))
        go_wp2_with fail
        refine Calls.mono (R:=fun e w'=>e = .returned (.tuple #[])∧∃z,SU w5 w' g n c z∧Sort.PermIn a' m y z∧Sort.SortedIn ltU a' m z) HR.out ?_
        rintro e w6 ⟨rfl,z,hz1,hz2,hz3⟩
        have HS6:Hid (PS w w6 g n c a b d (m+1) b' z):=⟨(HE.out.su.trans HP.out.su).trans hz1,HE.out.pq.left HP.out hz2 hz3,Nat.lt_of_lt_of_le Hg5.out hz1.mods.size⟩
        clear hz1 hz2 hz3 HR HP HW5 Hg5 HE hlr'
        go_wp2_with fail
        go_round
        case rel=>exact ⟨(m+1),b',l',_,_,_,by go_num,rfl,by go_num,rfl,rfl,by omega,HS6.out⟩
        case measure=>simp [intOf]<;>omega
       ·have hlr':¬(m:Int)-(a':Int)<(b':Int)-(m:Int):=by omega
        have HR:=Lib.hid (IH.out (m+1) b' l' y w5 (by omega) HW5.out (by omega) (by omega) (by omega) Hg5.out (HE.out.pq.partR HP.out))
        go_wp2_with fail
        refine Calls.mono (R:=fun e w'=>e = .returned (.tuple #[])∧∃z,SU w5 w' g n c z∧Sort.PermIn (m+1) b' y z∧Sort.SortedIn ltU (m+1) b' z) HR.out ?_
        rintro e w6 ⟨rfl,z,hz1,hz2,hz3⟩
        have HS6:Hid (PS w w6 g n c a b d a' m z):=⟨(HE.out.su.trans HP.out.su).trans hz1,HE.out.pq.right HP.out hz2 hz3,Nat.lt_of_lt_of_le Hg5.out hz1.mods.size⟩
        clear hz1 hz2 hz3 HR HP HW5 Hg5 HE hlr'
        go_wp2_with fail
        go_round
        case rel=>exact ⟨a',m,l',_,_,_,by go_num,rfl,by go_num,rfl,rfl,by omega,HS6.out⟩
        case measure=>simp [intOf]<;>omega
      ·have hgd:decide ((a':Int)>0)=true:=decide_eq_true (by omega)
       obtain ⟨a1,ha1⟩:∃a1,a'-1=a1:=⟨_,rfl⟩
       have ha1i:(a':Int)-1=(a1:Int):=by omega
       have hc1:=HY.out.su.cell (i:=a1) (by omega)
       have hc0:=HY.out.su.cell (i:=q) (by omega)
       have hn1:(a1:Int)<(n:Int):=by omega
       have hn0:(q:Int)<(n:Int):=by omega
       obtain ⟨p,hp⟩:∃p,x1[a1]! = p:=⟨_,rfl⟩
       obtain ⟨v,hv⟩:∃v,x1[q]! = v:=⟨_,rfl⟩
       rw [hp] at hc1
       rw [hv] at hc0
       have HPP:Hid (x1[a'-1]! = p):=by show _=_;rw [ha1];exact hp
       have HV:=Lib.hid hv
       have HA1:=Lib.hid ha1
       clear hp hv ha1
       try go_wp2_with fail
       go_quiet ((go_at_call 296;refine Calls.quiet_of_same (less_u64' _ _ _)))
       have HE:=Lib.hid (HY.out.drewN nq)
       generalize World.drewN _ nq=wq at *
       clear HY hgd hc1 hc0 hn1
       cases hlv:ltU p v with
       | false=>
        have HC:=Lib.hid (partition_equal_u64 g n c a' b' q x1 wq HE.out.su.here hq1 hq2 (by omega) hn)
        go_wp2_with fail
        refine HC.out.mono ?_
        rintro e w5 ⟨m,y,rfl,hP⟩
        have hm1:=hP.b1;have hm2:=hP.b2
        have HS6:Hid (PS w w5 g n c a b d m b' y):=HE.out.equal hq1 hq2 ha0 (by rw [HPP.out,HV.out];exact hlv) hP
        clear hP HC HE HPP HV HA1 ha1i hn0
        go_wp2_with fail
        go_round
        case rel=>exact ⟨m,b',l',_,_,_,by go_num,rfl,by go_num,rfl,rfl,by omega,HS6.out⟩
        case measure=>simp [intOf]<;>omega
       | true=>
        clear HPP HV HA1 ha1i hn0
        have HC:=Lib.hid (partition_u64 g n c a' b' q x1 wq HE.out.su.here hq1 hq2 (by omega) hn)
        go_wp2_with fail
        refine HC.out.mono ?_
        rintro e w5 ⟨m,rr,y,rfl,hP⟩
        have HP:=Lib.hid hP
        have hm1:=hP.b1;have hm2:=hP.b2
        clear hP HC
        have HW5:=Lib.hid ((HE.out.su.trans HP.out.su).here)
        have hg5:g<w5.heap.size:=Nat.lt_of_lt_of_le HE.out.glt HP.out.su.mods.size
        have Hg5:=Lib.hid hg5
        clear hg5
        by_cases hlr:m-a'<b'-m
        ·have hlr':(m:Int)-(a':Int)<(b':Int)-(m:Int):=by omega
         have HR:=Lib.hid (IH.out a' m l' y w5 (by omega) HW5.out (by omega) (by omega) (by omega) Hg5.out (HE.out.pq.partL HP.out))
         go_wp2_with fail
         refine Calls.mono (R:=fun e w'=>e = .returned (.tuple #[])∧∃z,SU w5 w' g n c z∧Sort.PermIn a' m y z∧Sort.SortedIn ltU a' m z) HR.out ?_
         rintro e w6 ⟨rfl,z,hz1,hz2,hz3⟩
         have HS6:Hid (PS w w6 g n c a b d (m+1) b' z):=⟨(HE.out.su.trans HP.out.su).trans hz1,HE.out.pq.left HP.out hz2 hz3,Nat.lt_of_lt_of_le Hg5.out hz1.mods.size⟩
         clear hz1 hz2 hz3 HR HP HW5 Hg5 HE hlr'
         go_wp2_with fail
         go_round
         case rel=>exact ⟨(m+1),b',l',_,_,_,by go_num,rfl,by go_num,rfl,rfl,by omega,HS6.out⟩
         case measure=>simp [intOf]<;>omega
        ·have hlr':¬(m:Int)-(a':Int)<(b':Int)-(m:Int):=by omega
         have HR:=Lib.hid (IH.out (m+1) b' l' y w5 (by omega) HW5.out (by omega) (by omega) (by omega) Hg5.out (HE.out.pq.partR HP.out))
         go_wp2_with fail
         refine Calls.mono (R:=fun e w'=>e = .returned (.tuple #[])∧∃z,SU w5 w' g n c z∧Sort.PermIn (m+1) b' y z∧Sort.SortedIn ltU (m+1) b' z) HR.out ?_
         rintro e w6 ⟨rfl,z,hz1,hz2,hz3⟩
         have HS6:Hid (PS w w6 g n c a b d a' m z):=⟨(HE.out.su.trans HP.out.su).trans hz1,HE.out.pq.right HP.out hz2 hz3,Nat.lt_of_lt_of_le Hg5.out hz1.mods.size⟩
         clear hz1 hz2 hz3 HR HP HW5 Hg5 HE hlr'
         go_wp2_with fail
         go_round
         case rel=>exact ⟨a',m,l',_,_,_,by go_num,rfl,by go_num,rfl,rfl,by omega,HS6.out⟩
         case measure=>simp [intOf]<;>omega
end Go.Proofs.YtdcgbgecbeegmaaGreatDoor
end
section
set_option maxRecDepth 20000
namespace Go.Proofs.YtdcgbgecbeegmaaGreatDoor
open Go Go.RowKit
theorem pdq_u64 (g n c:Nat) (hn:n<4611686018427387904):∀(N a b l:Nat) (d:Array Nat) (w:World),b-a<N→SU w w g n c d→a≤b→b≤n→l≤100→g<w.heap.size→Sort.Below ltU a b d→PdqAt g n c a b l d w:=by
 intro N
 induction N with
 | zero=>intro a b l d w h;omega
 | succ N IH=>intro a b l d w h h1 h2 h3 h4 h5 h6;exact pdq_step g n c N a b l d w IH (by omega) h1 h2 h3 h4 h5 h6 hn
theorem bitLen_100 {x:Nat} (h:x<4611686018427387904):Lib.bitLen x≤100:=by
 rcases Nat.eq_zero_or_pos x with h0 | h0
 ·subst h0;decide
 ·have:=(bitLen_pow x h0 h).2.2;omega
set_option maxHeartbeats 8000000 in
theorem sort_u64 (g n c:Nat) (d:Array Nat) (w:World) (h:SU w w g n c d) (hn:n<4611686018427387904) (hg:g<w.heap.size) :
  Calls Tryz.prog 281 #[.slice (some ⟨g,0,none⟩) n c] w fun e w'=>e = .returned (.tuple #[])∧∃z,SU w w' g n c z∧Sort.PermIn 0 n d z∧Sort.SortedIn ltU 0 n z:=by
 have HP:=Lib.hid (pdq_u64 g n c hn (n+1) 0 n (Lib.bitLen n) d w (by omega) h (Nat.zero_le _) (Nat.le_refl _) (bitLen_100 hn) hg (Or.inl rfl))
 clear h hg
 have hni:(n:Int)<4611686018427387904:=by omega
 go_enter Tryz.func281,Tryz.ntmps281
 go_wp2_with fail
 refine (bits_len n (by omega) w).mono ?_
 rintro e w1 ⟨rfl,rfl⟩
 generalize Lib.bitLen n=L at *
 go_wp2_with fail
 refine Calls.mono (R:=fun e w'=>e = .returned (.tuple #[])∧∃z,SU w1 w' g n c z∧Sort.PermIn 0 n d z∧Sort.SortedIn ltU 0 n z) HP.out ?_
 rintro e w2 ⟨rfl,h2⟩
 have HF:=Lib.hid h2
 clear h2 HP
 go_wp2_with fail
 go_end0
 exact ⟨rfl,HF.out⟩
set_option maxHeartbeats 8000000 in
theorem insertion_nil (w:World):Calls Tryz.prog 301 #[.slice none 0 0,.int .i64 0,.int .i64 0] w fun e w'=>e = .returned (.tuple #[])∧w'=w:=by
 go_enter Tryz.func301,Tryz.ntmps301
 go_wp2_with fail
 refine wp_loop_rounds 1 ?_
 rw [rounds_succ]
 go_wp2_with fail
 go_end0
 exact ⟨rfl,rfl⟩
set_option maxHeartbeats 8000000 in
theorem pdq_nil (w:World):Calls Tryz.prog 295 #[.slice none 0 0,.int .i64 0,.int .i64 0,.int .i64 0] w fun e w'=>e = .returned (.tuple #[])∧w'=w:=by
 go_enter Tryz.func295,Tryz.ntmps295
 go_wp2_with fail
 refine wp_loop_rounds 1 ?_
 rw [rounds_succ]
 go_wp2_with fail
 refine (insertion_nil w).mono ?_
 rintro e w1 ⟨rfl,rfl⟩
 go_wp2_with fail
 refine bodyPost_ret (results_none rfl _ _ _) rfl ?_
 exact ⟨rfl,rfl⟩
set_option maxHeartbeats 8000000 in
theorem sort_nil (w:World):Calls Tryz.prog 281 #[.slice none 0 0] w fun e w'=>e = .returned (.tuple #[])∧w'=w:=by
 go_enter Tryz.func281,Tryz.ntmps281
 go_wp2_with fail
 refine (bits_len 0 (by omega) w).mono ?_
 rintro e w1 ⟨rfl,rfl⟩
 have h0:Lib.bitLen 0=0:=by rfl
 rw [h0]
 go_wp2_with fail
 refine (pdq_nil w1).mono ?_
 rintro e w2 ⟨rfl,rfl⟩
 go_wp2_with fail
 go_end0
 exact ⟨rfl,rfl⟩
end Go.Proofs.YtdcgbgecbeegmaaGreatDoor
end
