/- Texts 15. -/
import Derived.Test.YtdcgbgecbeegmaaGreatDoorMgL13
import Derived.Test.YtdcgbgecbeegmaaGreatDoorProg
import Derived.Shelf.Small.Bits
import Derived.Test.YtdcgbgecbeegmaaGreatDoorMgL1
import Derived.Lib.BitFns
set_option linter.unusedVariables false
set_option linter.unusedSimpArgs false
section
set_option maxRecDepth 20000
namespace Go.Proofs.YtdcgbgecbeegmaaGreatDoor
open Go Go.RowKit
set_option maxHeartbeats 8000000 in
theorem reverse_range_u64 (g n c a b:Nat) (d:Array Nat) (w:World) (h:SU w w g n c d) (hab:a≤b) (hb:b≤n) (hn:n<4611686018427387904) :
  Calls Tryz.prog 305 #[.slice (some ⟨g,0,none⟩) n c,.int .i64 (a:Int),.int .i64 (b:Int)] w fun e w'=>e = .returned (.tuple #[])∧∃d',SU w w' g n c d'∧Sort.PermIn a b d d':=by
 have HS:=Lib.hid h
 clear h
 go_enter Tryz.func305,Tryz.ntmps305
 go_wp2_with fail
 go_loopw [6,7] (fun iv jv wr=>∃(i:Nat) (j:Int) (x:Array Nat),a≤i∧iv = .int .i64 (i:Int)∧jv = .int .i64 j∧j<(b:Int)∧-1≤j∧(i:Int)≤(b:Int)+1∧Hid (SU w wr g n c x)∧Hid (Sort.PermIn a b d x)) (fun _ jv _=>(intOf jv+1).toNat)
 case atStart=>exact ⟨a,(b:Int)-1,d,Nat.le_refl _,rfl,by go_num,by omega,by omega,by omega,HS.out,Sort.permIn_refl _ _ _⟩
 case round=>
  obtain ⟨i,j,x,hai,rfl,rfl,hjb,hj1,hib,HX,HP⟩:=hrel
  clear HS
  by_cases hlt:(i:Int)<j
  ·obtain ⟨j,rfl⟩:∃m:Nat,j=(m:Int):=⟨j.toNat,by omega⟩
   have hci:=HX.out.cell (i:=i) (by omega)
   have hcj:=HX.out.cell (i:=j) (by omega)
   have hfi:=HX.out.free i
   have hfj:=HX.out.free j
   have hin:(i:Int)<(n:Int):=by omega
   have hjn:(j:Int)<(n:Int):=by omega
   have HS2:=Lib.hid (HX.out.swp (i:=i) (j:=j) (by omega) (by omega))
   have HP2:Hid (Sort.PermIn a b d (Sort.swp x i j)):=Sort.permIn_trans _ _ _ _ _ HP.out (Sort.swp_permIn x a b i j hai (by omega) (by omega) (by omega) (by rw [HX.out.sz];exact hb))
   have hij:¬(i=j):=by omega
   generalize x[i]! = p at *
   generalize x[j]! = q at *
   go_wp2_with fail
   go_big_region
   go_wp2_with fail
   go_round
   case rel=>exact ⟨i+1,(j:Int)-1,_,by omega,by go_num,by go_num,by omega,by omega,by omega,HS2.out,HP2.out⟩
   case measure=>simp [intOf]<;>omega
  ·go_wp2_with fail
   go_end0
   exact ⟨rfl,x,HX.out,HP.out⟩
theorem siftDown_eq (hi first root:Nat) (d:Array Nat):Sort.siftDown ltU hi first root d=(if 2*root+1≥hi then d else
  if 2*root+1+1<hi&&ltU d[first+(2*root+1)]! d[first+(2*root+1)+1]! then
   if !ltU d[first+root]! d[first+(2*root+2)]! then d else Sort.siftDown ltU hi first (2*root+2) (Sort.swp d (first+root) (first+(2*root+2)))
  else
   if !ltU d[first+root]! d[first+(2*root+1)]! then d else Sort.siftDown ltU hi first (2*root+1) (Sort.swp d (first+root) (first+(2*root+1)))):=by
 rw [Sort.siftDown]
 by_cases h1:2*root+1≥hi
 ·rw [dif_pos h1,if_pos h1]
 ·rw [dif_neg h1,if_neg h1]
  by_cases h2:(decide (2*root+1+1<hi)&&ltU d[first+(2*root+1)]! d[first+(2*root+1)+1]!)=true
  ·have h3:2*root+2<hi:=by simp at h2;omega
   rw [if_pos h2,if_pos h2,dif_pos h3]
  ·rw [if_neg h2,if_neg h2]
set_option maxHeartbeats 8000000 in
theorem sift_down_u64 (g n c lo hi first:Nat) (d:Array Nat) (w:World) (h:SU w w g n c d) (hb:first+hi≤n) (hn:n<4611686018427387904) (hlo:lo≤n) :
  Calls Tryz.prog 310 #[.slice (some ⟨g,0,none⟩) n c,.int .i64 (lo:Int),.int .i64 (hi:Int),.int .i64 (first:Int)] w fun e w'=>e = .returned (.tuple #[])∧SU w w' g n c (Sort.siftDown ltU hi first lo d):=by
 have HS:=Lib.hid h
 clear h
 go_enter Tryz.func310,Tryz.ntmps310
 go_wp2_with fail
 go_loopw [8] (fun rv wr=>∃(r:Nat) (x:Array Nat),rv = .int .i64 (r:Int)∧r≤n∧Hid (SU w wr g n c x)∧Hid (Sort.siftDown ltU hi first r x=Sort.siftDown ltU hi first lo d)) (fun rv _=>n+1-(intOf rv).toNat)
 case atStart=>exact ⟨lo,d,rfl,hlo,HS.out,rfl⟩
 case round=>
  obtain ⟨r,x,rfl,hrn,HX,HE⟩:=hrel
  clear HS
  have hd:=siftDown_eq hi first r x
  have hri:(r:Int)≤4611686018427387904:=by omega
  by_cases h1:2*r+1≥hi
  ·rw [if_pos h1] at hd
   rw [hd] at HE
   have h1i:(hi:Int)≤2*(r:Int)+1:=by omega
   clear hd
   go_wp2_with fail
   go_end0
   refine ⟨rfl,?_⟩
   rw [← HE.out]
   exact HX.out
  ·rw [if_neg h1] at hd
   rw [hd] at HE
   have h1i:¬(hi:Int)≤2*(r:Int)+1:=by omega
   have h1k:2*(r:Int)+1<(hi:Int):=by omega
   clear hd
   by_cases h2:2*r+1+1<hi
   ·have hc1:=HX.out.cell (i:=first+(2*r+1)) (by omega)
    have hf1:=HX.out.free (first+(2*r+1))
    have hc2:=HX.out.cell (i:=first+(2*r+1)+1) (by omega)
    have hf2:=HX.out.free (first+(2*r+1)+1)
    have h2i:2*(r:Int)+1+1<(hi:Int):=by omega
    go_wp2_with fail
    go_quiet ((go_at_call 296;refine Calls.quiet_of_same (less_u64' _ _ _)))
    have HX2:=Lib.hid (HX.out.drewN nq)
    clear hc1 hf1 hc2 hf2
    cases hlv:ltU x[first+(2*r+1)]! x[first+(2*r+1)+1]! with
    | true=>
     rw [hlv,if_pos (by simpa using h2)] at HE
     generalize World.drewN _ nq=wr1 at *
     clear HX
     have hk0:=HX2.out.cell (i:=first+r) (by omega)
     have hk1:=HX2.out.cell (i:=first+(2*r+1+1)) (by omega)
     have hg0:=HX2.out.free (first+r)
     have hg1:=HX2.out.free (first+(2*r+1+1))
     have HS2:=Lib.hid ((HX2.out.drewN 0).here)
     go_wp2_with fail
     go_quiet ((go_at_call 296;refine Calls.quiet_of_same (less_u64' _ _ _)))
     have HX3:=Lib.hid (HX2.out.drewN nq)
     cases hlq:ltU x[first+r]! x[first+(2*r+1+1)]! with
     | false=>
      rw [hlq] at HE
      have HE2:Hid (x=Sort.siftDown ltU hi first lo d):=by
       have h:=HE.out
       show _=_
       simpa using h
      go_wp2_with fail
      refine bodyPost_ret (results_none rfl _ _ _) rfl ?_
      refine ⟨rfl,?_⟩
      rw [← HE2.out]
      exact HX3.out
     | true=>
      rw [hlq] at HE
      have HE2:Hid (Sort.siftDown ltU hi first (2*r+1+1) (Sort.swp x (first+r) (first+(2*r+1+1)))=Sort.siftDown ltU hi first lo d):=by
       have h:=HE.out
       show _=_
       simpa using h
      have HS3:=Lib.hid (HX3.out.swp (i:=first+r) (j:=first+(2*r+1+1)) (by omega) (by omega))
      have hl0:=HX3.out.cell (i:=first+r) (by omega)
      have hl1:=HX3.out.cell (i:=first+(2*r+1+1)) (by omega)
      have hm0:=HX3.out.free (first+r)
      have hm1:=HX3.out.free (first+(2*r+1+1))
      have hij:¬(first+r=first+(2*r+1+1)):=by omega
      clear hk0 hk1 hg0 hg1 HE
      generalize x[first+r]! = p at *
      generalize x[first+(2*r+1+1)]! = q at *
      generalize World.drewN _ nq=wq at *
      go_wp2_with fail
      go_big_region
      go_wp2_with fail
      go_round
      case rel=>exact ⟨2*r+1+1,_,by go_num,by omega,HS3.out,HE2.out⟩
      case measure=>simp [intOf]<;>omega
    | false=>
     rw [hlv,if_neg (by simp)] at HE
     generalize World.drewN _ nq=wr1 at *
     clear HX
     have hk0:=HX2.out.cell (i:=first+r) (by omega)
     have hk1:=HX2.out.cell (i:=first+(2*r+1)) (by omega)
     have hg0:=HX2.out.free (first+r)
     have hg1:=HX2.out.free (first+(2*r+1))
     have HS2:=Lib.hid ((HX2.out.drewN 0).here)
     go_wp2_with fail
     go_quiet ((go_at_call 296;refine Calls.quiet_of_same (less_u64' _ _ _)))
     have HX3:=Lib.hid (HX2.out.drewN nq)
     cases hlq:ltU x[first+r]! x[first+(2*r+1)]! with
     | false=>
      rw [hlq] at HE
      have HE2:Hid (x=Sort.siftDown ltU hi first lo d):=by
       have h:=HE.out
       show _=_
       simpa using h
      go_wp2_with fail
      refine bodyPost_ret (results_none rfl _ _ _) rfl ?_
      refine ⟨rfl,?_⟩
      rw [← HE2.out]
      exact HX3.out
     | true=>
      rw [hlq] at HE
      have HE2:Hid (Sort.siftDown ltU hi first (2*r+1) (Sort.swp x (first+r) (first+(2*r+1)))=Sort.siftDown ltU hi first lo d):=by
       have h:=HE.out
       show _=_
       simpa using h
      have HS3:=Lib.hid (HX3.out.swp (i:=first+r) (j:=first+(2*r+1)) (by omega) (by omega))
      have hl0:=HX3.out.cell (i:=first+r) (by omega)
      have hl1:=HX3.out.cell (i:=first+(2*r+1)) (by omega)
      have hm0:=HX3.out.free (first+r)
      have hm1:=HX3.out.free (first+(2*r+1))
      have hij:¬(first+r=first+(2*r+1)):=by omega
      clear hk0 hk1 hg0 hg1 HE
      generalize x[first+r]! = p at *
      generalize x[first+(2*r+1)]! = q at *
      generalize World.drewN _ nq=wq at *
      go_wp2_with fail
      go_big_region
      go_wp2_with fail
      go_round
      case rel=>exact ⟨2*r+1,_,by go_num,by omega,HS3.out,HE2.out⟩
      case measure=>simp [intOf]<;>omega
   ·have h2i:¬(2*(r:Int)+1+1<(hi:Int)):=by omega
    rw [if_neg (by simp;omega)] at HE
    have hgd:decide (2*(r:Int)+1+1<(hi:Int))=false:=decide_eq_false h2i
    go_wp2_with fail
    go_quiet ((go_at_call 296;refine Calls.quiet_of_same (less_u64' _ _ _)))
    have HX2:=Lib.hid (HX.out.drewN nq)
    generalize World.drewN _ nq=wr1 at *
    clear HX
    have hk0:=HX2.out.cell (i:=first+r) (by omega)
    have hk1:=HX2.out.cell (i:=first+(2*r+1)) (by omega)
    have hg0:=HX2.out.free (first+r)
    have hg1:=HX2.out.free (first+(2*r+1))
    have HS2:=Lib.hid ((HX2.out.drewN 0).here)
    go_wp2_with fail
    go_quiet ((go_at_call 296;refine Calls.quiet_of_same (less_u64' _ _ _)))
    have HX3:=Lib.hid (HX2.out.drewN nq)
    cases hlq:ltU x[first+r]! x[first+(2*r+1)]! with
    | false=>
     rw [hlq] at HE
     have HE2:Hid (x=Sort.siftDown ltU hi first lo d):=by
      have h:=HE.out
      show _=_
      simpa using h
     go_wp2_with fail
     refine bodyPost_ret (results_none rfl _ _ _) rfl ?_
     refine ⟨rfl,?_⟩
     rw [← HE2.out]
     exact HX3.out
    | true=>
     rw [hlq] at HE
     have HE2:Hid (Sort.siftDown ltU hi first (2*r+1) (Sort.swp x (first+r) (first+(2*r+1)))=Sort.siftDown ltU hi first lo d):=by
      have h:=HE.out
      show _=_
      simpa using h
     have HS3:=Lib.hid (HX3.out.swp (i:=first+r) (j:=first+(2*r+1)) (by omega) (by omega))
     have hl0:=HX3.out.cell (i:=first+r) (by omega)
     have hl1:=HX3.out.cell (i:=first+(2*r+1)) (by omega)
     have hm0:=HX3.out.free (first+r)
     have hm1:=HX3.out.free (first+(2*r+1))
     have hij:¬(first+r=first+(2*r+1)):=by omega
     clear hk0 hk1 hg0 hg1 HE
     generalize x[first+r]! = p at *
     generalize x[first+(2*r+1)]! = q at *
     generalize World.drewN _ nq=wq at *
     go_wp2_with fail
     go_big_region
     go_wp2_with fail
     go_round
     case rel=>exact ⟨2*r+1,_,by go_num,by omega,HS3.out,HE2.out⟩
     case measure=>simp [intOf]<;>omega
theorem heapBuild_step (hi first k:Nat) (d:Array Nat):Sort.heapBuild ltU hi first (k+1) d=Sort.heapBuild ltU hi first k (Sort.siftDown ltU hi first k d):=rfl
theorem heapPop_step (first k:Nat) (d:Array Nat):Sort.heapPop ltU first (k+1) d=Sort.heapPop ltU first k (Sort.siftDown ltU k first 0 (Sort.swp d first (first+k))):=rfl
set_option maxHeartbeats 8000000 in
theorem heap_sort_u64 (g n c a b:Nat) (d:Array Nat) (w:World) (h:SU w w g n c d) (hab:a<b) (hb:b≤n) (hn:n<4611686018427387904) :
  Calls Tryz.prog 302 #[.slice (some ⟨g,0,none⟩) n c,.int .i64 (a:Int),.int .i64 (b:Int)] w fun e w'=>e = .returned (.tuple #[])∧SU w w' g n c (Sort.heapSort ltU d a b):=by
 have HS:=Lib.hid h
 clear h
 obtain ⟨m,hm0⟩:∃m,b-a=m:=⟨_,rfl⟩
 have hm:0<m:=by omega
 have hsub:(b:Int)-(a:Int)=(m:Int):=by omega
 have hE:Sort.heapSort ltU d a b=Sort.heapPop ltU a m (Sort.heapBuild ltU m a ((m-1) / 2+1) d):=by
  rw [Sort.heapSort,hm0]
 rw [hE]
 have hbm:a+m≤n:=by omega
 clear hE hab hm0 hb
 obtain ⟨q,hq⟩:∃q,(m-1) / 2=q:=⟨_,rfl⟩
 have hdv:Hid (((m:Int)-1) / 2=(q:Int)):=by show _=_;omega
 have hql:q≤n:=by omega
 rw [hq]
 clear hq
 go_enter Tryz.func302,Tryz.ntmps302
 go_wp2_with fail
 go_loopw [9] (fun iv wr=>∃(k:Nat) (x:Array Nat),k≤n+1∧iv = .int .i64 ((k:Int)-1)∧Hid (SU w wr g n c x)∧Hid (Sort.heapBuild ltU m a k x=Sort.heapBuild ltU m a (q+1) d)) (fun iv _=>(intOf iv+1).toNat)
 case atStart=>exact ⟨q+1,d,by omega,by rw [hdv.out];go_num,HS.out,rfl⟩
 case round=>
  obtain ⟨k,x,hkn,rfl,HX,HE⟩:=hrel
  clear HS
  cases k with
  | succ k=>
   have hkv:((k+1:Nat):Int)-1=(k:Int):=by omega
   rw [hkv]
   clear hkv
   have hk0:(0:Int)≤(k:Int):=by omega
   rw [heapBuild_step] at HE
   have HC:=Lib.hid (sift_down_u64 g n c k m a x wr HX.out.here hbm hn (by omega))
   go_wp2_with fail
   refine HC.out.mono ?_
   rintro e w1 ⟨rfl,h1⟩
   have HX1:=Lib.hid (HX.out.trans h1)
   clear h1 HC HX
   go_wp2_with fail
   go_round
   case rel=>exact ⟨k,_,by omega,by go_num,HX1.out,HE.out⟩
   case measure=>simp [intOf]<;>omega
  | zero=>
   have HE2:x=Sort.heapBuild ltU m a (q+1) d:=HE.out
   have hkv:((0:Nat):Int)-1 = -1:=by omega
   rw [hkv]
   clear HE hkv
   go_wp2_with fail
   go_loopw [10] (fun iv wr=>∃(k:Nat) (z:Array Nat),k≤m∧iv = .int .i64 ((k:Int)-1)∧Hid (SU w wr g n c z)∧Hid (Sort.heapPop ltU a k z=Sort.heapPop ltU a m x)) (fun iv _=>(intOf iv+1).toNat)
   case atStart=>exact ⟨m,x,Nat.le_refl _,rfl,HX.out,rfl⟩
   case round=>
    obtain ⟨k,z,hkm,rfl,HZ,HE⟩:=hrel
    clear HX
    rcases k with _ | _ | k
    ·have hkv:((0:Nat):Int)-1 = -1:=by omega
     rw [hkv]
     clear hkv
     go_wp2_with fail
     go_end0
     refine ⟨rfl,?_⟩
     rw [← HE2,← HE.out]
     exact HZ.out
    ·have hkv:((0+1:Nat):Int)-1=0:=by omega
     rw [hkv]
     clear hkv
     rw [heapPop_step,Nat.add_zero] at HE
     have hci:=HZ.out.cell (i:=a) (by omega)
     have hfi:=HZ.out.free a
     have han:(a:Int)<(n:Int):=by omega
     have hakn:(a:Int)+(0:Int)<(n:Int):=by omega
     have HS2:=Lib.hid (HZ.out.swp (i:=a) (j:=a) (by omega) (by omega))
     generalize Sort.swp z a (a)=z2 at *
     generalize z[a]! = p at *
     go_wp2_with fail
     go_big_region
     generalize World.drew _=w2 at *
     have HC:=Lib.hid (sift_down_u64 g n c 0 0 a z2 w2 HS2.out.here (by omega) hn (by omega))
     go_wp2_with fail
     refine HC.out.mono ?_
     rintro e w3 ⟨rfl,h3⟩
     have HX3:=Lib.hid (HS2.out.trans h3)
     clear h3 HC HS2
     go_wp2_with fail
     go_round
     case rel=>exact ⟨0,_,by omega,by go_num,HX3.out,HE.out⟩
     case measure=>simp [intOf]<;>omega
    ·have hkv:((k+1+1:Nat):Int)-1=((k+1:Nat):Int):=by omega
     rw [hkv]
     clear hkv
     rw [heapPop_step] at HE
     obtain ⟨k',hk'⟩:∃k',k+1=k':=⟨_,rfl⟩
     rw [hk'] at HE ⊢
     have hk0:(0:Int)≤(k':Int):=by omega
     have hk1:0<k':=by omega
     have hkm:k'+1≤m:=by omega
     clear hk'
     have hci:=HZ.out.cell (i:=a) (by omega)
     have hfi:=HZ.out.free a
     have hcj:=HZ.out.cell (i:=a+k') (by omega)
     have hfj:=HZ.out.free (a+k')
     have hij:¬(a=a+k'):=by omega
     have han:(a:Int)<(n:Int):=by omega
     have hakn:(a:Int)+(k':Int)<(n:Int):=by omega
     have HS2:=Lib.hid (HZ.out.swp (i:=a) (j:=a+k') (by omega) (by omega))
     generalize Sort.swp z a (a+k')=z2 at *
     generalize z[a]! = p at *
     generalize z[a+k']! = r at *
     go_wp2_with fail
     go_big_region
     generalize World.drew _=w2 at *
     have HC:=Lib.hid (sift_down_u64 g n c 0 k' a z2 w2 HS2.out.here (by omega) hn (by omega))
     go_wp2_with fail
     refine HC.out.mono ?_
     rintro e w3 ⟨rfl,h3⟩
     have HX3:=Lib.hid (HS2.out.trans h3)
     clear h3 HC HS2
     go_wp2_with fail
     go_round
     case rel=>exact ⟨k',_,by omega,by go_num,HX3.out,HE.out⟩
     case measure=>simp [intOf]<;>omega
structure PV (w:World) (g n c q:Nat) (d:Array Nat) (s:Nat):Prop where
 su:SU w w g n c d
 ne:q≠g
 box:Blk w q [.int .i64 (s:Int)]
theorem PV.mods {w w':World} {g n c q:Nat} {d:Array Nat} {s t:Nat} (h:PV w g n c q d s) (m:Mods (fun k=>k=q) w w') (hb:Blk w' q [.int .i64 (t:Int)]):PV w' g n c q d t:=
 ⟨⟨h.su.sz,m.owns h.su.row (fun k hk e=>h.ne (by simp [Value.ownBlock] at hk;omega)),Mods.refl _ _⟩,h.ne,hb⟩
structure PVd (w w':World) (g n c q:Nat) (d:Array Nat) (s m:Nat):Prop where
 mods:Mods (fun k=>k=q) w w'
 pv:∃t,t≤s+m∧PV w' g n c q d t
set_option maxHeartbeats 4000000 in
theorem order2_u64 (g n c q a b s:Nat) (d:Array Nat) (w:World) (h:PV w g n c q d s) (ha:a<n) (hb:b<n) (hn:n<4611686018427387904) (hs:s≤1000) :
  Calls Tryz.prog 313 #[.slice (some ⟨g,0,none⟩) n c,.int .i64 (a:Int),.int .i64 (b:Int),.pointer (some ⟨q,0,none⟩)] w fun e w'=>
   ∃x y:Nat,e = .returned (.tuple #[.int .i64 (x:Int),.int .i64 (y:Int)])∧((x=a∧y=b)∨(x=b∧y=a))∧PVd w w' g n c q d s 1:=by
 have HP:=Lib.hid h
 have hca:=h.su.cell ha
 have hcb:=h.su.cell hb
 have hcq:w.cell? ⟨q,0,none⟩=some (.int .i64 (s:Int)):=h.box.cell 0
 have hfq:=h.box.free 0
 have hai:(a:Int)<(n:Int):=by omega
 have hbi:(b:Int)<(n:Int):=by omega
 clear h
 generalize d[a]! = p at *
 generalize d[b]! = r at *
 go_enter Tryz.func313,Tryz.ntmps313
 go_wp2_with fail
 go_quiet ((go_at_call 296;refine Calls.quiet_of_same (less_u64' _ _ _)))
 have hm:Mods (fun k=>k=q) w (w.drewN nq):=Mods.drewN _ _ _
 have HM:=Lib.hid hm
 have HB:Hid (Blk (w.drewN nq) q [.int .i64 (s:Int)]):=HP.out.box
 have hcq:(w.drewN nq).cell? ⟨q,0,none⟩=some (.int .i64 (s:Int)):=hcq
 have hfq:(w.drewN nq).frozen? ⟨q,0,none⟩=false:=hfq
 clear hm hca hcb
 generalize w.drewN nq=w1 at *
 cases hl:ltU r p with
 | true=>
  go_wp2_with fail
  go_ret2
  refine ⟨b,a,rfl,Or.inr ⟨rfl,rfl⟩,?_⟩
  have m2:Mods (fun k=>k=q) w1 (w1.setCell ⟨q,0,none⟩ (.int .i64 ((s:Int)+1))):=Mods.set _ _ _ _ (fun _=>rfl)
  have hb2:Blk (w1.setCell ⟨q,0,none⟩ (.int .i64 ((s:Int)+1))) q [.int .i64 ((s+1:Nat):Int)]:=HB.out.set 0 _
  have m3:=HM.out.trans m2 (fun _ _ e=>e)
  exact ⟨m3,s+1,Nat.le_refl _,HP.out.mods m3 hb2⟩
 | false=>
  go_wp2_with fail
  go_ret2
  exact ⟨a,b,rfl,Or.inl ⟨rfl,rfl⟩,HM.out,s,by omega,HP.out.mods HM.out HB.out⟩
set_option maxHeartbeats 4000000 in
theorem median_u64 (g n c q a b k s:Nat) (d:Array Nat) (w:World) (h:PV w g n c q d s) (ha:a<n) (hb:b<n) (hk:k<n) (hn:n<4611686018427387904) (hs:s≤900) :
  Calls Tryz.prog 312 #[.slice (some ⟨g,0,none⟩) n c,.int .i64 (a:Int),.int .i64 (b:Int),.int .i64 (k:Int),.pointer (some ⟨q,0,none⟩)] w fun e w'=>
   ∃x:Nat,e = .returned (.int .i64 (x:Int))∧(x=a∨x=b∨x=k)∧PVd w w' g n c q d s 3:=by
 have HP:=Lib.hid h
 clear h
 go_enter Tryz.func312,Tryz.ntmps312
 go_wp2_with fail
 refine (order2_u64 g n c q a b s d w HP.out ha hb hn (by omega)).mono ?_
 rintro e w1 ⟨x1,y1,rfl,hxy,h1⟩
 obtain ⟨hm1,t1,ht1,hp1⟩:=h1
 have HM1:=Lib.hid hm1;have HP1:=Lib.hid hp1;have HX1:=Lib.hid hxy
 have hx1:x1<n:=by omega
 have hy1:y1<n:=by omega
 clear hm1 hp1 hxy
 go_wp2_with fail
 refine (order2_u64 g n c q y1 k t1 d w1 HP1.out hy1 hk hn (by omega)).mono ?_
 rintro e w2 ⟨x2,y2,rfl,hxy,h2⟩
 obtain ⟨hm2,t2,ht2,hp2⟩:=h2
 have HM2:=Lib.hid (HM1.out.trans hm2 (fun _ _ e=>e));have HP2:=Lib.hid hp2;have HX2:=Lib.hid hxy
 have hx2:x2<n:=by omega
 clear hm2 hp2 hxy
 go_wp2_with fail
 refine (order2_u64 g n c q x1 x2 t2 d w2 HP2.out hx1 hx2 hn (by omega)).mono ?_
 rintro e w3 ⟨x3,y3,rfl,hxy,h3⟩
 obtain ⟨hm3,t3,ht3,hp3⟩:=h3
 have HM3:=Lib.hid (HM2.out.trans hm3 (fun _ _ e=>e));have HP3:=Lib.hid hp3;have HX3:=Lib.hid hxy
 clear hm3 hp3 hxy
 go_wp2_with fail
 go_ret
 refine ⟨y3,rfl,?_,HM3.out,t3,by omega,HP3.out⟩
 have:=HX1.out;have:=HX2.out;have:=HX3.out
 omega
set_option maxHeartbeats 4000000 in
theorem median_adjacent_u64 (g n c q a s:Nat) (d:Array Nat) (w:World) (h:PV w g n c q d s) (ha:a+1<n) (h0:0<a) (hn:n<4611686018427387904) (hs:s≤900) :
  Calls Tryz.prog 311 #[.slice (some ⟨g,0,none⟩) n c,.int .i64 (a:Int),.pointer (some ⟨q,0,none⟩)] w fun e w'=>
   ∃x:Nat,e = .returned (.int .i64 (x:Int))∧(a≤x+1∧x≤a+1)∧PVd w w' g n c q d s 3:=by
 have HP:=Lib.hid h
 clear h
 obtain ⟨z,rfl⟩:∃z,a=z+1:=⟨a-1,by omega⟩
 have HC:=Lib.hid (median_u64 g n c q z (z+1) (z+1+1) s d w HP.out (by omega) (by omega) (by omega) hn hs)
 go_enter Tryz.func311,Tryz.ntmps311
 go_wp2_with fail
 refine HC.out.mono ?_
 rintro e w1 ⟨x,rfl,hx,hp⟩
 have HP1:=Lib.hid hp;have HX:=Lib.hid hx
 clear hp hx
 go_wp2_with fail
 go_ret
 exact ⟨x,rfl,by have:=HX.out;omega,HP1.out⟩
set_option maxHeartbeats 8000000 in
theorem choose_pivot_u64 (g n c a b:Nat) (d:Array Nat) (w:World) (h:SU w w g n c d) (hab:a+12<b) (hb:b≤n) (hn:n<4611686018427387904) (hg:g<w.heap.size) :
  Calls Tryz.prog 304 #[.slice (some ⟨g,0,none⟩) n c,.int .i64 (a:Int),.int .i64 (b:Int)] w fun e w'=>
   ∃(x:Nat) (t:Int),e = .returned (.tuple #[.int .i64 (x:Int),.int .i64 t])∧(a≤x∧x<b)∧SU w w' g n c d:=by
 have HS:=Lib.hid h
 clear h
 obtain ⟨m,hm0⟩:∃m,b-a=m:=⟨_,rfl⟩
 have hsub:(b:Int)-(a:Int)=(m:Int):=by omega
 obtain ⟨t,ht⟩:∃t,m / 4=t:=⟨_,rfl⟩
 have hdv:(m:Int) / 4=(t:Int):=by omega
 have h12:(8:Int)≤(m:Int):=by omega
 have HI:Hid (12<m∧a+m≤n∧b=a+m∧4*t≤m∧m<4*t+4):=by show _∧_∧_∧_∧_;omega
 have hmn:(m:Int)≤4611686018427387904:=by omega
 have han:(a:Int)≤4611686018427387904:=by omega
 have htn:(t:Int)≤4611686018427387904:=by omega
 clear hm0 ht hab
 go_enter Tryz.func304,Tryz.ntmps304
 have hw1:∃w1,(w.alloc (.cells #[.int .i64 0] 3))=w1:=⟨_,rfl⟩
 have hbl:Below w.heap.size w (w.alloc (.cells #[.int .i64 0] 3)):=(Below.refl _ _).alloc (Nat.le_refl _) _
 have HM1':Mods (fun k=>k=g) w (w.alloc (.cells #[.int .i64 0] 3)):=Mods.of_below hbl _
 have HP0':PV (w.alloc (.cells #[.int .i64 0] 3)) g n c w.heap.size d 0:=⟨⟨HS.out.sz,(Mods.of_below hbl (fun _=>False)).owns HS.out.row (fun _ _ e=>e),Mods.refl _ _⟩,by omega,Blk.new _ _ _⟩
 by_cases h50:50≤m
 ·have h50i:(50:Int)≤(m:Int):=by omega
  clear h12
  have h12:(8:Int)≤(m:Int):=by omega
  go_wp2_with fail
  have HM1:=Lib.hid HM1';have HP0:=Lib.hid HP0'
  clear HM1' HP0' hbl hw1
  generalize (w.alloc (.cells #[.int .i64 0] 3))=w1 at *
  refine (median_adjacent_u64 g n c w.heap.size (a+t) 0 d w1 HP0.out (by have:=HI.out;omega) (by have:=HI.out;omega) hn (by omega)).mono ?_
  rintro e w2 ⟨x1,rfl,hx,hp⟩
  obtain ⟨hm,t1,ht1,hp1⟩:=hp
  have HPa:=Lib.hid hp1;have HMa:=Lib.hid hm;have hx1:=hx
  clear hm hp1 hx
  go_wp2_with fail
  refine (median_adjacent_u64 g n c w.heap.size (a+t*2) t1 d w2 HPa.out (by have:=HI.out;omega) (by have:=HI.out;omega) hn (by omega)).mono ?_
  rintro e w3 ⟨x2,rfl,hx,hp⟩
  obtain ⟨hm,t2,ht2,hp1⟩:=hp
  have HPb:=Lib.hid hp1;have HMb:=Lib.hid (HMa.out.trans hm (fun _ _ e=>e));have hx2:=hx
  clear hm hp1 hx
  go_wp2_with fail
  refine (median_adjacent_u64 g n c w.heap.size (a+t*3) t2 d w3 HPb.out (by have:=HI.out;omega) (by have:=HI.out;omega) hn (by omega)).mono ?_
  rintro e w4 ⟨x3,rfl,hx,hp⟩
  obtain ⟨hm,t3,ht3,hp1⟩:=hp
  have HPc:=Lib.hid hp1;have HMc:=Lib.hid (HMb.out.trans hm (fun _ _ e=>e));have hx3:=hx
  clear hm hp1 hx
  go_wp2_with fail
  refine (median_u64 g n c w.heap.size x1 x2 x3 t3 d w4 HPc.out (by have:=HI.out;omega) (by have:=HI.out;omega) (by have:=HI.out;omega) hn (by omega)).mono ?_
  rintro e wf ⟨x,rfl,hx,hp⟩
  obtain ⟨hm2,tf,htf,hp2⟩:=hp
  have HX:Hid (a≤x∧x<b):=by show _∧_;have:=HI.out;omega
  have HM2:Hid (Mods (fun k=>k=w.heap.size) w1 wf):=HMc.out.trans hm2 (fun _ _ e=>e)
  have HPf:=Lib.hid hp2
  have hcf:wf.cell? ⟨w.heap.size,0,none⟩=some (.int .i64 (tf:Int)):=HPf.out.box.cell 0
  have HF:Hid (SU w wf g n c d):=⟨HS.out.sz,HPf.out.su.row,HM1.out.trans HM2.out (fun k hk e=>absurd hk (by subst e;exact Nat.lt_irrefl _))⟩
  clear hm2 hp2 hx
  by_cases h0:tf=0
  ·subst h0
   go_wp2_with fail
   go_ret2
   exact ⟨x,_,rfl,HX.out,HF.out⟩
  ·have h0i:¬(tf:Int)=0:=by omega
   by_cases h1:tf=12
   ·subst h1
    go_wp2_with fail
    go_ret2
    exact ⟨x,_,rfl,HX.out,HF.out⟩
   ·have h1i:¬(tf:Int)=12:=by omega
    go_wp2_with fail
    go_ret2
    exact ⟨x,_,rfl,HX.out,HF.out⟩
 ·have h50i:¬(50:Int)≤(m:Int):=by omega
  have HM1:=Lib.hid HM1';have HP0:=Lib.hid HP0'
  clear HM1' HP0' hbl
  clear hw1
  go_wp2_with fail
  generalize (w.alloc (.cells #[.int .i64 0] 3))=w1 at *
  refine (median_u64 g n c w.heap.size (a+t) (a+t*2) (a+t*3) 0 d w1 HP0.out (by have:=HI.out;omega) (by have:=HI.out;omega) (by have:=HI.out;omega) hn (by omega)).mono ?_
  rintro e wf ⟨x,rfl,hx,hp⟩
  obtain ⟨hm2,tf,htf,hp2⟩:=hp
  have HX:Hid (a≤x∧x<b):=by show _∧_;have:=HI.out;omega
  have HM2:Hid (Mods (fun k=>k=w.heap.size) w1 wf):=hm2
  have HPf:=Lib.hid hp2
  have hcf:wf.cell? ⟨w.heap.size,0,none⟩=some (.int .i64 (tf:Int)):=HPf.out.box.cell 0
  have HF:Hid (SU w wf g n c d):=⟨HS.out.sz,HPf.out.su.row,HM1.out.trans HM2.out (fun k hk e=>absurd hk (by subst e;exact Nat.lt_irrefl _))⟩
  clear hm2 hp2 hx
  by_cases h0:tf=0
  ·subst h0
   go_wp2_with fail
   go_ret2
   exact ⟨x,_,rfl,HX.out,HF.out⟩
  ·have h0i:¬(tf:Int)=0:=by omega
   by_cases h1:tf=12
   ·subst h1
    go_wp2_with fail
    go_ret2
    exact ⟨x,_,rfl,HX.out,HF.out⟩
   ·have h1i:¬(tf:Int)=12:=by omega
    go_wp2_with fail
    go_ret2
    exact ⟨x,_,rfl,HX.out,HF.out⟩
end Go.Proofs.YtdcgbgecbeegmaaGreatDoor
end
section
namespace Go.Proofs.YtdcgbgecbeegmaaGreatDoor
open Go
def renN:Go.Shelf.Ren:=⟨fun | 125=>122 | 128=>168 | 129=>169 | n=>n,fun | 3=>3 | 4=>4 | 5=>5 | 9=>9 | 46=>177 | 51=>139 | 53=>81 | n=>n,fun n=>n⟩
theorem laysN:Go.Proofs.Lays.n125 Tryz.prog renN:={ mixed:=by kernel_rfl,f125:=Tryz.func122.trans (congrArg some (by kernel_rfl)),f128:=Tryz.func168.trans (congrArg some (by kernel_rfl)),f129:=Tryz.func169.trans (congrArg some (by kernel_rfl)),t3:=Tryz.underlying3,a3:=Tryz.isAgg3,z3:=Tryz.sizeOf3,v3:=Tryz.zeroValue3,t4:=Tryz.underlying4,a4:=Tryz.isAgg4,z4:=Tryz.sizeOf4,v4:=Tryz.zeroValue4,t5:=Tryz.underlying5,a5:=Tryz.isAgg5,z5:=Tryz.sizeOf5,v5:=Tryz.zeroValue5,t9:=Tryz.underlying9,a9:=Tryz.isAgg9,z9:=Tryz.sizeOf9,v9:=Tryz.zeroValue9,t46:=Tryz.underlying177,a46:=Tryz.isAgg177,z46:=Tryz.sizeOf177,v46:=Tryz.zeroValue177,t51:=Tryz.underlying139,a51:=Tryz.isAgg139,z51:=Tryz.sizeOf139,v51:=Tryz.zeroValue139,t53:=Tryz.underlying81,a53:=Tryz.isAgg81,z53:=Tryz.sizeOf81,v53:=Tryz.zeroValue81 }
theorem bits_len (x:Nat) (hx:x<18446744073709551616) (w:World):Calls Tryz.prog 122 #[.int .u64 (x:Int)] w fun e w'=>e = .returned (.int .i64 (Lib.bitLen x:Nat))∧w'=w:=
 (Any.bits_Len laysN (x:Int) w (by omega) (by omega)).mono fun e w' h=>by
  rw [Int.toNat_natCast] at h
  exact h
end Go.Proofs.YtdcgbgecbeegmaaGreatDoor
end
section
set_option maxRecDepth 20000
namespace Go.Proofs.YtdcgbgecbeegmaaGreatDoor
open Go Go.RowKit
theorem bits_u64_nat (op:BinOp) (x y:Int):∃t:Nat,bits op .u64 x y=(t:Int)∧t<18446744073709551616:=by
 unfold bits
 simp only [IntKind.wrap_u64]
 generalize ((match op with
  | .and=>BitVec.ofInt IntKind.u64.bits x &&& BitVec.ofInt IntKind.u64.bits y
  | .or=>BitVec.ofInt IntKind.u64.bits x ||| BitVec.ofInt IntKind.u64.bits y
  | .xor=>BitVec.ofInt IntKind.u64.bits x ^^^ BitVec.ofInt IntKind.u64.bits y
  | _=>BitVec.ofInt IntKind.u64.bits x &&& ~~~BitVec.ofInt IntKind.u64.bits y:BitVec IntKind.u64.bits)).toNat=z
 exact ⟨z % 18446744073709551616,by omega,Nat.mod_lt _ (by decide)⟩
theorem bitLen_pow (n:Nat) (h0:0<n) (hn:n<4611686018427387904):n<2 ^ Lib.bitLen n∧2 ^ Lib.bitLen n≤2*n∧Lib.bitLen n<64:=by
 have h1:2 ^ n.log2≤n:=Nat.log2_self_le (by omega)
 have h2:n<2 ^ (n.log2+1):=Nat.lt_log2_self
 have hb:Lib.bitLen n=n.log2+1:=by
  rw [Lib.bitLen_shift n.log2 n h1 (by omega)]
  have e:n / 2 ^ n.log2=1:=by
   have hp:=Nat.two_pow_pos n.log2
   rw [Nat.pow_succ] at h2
   exact Nat.div_eq_of_lt_le (by omega) (by omega)
  rw [e];rfl
 have h3:Lib.bitLen n≤62:=Lib.bitLen_le n 62 (by omega) (by omega)
 rw [hb] at h3 ⊢
 refine ⟨h2,?_,by omega⟩
 rw [Nat.pow_succ];omega
set_option maxHeartbeats 4000000 in
theorem next_pow (n:Nat) (h0:0<n) (hn:n<4611686018427387904) (w:World):Calls Tryz.prog 218 #[.int .i64 (n:Int)] w fun e w'=>e = .returned (.int .u64 (IntKind.u64.wrap (2 ^ Lib.bitLen n)))∧w'=w:=by
 go_enter Tryz.func218,Tryz.ntmps218
 go_wp2_with fail
 refine (bits_len n (by omega) w).mono ?_
 rintro e w1 ⟨rfl,rfl⟩
 have hm:min (Lib.bitLen n) 64=Lib.bitLen n:=by have:=(bitLen_pow n h0 hn).2.2;omega
 go_wp2_with fail
 go_ret
 exact ⟨rfl,rfl⟩
set_option maxHeartbeats 4000000 in
theorem xor_next (q r:Nat) (w:World) (hb:Blk w q [.int .u64 (r:Int)]):Calls Tryz.prog 219 #[.pointer (some ⟨q,0,none⟩)] w fun e w'=>∃t:Nat,e = .returned (.int .u64 (t:Int))∧t<18446744073709551616∧Blk w' q [.int .u64 (t:Int)]∧Mods (fun k=>k=q) w w':=by
 have HB:=Lib.hid hb
 have hc:w.cell? ⟨q,0,none⟩=some (.int .u64 (r:Int)):=hb.cell 0
 have hf:=hb.free 0
 have HM:Hid (Mods (fun k=>k=q) w w):=Mods.refl _ _
 have step:∀(w0:World) (x:Int) (t:Nat),Blk w0 q [.int .u64 x]→Mods (fun k=>k=q) w w0→Blk ((w0.setCell ⟨q,0,none⟩ (.int .u64 (t:Int))).drew) q [.int .u64 (t:Int)]∧Mods (fun k=>k=q) w ((w0.setCell ⟨q,0,none⟩ (.int .u64 (t:Int))).drew):=fun w0 x t h m=>
  ⟨((h.set 0 (.int .u64 (t:Int)))).drew,(m.trans (Mods.set (fun k=>k=q) w0 ⟨q,0,none⟩ (.int .u64 (t:Int)) (fun _=>rfl)) (fun _ _ e=>e)).trans (Mods.drew _ _) (fun _ _ e=>e)⟩
 have HSt:=Lib.hid step
 clear hb step
 go_enter Tryz.func219,Tryz.ntmps219
 go_wp2_with fail
 go_big_region
 obtain ⟨t1,ht1,hlt1⟩:=bits_u64_nat .xor ((r:Nat):Int) (IntKind.u64.wrap (↑r*8192))
 rw [ht1]
 obtain ⟨HB',HM'⟩:=HSt.out w _ t1 HB.out HM.out
 clear HB HM hc hf ht1
 have HB:=Lib.hid HB';have HM:=Lib.hid HM'
 clear HB' HM'
 generalize (w.setCell ⟨q,0,none⟩ (.int .u64 (t1:Int))).drew=w1 at *
 have hc:w1.cell? ⟨q,0,none⟩=some (.int .u64 (t1:Int)):=HB.out.cell 0
 have hf:=HB.out.free 0
 go_wp2_with fail
 go_big_region
 obtain ⟨t2,ht2,hlt2⟩:=bits_u64_nat .xor ((t1:Nat):Int) (↑t1 / 128)
 rw [ht2]
 obtain ⟨HB',HM'⟩:=HSt.out w1 _ t2 HB.out HM.out
 clear HB HM hc hf ht2
 have HB:=Lib.hid HB';have HM:=Lib.hid HM'
 clear HB' HM'
 generalize (w1.setCell ⟨q,0,none⟩ (.int .u64 (t2:Int))).drew=w2 at *
 have hc:w2.cell? ⟨q,0,none⟩=some (.int .u64 (t2:Int)):=HB.out.cell 0
 have hf:=HB.out.free 0
 go_wp2_with fail
 go_big_region
 obtain ⟨t3,ht3,hlt3⟩:=bits_u64_nat .xor ((t2:Nat):Int) (IntKind.u64.wrap (↑t2*131072))
 rw [ht3]
 obtain ⟨HB',HM'⟩:=HSt.out w2 _ t3 HB.out HM.out
 clear HB HM hc hf ht3
 have HB:=Lib.hid HB';have HM:=Lib.hid HM'
 clear HB' HM'
 generalize (w2.setCell ⟨q,0,none⟩ (.int .u64 (t3:Int))).drew=w3 at *
 have hc:w3.cell? ⟨q,0,none⟩=some (.int .u64 (t3:Int)):=HB.out.cell 0
 have hf:=HB.out.free 0
 go_wp2_with fail
 go_ret
 exact ⟨t3,rfl,hlt3,HB.out,HM.out⟩
set_option maxHeartbeats 8000000 in
theorem break_u64 (g n c a b:Nat) (d:Array Nat) (w:World) (h:SU w w g n c d) (hab:a+12<b) (hb:b≤n) (hn:n<4611686018427387904) (hg:g<w.heap.size) :
  Calls Tryz.prog 303 #[.slice (some ⟨g,0,none⟩) n c,.int .i64 (a:Int),.int .i64 (b:Int)] w fun e w'=>e = .returned (.tuple #[])∧∃d',SU w w' g n c d'∧Sort.PermIn a b d d':=by
 have HS:=Lib.hid h
 clear h
 obtain ⟨m,hm0⟩:∃m,b-a=m:=⟨_,rfl⟩
 have hsub:(b:Int)-(a:Int)=(m:Int):=by omega
 obtain ⟨t,ht⟩:∃t,m / 4=t:=⟨_,rfl⟩
 have HDV:Hid ((m:Int) / 4=(t:Int)):=by show _=_;omega
 have h12:(8:Int)≤(m:Int):=by omega
 have HI:Hid (12<m∧a+m≤n∧b=a+m∧4*t≤m∧m<4*t+4):=by show _∧_∧_∧_∧_;omega
 have hmn:(m:Int)≤4611686018427387904:=by omega
 have han:(a:Int)≤4611686018427387904:=by omega
 have htn:(t:Int)≤4611686018427387904:=by omega
 have hbl:Below w.heap.size w (w.alloc (.cells #[.int .u64 (m:Int)] 267)):=(Below.refl _ _).alloc (Nat.le_refl _) _
 have HX0:Hid (SU w (w.alloc (.cells #[.int .u64 (m:Int)] 267)) g n c d):=⟨HS.out.sz,(Mods.of_below hbl (fun _=>False)).owns HS.out.row (fun _ _ e=>e),Mods.of_below hbl _⟩
 have HB0:Hid (Blk (w.alloc (.cells #[.int .u64 (m:Int)] 267)) w.heap.size [.int .u64 (m:Int)]):=Blk.new _ _ _
 clear hm0 ht hab hbl
 go_enter Tryz.func303,Tryz.ntmps303
 go_wp2_with fail
 generalize w.alloc (.cells #[.int .u64 (m:Int)] 267)=w0 at *
 refine (next_pow m (by have:=HI.out;omega) (by have:=HI.out;omega) w0).mono ?_
 rintro e w1 ⟨rfl,rfl⟩
 have HBL:=Lib.hid (bitLen_pow m (by have:=HI.out;omega) (by have:=HI.out;omega))
 generalize Lib.bitLen m=L at *
 go_wp2_with fail
 go_loopw [9] (fun iv wr=>∃(i:Nat) (x:Array Nat) (r:Nat),a≤i∧i≤a+t*2+2∧iv = .int .i64 (i:Int)∧Hid (SU w wr g n c x)∧Hid (Sort.PermIn a b d x)∧Hid (Blk wr w.heap.size [.int .u64 (r:Int)])) (fun iv _=>a+t*2+2-(intOf iv).toNat)
 case atStart=>exact ⟨a+t*2-1,d,m,by have:=HI.out;omega,by omega,by rw [HDV.out];have:=HI.out;go_num,HX0.out,Sort.permIn_refl _ _ _,HB0.out⟩
 case round=>
  obtain ⟨i,x,r,hai,hit,rfl,HX,HP,HB⟩:=hrel
  clear HX0 HB0
  by_cases hle:i≤a+t*2+1
  ·have hlei:(i:Int)≤(a:Int)+(m:Int) / 4*2+1:=by rw [HDV.out];omega
   go_wp2_with fail
   refine (xor_next w.heap.size r wr HB.out).mono ?_
   rintro e w2 ⟨r2,rfl,hr2,hb2,hm2⟩
   have HB2:=Lib.hid hb2
   have HQ:Hid (w.heap.size≠g):=by show _≠_;omega
   have HX2:Hid (SU w w2 g n c x):=⟨HX.out.sz,hm2.owns HX.out.row (fun k hk e=>by simp [Value.ownBlock] at hk;omega),HX.out.mods.trans hm2 (fun k hk e=>by omega)⟩
   have hmask:=mask_u64' r2 L hr2 HBL.out.2.2
   obtain ⟨o,ho⟩:∃o,r2 % 2 ^ L=o:=⟨_,rfl⟩
   have hol:o<2 ^ L:=by rw [← ho];exact Nat.mod_lt _ (Nat.two_pow_pos _)
   have hom:o<2*m:=by have:=HBL.out.2.1;omega
   rw [ho] at hmask
   have hoi:(o:Int)≤9223372036854775807:=by have:=HI.out;omega
   clear ho hol hb2 hm2 HB HX
   by_cases hge:m≤o
   ·obtain ⟨o2,rfl⟩:∃o2,o=m+o2:=⟨o-m,by omega⟩
    have hgei:(m:Int)≤((m+o2:Nat):Int):=by omega
    have ho2:o2<m:=by omega
    have hsub2:(m:Int)+(o2:Int)-(m:Int)=(o2:Int):=by omega
    by_cases hij:i=a+o2
    ·subst hij
     have hci:=HX2.out.cell (i:=a+o2) (by have:=HI.out;omega)
     have hfi:=HX2.out.free (a+o2)
     have hin:(a:Int)+(o2:Int)<(n:Int):=by have:=HI.out;omega
     have HS2:=Lib.hid (HX2.out.swp (i:=a+o2) (j:=a+o2) (by have:=HI.out;omega) (by have:=HI.out;omega))
     have HP2:Hid (Sort.PermIn a b d (Sort.swp x (a+o2) (a+o2))):=Sort.permIn_trans _ _ _ _ _ HP.out (Sort.swp_permIn x a b _ _ (by omega) (by have:=HI.out;omega) (by omega) (by have:=HI.out;omega) (by rw [HX2.out.sz];exact hb))
     generalize x[a+o2]! = p at *
     go_wp2_with fail
     go_big_region
     have HB3:=Lib.hid ((((HB2.out.set_other (a:=⟨g,a+o2,none⟩) HQ.out (.int .u64 (p:Int))).set_other (a:=⟨g,a+o2,none⟩) HQ.out (.int .u64 (p:Int)))).drew)
     go_wp2_with fail
     go_round
     case rel=>exact ⟨a+o2+1,_,r2,by omega,by omega,by go_num,HS2.out,HP2.out,HB3.out⟩
     case measure=>simp [intOf]<;>omega
    ·have hci:=HX2.out.cell (i:=i) (by have:=HI.out;omega)
     have hfi:=HX2.out.free i
     have hcj:=HX2.out.cell (i:=a+o2) (by have:=HI.out;omega)
     have hfj:=HX2.out.free (a+o2)
     have hin:(i:Int)<(n:Int):=by have:=HI.out;omega
     have hjn:(a:Int)+(o2:Int)<(n:Int):=by have:=HI.out;omega
     have HS2:=Lib.hid (HX2.out.swp (i:=i) (j:=a+o2) (by have:=HI.out;omega) (by have:=HI.out;omega))
     have HP2:Hid (Sort.PermIn a b d (Sort.swp x i (a+o2))):=Sort.permIn_trans _ _ _ _ _ HP.out (Sort.swp_permIn x a b _ _ hai (by have:=HI.out;omega) (by omega) (by have:=HI.out;omega) (by rw [HX2.out.sz];exact hb))
     generalize Sort.swp x i (a+o2)=y at *
     generalize x[i]! = p at *
     generalize x[a+o2]! = q at *
     go_wp2_with fail
     go_big_region
     have HB3:=Lib.hid ((((HB2.out.set_other (a:=⟨g,i,none⟩) HQ.out (.int .u64 (q:Int))).set_other (a:=⟨g,a+o2,none⟩) HQ.out (.int .u64 (p:Int)))).drew)
     go_wp2_with fail
     go_round
     case rel=>exact ⟨i+1,_,r2,by omega,by omega,by go_num,HS2.out,HP2.out,HB3.out⟩
     case measure=>simp [intOf]<;>omega
   ·have hgei:¬(m:Int)≤(o:Int):=by omega
    have ho2:o<m:=by omega
    by_cases hij:i=a+o
    ·subst hij
     have hci:=HX2.out.cell (i:=a+o) (by have:=HI.out;omega)
     have hfi:=HX2.out.free (a+o)
     have hin:(a:Int)+(o:Int)<(n:Int):=by have:=HI.out;omega
     have HS2:=Lib.hid (HX2.out.swp (i:=a+o) (j:=a+o) (by have:=HI.out;omega) (by have:=HI.out;omega))
     have HP2:Hid (Sort.PermIn a b d (Sort.swp x (a+o) (a+o))):=Sort.permIn_trans _ _ _ _ _ HP.out (Sort.swp_permIn x a b _ _ (by omega) (by have:=HI.out;omega) (by omega) (by have:=HI.out;omega) (by rw [HX2.out.sz];exact hb))
     generalize x[a+o]! = p at *
     go_wp2_with fail
     go_big_region
     have HB3:=Lib.hid ((((HB2.out.set_other (a:=⟨g,a+o,none⟩) HQ.out (.int .u64 (p:Int))).set_other (a:=⟨g,a+o,none⟩) HQ.out (.int .u64 (p:Int)))).drew)
     go_wp2_with fail
     go_round
     case rel=>exact ⟨a+o+1,_,r2,by omega,by omega,by go_num,HS2.out,HP2.out,HB3.out⟩
     case measure=>simp [intOf]<;>omega
    ·have hci:=HX2.out.cell (i:=i) (by have:=HI.out;omega)
     have hfi:=HX2.out.free i
     have hcj:=HX2.out.cell (i:=a+o) (by have:=HI.out;omega)
     have hfj:=HX2.out.free (a+o)
     have hin:(i:Int)<(n:Int):=by have:=HI.out;omega
     have hjn:(a:Int)+(o:Int)<(n:Int):=by have:=HI.out;omega
     have HS2:=Lib.hid (HX2.out.swp (i:=i) (j:=a+o) (by have:=HI.out;omega) (by have:=HI.out;omega))
     have HP2:Hid (Sort.PermIn a b d (Sort.swp x i (a+o))):=Sort.permIn_trans _ _ _ _ _ HP.out (Sort.swp_permIn x a b _ _ hai (by have:=HI.out;omega) (by omega) (by have:=HI.out;omega) (by rw [HX2.out.sz];exact hb))
     generalize Sort.swp x i (a+o)=y at *
     generalize x[i]! = p at *
     generalize x[a+o]! = q at *
     go_wp2_with fail
     go_big_region
     have HB3:=Lib.hid ((((HB2.out.set_other (a:=⟨g,i,none⟩) HQ.out (.int .u64 (q:Int))).set_other (a:=⟨g,a+o,none⟩) HQ.out (.int .u64 (p:Int)))).drew)
     go_wp2_with fail
     go_round
     case rel=>exact ⟨i+1,_,r2,by omega,by omega,by go_num,HS2.out,HP2.out,HB3.out⟩
     case measure=>simp [intOf]<;>omega
  ·have hlei:¬(i:Int)≤(a:Int)+(m:Int) / 4*2+1:=by rw [HDV.out];omega
   go_wp2_with fail
   go_end0
   exact ⟨rfl,x,HX.out,HP.out⟩
theorem scanS_go {d:Array Nat} {b k:Nat} (h:k+1<b) (hl:ltU d[k+1]! d[k]! = false):Sort.scanSorted ltU d b (k+1)=Sort.scanSorted ltU d b (k+1+1):=by
 rw [Sort.scanSorted];simp [h,hl]
theorem scanS_stop {d:Array Nat} {b k:Nat} (hl:ltU d[k+1]! d[k]! = true):Sort.scanSorted ltU d b (k+1)=k+1:=by
 rw [Sort.scanSorted];simp [hl]
theorem scanS_end {d:Array Nat} {b k:Nat} (h:¬k<b):Sort.scanSorted ltU d b k=k:=by
 rw [Sort.scanSorted];simp [h]
theorem shiftD_go {d:Array Nat} {j:Nat} (hl:ltU d[j+1]! d[j]! = true):Sort.shiftDown ltU (j+1) d=Sort.shiftDown ltU j (Sort.swp d (j+1) j):=by
 rw [Sort.shiftDown];simp [hl]
theorem shiftD_stop {d:Array Nat} {j:Nat} (hl:ltU d[j+1]! d[j]! = false):Sort.shiftDown ltU (j+1) d=d:=by
 rw [Sort.shiftDown];simp [hl]
theorem shiftU_go {d:Array Nat} {b j:Nat} (h:j+1<b) (hl:ltU d[j+1]! d[j]! = true):Sort.shiftUp ltU b (j+1) d=Sort.shiftUp ltU b (j+1+1) (Sort.swp d (j+1) j):=by
 rw [Sort.shiftUp];simp [h,hl]
theorem shiftU_stop {d:Array Nat} {b j:Nat} (hl:ltU d[j+1]! d[j]! = false):Sort.shiftUp ltU b (j+1) d=d:=by
 rw [Sort.shiftUp];simp [hl]
theorem shiftU_end {d:Array Nat} {b j:Nat} (h:¬j<b):Sort.shiftUp ltU b j d=d:=by
 rw [Sort.shiftUp];simp [h]
def fixD (a k:Nat) (y:Array Nat):Array Nat:=if 2≤k+1-a then Sort.shiftDown ltU k y else y
def fixU (b k:Nat) (y:Array Nat):Array Nat:=if 2≤b-(k+1) then Sort.shiftUp ltU b (k+1+1) y else y
theorem partI_true {a b t i:Nat} {d:Array Nat} (h:Sort.scanSorted ltU d b i=b):Sort.partialIns ltU a b (t+1) i d=(d,true):=by
 rw [Sort.partialIns];simp [h]
theorem partI_short {a b t i k:Nat} {d:Array Nat} (h:Sort.scanSorted ltU d b i=k) (hk:k≠b) (h50:b-a<50):Sort.partialIns ltU a b (t+1) i d=(d,false):=by
 rw [Sort.partialIns];simp [h,hk,h50]
theorem partI_go {a b t i k:Nat} {d:Array Nat} (h:Sort.scanSorted ltU d b i=k+1) (hk:k+1≠b) (h50:¬b-a<50) :
  Sort.partialIns ltU a b (t+1) i d=Sort.partialIns ltU a b t (k+1) (fixU b k (fixD a k (Sort.swp d (k+1) k))):=by
 rw [Sort.partialIns];simp [h,hk,h50,fixU,fixD]
set_option maxHeartbeats 80000000 in
theorem partialInsertion_u64 (g n c a b:Nat) (d:Array Nat) (w:World) (h:SU w w g n c d) (hab:a<b) (hb:b≤n) (hn:n<4611686018427387904) :
  Calls Tryz.prog 306 #[.slice (some ⟨g,0,none⟩) n c,.int .i64 (a:Int),.int .i64 (b:Int)] w fun e w'=>e = .returned (.bool (Sort.partialInsertionSort ltU d a b).2)∧SU w w' g n c (Sort.partialInsertionSort ltU d a b).1:=by
 have HS:=Lib.hid h
 clear h
 obtain ⟨r,hr⟩:∃r,Sort.partialInsertionSort ltU d a b=r:=⟨_,rfl⟩
 have HR:Hid (Sort.partialIns ltU a b 5 (a+1) d=r):=hr
 rw [hr]
 clear hr
 go_enter Tryz.func306,Tryz.ntmps306
 go_wp2_with fail
 go_loopw [7,8] (fun iv sv wr=>∃(i t:Nat) (x:Array Nat),iv = .int .i64 (i:Int)∧sv = .int .i64 (5-(t:Int))∧t≤5∧a<i∧i≤b∧Hid (SU w wr g n c x)∧Hid (Sort.partialIns ltU a b t i x=r)) (fun _ sv _=>(5-intOf sv).toNat)
 case atStart=>exact ⟨a+1,5,d,by go_num,rfl,by omega,by omega,by omega,HS.out,HR.out⟩
 case round=>
  obtain ⟨i,t,x,rfl,rfl,ht5,hai,hib,HX,HO⟩:=hrel
  clear HS HR
  rcases t with _ | t
  ·have HE:Hid (r=(x,false)):=by show _=_;rw [← HO.out];rfl
   clear HO
   go_wp2_with fail
   go_ret
   rw [HE.out]
   exact ⟨rfl,HX.out⟩
  ·have hs5:5-((t+1:Nat):Int)<5:=by omega
   go_wp2_with fail
   go_loopw [7] (fun kv wr=>∃k:Nat,kv = .int .i64 (k:Int)∧i≤k∧k≤b∧Hid (SU w wr g n c x)∧Hid (Sort.scanSorted ltU x b k=Sort.scanSorted ltU x b i)) (fun kv _=>b-(intOf kv).toNat)
   case atStart=>exact ⟨i,by go_num,Nat.le_refl _,hib,HX.out,rfl⟩
   case round=>
    obtain ⟨k,rfl,hik,hkb,HZ,HC⟩:=hrel
    clear HX
    by_cases hkb2:k<b
    ·obtain ⟨k,rfl⟩:∃q,k=q+1:=⟨k-1,by omega⟩
     have hgd:decide ((k:Int)+1<(b:Int))=true:=decide_eq_true (by omega)
     have hc1:=HZ.out.cell (i:=k+1) (by omega)
     have hc0:=HZ.out.cell (i:=k) (by omega)
     obtain ⟨p,hp⟩:∃p,x[k+1]! = p:=⟨_,rfl⟩
     obtain ⟨q,hq⟩:∃q,x[k]! = q:=⟨_,rfl⟩
     rw [hp] at hc1
     rw [hq] at hc0
     have HP:=Lib.hid hp;have HQ:=Lib.hid hq
     clear hp hq
     have hn1:((k+1:Nat):Int)<(n:Int):=by omega
     have hn1':(k:Int)+1<(n:Int):=by omega
     have hn0:(k:Int)<(n:Int):=by omega
     go_wp2_with fail
     go_quiet ((go_at_call 296;refine Calls.quiet_of_same (less_u64' _ _ _)))
     have HB:=Lib.hid (HZ.out.drewN nq)
     generalize World.drewN _ nq=wq at *
     clear hc1 hc0 HZ
     cases hlv:ltU p q with
     | false=>
      have HC2:Hid (Sort.scanSorted ltU x b (k+1+1)=Sort.scanSorted ltU x b i):=by
       show _=_
       rw [← HC.out,scanS_go hkb2 (by rw [HP.out,HQ.out];exact hlv)]
      go_wp2_with fail
      go_round
      case rel=>exact ⟨k+1+1,by go_num,by omega,by omega,HB.out,HC2.out⟩
      case measure=>simp [intOf]<;>omega
     | true=>
      have HC2:Hid (Sort.scanSorted ltU x b i=k+1):=by
       show _=_
       rw [← HC.out,scanS_stop (by rw [HP.out,HQ.out];exact hlv)]
      clear HC
      have hne:¬((k:Int)+1=(b:Int)):=by omega
      clear hgd
      by_cases h50:b-a<50
      ·have h50':(b:Int)-(a:Int)<50:=by omega
       have HE:Hid (r=(x,false)):=by show _=_;rw [← HO.out,partI_short HC2.out (by omega) h50]
       go_wp2_with fail
       go_ret
       rw [HE.out]
       exact ⟨rfl,HB.out⟩
      ·have h50':¬(b:Int)-(a:Int)<50:=by omega
       have HG:Hid (Sort.partialIns ltU a b t (k+1) (fixU b k (fixD a k (Sort.swp x (k+1) k)))=r):=by
        show _=_
        rw [← HO.out,partI_go HC2.out (by omega) h50]
       clear HO HC2
       have hd1:=HB.out.cell (i:=k+1) (by omega)
       have hd0:=HB.out.cell (i:=k) (by omega)
       have he1:=HB.out.free (k+1)
       have he0:=HB.out.free k
       have HS2:=Lib.hid (HB.out.swp (i:=k+1) (j:=k) (by omega) (by omega))
       rw [HP.out,HQ.out] at HS2
       rw [HP.out] at hd1
       rw [HQ.out] at hd0
       have hjj:¬(k+1=k):=by omega
       clear HB
       go_wp2_with fail
       go_big_region
       generalize World.drew _=w2 at *
       clear hd1 hd0 he1 he0 hjj HP HQ hn1 hn1' hn0
       generalize Sort.swp x (k+1) k=x2 at *
       clear hne h50' h50
       by_cases hka:2≤k+1-a
       ·have hka':((2:Nat):Int)≤(k:Int)+1-(a:Int):=by omega
        go_wp2_with fail
        go_loopw [9] (fun jv wr=>∃(j:Nat) (y:Array Nat),jv = .int .i64 (j:Int)∧j≤k∧Hid (SU w wr g n c y)∧Hid (Sort.shiftDown ltU j y=Sort.shiftDown ltU k x2)) (fun jv _=>(intOf jv).toNat)
        case atStart=>exact ⟨k,x2,by go_num,Nat.le_refl _,HS2.out,rfl⟩
        case round=>
         obtain ⟨j,y,rfl,hjk,HY,HE⟩:=hrel
         clear HS2
         rcases j with _ | j
         ·have HD:Hid (fixD a k x2=y):=by
           show _=_
           rw [fixD,if_pos hka,← HE.out];rfl
          clear HE
          have HO1:Hid (Sort.partialIns ltU a b t (k+1) (fixU b k y)=r):=by show _=_;rw [← HG.out,HD.out]
          clear HD HG
          by_cases hbk:2≤b-(k+1)
          ·have hbk':((2:Nat):Int)≤(b:Int)-((k:Int)+1):=by omega
           go_wp2_with fail
           go_loopw [10] (fun jv wr=>∃(j:Nat) (z:Array Nat),jv = .int .i64 (j:Int)∧k+1<j∧j≤b∧Hid (SU w wr g n c z)∧Hid (Sort.shiftUp ltU b j z=Sort.shiftUp ltU b (k+1+1) y)) (fun jv _=>b-(intOf jv).toNat)
           case atStart=>exact ⟨k+1+1,y,by go_num,by omega,by omega,HY.out,rfl⟩
           case round=>
            obtain ⟨j,z,rfl,hkj,hjb,HZ,HE⟩:=hrel
            clear HY
            by_cases hlt:j<b
            ·obtain ⟨j,rfl⟩:∃q,j=q+1:=⟨j-1,by omega⟩
             have hlt':(j:Int)+1<(b:Int):=by omega
             have hc1:=HZ.out.cell (i:=j+1) (by omega)
             have hc0:=HZ.out.cell (i:=j) (by omega)
             obtain ⟨p,hp⟩:∃p,z[j+1]! = p:=⟨_,rfl⟩
             obtain ⟨q,hq⟩:∃q,z[j]! = q:=⟨_,rfl⟩
             rw [hp] at hc1
             rw [hq] at hc0
             have HP:=Lib.hid hp;have HQ:=Lib.hid hq
             clear hp hq
             have hn1:((j+1:Nat):Int)<(n:Int):=by omega
             have hn1':(j:Int)+1<(n:Int):=by omega
             have hn0:(j:Int)<(n:Int):=by omega
             go_wp2_with fail
             go_quiet ((go_at_call 296;refine Calls.quiet_of_same (less_u64' _ _ _)))
             have HB:=Lib.hid (HZ.out.drewN nq)
             generalize World.drewN _ nq=wq at *
             clear hc1 hc0 HZ
             cases hlv:ltU p q with
             | true=>
              have HE2:Hid (Sort.shiftUp ltU b (j+1+1) (Sort.swp z (j+1) j)=Sort.shiftUp ltU b (k+1+1) y):=by
               show _=_
               rw [← HE.out,shiftU_go hlt (by rw [HP.out,HQ.out];exact hlv)]
              have hd1:=HB.out.cell (i:=j+1) (by omega)
              have hd0:=HB.out.cell (i:=j) (by omega)
              have he1:=HB.out.free (j+1)
              have he0:=HB.out.free j
              have HS2:=Lib.hid (HB.out.swp (i:=j+1) (j:=j) (by omega) (by omega))
              rw [HP.out,HQ.out] at HS2
              rw [HP.out] at hd1
              rw [HQ.out] at hd0
              have hjj:¬(j+1=j):=by omega
              clear HB
              go_wp2_with fail
              go_big_region
              generalize World.drew _=w2 at *
              clear hd1 hd0 he1 he0 hjj HP HQ hn1 hn1' hn0
              go_wp2_with fail
              go_round
              case rel=>exact ⟨j+1+1,_,by go_num,by omega,by omega,HS2.out,HE2.out⟩
              case measure=>simp [intOf]<;>omega
             | false=>
              have HO2:Hid (Sort.partialIns ltU a b t (k+1) z=r):=by
               show _=_
               rw [← HO1.out,fixU,if_pos hbk,← HE.out,shiftU_stop (by rw [HP.out,HQ.out];exact hlv)]
              clear HP HQ hbk' hlt'
              go_wp2_with fail
              go_round
              case rel=>exact ⟨k+1,t,_,rfl,by go_num,by omega,by omega,by omega,HB.out,HO2.out⟩
              case measure=>simp [intOf]<;>omega
            ·have hlt':¬(j:Int)<(b:Int):=by omega
             have HO2:Hid (Sort.partialIns ltU a b t (k+1) z=r):=by
              show _=_
              rw [← HO1.out,fixU,if_pos hbk,← HE.out,shiftU_end hlt]
             go_wp2_with fail
             go_round
             case rel=>exact ⟨k+1,t,_,rfl,by go_num,by omega,by omega,by omega,HZ.out,HO2.out⟩
             case measure=>simp [intOf]<;>omega
          ·have hbk':¬((2:Nat):Int)≤(b:Int)-((k:Int)+1):=by omega
           have HO2:Hid (Sort.partialIns ltU a b t (k+1) y=r):=by
            show _=_
            rw [← HO1.out,fixU,if_neg hbk]
           go_wp2_with fail
           go_round
           case rel=>exact ⟨k+1,t,_,rfl,by go_num,by omega,by omega,by omega,HY.out,HO2.out⟩
           case measure=>simp [intOf]<;>omega
         ·have hj1:(1:Int)≤(j:Int)+1:=by omega
          have hc1:=HY.out.cell (i:=j+1) (by omega)
          have hc0:=HY.out.cell (i:=j) (by omega)
          obtain ⟨p,hp⟩:∃p,y[j+1]! = p:=⟨_,rfl⟩
          obtain ⟨q,hq⟩:∃q,y[j]! = q:=⟨_,rfl⟩
          rw [hp] at hc1
          rw [hq] at hc0
          have HP:=Lib.hid hp;have HQ:=Lib.hid hq
          clear hp hq
          have hn1:((j+1:Nat):Int)<(n:Int):=by omega
          have hn1':(j:Int)+1<(n:Int):=by omega
          have hn0:(j:Int)<(n:Int):=by omega
          go_wp2_with fail
          go_quiet ((go_at_call 296;refine Calls.quiet_of_same (less_u64' _ _ _)))
          have HB:=Lib.hid (HY.out.drewN nq)
          generalize World.drewN _ nq=wq at *
          clear hc1 hc0 HY
          cases hlv:ltU p q with
          | true=>
           have HE2:Hid (Sort.shiftDown ltU j (Sort.swp y (j+1) j)=Sort.shiftDown ltU k x2):=by
            show _=_
            rw [← HE.out,shiftD_go (by rw [HP.out,HQ.out];exact hlv)]
           have hd1:=HB.out.cell (i:=j+1) (by omega)
           have hd0:=HB.out.cell (i:=j) (by omega)
           have he1:=HB.out.free (j+1)
           have he0:=HB.out.free j
           have HS2:=Lib.hid (HB.out.swp (i:=j+1) (j:=j) (by omega) (by omega))
           rw [HP.out,HQ.out] at HS2
           rw [HP.out] at hd1
           rw [HQ.out] at hd0
           have hjj:¬(j+1=j):=by omega
           clear HB
           go_wp2_with fail
           go_big_region
           generalize World.drew _=w2 at *
           clear hd1 hd0 he1 he0 hjj HP HQ hn1 hn1' hn0
           go_wp2_with fail
           go_round
           case rel=>exact ⟨j,_,by go_num,by omega,HS2.out,HE2.out⟩
           case measure=>simp [intOf]<;>omega
          | false=>
           have HD:Hid (fixD a k x2=y):=by
            show _=_
            rw [fixD,if_pos hka,← HE.out,shiftD_stop (by rw [HP.out,HQ.out];exact hlv)]
           clear HE HP HQ hn1 hn1' hn0
           have HO1:Hid (Sort.partialIns ltU a b t (k+1) (fixU b k y)=r):=by show _=_;rw [← HG.out,HD.out]
           clear HD HG
           by_cases hbk:2≤b-(k+1)
           ·have hbk':((2:Nat):Int)≤(b:Int)-((k:Int)+1):=by omega
            go_wp2_with fail
            go_loopw [10] (fun jv wr=>∃(j:Nat) (z:Array Nat),jv = .int .i64 (j:Int)∧k+1<j∧j≤b∧Hid (SU w wr g n c z)∧Hid (Sort.shiftUp ltU b j z=Sort.shiftUp ltU b (k+1+1) y)) (fun jv _=>b-(intOf jv).toNat)
            case atStart=>exact ⟨k+1+1,y,by go_num,by omega,by omega,HB.out,rfl⟩
            case round=>
             obtain ⟨j,z,rfl,hkj,hjb,HZ,HE⟩:=hrel
             clear HB
             by_cases hlt:j<b
             ·obtain ⟨j,rfl⟩:∃q,j=q+1:=⟨j-1,by omega⟩
              have hlt':(j:Int)+1<(b:Int):=by omega
              have hc1:=HZ.out.cell (i:=j+1) (by omega)
              have hc0:=HZ.out.cell (i:=j) (by omega)
              obtain ⟨p,hp⟩:∃p,z[j+1]! = p:=⟨_,rfl⟩
              obtain ⟨q,hq⟩:∃q,z[j]! = q:=⟨_,rfl⟩
              rw [hp] at hc1
              rw [hq] at hc0
              have HP:=Lib.hid hp;have HQ:=Lib.hid hq
              clear hp hq
              have hn1:((j+1:Nat):Int)<(n:Int):=by omega
              have hn1':(j:Int)+1<(n:Int):=by omega
              have hn0:(j:Int)<(n:Int):=by omega
              go_wp2_with fail
              go_quiet ((go_at_call 296;refine Calls.quiet_of_same (less_u64' _ _ _)))
              have HB:=Lib.hid (HZ.out.drewN nq)
              generalize World.drewN _ nq=wq at *
              clear hc1 hc0 HZ
              cases hlv:ltU p q with
              | true=>
               have HE2:Hid (Sort.shiftUp ltU b (j+1+1) (Sort.swp z (j+1) j)=Sort.shiftUp ltU b (k+1+1) y):=by
                show _=_
                rw [← HE.out,shiftU_go hlt (by rw [HP.out,HQ.out];exact hlv)]
               have hd1:=HB.out.cell (i:=j+1) (by omega)
               have hd0:=HB.out.cell (i:=j) (by omega)
               have he1:=HB.out.free (j+1)
               have he0:=HB.out.free j
               have HS2:=Lib.hid (HB.out.swp (i:=j+1) (j:=j) (by omega) (by omega))
               rw [HP.out,HQ.out] at HS2
               rw [HP.out] at hd1
               rw [HQ.out] at hd0
               have hjj:¬(j+1=j):=by omega
               clear HB
               go_wp2_with fail
               go_big_region
               generalize World.drew _=w2 at *
               clear hd1 hd0 he1 he0 hjj HP HQ hn1 hn1' hn0
               go_wp2_with fail
               go_round
               case rel=>exact ⟨j+1+1,_,by go_num,by omega,by omega,HS2.out,HE2.out⟩
               case measure=>simp [intOf]<;>omega
              | false=>
               have HO2:Hid (Sort.partialIns ltU a b t (k+1) z=r):=by
                show _=_
                rw [← HO1.out,fixU,if_pos hbk,← HE.out,shiftU_stop (by rw [HP.out,HQ.out];exact hlv)]
               clear HP HQ hbk' hlt'
               go_wp2_with fail
               go_round
               case rel=>exact ⟨k+1,t,_,rfl,by go_num,by omega,by omega,by omega,HB.out,HO2.out⟩
               case measure=>simp [intOf]<;>omega
             ·have hlt':¬(j:Int)<(b:Int):=by omega
              have HO2:Hid (Sort.partialIns ltU a b t (k+1) z=r):=by
               show _=_
               rw [← HO1.out,fixU,if_pos hbk,← HE.out,shiftU_end hlt]
              go_wp2_with fail
              go_round
              case rel=>exact ⟨k+1,t,_,rfl,by go_num,by omega,by omega,by omega,HZ.out,HO2.out⟩
              case measure=>simp [intOf]<;>omega
           ·have hbk':¬((2:Nat):Int)≤(b:Int)-((k:Int)+1):=by omega
            have HO2:Hid (Sort.partialIns ltU a b t (k+1) y=r):=by
             show _=_
             rw [← HO1.out,fixU,if_neg hbk]
            go_wp2_with fail
            go_round
            case rel=>exact ⟨k+1,t,_,rfl,by go_num,by omega,by omega,by omega,HB.out,HO2.out⟩
            case measure=>simp [intOf]<;>omega
       ·have hka':¬((2:Nat):Int)≤(k:Int)+1-(a:Int):=by omega
        have HD:Hid (fixD a k x2=x2):=by
         show _=_
         rw [fixD,if_neg hka]
        have HO1:Hid (Sort.partialIns ltU a b t (k+1) (fixU b k x2)=r):=by show _=_;rw [← HG.out,HD.out]
        clear HD HG
        by_cases hbk:2≤b-(k+1)
        ·have hbk':((2:Nat):Int)≤(b:Int)-((k:Int)+1):=by omega
         go_wp2_with fail
         go_loopw [10] (fun jv wr=>∃(j:Nat) (z:Array Nat),jv = .int .i64 (j:Int)∧k+1<j∧j≤b∧Hid (SU w wr g n c z)∧Hid (Sort.shiftUp ltU b j z=Sort.shiftUp ltU b (k+1+1) x2)) (fun jv _=>b-(intOf jv).toNat)
         case atStart=>exact ⟨k+1+1,x2,by go_num,by omega,by omega,HS2.out,rfl⟩
         case round=>
          obtain ⟨j,z,rfl,hkj,hjb,HZ,HE⟩:=hrel
          clear HS2
          by_cases hlt:j<b
          ·obtain ⟨j,rfl⟩:∃q,j=q+1:=⟨j-1,by omega⟩
           have hlt':(j:Int)+1<(b:Int):=by omega
           have hc1:=HZ.out.cell (i:=j+1) (by omega)
           have hc0:=HZ.out.cell (i:=j) (by omega)
           obtain ⟨p,hp⟩:∃p,z[j+1]! = p:=⟨_,rfl⟩
           obtain ⟨q,hq⟩:∃q,z[j]! = q:=⟨_,rfl⟩
           rw [hp] at hc1
           rw [hq] at hc0
           have HP:=Lib.hid hp;have HQ:=Lib.hid hq
           clear hp hq
           have hn1:((j+1:Nat):Int)<(n:Int):=by omega
           have hn1':(j:Int)+1<(n:Int):=by omega
           have hn0:(j:Int)<(n:Int):=by omega
           go_wp2_with fail
           go_quiet ((go_at_call 296;refine Calls.quiet_of_same (less_u64' _ _ _)))
           have HB:=Lib.hid (HZ.out.drewN nq)
           generalize World.drewN _ nq=wq at *
           clear hc1 hc0 HZ
           cases hlv:ltU p q with
           | true=>
            have HE2:Hid (Sort.shiftUp ltU b (j+1+1) (Sort.swp z (j+1) j)=Sort.shiftUp ltU b (k+1+1) x2):=by
             show _=_
             rw [← HE.out,shiftU_go hlt (by rw [HP.out,HQ.out];exact hlv)]
            have hd1:=HB.out.cell (i:=j+1) (by omega)
            have hd0:=HB.out.cell (i:=j) (by omega)
            have he1:=HB.out.free (j+1)
            have he0:=HB.out.free j
            have HS2:=Lib.hid (HB.out.swp (i:=j+1) (j:=j) (by omega) (by omega))
            rw [HP.out,HQ.out] at HS2
            rw [HP.out] at hd1
            rw [HQ.out] at hd0
            have hjj:¬(j+1=j):=by omega
            clear HB
            go_wp2_with fail
            go_big_region
            generalize World.drew _=w2 at *
            clear hd1 hd0 he1 he0 hjj HP HQ hn1 hn1' hn0
            go_wp2_with fail
            go_round
            case rel=>exact ⟨j+1+1,_,by go_num,by omega,by omega,HS2.out,HE2.out⟩
            case measure=>simp [intOf]<;>omega
           | false=>
            have HO2:Hid (Sort.partialIns ltU a b t (k+1) z=r):=by
             show _=_
             rw [← HO1.out,fixU,if_pos hbk,← HE.out,shiftU_stop (by rw [HP.out,HQ.out];exact hlv)]
            clear HP HQ hbk' hlt'
            go_wp2_with fail
            go_round
            case rel=>exact ⟨k+1,t,_,rfl,by go_num,by omega,by omega,by omega,HB.out,HO2.out⟩
            case measure=>simp [intOf]<;>omega
          ·have hlt':¬(j:Int)<(b:Int):=by omega
           have HO2:Hid (Sort.partialIns ltU a b t (k+1) z=r):=by
            show _=_
            rw [← HO1.out,fixU,if_pos hbk,← HE.out,shiftU_end hlt]
           go_wp2_with fail
           go_round
           case rel=>exact ⟨k+1,t,_,rfl,by go_num,by omega,by omega,by omega,HZ.out,HO2.out⟩
           case measure=>simp [intOf]<;>omega
        ·have hbk':¬((2:Nat):Int)≤(b:Int)-((k:Int)+1):=by omega
         have HO2:Hid (Sort.partialIns ltU a b t (k+1) x2=r):=by
          show _=_
          rw [← HO1.out,fixU,if_neg hbk]
         go_wp2_with fail
         go_round
         case rel=>exact ⟨k+1,t,_,rfl,by go_num,by omega,by omega,by omega,HS2.out,HO2.out⟩
         case measure=>simp [intOf]<;>omega
    ·have hgd:decide ((k:Int)<(b:Int))=false:=decide_eq_false (by omega)
     have hkb3:(k:Int)=(b:Int):=by omega
     have HE:Hid (r=(x,true)):=by
      show _=_
      rw [← HO.out,partI_true (by rw [← HC.out,scanS_end hkb2];omega)]
     go_wp2_with fail
     go_quiet ((go_at_call 296;refine Calls.quiet_of_same (less_u64' _ _ _)))
     have HB:=Lib.hid (HZ.out.drewN nq)
     generalize World.drewN _ nq=wq at *
     go_wp2_with fail
     go_ret
     rw [HE.out]
     exact ⟨rfl,HB.out⟩
end Go.Proofs.YtdcgbgecbeegmaaGreatDoor
end
