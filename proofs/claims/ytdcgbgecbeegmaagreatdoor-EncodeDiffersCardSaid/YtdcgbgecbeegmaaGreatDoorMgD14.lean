/- Texts 14. -/
import Derived.Test.YtdcgbgecbeegmaaGreatDoorMgD13
import Derived.Test.YtdcgbgecbeegmaaGreatDoorMgD12
set_option linter.unusedVariables false
set_option linter.unusedSimpArgs false
section
set_option maxRecDepth 20000
namespace Go.Proofs.YtdcgbgecbeegmaaGreatDoor
open Go Go.RowKit
set_option maxHeartbeats 8000000 in
theorem break_u64 (g n c a b:Nat) (d:Array Nat) (w:World) (h:SU w w g n c d) (hab:a+12<b) (hb:b≤n) (hn:n<4611686018427387904) (hg:g<w.heap.size) :
  Calls Tryz.prog 303 #[.slice (some ⟨g,0,none⟩) n c,.int .i64 (a:Int),.int .i64 (b:Int)] w fun e w'=>e = .returned (.tuple #[])∧∃d',SU w w' g n c d'∧Sort.PermIn a b d d':=by
 have HS:=Lib.hid h
 clear h
 obtain ⟨m,hm0⟩:∃m,b-a=m:=⟨_,rfl⟩
 have hsub:(b:Int)-(a:Int)=(m:Int):=by omega
 obtain ⟨t,ht⟩:∃t,m / 4=t:=⟨_,rfl⟩
 have HDV:Hid ((m:Int) / 4=(t:Int)):=by show _=_;omega
 have h12:(8:Int)≤(m:Int):=by omega
 have HI:Hid (12<m∧a+m≤n∧b=a+m∧4*t≤m∧m<4*t+4):=by show _∧_∧_∧_∧_;omega
 have hmn:(m:Int)≤4611686018427387904:=by omega
 have han:(a:Int)≤4611686018427387904:=by omega
 have htn:(t:Int)≤4611686018427387904:=by omega
 have hbl:Below w.heap.size w (w.alloc (.cells #[.int .u64 (m:Int)] 267)):=(Below.refl _ _).alloc (Nat.le_refl _) _
 have HX0:Hid (SU w (w.alloc (.cells #[.int .u64 (m:Int)] 267)) g n c d):=⟨HS.out.sz,(Mods.of_below hbl (fun _=>False)).owns HS.out.row (fun _ _ e=>e),Mods.of_below hbl _⟩
 have HB0:Hid (Blk (w.alloc (.cells #[.int .u64 (m:Int)] 267)) w.heap.size [.int .u64 (m:Int)]):=Blk.new _ _ _
 clear hm0 ht hab hbl
 go_enter Tryz.func303,Tryz.ntmps303
 go_wp2_with fail
 generalize w.alloc (.cells #[.int .u64 (m:Int)] 267)=w0 at *
 refine (next_pow m (by have:=HI.out;omega) (by have:=HI.out;omega) w0).mono ?_
 rintro e w1 ⟨rfl,rfl⟩
 have HBL:=Lib.hid (bitLen_pow m (by have:=HI.out;omega) (by have:=HI.out;omega))
 generalize Lib.bitLen m=L at *
 go_wp2_with fail
 go_loopw [9] (fun iv wr=>∃(i:Nat) (x:Array Nat) (r:Nat),a≤i∧i≤a+t*2+2∧iv = .int .i64 (i:Int)∧Hid (SU w wr g n c x)∧Hid (Sort.PermIn a b d x)∧Hid (Blk wr w.heap.size [.int .u64 (r:Int)])) (fun iv _=>a+t*2+2-(intOf iv).toNat)
 case atStart=>exact ⟨a+t*2-1,d,m,by have:=HI.out;omega,by omega,by rw [HDV.out];have:=HI.out;go_num,HX0.out,Sort.permIn_refl _ _ _,HB0.out⟩
 case round=>
  obtain ⟨i,x,r,hai,hit,rfl,HX,HP,HB⟩:=hrel
  clear HX0 HB0
  by_cases hle:i≤a+t*2+1
  ·have hlei:(i:Int)≤(a:Int)+(m:Int) / 4*2+1:=by rw [HDV.out];omega
   go_wp2_with fail
   refine (xor_next w.heap.size r wr HB.out).mono ?_
   rintro e w2 ⟨r2,rfl,hr2,hb2,hm2⟩
   have HB2:=Lib.hid hb2
   have HQ:Hid (w.heap.size≠g):=by show _≠_;omega
   have HX2:Hid (SU w w2 g n c x):=⟨HX.out.sz,hm2.owns HX.out.row (fun k hk e=>by simp [Value.ownBlock] at hk;omega),HX.out.mods.trans hm2 (fun k hk e=>by omega)⟩
   have hmask:=mask_u64' r2 L hr2 HBL.out.2.2
   obtain ⟨o,ho⟩:∃o,r2 % 2 ^ L=o:=⟨_,rfl⟩
   have hol:o<2 ^ L:=by rw [← ho];exact Nat.mod_lt _ (Nat.two_pow_pos _)
   have hom:o<2*m:=by have:=HBL.out.2.1;omega
   rw [ho] at hmask
   have hoi:(o:Int)≤9223372036854775807:=by have:=HI.out;omega
   clear ho hol hb2 hm2 HB HX
   by_cases hge:m≤o
   ·obtain ⟨o2,rfl⟩:∃o2,o=m+o2:=⟨o-m,by omega⟩
    have hgei:(m:Int)≤((m+o2:Nat):Int):=by omega
    have ho2:o2<m:=by omega
    have hsub2:(m:Int)+(o2:Int)-(m:Int)=(o2:Int):=by omega
    by_cases hij:i=a+o2
    ·subst hij
     have hci:=HX2.out.cell (i:=a+o2) (by have:=HI.out;omega)
     have hfi:=HX2.out.free (a+o2)
     have hin:(a:Int)+(o2:Int)<(n:Int):=by have:=HI.out;omega
     have HS2:=Lib.hid (HX2.out.swp (i:=a+o2) (j:=a+o2) (by have:=HI.out;omega) (by have:=HI.out;omega))
     have HP2:Hid (Sort.PermIn a b d (Sort.swp x (a+o2) (a+o2))):=Sort.permIn_trans _ _ _ _ _ HP.out (Sort.swp_permIn x a b _ _ (by omega) (by have:=HI.out;omega) (by omega) (by have:=HI.out;omega) (by rw [HX2.out.sz];exact hb))
     generalize x[a+o2]! = p at *
     go_wp2_with fail
     go_big_region
     have HB3:=Lib.hid ((((HB2.out.set_other (a:=⟨g,a+o2,none⟩) HQ.out (.int .u64 (p:Int))).set_other (a:=⟨g,a+o2,none⟩) HQ.out (.int .u64 (p:Int)))).drew)
     go_wp2_with fail
     go_round
     case rel=>exact ⟨a+o2+1,_,r2,by omega,by omega,by go_num,HS2.out,HP2.out,HB3.out⟩
     case measure=>simp [intOf]<;>omega
    ·have hci:=HX2.out.cell (i:=i) (by have:=HI.out;omega)
     have hfi:=HX2.out.free i
     have hcj:=HX2.out.cell (i:=a+o2) (by have:=HI.out;omega)
     have hfj:=HX2.out.free (a+o2)
     have hin:(i:Int)<(n:Int):=by have:=HI.out;omega
     have hjn:(a:Int)+(o2:Int)<(n:Int):=by have:=HI.out;omega
     have HS2:=Lib.hid (HX2.out.swp (i:=i) (j:=a+o2) (by have:=HI.out;omega) (by have:=HI.out;omega))
     have HP2:Hid (Sort.PermIn a b d (Sort.swp x i (a+o2))):=Sort.permIn_trans _ _ _ _ _ HP.out (Sort.swp_permIn x a b _ _ hai (by have:=HI.out;omega) (by omega) (by have:=HI.out;omega) (by rw [HX2.out.sz];exact hb))
     generalize Sort.swp x i (a+o2)=y at *
     generalize x[i]! = p at *
     generalize x[a+o2]! = q at *
     go_wp2_with fail
     go_big_region
     have HB3:=Lib.hid ((((HB2.out.set_other (a:=⟨g,i,none⟩) HQ.out (.int .u64 (q:Int))).set_other (a:=⟨g,a+o2,none⟩) HQ.out (.int .u64 (p:Int)))).drew)
     go_wp2_with fail
     go_round
     case rel=>exact ⟨i+1,_,r2,by omega,by omega,by go_num,HS2.out,HP2.out,HB3.out⟩
     case measure=>simp [intOf]<;>omega
   ·have hgei:¬(m:Int)≤(o:Int):=by omega
    have ho2:o<m:=by omega
    by_cases hij:i=a+o
    ·subst hij
     have hci:=HX2.out.cell (i:=a+o) (by have:=HI.out;omega)
     have hfi:=HX2.out.free (a+o)
     have hin:(a:Int)+(o:Int)<(n:Int):=by have:=HI.out;omega
     have HS2:=Lib.hid (HX2.out.swp (i:=a+o) (j:=a+o) (by have:=HI.out;omega) (by have:=HI.out;omega))
     have HP2:Hid (Sort.PermIn a b d (Sort.swp x (a+o) (a+o))):=Sort.permIn_trans _ _ _ _ _ HP.out (Sort.swp_permIn x a b _ _ (by omega) (by have:=HI.out;omega) (by omega) (by have:=HI.out;omega) (by rw [HX2.out.sz];exact hb))
     generalize x[a+o]! = p at *
     go_wp2_with fail
     go_big_region
     have HB3:=Lib.hid ((((HB2.out.set_other (a:=⟨g,a+o,none⟩) HQ.out (.int .u64 (p:Int))).set_other (a:=⟨g,a+o,none⟩) HQ.out (.int .u64 (p:Int)))).drew)
     go_wp2_with fail
     go_round
     case rel=>exact ⟨a+o+1,_,r2,by omega,by omega,by go_num,HS2.out,HP2.out,HB3.out⟩
     case measure=>simp [intOf]<;>omega
    ·have hci:=HX2.out.cell (i:=i) (by have:=HI.out;omega)
     have hfi:=HX2.out.free i
     have hcj:=HX2.out.cell (i:=a+o) (by have:=HI.out;omega)
     have hfj:=HX2.out.free (a+o)
     have hin:(i:Int)<(n:Int):=by have:=HI.out;omega
     have hjn:(a:Int)+(o:Int)<(n:Int):=by have:=HI.out;omega
     have HS2:=Lib.hid (HX2.out.swp (i:=i) (j:=a+o) (by have:=HI.out;omega) (by have:=HI.out;omega))
     have HP2:Hid (Sort.PermIn a b d (Sort.swp x i (a+o))):=Sort.permIn_trans _ _ _ _ _ HP.out (Sort.swp_permIn x a b _ _ hai (by have:=HI.out;omega) (by omega) (by have:=HI.out;omega) (by rw [HX2.out.sz];exact hb))
     generalize Sort.swp x i (a+o)=y at *
     generalize x[i]! = p at *
     generalize x[a+o]! = q at *
     go_wp2_with fail
     go_big_region
     have HB3:=Lib.hid ((((HB2.out.set_other (a:=⟨g,i,none⟩) HQ.out (.int .u64 (q:Int))).set_other (a:=⟨g,a+o,none⟩) HQ.out (.int .u64 (p:Int)))).drew)
     go_wp2_with fail
     go_round
     case rel=>exact ⟨i+1,_,r2,by omega,by omega,by go_num,HS2.out,HP2.out,HB3.out⟩
     case measure=>simp [intOf]<;>omega
  ·have hlei:¬(i:Int)≤(a:Int)+(m:Int) / 4*2+1:=by rw [HDV.out];omega
   go_wp2_with fail
   go_end0
   exact ⟨rfl,x,HX.out,HP.out⟩
theorem scanS_go {d:Array Nat} {b k:Nat} (h:k+1<b) (hl:ltU d[k+1]! d[k]! = false):Sort.scanSorted ltU d b (k+1)=Sort.scanSorted ltU d b (k+1+1):=by
 rw [Sort.scanSorted];simp [h,hl]
theorem scanS_stop {d:Array Nat} {b k:Nat} (hl:ltU d[k+1]! d[k]! = true):Sort.scanSorted ltU d b (k+1)=k+1:=by
 rw [Sort.scanSorted];simp [hl]
theorem scanS_end {d:Array Nat} {b k:Nat} (h:¬k<b):Sort.scanSorted ltU d b k=k:=by
 rw [Sort.scanSorted];simp [h]
theorem shiftD_go {d:Array Nat} {j:Nat} (hl:ltU d[j+1]! d[j]! = true):Sort.shiftDown ltU (j+1) d=Sort.shiftDown ltU j (Sort.swp d (j+1) j):=by
 rw [Sort.shiftDown];simp [hl]
theorem shiftD_stop {d:Array Nat} {j:Nat} (hl:ltU d[j+1]! d[j]! = false):Sort.shiftDown ltU (j+1) d=d:=by
 rw [Sort.shiftDown];simp [hl]
theorem shiftU_go {d:Array Nat} {b j:Nat} (h:j+1<b) (hl:ltU d[j+1]! d[j]! = true):Sort.shiftUp ltU b (j+1) d=Sort.shiftUp ltU b (j+1+1) (Sort.swp d (j+1) j):=by
 rw [Sort.shiftUp];simp [h,hl]
theorem shiftU_stop {d:Array Nat} {b j:Nat} (hl:ltU d[j+1]! d[j]! = false):Sort.shiftUp ltU b (j+1) d=d:=by
 rw [Sort.shiftUp];simp [hl]
theorem shiftU_end {d:Array Nat} {b j:Nat} (h:¬j<b):Sort.shiftUp ltU b j d=d:=by
 rw [Sort.shiftUp];simp [h]
def fixD (a k:Nat) (y:Array Nat):Array Nat:=if 2≤k+1-a then Sort.shiftDown ltU k y else y
def fixU (b k:Nat) (y:Array Nat):Array Nat:=if 2≤b-(k+1) then Sort.shiftUp ltU b (k+1+1) y else y
theorem partI_true {a b t i:Nat} {d:Array Nat} (h:Sort.scanSorted ltU d b i=b):Sort.partialIns ltU a b (t+1) i d=(d,true):=by
 rw [Sort.partialIns];simp [h]
theorem partI_short {a b t i k:Nat} {d:Array Nat} (h:Sort.scanSorted ltU d b i=k) (hk:k≠b) (h50:b-a<50):Sort.partialIns ltU a b (t+1) i d=(d,false):=by
 rw [Sort.partialIns];simp [h,hk,h50]
theorem partI_go {a b t i k:Nat} {d:Array Nat} (h:Sort.scanSorted ltU d b i=k+1) (hk:k+1≠b) (h50:¬b-a<50) :
  Sort.partialIns ltU a b (t+1) i d=Sort.partialIns ltU a b t (k+1) (fixU b k (fixD a k (Sort.swp d (k+1) k))):=by
 rw [Sort.partialIns];simp [h,hk,h50,fixU,fixD]
set_option maxHeartbeats 80000000 in
theorem partialInsertion_u64 (g n c a b:Nat) (d:Array Nat) (w:World) (h:SU w w g n c d) (hab:a<b) (hb:b≤n) (hn:n<4611686018427387904) :
  Calls Tryz.prog 306 #[.slice (some ⟨g,0,none⟩) n c,.int .i64 (a:Int),.int .i64 (b:Int)] w fun e w'=>e = .returned (.bool (Sort.partialInsertionSort ltU d a b).2)∧SU w w' g n c (Sort.partialInsertionSort ltU d a b).1:=by
 have HS:=Lib.hid h
 clear h
 obtain ⟨r,hr⟩:∃r,Sort.partialInsertionSort ltU d a b=r:=⟨_,rfl⟩
 have HR:Hid (Sort.partialIns ltU a b 5 (a+1) d=r):=hr
 rw [hr]
 clear hr
 go_enter Tryz.func306,Tryz.ntmps306
 go_wp2_with fail
 go_loopw [7,8] (fun iv sv wr=>∃(i t:Nat) (x:Array Nat),iv = .int .i64 (i:Int)∧sv = .int .i64 (5-(t:Int))∧t≤5∧a<i∧i≤b∧Hid (SU w wr g n c x)∧Hid (Sort.partialIns ltU a b t i x=r)) (fun _ sv _=>(5-intOf sv).toNat)
 case atStart=>exact ⟨a+1,5,d,by go_num,rfl,by omega,by omega,by omega,HS.out,HR.out⟩
 case round=>
  obtain ⟨i,t,x,rfl,rfl,ht5,hai,hib,HX,HO⟩:=hrel
  clear HS HR
  rcases t with _ | t
  ·have HE:Hid (r=(x,false)):=by show _=_;rw [← HO.out];rfl
   clear HO
   go_wp2_with fail
   go_ret
   rw [HE.out]
   exact ⟨rfl,HX.out⟩
  ·have hs5:5-((t+1:Nat):Int)<5:=by omega
   go_wp2_with fail
   go_loopw [7] (fun kv wr=>∃k:Nat,kv = .int .i64 (k:Int)∧i≤k∧k≤b∧Hid (SU w wr g n c x)∧Hid (Sort.scanSorted ltU x b k=Sort.scanSorted ltU x b i)) (fun kv _=>b-(intOf kv).toNat)
   case atStart=>exact ⟨i,by go_num,Nat.le_refl _,hib,HX.out,rfl⟩
   case round=>
    obtain ⟨k,rfl,hik,hkb,HZ,HC⟩:=hrel
    clear HX
    by_cases hkb2:k<b
    ·obtain ⟨k,rfl⟩:∃q,k=q+1:=⟨k-1,by omega⟩
     have hgd:decide ((k:Int)+1<(b:Int))=true:=decide_eq_true (by omega)
     have hc1:=HZ.out.cell (i:=k+1) (by omega)
     have hc0:=HZ.out.cell (i:=k) (by omega)
     obtain ⟨p,hp⟩:∃p,x[k+1]! = p:=⟨_,rfl⟩
     obtain ⟨q,hq⟩:∃q,x[k]! = q:=⟨_,rfl⟩
     rw [hp] at hc1
     rw [hq] at hc0
     have HP:=Lib.hid hp;have HQ:=Lib.hid hq
     clear hp hq
     have hn1:((k+1:Nat):Int)<(n:Int):=by omega
     have hn1':(k:Int)+1<(n:Int):=by omega
     have hn0:(k:Int)<(n:Int):=by omega
     go_wp2_with fail
     go_quiet ((go_at_call 296;refine Calls.quiet_of_same (less_u64' _ _ _)))
     have HB:=Lib.hid (HZ.out.drewN nq)
     generalize World.drewN _ nq=wq at *
     clear hc1 hc0 HZ
     cases hlv:ltU p q with
     | false=>
      have HC2:Hid (Sort.scanSorted ltU x b (k+1+1)=Sort.scanSorted ltU x b i):=by
       show _=_
       rw [← HC.out,scanS_go hkb2 (by rw [HP.out,HQ.out];exact hlv)]
      go_wp2_with fail
      go_round
      case rel=>exact ⟨k+1+1,by go_num,by omega,by omega,HB.out,HC2.out⟩
      case measure=>simp [intOf]<;>omega
     | true=>
      have HC2:Hid (Sort.scanSorted ltU x b i=k+1):=by
       show _=_
       rw [← HC.out,scanS_stop (by rw [HP.out,HQ.out];exact hlv)]
      clear HC
      have hne:¬((k:Int)+1=(b:Int)):=by omega
      clear hgd
      by_cases h50:b-a<50
      ·have h50':(b:Int)-(a:Int)<50:=by omega
       have HE:Hid (r=(x,false)):=by show _=_;rw [← HO.out,partI_short HC2.out (by omega) h50]
       go_wp2_with fail
       go_ret
       rw [HE.out]
       exact ⟨rfl,HB.out⟩
      ·have h50':¬(b:Int)-(a:Int)<50:=by omega
       have HG:Hid (Sort.partialIns ltU a b t (k+1) (fixU b k (fixD a k (Sort.swp x (k+1) k)))=r):=by
        show _=_
        rw [← HO.out,partI_go HC2.out (by omega) h50]
       clear HO HC2
       have hd1:=HB.out.cell (i:=k+1) (by omega)
       have hd0:=HB.out.cell (i:=k) (by omega)
       have he1:=HB.out.free (k+1)
       have he0:=HB.out.free k
       have HS2:=Lib.hid (HB.out.swp (i:=k+1) (j:=k) (by omega) (by omega))
       rw [HP.out,HQ.out] at HS2
       rw [HP.out] at hd1
       rw [HQ.out] at hd0
       have hjj:¬(k+1=k):=by omega
       clear HB
       go_wp2_with fail
       go_big_region
       generalize World.drew _=w2 at *
       clear hd1 hd0 he1 he0 hjj HP HQ hn1 hn1' hn0
       generalize Sort.swp x (k+1) k=x2 at *
       clear hne h50' h50
       by_cases hka:2≤k+1-a
       ·have hka':((2:Nat):Int)≤(k:Int)+1-(a:Int):=by omega
        go_wp2_with fail
        go_loopw [9] (fun jv wr=>∃(j:Nat) (y:Array Nat),jv = .int .i64 (j:Int)∧j≤k∧Hid (SU w wr g n c y)∧Hid (Sort.shiftDown ltU j y=Sort.shiftDown ltU k x2)) (fun jv _=>(intOf jv).toNat)
        case atStart=>exact ⟨k,x2,by go_num,Nat.le_refl _,HS2.out,rfl⟩
        case round=>
         obtain ⟨j,y,rfl,hjk,HY,HE⟩:=hrel
         clear HS2
         rcases j with _ | j
         ·have HD:Hid (fixD a k x2=y):=by
           show _=_
           rw [fixD,if_pos hka,← HE.out];rfl
          clear HE
          have HO1:Hid (Sort.partialIns ltU a b t (k+1) (fixU b k y)=r):=by show _=_;rw [← HG.out,HD.out]
          clear HD HG
          by_cases hbk:2≤b-(k+1)
          ·have hbk':((2:Nat):Int)≤(b:Int)-((k:Int)+1):=by omega
           go_wp2_with fail
           go_loopw [10] (fun jv wr=>∃(j:Nat) (z:Array Nat),jv = .int .i64 (j:Int)∧k+1<j∧j≤b∧Hid (SU w wr g n c z)∧Hid (Sort.shiftUp ltU b j z=Sort.shiftUp ltU b (k+1+1) y)) (fun jv _=>b-(intOf jv).toNat)
           case atStart=>exact ⟨k+1+1,y,by go_num,by omega,by omega,HY.out,rfl⟩
           case round=>
            obtain ⟨j,z,rfl,hkj,hjb,HZ,HE⟩:=hrel
            clear HY
            by_cases hlt:j<b
            ·obtain ⟨j,rfl⟩:∃q,j=q+1:=⟨j-1,by omega⟩
             have hlt':(j:Int)+1<(b:Int):=by omega
             have hc1:=HZ.out.cell (i:=j+1) (by omega)
             have hc0:=HZ.out.cell (i:=j) (by omega)
             obtain ⟨p,hp⟩:∃p,z[j+1]! = p:=⟨_,rfl⟩
             obtain ⟨q,hq⟩:∃q,z[j]! = q:=⟨_,rfl⟩
             rw [hp] at hc1
             rw [hq] at hc0
             have HP:=Lib.hid hp;have HQ:=Lib.hid hq
             clear hp hq
             have hn1:((j+1:Nat):Int)<(n:Int):=by omega
             have hn1':(j:Int)+1<(n:Int):=by omega
             have hn0:(j:Int)<(n:Int):=by omega
             go_wp2_with fail
             go_quiet ((go_at_call 296;refine Calls.quiet_of_same (less_u64' _ _ _)))
             have HB:=Lib.hid (HZ.out.drewN nq)
             generalize World.drewN _ nq=wq at *
             clear hc1 hc0 HZ
             cases hlv:ltU p q with
             | true=>
              have HE2:Hid (Sort.shiftUp ltU b (j+1+1) (Sort.swp z (j+1) j)=Sort.shiftUp ltU b (k+1+1) y):=by
               show _=_
               rw [← HE.out,shiftU_go hlt (by rw [HP.out,HQ.out];exact hlv)]
              have hd1:=HB.out.cell (i:=j+1) (by omega)
              have hd0:=HB.out.cell (i:=j) (by omega)
              have he1:=HB.out.free (j+1)
              have he0:=HB.out.free j
              have HS2:=Lib.hid (HB.out.swp (i:=j+1) (j:=j) (by omega) (by omega))
              rw [HP.out,HQ.out] at HS2
              rw [HP.out] at hd1
              rw [HQ.out] at hd0
              have hjj:¬(j+1=j):=by omega
              clear HB
              go_wp2_with fail
              go_big_region
              generalize World.drew _=w2 at *
              clear hd1 hd0 he1 he0 hjj HP HQ hn1 hn1' hn0
              go_wp2_with fail
              go_round
              case rel=>exact ⟨j+1+1,_,by go_num,by omega,by omega,HS2.out,HE2.out⟩
              case measure=>simp [intOf]<;>omega
             | false=>
              have HO2:Hid (Sort.partialIns ltU a b t (k+1) z=r):=by
               show _=_
               rw [← HO1.out,fixU,if_pos hbk,← HE.out,shiftU_stop (by rw [HP.out,HQ.out];exact hlv)]
              clear HP HQ hbk' hlt'
              go_wp2_with fail
              go_round
              case rel=>exact ⟨k+1,t,_,rfl,by go_num,by omega,by omega,by omega,HB.out,HO2.out⟩
              case measure=>simp [intOf]<;>omega
            ·have hlt':¬(j:Int)<(b:Int):=by omega
             have HO2:Hid (Sort.partialIns ltU a b t (k+1) z=r):=by
              show _=_
              rw [← HO1.out,fixU,if_pos hbk,← HE.out,shiftU_end hlt]
             go_wp2_with fail
             go_round
             case rel=>exact ⟨k+1,t,_,rfl,by go_num,by omega,by omega,by omega,HZ.out,HO2.out⟩
             case measure=>simp [intOf]<;>omega
          ·have hbk':¬((2:Nat):Int)≤(b:Int)-((k:Int)+1):=by omega
           have HO2:Hid (Sort.partialIns ltU a b t (k+1) y=r):=by
            show _=_
            rw [← HO1.out,fixU,if_neg hbk]
           go_wp2_with fail
           go_round
           case rel=>exact ⟨k+1,t,_,rfl,by go_num,by omega,by omega,by omega,HY.out,HO2.out⟩
           case measure=>simp [intOf]<;>omega
         ·have hj1:(1:Int)≤(j:Int)+1:=by omega
          have hc1:=HY.out.cell (i:=j+1) (by omega)
          have hc0:=HY.out.cell (i:=j) (by omega)
          obtain ⟨p,hp⟩:∃p,y[j+1]! = p:=⟨_,rfl⟩
          obtain ⟨q,hq⟩:∃q,y[j]! = q:=⟨_,rfl⟩
          rw [hp] at hc1
          rw [hq] at hc0
          have HP:=Lib.hid hp;have HQ:=Lib.hid hq
          clear hp hq
          have hn1:((j+1:Nat):Int)<(n:Int):=by omega
          have hn1':(j:Int)+1<(n:Int):=by omega
          have hn0:(j:Int)<(n:Int):=by omega
          go_wp2_with fail
          go_quiet ((go_at_call 296;refine Calls.quiet_of_same (less_u64' _ _ _)))
          have HB:=Lib.hid (HY.out.drewN nq)
          generalize World.drewN _ nq=wq at *
          clear hc1 hc0 HY
          cases hlv:ltU p q with
          | true=>
           have HE2:Hid (Sort.shiftDown ltU j (Sort.swp y (j+1) j)=Sort.shiftDown ltU k x2):=by
            show _=_
            rw [← HE.out,shiftD_go (by rw [HP.out,HQ.out];exact hlv)]
           have hd1:=HB.out.cell (i:=j+1) (by omega)
           have hd0:=HB.out.cell (i:=j) (by omega)
           have he1:=HB.out.free (j+1)
           have he0:=HB.out.free j
           have HS2:=Lib.hid (HB.out.swp (i:=j+1) (j:=j) (by omega) (by omega))
           rw [HP.out,HQ.out] at HS2
           rw [HP.out] at hd1
           rw [HQ.out] at hd0
           have hjj:¬(j+1=j):=by omega
           clear HB
           go_wp2_with fail
           go_big_region
           generalize World.drew _=w2 at *
           clear hd1 hd0 he1 he0 hjj HP HQ hn1 hn1' hn0
           go_wp2_with fail
           go_round
           case rel=>exact ⟨j,_,by go_num,by omega,HS2.out,HE2.out⟩
           case measure=>simp [intOf]<;>omega
          | false=>
           have HD:Hid (fixD a k x2=y):=by
            show _=_
            rw [fixD,if_pos hka,← HE.out,shiftD_stop (by rw [HP.out,HQ.out];exact hlv)]
           clear HE HP HQ hn1 hn1' hn0
           have HO1:Hid (Sort.partialIns ltU a b t (k+1) (fixU b k y)=r):=by show _=_;rw [← HG.out,HD.out]
           clear HD HG
           by_cases hbk:2≤b-(k+1)
           ·have hbk':((2:Nat):Int)≤(b:Int)-((k:Int)+1):=by omega
            go_wp2_with fail
            go_loopw [10] (fun jv wr=>∃(j:Nat) (z:Array Nat),jv = .int .i64 (j:Int)∧k+1<j∧j≤b∧Hid (SU w wr g n c z)∧Hid (Sort.shiftUp ltU b j z=Sort.shiftUp ltU b (k+1+1) y)) (fun jv _=>b-(intOf jv).toNat)
            case atStart=>exact ⟨k+1+1,y,by go_num,by omega,by omega,HB.out,rfl⟩
            case round=>
             obtain ⟨j,z,rfl,hkj,hjb,HZ,HE⟩:=hrel
             clear HB
             by_cases hlt:j<b
             ·obtain ⟨j,rfl⟩:∃q,j=q+1:=⟨j-1,by omega⟩
              have hlt':(j:Int)+1<(b:Int):=by omega
              have hc1:=HZ.out.cell (i:=j+1) (by omega)
              have hc0:=HZ.out.cell (i:=j) (by omega)
              obtain ⟨p,hp⟩:∃p,z[j+1]! = p:=⟨_,rfl⟩
              obtain ⟨q,hq⟩:∃q,z[j]! = q:=⟨_,rfl⟩
              rw [hp] at hc1
              rw [hq] at hc0
              have HP:=Lib.hid hp;have HQ:=Lib.hid hq
              clear hp hq
              have hn1:((j+1:Nat):Int)<(n:Int):=by omega
              have hn1':(j:Int)+1<(n:Int):=by omega
              have hn0:(j:Int)<(n:Int):=by omega
              go_wp2_with fail
              go_quiet ((go_at_call 296;refine Calls.quiet_of_same (less_u64' _ _ _)))
              have HB:=Lib.hid (HZ.out.drewN nq)
              generalize World.drewN _ nq=wq at *
              clear hc1 hc0 HZ
              cases hlv:ltU p q with
              | true=>
               have HE2:Hid (Sort.shiftUp ltU b (j+1+1) (Sort.swp z (j+1) j)=Sort.shiftUp ltU b (k+1+1) y):=by
                show _=_
                rw [← HE.out,shiftU_go hlt (by rw [HP.out,HQ.out];exact hlv)]
               have hd1:=HB.out.cell (i:=j+1) (by omega)
               have hd0:=HB.out.cell (i:=j) (by omega)
               have he1:=HB.out.free (j+1)
               have he0:=HB.out.free j
               have HS2:=Lib.hid (HB.out.swp (i:=j+1) (j:=j) (by omega) (by omega))
               rw [HP.out,HQ.out] at HS2
               rw [HP.out] at hd1
               rw [HQ.out] at hd0
               have hjj:¬(j+1=j):=by omega
               clear HB
               go_wp2_with fail
               go_big_region
               generalize World.drew _=w2 at *
               clear hd1 hd0 he1 he0 hjj HP HQ hn1 hn1' hn0
               go_wp2_with fail
               go_round
               case rel=>exact ⟨j+1+1,_,by go_num,by omega,by omega,HS2.out,HE2.out⟩
               case measure=>simp [intOf]<;>omega
              | false=>
               have HO2:Hid (Sort.partialIns ltU a b t (k+1) z=r):=by
                show _=_
                rw [← HO1.out,fixU,if_pos hbk,← HE.out,shiftU_stop (by rw [HP.out,HQ.out];exact hlv)]
               clear HP HQ hbk' hlt'
               go_wp2_with fail
               go_round
               case rel=>exact ⟨k+1,t,_,rfl,by go_num,by omega,by omega,by omega,HB.out,HO2.out⟩
               case measure=>simp [intOf]<;>omega
             ·have hlt':¬(j:Int)<(b:Int):=by omega
              have HO2:Hid (Sort.partialIns ltU a b t (k+1) z=r):=by
               show _=_
               rw [← HO1.out,fixU,if_pos hbk,← HE.out,shiftU_end hlt]
              go_wp2_with fail
              go_round
              case rel=>exact ⟨k+1,t,_,rfl,by go_num,by omega,by omega,by omega,HZ.out,HO2.out⟩
              case measure=>simp [intOf]<;>omega
           ·have hbk':¬((2:Nat):Int)≤(b:Int)-((k:Int)+1):=by omega
            have HO2:Hid (Sort.partialIns ltU a b t (k+1) y=r):=by
             show _=_
             rw [← HO1.out,fixU,if_neg hbk]
            go_wp2_with fail
            go_round
            case rel=>exact ⟨k+1,t,_,rfl,by go_num,by omega,by omega,by omega,HB.out,HO2.out⟩
            case measure=>simp [intOf]<;>omega
       ·have hka':¬((2:Nat):Int)≤(k:Int)+1-(a:Int):=by omega
        have HD:Hid (fixD a k x2=x2):=by
         show _=_
         rw [fixD,if_neg hka]
        have HO1:Hid (Sort.partialIns ltU a b t (k+1) (fixU b k x2)=r):=by show _=_;rw [← HG.out,HD.out]
        clear HD HG
        by_cases hbk:2≤b-(k+1)
        ·have hbk':((2:Nat):Int)≤(b:Int)-((k:Int)+1):=by omega
         go_wp2_with fail
         go_loopw [10] (fun jv wr=>∃(j:Nat) (z:Array Nat),jv = .int .i64 (j:Int)∧k+1<j∧j≤b∧Hid (SU w wr g n c z)∧Hid (Sort.shiftUp ltU b j z=Sort.shiftUp ltU b (k+1+1) x2)) (fun jv _=>b-(intOf jv).toNat)
         case atStart=>exact ⟨k+1+1,x2,by go_num,by omega,by omega,HS2.out,rfl⟩
         case round=>
          obtain ⟨j,z,rfl,hkj,hjb,HZ,HE⟩:=hrel
          clear HS2
          by_cases hlt:j<b
          ·obtain ⟨j,rfl⟩:∃q,j=q+1:=⟨j-1,by omega⟩
           have hlt':(j:Int)+1<(b:Int):=by omega
           have hc1:=HZ.out.cell (i:=j+1) (by omega)
           have hc0:=HZ.out.cell (i:=j) (by omega)
           obtain ⟨p,hp⟩:∃p,z[j+1]! = p:=⟨_,rfl⟩
           obtain ⟨q,hq⟩:∃q,z[j]! = q:=⟨_,rfl⟩
           rw [hp] at hc1
           rw [hq] at hc0
           have HP:=Lib.hid hp;have HQ:=Lib.hid hq
           clear hp hq
           have hn1:((j+1:Nat):Int)<(n:Int):=by omega
           have hn1':(j:Int)+1<(n:Int):=by omega
           have hn0:(j:Int)<(n:Int):=by omega
           go_wp2_with fail
           go_quiet ((go_at_call 296;refine Calls.quiet_of_same (less_u64' _ _ _)))
           have HB:=Lib.hid (HZ.out.drewN nq)
           generalize World.drewN _ nq=wq at *
           clear hc1 hc0 HZ
           cases hlv:ltU p q with
           | true=>
            have HE2:Hid (Sort.shiftUp ltU b (j+1+1) (Sort.swp z (j+1) j)=Sort.shiftUp ltU b (k+1+1) x2):=by
             show _=_
             rw [← HE.out,shiftU_go hlt (by rw [HP.out,HQ.out];exact hlv)]
            have hd1:=HB.out.cell (i:=j+1) (by omega)
            have hd0:=HB.out.cell (i:=j) (by omega)
            have he1:=HB.out.free (j+1)
            have he0:=HB.out.free j
            have HS2:=Lib.hid (HB.out.swp (i:=j+1) (j:=j) (by omega) (by omega))
            rw [HP.out,HQ.out] at HS2
            rw [HP.out] at hd1
            rw [HQ.out] at hd0
            have hjj:¬(j+1=j):=by omega
            clear HB
            go_wp2_with fail
            go_big_region
            generalize World.drew _=w2 at *
            clear hd1 hd0 he1 he0 hjj HP HQ hn1 hn1' hn0
            go_wp2_with fail
            go_round
            case rel=>exact ⟨j+1+1,_,by go_num,by omega,by omega,HS2.out,HE2.out⟩
            case measure=>simp [intOf]<;>omega
           | false=>
            have HO2:Hid (Sort.partialIns ltU a b t (k+1) z=r):=by
             show _=_
             rw [← HO1.out,fixU,if_pos hbk,← HE.out,shiftU_stop (by rw [HP.out,HQ.out];exact hlv)]
            clear HP HQ hbk' hlt'
            go_wp2_with fail
            go_round
            case rel=>exact ⟨k+1,t,_,rfl,by go_num,by omega,by omega,by omega,HB.out,HO2.out⟩
            case measure=>simp [intOf]<;>omega
          ·have hlt':¬(j:Int)<(b:Int):=by omega
           have HO2:Hid (Sort.partialIns ltU a b t (k+1) z=r):=by
            show _=_
            rw [← HO1.out,fixU,if_pos hbk,← HE.out,shiftU_end hlt]
           go_wp2_with fail
           go_round
           case rel=>exact ⟨k+1,t,_,rfl,by go_num,by omega,by omega,by omega,HZ.out,HO2.out⟩
           case measure=>simp [intOf]<;>omega
        ·have hbk':¬((2:Nat):Int)≤(b:Int)-((k:Int)+1):=by omega
         have HO2:Hid (Sort.partialIns ltU a b t (k+1) x2=r):=by
          show _=_
          rw [← HO1.out,fixU,if_neg hbk]
         go_wp2_with fail
         go_round
         case rel=>exact ⟨k+1,t,_,rfl,by go_num,by omega,by omega,by omega,HS2.out,HO2.out⟩
         case measure=>simp [intOf]<;>omega
    ·have hgd:decide ((k:Int)<(b:Int))=false:=decide_eq_false (by omega)
     have hkb3:(k:Int)=(b:Int):=by omega
     have HE:Hid (r=(x,true)):=by
      show _=_
      rw [← HO.out,partI_true (by rw [← HC.out,scanS_end hkb2];omega)]
     go_wp2_with fail
     go_quiet ((go_at_call 296;refine Calls.quiet_of_same (less_u64' _ _ _)))
     have HB:=Lib.hid (HZ.out.drewN nq)
     generalize World.drewN _ nq=wq at *
     go_wp2_with fail
     go_ret
     rw [HE.out]
     exact ⟨rfl,HB.out⟩
end Go.Proofs.YtdcgbgecbeegmaaGreatDoor
end
