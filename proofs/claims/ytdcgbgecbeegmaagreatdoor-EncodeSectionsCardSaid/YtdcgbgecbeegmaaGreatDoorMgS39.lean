/- Texts 39. -/
import Derived.Test.YtdcgbgecbeegmaaGreatDoorMgSA
import Derived.Test.YtdcgbgecbeegmaaGreatDoorMgS38
import Derived.Shelf.SlSortCmp.InsertionK
set_option linter.unusedVariables false
set_option linter.unusedSimpArgs false
set_option maxHeartbeats 400000000
set_option maxRecDepth 100000
section
namespace Go.Proofs.YtdcgbgecbeegmaaGreatDoor
open Go Go.RowKit
theorem iE (g n c a b:Nat) (d:Array Nat) (w:World) (h:SU w w g n c d) (Gz:a+12<b) (hb:b≤n) (hn:n<4611686018427387904) (hg:g<w.heap.size) :
  Calls Tryz.prog 303 #[.slice (some ⟨g,0,none⟩) n c,.int .i64 (a:Int),.int .i64 (b:Int)] w fun e w'=>e = .returned (.tuple #[])∧∃d',SU w w' g n c d'∧Sort.PermIn a b d d':=by
 have HS:=zAA h
 clear h
 obtain ⟨m,jq⟩:∃m,b-a=m:=⟨_,rfl⟩
 have SJ:(b:Int)-(a:Int)=(m:Int):=by omega
 obtain ⟨t,ht⟩:∃t,m / 4=t:=⟨_,rfl⟩
 have HDV:Hid ((m:Int) / 4=(t:Int)):=by show _=_;omega
 have h12:(8:Int)≤(m:Int):=by omega
 have HI:Hid (12<m∧a+m≤n∧b=a+m∧4*t≤m∧m<4*t+4):=by show _∧_∧_∧_∧_;omega
 have hmn:(m:Int)≤4611686018427387904:=by omega
 have han:(a:Int)≤4611686018427387904:=by omega
 have Yx:(t:Int)≤4611686018427387904:=by omega
 have ZD:Below w.heap.size w (w.alloc (.cells #[.int .u64 (m:Int)] 267)):=(zAM _ _).alloc (zAD _) _
 have qM:Hid (SU w (w.alloc (.cells #[.int .u64 (m:Int)] 267)) g n c d):=⟨HS.out.sz,(Ac.Ah ZD (fun _=>False)).owns HS.out.row (fun _ _ e=>e),Ac.Ah ZD _⟩
 have T8:Hid (Ao (w.alloc (.cells #[.int .u64 (m:Int)] 267)) w.heap.size [.int .u64 (m:Int)]):=Ao.new _ _ _
 clear jq ht Gz ZD
 go_enter Tryz.func303,Tryz.ntmps303
 go_wp2_with fail
 generalize w.alloc (.cells #[.int .u64 (m:Int)] 267)=w0 at *
 refine (pA m (by have:=HI.out;omega) (by have:=HI.out;omega) w0).mono ?_
 rintro e w1 ⟨rfl,rfl⟩
 have HBL:=zAA (JR m (by have:=HI.out;omega) (by have:=HI.out;omega))
 generalize Lib.bitLen m=L at *
 go_wp2_with fail
 go_loopw [9] (fun iv wr=>∃(i:Nat) (x:Array Nat) (r:Nat),a≤i∧i≤a+t*2+2∧iv = .int .i64 (i:Int)∧Hid (SU w wr g n c x)∧Hid (Sort.PermIn a b d x)∧Hid (Ao wr w.heap.size [.int .u64 (r:Int)])) (fun iv _=>a+t*2+2-(intOf iv).toNat)
 case atStart=>exact ⟨a+t*2-1,d,m,by have:=HI.out;omega,by omega,by rw [HDV.out];have:=HI.out;go_num,qM.out,Sort.permIn_refl _ _ _,T8.out⟩
 case round=>
  obtain ⟨i,x,r,wS,hit,rfl,HX,HP,HB⟩:=hrel
  clear qM T8
  by_cases NQ:i≤a+t*2+1
  ·have hlei:(i:Int)≤(a:Int)+(m:Int) / 4*2+1:=by rw [HDV.out];omega
   go_wp2_with fail
   refine (qB w.heap.size r wr HB.out).mono ?_
   rintro e w2 ⟨r2,rfl,hr2,LQ,F6⟩
   have AP:=zAA LQ
   have HQ:Hid (w.heap.size≠g):=by show _≠_;omega
   have C1:Hid (SU w w2 g n c x):=⟨HX.out.sz,F6.owns HX.out.row (fun k hk e=>by simp [Value.ownBlock] at hk;omega),HX.out.Ai.trans F6 (fun k hk e=>by omega)⟩
   have hmask:=jP r2 L hr2 HBL.out.2.2
   obtain ⟨o,ho⟩:∃o,r2 % 2 ^ L=o:=⟨_,rfl⟩
   have hol:o<2 ^ L:=by rw [← ho];exact zFO _ (zEL _)
   have hom:o<2*m:=by have:=HBL.out.2.1;omega
   rw [ho] at hmask
   have hoi:(o:Int)≤9223372036854775807:=by have:=HI.out;omega
   clear ho hol LQ F6 HB HX
   by_cases T0:m≤o
   ·obtain ⟨o2,rfl⟩:∃o2,o=m+o2:=⟨o-m,by omega⟩
    have hgei:(m:Int)≤((m+o2:Nat):Int):=by omega
    have dD:o2<m:=by omega
    have hsub2:(m:Int)+(o2:Int)-(m:Int)=(o2:Int):=by omega
    by_cases C3:i=a+o2
    ·subst C3
     have G5:=C1.out.cell (i:=a+o2) (by have:=HI.out;omega)
     have QK:=C1.out.free (a+o2)
     have Ct:(a:Int)+(o2:Int)<(n:Int):=by have:=HI.out;omega
     have HS2:=zAA (C1.out.swp (i:=a+o2) (j:=a+o2) (by have:=HI.out;omega) (by have:=HI.out;omega))
     have TW:Hid (Sort.PermIn a b d (Sort.swp x (a+o2) (a+o2))):=Sort.permIn_trans _ _ _ _ _ HP.out (Sort.swp_permIn x a b _ _ (by omega) (by have:=HI.out;omega) (by omega) (by have:=HI.out;omega) (by rw [C1.out.sz];exact hb))
     generalize x[a+o2]! = p at *
     go_wp2_with fail
     go_big_region
     have BS:=zAA ((((AP.out.Ci (a:=⟨g,a+o2,none⟩) HQ.out (.int .u64 (p:Int))).Ci (a:=⟨g,a+o2,none⟩) HQ.out (.int .u64 (p:Int)))).drew)
     go_wp2_with fail
     go_round
     case rel=>exact ⟨a+o2+1,_,r2,by omega,by omega,by go_num,HS2.out,TW.out,BS.out⟩
     case measure=>simp [intOf]<;>omega
    ·have G5:=C1.out.cell (i:=i) (by have:=HI.out;omega)
     have QK:=C1.out.free i
     have FY:=C1.out.cell (i:=a+o2) (by have:=HI.out;omega)
     have NM:=C1.out.free (a+o2)
     have Ct:(i:Int)<(n:Int):=by have:=HI.out;omega
     have JF:(a:Int)+(o2:Int)<(n:Int):=by have:=HI.out;omega
     have HS2:=zAA (C1.out.swp (i:=i) (j:=a+o2) (by have:=HI.out;omega) (by have:=HI.out;omega))
     have TW:Hid (Sort.PermIn a b d (Sort.swp x i (a+o2))):=Sort.permIn_trans _ _ _ _ _ HP.out (Sort.swp_permIn x a b _ _ wS (by have:=HI.out;omega) (by omega) (by have:=HI.out;omega) (by rw [C1.out.sz];exact hb))
     generalize Sort.swp x i (a+o2)=y at *
     generalize x[i]! = p at *
     generalize x[a+o2]! = q at *
     go_wp2_with fail
     go_big_region
     have BS:=zAA ((((AP.out.Ci (a:=⟨g,i,none⟩) HQ.out (.int .u64 (q:Int))).Ci (a:=⟨g,a+o2,none⟩) HQ.out (.int .u64 (p:Int)))).drew)
     go_wp2_with fail
     go_round
     case rel=>exact ⟨i+1,_,r2,by omega,by omega,by go_num,HS2.out,TW.out,BS.out⟩
     case measure=>simp [intOf]<;>omega
   ·have hgei:¬(m:Int)≤(o:Int):=by omega
    have dD:o<m:=by omega
    by_cases C3:i=a+o
    ·subst C3
     have G5:=C1.out.cell (i:=a+o) (by have:=HI.out;omega)
     have QK:=C1.out.free (a+o)
     have Ct:(a:Int)+(o:Int)<(n:Int):=by have:=HI.out;omega
     have HS2:=zAA (C1.out.swp (i:=a+o) (j:=a+o) (by have:=HI.out;omega) (by have:=HI.out;omega))
     have TW:Hid (Sort.PermIn a b d (Sort.swp x (a+o) (a+o))):=Sort.permIn_trans _ _ _ _ _ HP.out (Sort.swp_permIn x a b _ _ (by omega) (by have:=HI.out;omega) (by omega) (by have:=HI.out;omega) (by rw [C1.out.sz];exact hb))
     generalize x[a+o]! = p at *
     go_wp2_with fail
     go_big_region
     have BS:=zAA ((((AP.out.Ci (a:=⟨g,a+o,none⟩) HQ.out (.int .u64 (p:Int))).Ci (a:=⟨g,a+o,none⟩) HQ.out (.int .u64 (p:Int)))).drew)
     go_wp2_with fail
     go_round
     case rel=>exact ⟨a+o+1,_,r2,by omega,by omega,by go_num,HS2.out,TW.out,BS.out⟩
     case measure=>simp [intOf]<;>omega
    ·have G5:=C1.out.cell (i:=i) (by have:=HI.out;omega)
     have QK:=C1.out.free i
     have FY:=C1.out.cell (i:=a+o) (by have:=HI.out;omega)
     have NM:=C1.out.free (a+o)
     have Ct:(i:Int)<(n:Int):=by have:=HI.out;omega
     have JF:(a:Int)+(o:Int)<(n:Int):=by have:=HI.out;omega
     have HS2:=zAA (C1.out.swp (i:=i) (j:=a+o) (by have:=HI.out;omega) (by have:=HI.out;omega))
     have TW:Hid (Sort.PermIn a b d (Sort.swp x i (a+o))):=Sort.permIn_trans _ _ _ _ _ HP.out (Sort.swp_permIn x a b _ _ wS (by have:=HI.out;omega) (by omega) (by have:=HI.out;omega) (by rw [C1.out.sz];exact hb))
     generalize Sort.swp x i (a+o)=y at *
     generalize x[i]! = p at *
     generalize x[a+o]! = q at *
     go_wp2_with fail
     go_big_region
     have BS:=zAA ((((AP.out.Ci (a:=⟨g,i,none⟩) HQ.out (.int .u64 (q:Int))).Ci (a:=⟨g,a+o,none⟩) HQ.out (.int .u64 (p:Int)))).drew)
     go_wp2_with fail
     go_round
     case rel=>exact ⟨i+1,_,r2,by omega,by omega,by go_num,HS2.out,TW.out,BS.out⟩
     case measure=>simp [intOf]<;>omega
  ·have hlei:¬(i:Int)≤(a:Int)+(m:Int) / 4*2+1:=by rw [HDV.out];omega
   go_wp2_with fail
   go_end0
   exact ⟨rfl,x,HX.out,HP.out⟩
theorem pU {d:Array Nat} {b k:Nat} (h:k+1<b) (hl:AB d[k+1]! d[k]! = false):Sort.scanSorted AB d b (k+1)=Sort.scanSorted AB d b (k+1+1):=by
 rw [Sort.scanSorted];simp [h,hl]
theorem e8 {d:Array Nat} {b k:Nat} (hl:AB d[k+1]! d[k]! = true):Sort.scanSorted AB d b (k+1)=k+1:=by
 rw [Sort.scanSorted];simp [hl]
theorem kp {d:Array Nat} {b k:Nat} (h:¬k<b):Sort.scanSorted AB d b k=k:=by
 rw [Sort.scanSorted];simp [h]
theorem kt {d:Array Nat} {j:Nat} (hl:AB d[j+1]! d[j]! = true):Sort.shiftDown AB (j+1) d=Sort.shiftDown AB j (Sort.swp d (j+1) j):=by
 rw [Sort.shiftDown];simp [hl]
theorem a7 {d:Array Nat} {j:Nat} (hl:AB d[j+1]! d[j]! = false):Sort.shiftDown AB (j+1) d=d:=by
 rw [Sort.shiftDown];simp [hl]
theorem Qi {d:Array Nat} {b j:Nat} (h:j+1<b) (hl:AB d[j+1]! d[j]! = true):Sort.shiftUp AB b (j+1) d=Sort.shiftUp AB b (j+1+1) (Sort.swp d (j+1) j):=by
 rw [Sort.shiftUp];simp [h,hl]
theorem Lu {d:Array Nat} {b j:Nat} (hl:AB d[j+1]! d[j]! = false):Sort.shiftUp AB b (j+1) d=d:=by
 rw [Sort.shiftUp];simp [hl]
theorem Ng {d:Array Nat} {b j:Nat} (h:¬j<b):Sort.shiftUp AB b j d=d:=by
 rw [Sort.shiftUp];simp [h]
def WX (a k:Nat) (y:Array Nat):Array Nat:=if 2≤k+1-a then Sort.shiftDown AB k y else y
def MS (b k:Nat) (y:Array Nat):Array Nat:=if 2≤b-(k+1) then Sort.shiftUp AB b (k+1+1) y else y
theorem er {a b t i:Nat} {d:Array Nat} (h:Sort.scanSorted AB d b i=b):Sort.partialIns AB a b (t+1) i d=(d,true):=by
 rw [Sort.partialIns];simp [h]
theorem au {a b t i k:Nat} {d:Array Nat} (h:Sort.scanSorted AB d b i=k) (hk:k≠b) (ul:b-a<50):Sort.partialIns AB a b (t+1) i d=(d,false):=by
 rw [Sort.partialIns];simp [h,hk,ul]
theorem pH {a b t i k:Nat} {d:Array Nat} (h:Sort.scanSorted AB d b i=k+1) (hk:k+1≠b) (ul:¬b-a<50) :
  Sort.partialIns AB a b (t+1) i d=Sort.partialIns AB a b t (k+1) (MS b k (WX a k (Sort.swp d (k+1) k))):=by
 rw [Sort.partialIns];simp [h,hk,ul,MS,WX]
theorem FD (g n c a b:Nat) (d:Array Nat) (w:World) (h:SU w w g n c d) (Gz:a<b) (hb:b≤n) (hn:n<4611686018427387904) :
  Calls Tryz.prog 306 #[.slice (some ⟨g,0,none⟩) n c,.int .i64 (a:Int),.int .i64 (b:Int)] w fun e w'=>e = .returned (.bool (Sort.partialInsertionSort AB d a b).2)∧SU w w' g n c (Sort.partialInsertionSort AB d a b).1:=by
 have HS:=zAA h
 clear h
 obtain ⟨r,hr⟩:∃r,Sort.partialInsertionSort AB d a b=r:=⟨_,rfl⟩
 have HR:Hid (Sort.partialIns AB a b 5 (a+1) d=r):=hr
 rw [hr]
 clear hr
 go_enter Tryz.func306,Tryz.ntmps306
 go_wp2_with fail
 go_loopw [7,8] (fun iv sv wr=>∃(i t:Nat) (x:Array Nat),iv = .int .i64 (i:Int)∧sv = .int .i64 (5-(t:Int))∧t≤5∧a<i∧i≤b∧Hid (SU w wr g n c x)∧Hid (Sort.partialIns AB a b t i x=r)) (fun _ sv _=>(5-intOf sv).toNat)
 case atStart=>exact ⟨a+1,5,d,by go_num,rfl,by omega,by omega,by omega,HS.out,HR.out⟩
 case round=>
  obtain ⟨i,t,x,rfl,rfl,ht5,wS,bQ,HX,HO⟩:=hrel
  clear HS HR
  rcases t with _ | t
  ·have HE:Hid (r=(x,false)):=by show _=_;rw [← HO.out];rfl
   clear HO
   go_wp2_with fail
   go_ret
   rw [HE.out]
   exact ⟨rfl,HX.out⟩
  ·have yY:5-((t+1:Nat):Int)<5:=by omega
   go_wp2_with fail
   go_loopw [7] (fun kv wr=>∃k:Nat,kv = .int .i64 (k:Int)∧i≤k∧k≤b∧Hid (SU w wr g n c x)∧Hid (Sort.scanSorted AB x b k=Sort.scanSorted AB x b i)) (fun kv _=>b-(intOf kv).toNat)
   case atStart=>exact ⟨i,by go_num,zAD _,bQ,HX.out,rfl⟩
   case round=>
    obtain ⟨k,rfl,PC,hkb,HZ,HC⟩:=hrel
    clear HX
    by_cases hkb2:k<b
    ·obtain ⟨k,rfl⟩:∃q,k=q+1:=⟨k-1,by omega⟩
     have BT:decide ((k:Int)+1<(b:Int))=true:=zBA (by omega)
     have FC:=HZ.out.cell (i:=k+1) (by omega)
     have DW:=HZ.out.cell (i:=k) (by omega)
     obtain ⟨p,hp⟩:∃p,x[k+1]! = p:=⟨_,rfl⟩
     obtain ⟨q,hq⟩:∃q,x[k]! = q:=⟨_,rfl⟩
     rw [hp] at FC
     rw [hq] at DW
     have HP:=zAA hp;have HQ:=zAA hq
     clear hp hq
     have Lf:((k+1:Nat):Int)<(n:Int):=by omega
     have Uz:(k:Int)+1<(n:Int):=by omega
     have KF:(k:Int)<(n:Int):=by omega
     go_wp2_with fail
     go_quiet ((go_at_call 296;refine Calls.quiet_of_same (Ak _ _ _)))
     have HB:=zAA (HZ.out.drewN nq)
     generalize World.drewN _ nq=wq at *
     clear FC DW HZ
     cases LR:AB p q with
     | false=>
      have RP:Hid (Sort.scanSorted AB x b (k+1+1)=Sort.scanSorted AB x b i):=by
       show _=_
       rw [← HC.out,pU hkb2 (by rw [HP.out,HQ.out];exact LR)]
      go_wp2_with fail
      go_round
      case rel=>exact ⟨k+1+1,by go_num,by omega,by omega,HB.out,RP.out⟩
      case measure=>simp [intOf]<;>omega
     | true=>
      have RP:Hid (Sort.scanSorted AB x b i=k+1):=by
       show _=_
       rw [← HC.out,e8 (by rw [HP.out,HQ.out];exact LR)]
      clear HC
      have BC:¬((k:Int)+1=(b:Int)):=by omega
      clear BT
      by_cases ul:b-a<50
      ·have h50':(b:Int)-(a:Int)<50:=by omega
       have HE:Hid (r=(x,false)):=by show _=_;rw [← HO.out,au RP.out (by omega) ul]
       go_wp2_with fail
       go_ret
       rw [HE.out]
       exact ⟨rfl,HB.out⟩
      ·have h50':¬(b:Int)-(a:Int)<50:=by omega
       have HG:Hid (Sort.partialIns AB a b t (k+1) (MS b k (WX a k (Sort.swp x (k+1) k)))=r):=by
        show _=_
        rw [← HO.out,pH RP.out (by omega) ul]
       clear HO RP
       have SE:=HB.out.cell (i:=k+1) (by omega)
       have ZF:=HB.out.cell (i:=k) (by omega)
       have Yt:=HB.out.free (k+1)
       have Xc:=HB.out.free k
       have HS2:=zAA (HB.out.swp (i:=k+1) (j:=k) (by omega) (by omega))
       rw [HP.out,HQ.out] at HS2
       rw [HP.out] at SE
       rw [HQ.out] at ZF
       have jm:¬(k+1=k):=by omega
       clear HB
       go_wp2_with fail
       go_big_region
       generalize World.drew _=w2 at *
       clear SE ZF Yt Xc jm HP HQ Lf Uz KF
       generalize Sort.swp x (k+1) k=x2 at *
       clear BC h50' ul
       by_cases hka:2≤k+1-a
       ·have hka':((2:Nat):Int)≤(k:Int)+1-(a:Int):=by omega
        go_wp2_with fail
        go_loopw [9] (fun jv wr=>∃(j:Nat) (y:Array Nat),jv = .int .i64 (j:Int)∧j≤k∧Hid (SU w wr g n c y)∧Hid (Sort.shiftDown AB j y=Sort.shiftDown AB k x2)) (fun jv _=>(intOf jv).toNat)
        case atStart=>exact ⟨k,x2,by go_num,zAD _,HS2.out,rfl⟩
        case round=>
         obtain ⟨j,y,rfl,xo,HY,HE⟩:=hrel
         clear HS2
         rcases j with _ | j
         ·have HD:Hid (WX a k x2=y):=by
           show _=_
           rw [WX,if_pos hka,← HE.out];rfl
          clear HE
          have Dd:Hid (Sort.partialIns AB a b t (k+1) (MS b k y)=r):=by show _=_;rw [← HG.out,HD.out]
          clear HD HG
          by_cases nd:2≤b-(k+1)
          ·have ZC:((2:Nat):Int)≤(b:Int)-((k:Int)+1):=by omega
           go_wp2_with fail
           go_loopw [10] (fun jv wr=>∃(j:Nat) (z:Array Nat),jv = .int .i64 (j:Int)∧k+1<j∧j≤b∧Hid (SU w wr g n c z)∧Hid (Sort.shiftUp AB b j z=Sort.shiftUp AB b (k+1+1) y)) (fun jv _=>b-(intOf jv).toNat)
           case atStart=>exact ⟨k+1+1,y,by go_num,by omega,by omega,HY.out,rfl⟩
           case round=>
            obtain ⟨j,z,rfl,hkj,hjb,HZ,HE⟩:=hrel
            clear HY
            by_cases Aq:j<b
            ·obtain ⟨j,rfl⟩:∃q,j=q+1:=⟨j-1,by omega⟩
             have AF:(j:Int)+1<(b:Int):=by omega
             have FC:=HZ.out.cell (i:=j+1) (by omega)
             have DW:=HZ.out.cell (i:=j) (by omega)
             obtain ⟨p,hp⟩:∃p,z[j+1]! = p:=⟨_,rfl⟩
             obtain ⟨q,hq⟩:∃q,z[j]! = q:=⟨_,rfl⟩
             rw [hp] at FC
             rw [hq] at DW
             have HP:=zAA hp;have HQ:=zAA hq
             clear hp hq
             have Lf:((j+1:Nat):Int)<(n:Int):=by omega
             have Uz:(j:Int)+1<(n:Int):=by omega
             have KF:(j:Int)<(n:Int):=by omega
             go_wp2_with fail
             go_quiet ((go_at_call 296;refine Calls.quiet_of_same (Ak _ _ _)))
             have HB:=zAA (HZ.out.drewN nq)
             generalize World.drewN _ nq=wq at *
             clear FC DW HZ
             cases LR:AB p q with
             | true=>
              have Ev:Hid (Sort.shiftUp AB b (j+1+1) (Sort.swp z (j+1) j)=Sort.shiftUp AB b (k+1+1) y):=by
               show _=_
               rw [← HE.out,Qi Aq (by rw [HP.out,HQ.out];exact LR)]
              have SE:=HB.out.cell (i:=j+1) (by omega)
              have ZF:=HB.out.cell (i:=j) (by omega)
              have Yt:=HB.out.free (j+1)
              have Xc:=HB.out.free j
              have HS2:=zAA (HB.out.swp (i:=j+1) (j:=j) (by omega) (by omega))
              rw [HP.out,HQ.out] at HS2
              rw [HP.out] at SE
              rw [HQ.out] at ZF
              have jm:¬(j+1=j):=by omega
              clear HB
              go_wp2_with fail
              go_big_region
              generalize World.drew _=w2 at *
              clear SE ZF Yt Xc jm HP HQ Lf Uz KF
              go_wp2_with fail
              go_round
              case rel=>exact ⟨j+1+1,_,by go_num,by omega,by omega,HS2.out,Ev.out⟩
              case measure=>simp [intOf]<;>omega
             | false=>
              have BG:Hid (Sort.partialIns AB a b t (k+1) z=r):=by
               show _=_
               rw [← Dd.out,MS,if_pos nd,← HE.out,Lu (by rw [HP.out,HQ.out];exact LR)]
              clear HP HQ ZC AF
              go_wp2_with fail
              go_round
              case rel=>exact ⟨k+1,t,_,rfl,by go_num,by omega,by omega,by omega,HB.out,BG.out⟩
              case measure=>simp [intOf]<;>omega
            ·have AF:¬(j:Int)<(b:Int):=by omega
             have BG:Hid (Sort.partialIns AB a b t (k+1) z=r):=by
              show _=_
              rw [← Dd.out,MS,if_pos nd,← HE.out,Ng Aq]
             go_wp2_with fail
             go_round
             case rel=>exact ⟨k+1,t,_,rfl,by go_num,by omega,by omega,by omega,HZ.out,BG.out⟩
             case measure=>simp [intOf]<;>omega
          ·have ZC:¬((2:Nat):Int)≤(b:Int)-((k:Int)+1):=by omega
           have BG:Hid (Sort.partialIns AB a b t (k+1) y=r):=by
            show _=_
            rw [← Dd.out,MS,if_neg nd]
           go_wp2_with fail
           go_round
           case rel=>exact ⟨k+1,t,_,rfl,by go_num,by omega,by omega,by omega,HY.out,BG.out⟩
           case measure=>simp [intOf]<;>omega
         ·have yQ:(1:Int)≤(j:Int)+1:=by omega
          have FC:=HY.out.cell (i:=j+1) (by omega)
          have DW:=HY.out.cell (i:=j) (by omega)
          obtain ⟨p,hp⟩:∃p,y[j+1]! = p:=⟨_,rfl⟩
          obtain ⟨q,hq⟩:∃q,y[j]! = q:=⟨_,rfl⟩
          rw [hp] at FC
          rw [hq] at DW
          have HP:=zAA hp;have HQ:=zAA hq
          clear hp hq
          have Lf:((j+1:Nat):Int)<(n:Int):=by omega
          have Uz:(j:Int)+1<(n:Int):=by omega
          have KF:(j:Int)<(n:Int):=by omega
          go_wp2_with fail
          go_quiet ((go_at_call 296;refine Calls.quiet_of_same (Ak _ _ _)))
          have HB:=zAA (HY.out.drewN nq)
          generalize World.drewN _ nq=wq at *
          clear FC DW HY
          cases LR:AB p q with
          | true=>
           have Ev:Hid (Sort.shiftDown AB j (Sort.swp y (j+1) j)=Sort.shiftDown AB k x2):=by
            show _=_
            rw [← HE.out,kt (by rw [HP.out,HQ.out];exact LR)]
           have SE:=HB.out.cell (i:=j+1) (by omega)
           have ZF:=HB.out.cell (i:=j) (by omega)
           have Yt:=HB.out.free (j+1)
           have Xc:=HB.out.free j
           have HS2:=zAA (HB.out.swp (i:=j+1) (j:=j) (by omega) (by omega))
           rw [HP.out,HQ.out] at HS2
           rw [HP.out] at SE
           rw [HQ.out] at ZF
           have jm:¬(j+1=j):=by omega
           clear HB
           go_wp2_with fail
           go_big_region
           generalize World.drew _=w2 at *
           clear SE ZF Yt Xc jm HP HQ Lf Uz KF
           go_wp2_with fail
           go_round
           case rel=>exact ⟨j,_,by go_num,by omega,HS2.out,Ev.out⟩
           case measure=>simp [intOf]<;>omega
          | false=>
           have HD:Hid (WX a k x2=y):=by
            show _=_
            rw [WX,if_pos hka,← HE.out,a7 (by rw [HP.out,HQ.out];exact LR)]
           clear HE HP HQ Lf Uz KF
           have Dd:Hid (Sort.partialIns AB a b t (k+1) (MS b k y)=r):=by show _=_;rw [← HG.out,HD.out]
           clear HD HG
           by_cases nd:2≤b-(k+1)
           ·have ZC:((2:Nat):Int)≤(b:Int)-((k:Int)+1):=by omega
            go_wp2_with fail
            go_loopw [10] (fun jv wr=>∃(j:Nat) (z:Array Nat),jv = .int .i64 (j:Int)∧k+1<j∧j≤b∧Hid (SU w wr g n c z)∧Hid (Sort.shiftUp AB b j z=Sort.shiftUp AB b (k+1+1) y)) (fun jv _=>b-(intOf jv).toNat)
            case atStart=>exact ⟨k+1+1,y,by go_num,by omega,by omega,HB.out,rfl⟩
            case round=>
             obtain ⟨j,z,rfl,hkj,hjb,HZ,HE⟩:=hrel
             clear HB
             by_cases Aq:j<b
             ·obtain ⟨j,rfl⟩:∃q,j=q+1:=⟨j-1,by omega⟩
              have AF:(j:Int)+1<(b:Int):=by omega
              have FC:=HZ.out.cell (i:=j+1) (by omega)
              have DW:=HZ.out.cell (i:=j) (by omega)
              obtain ⟨p,hp⟩:∃p,z[j+1]! = p:=⟨_,rfl⟩
              obtain ⟨q,hq⟩:∃q,z[j]! = q:=⟨_,rfl⟩
              rw [hp] at FC
              rw [hq] at DW
              have HP:=zAA hp;have HQ:=zAA hq
              clear hp hq
              have Lf:((j+1:Nat):Int)<(n:Int):=by omega
              have Uz:(j:Int)+1<(n:Int):=by omega
              have KF:(j:Int)<(n:Int):=by omega
              go_wp2_with fail
              go_quiet ((go_at_call 296;refine Calls.quiet_of_same (Ak _ _ _)))
              have HB:=zAA (HZ.out.drewN nq)
              generalize World.drewN _ nq=wq at *
              clear FC DW HZ
              cases LR:AB p q with
              | true=>
               have Ev:Hid (Sort.shiftUp AB b (j+1+1) (Sort.swp z (j+1) j)=Sort.shiftUp AB b (k+1+1) y):=by
                show _=_
                rw [← HE.out,Qi Aq (by rw [HP.out,HQ.out];exact LR)]
               have SE:=HB.out.cell (i:=j+1) (by omega)
               have ZF:=HB.out.cell (i:=j) (by omega)
               have Yt:=HB.out.free (j+1)
               have Xc:=HB.out.free j
               have HS2:=zAA (HB.out.swp (i:=j+1) (j:=j) (by omega) (by omega))
               rw [HP.out,HQ.out] at HS2
               rw [HP.out] at SE
               rw [HQ.out] at ZF
               have jm:¬(j+1=j):=by omega
               clear HB
               go_wp2_with fail
               go_big_region
               generalize World.drew _=w2 at *
               clear SE ZF Yt Xc jm HP HQ Lf Uz KF
               go_wp2_with fail
               go_round
               case rel=>exact ⟨j+1+1,_,by go_num,by omega,by omega,HS2.out,Ev.out⟩
               case measure=>simp [intOf]<;>omega
              | false=>
               have BG:Hid (Sort.partialIns AB a b t (k+1) z=r):=by
                show _=_
                rw [← Dd.out,MS,if_pos nd,← HE.out,Lu (by rw [HP.out,HQ.out];exact LR)]
               clear HP HQ ZC AF
               go_wp2_with fail
               go_round
               case rel=>exact ⟨k+1,t,_,rfl,by go_num,by omega,by omega,by omega,HB.out,BG.out⟩
               case measure=>simp [intOf]<;>omega
             ·have AF:¬(j:Int)<(b:Int):=by omega
              have BG:Hid (Sort.partialIns AB a b t (k+1) z=r):=by
               show _=_
               rw [← Dd.out,MS,if_pos nd,← HE.out,Ng Aq]
              go_wp2_with fail
              go_round
              case rel=>exact ⟨k+1,t,_,rfl,by go_num,by omega,by omega,by omega,HZ.out,BG.out⟩
              case measure=>simp [intOf]<;>omega
           ·have ZC:¬((2:Nat):Int)≤(b:Int)-((k:Int)+1):=by omega
            have BG:Hid (Sort.partialIns AB a b t (k+1) y=r):=by
             show _=_
             rw [← Dd.out,MS,if_neg nd]
            go_wp2_with fail
            go_round
            case rel=>exact ⟨k+1,t,_,rfl,by go_num,by omega,by omega,by omega,HB.out,BG.out⟩
            case measure=>simp [intOf]<;>omega
       ·have hka':¬((2:Nat):Int)≤(k:Int)+1-(a:Int):=by omega
        have HD:Hid (WX a k x2=x2):=by
         show _=_
         rw [WX,if_neg hka]
        have Dd:Hid (Sort.partialIns AB a b t (k+1) (MS b k x2)=r):=by show _=_;rw [← HG.out,HD.out]
        clear HD HG
        by_cases nd:2≤b-(k+1)
        ·have ZC:((2:Nat):Int)≤(b:Int)-((k:Int)+1):=by omega
         go_wp2_with fail
         go_loopw [10] (fun jv wr=>∃(j:Nat) (z:Array Nat),jv = .int .i64 (j:Int)∧k+1<j∧j≤b∧Hid (SU w wr g n c z)∧Hid (Sort.shiftUp AB b j z=Sort.shiftUp AB b (k+1+1) x2)) (fun jv _=>b-(intOf jv).toNat)
         case atStart=>exact ⟨k+1+1,x2,by go_num,by omega,by omega,HS2.out,rfl⟩
         case round=>
          obtain ⟨j,z,rfl,hkj,hjb,HZ,HE⟩:=hrel
          clear HS2
          by_cases Aq:j<b
          ·obtain ⟨j,rfl⟩:∃q,j=q+1:=⟨j-1,by omega⟩
           have AF:(j:Int)+1<(b:Int):=by omega
           have FC:=HZ.out.cell (i:=j+1) (by omega)
           have DW:=HZ.out.cell (i:=j) (by omega)
           obtain ⟨p,hp⟩:∃p,z[j+1]! = p:=⟨_,rfl⟩
           obtain ⟨q,hq⟩:∃q,z[j]! = q:=⟨_,rfl⟩
           rw [hp] at FC
           rw [hq] at DW
           have HP:=zAA hp;have HQ:=zAA hq
           clear hp hq
           have Lf:((j+1:Nat):Int)<(n:Int):=by omega
           have Uz:(j:Int)+1<(n:Int):=by omega
           have KF:(j:Int)<(n:Int):=by omega
           go_wp2_with fail
           go_quiet ((go_at_call 296;refine Calls.quiet_of_same (Ak _ _ _)))
           have HB:=zAA (HZ.out.drewN nq)
           generalize World.drewN _ nq=wq at *
           clear FC DW HZ
           cases LR:AB p q with
           | true=>
            have Ev:Hid (Sort.shiftUp AB b (j+1+1) (Sort.swp z (j+1) j)=Sort.shiftUp AB b (k+1+1) x2):=by
             show _=_
             rw [← HE.out,Qi Aq (by rw [HP.out,HQ.out];exact LR)]
            have SE:=HB.out.cell (i:=j+1) (by omega)
            have ZF:=HB.out.cell (i:=j) (by omega)
            have Yt:=HB.out.free (j+1)
            have Xc:=HB.out.free j
            have HS2:=zAA (HB.out.swp (i:=j+1) (j:=j) (by omega) (by omega))
            rw [HP.out,HQ.out] at HS2
            rw [HP.out] at SE
            rw [HQ.out] at ZF
            have jm:¬(j+1=j):=by omega
            clear HB
            go_wp2_with fail
            go_big_region
            generalize World.drew _=w2 at *
            clear SE ZF Yt Xc jm HP HQ Lf Uz KF
            go_wp2_with fail
            go_round
            case rel=>exact ⟨j+1+1,_,by go_num,by omega,by omega,HS2.out,Ev.out⟩
            case measure=>simp [intOf]<;>omega
           | false=>
            have BG:Hid (Sort.partialIns AB a b t (k+1) z=r):=by
             show _=_
             rw [← Dd.out,MS,if_pos nd,← HE.out,Lu (by rw [HP.out,HQ.out];exact LR)]
            clear HP HQ ZC AF
            go_wp2_with fail
            go_round
            case rel=>exact ⟨k+1,t,_,rfl,by go_num,by omega,by omega,by omega,HB.out,BG.out⟩
            case measure=>simp [intOf]<;>omega
          ·have AF:¬(j:Int)<(b:Int):=by omega
           have BG:Hid (Sort.partialIns AB a b t (k+1) z=r):=by
            show _=_
            rw [← Dd.out,MS,if_pos nd,← HE.out,Ng Aq]
           go_wp2_with fail
           go_round
           case rel=>exact ⟨k+1,t,_,rfl,by go_num,by omega,by omega,by omega,HZ.out,BG.out⟩
           case measure=>simp [intOf]<;>omega
        ·have ZC:¬((2:Nat):Int)≤(b:Int)-((k:Int)+1):=by omega
         have BG:Hid (Sort.partialIns AB a b t (k+1) x2=r):=by
          show _=_
          rw [← Dd.out,MS,if_neg nd]
         go_wp2_with fail
         go_round
         case rel=>exact ⟨k+1,t,_,rfl,by go_num,by omega,by omega,by omega,HS2.out,BG.out⟩
         case measure=>simp [intOf]<;>omega
    ·have BT:decide ((k:Int)<(b:Int))=false:=zAV (by omega)
     have hkb3:(k:Int)=(b:Int):=by omega
     have HE:Hid (r=(x,true)):=by
      show _=_
      rw [← HO.out,er (by rw [← HC.out,kp hkb2];omega)]
     go_wp2_with fail
     go_quiet ((go_at_call 296;refine Calls.quiet_of_same (Ak _ _ _)))
     have HB:=zAA (HZ.out.drewN nq)
     generalize World.drewN _ nq=wq at *
     go_wp2_with fail
     go_ret
     rw [HE.out]
     exact ⟨rfl,HB.out⟩
section
def fS (g n c:Nat) (a b l:Nat) (d:Array Nat) (w:World):Prop:=
 Calls Tryz.prog 295 #[.slice (some ⟨g,0,none⟩) n c,.int .i64 (a:Int),.int .i64 (b:Int),.int .i64 (l:Int)] w fun e w'=>e = .returned (.tuple #[])∧∃z,SU w w' g n c z∧Sort.PermIn a b d z∧Sort.SortedIn AB a b z
structure PS (w wr:World) (g n c a b:Nat) (d:Array Nat) (a' b':Nat) (x:Array Nat):Prop where
 su:SU w wr g n c x
 pq:PQ a b d a' b' x
 Uu:g<wr.heap.size
section
variable {w wr wz:World} {g n c a b a' b' m q:Nat} {d x y z:Array Nat}
theorem PS.perm (h:PS w wr g n c a b d a' b' x) (hs:SU wr wz g n c y) (hp:Sort.PermIn a' b' x y):PS w wz g n c a b d a' b' y:=
 ⟨h.su.trans hs,h.pq.perm hp,zAO h.Uu hs.Ai.size⟩
theorem PS.same (h:PS w wr g n c a b d a' b' x) (hs:SU wr wz g n c x):PS w wz g n c a b d a' b' x:=h.perm hs (Sort.permIn_refl _ _ _)
theorem PS.ends (h:PS w wr g n c a b d a' b' x) (hs:SU wr wz g n c y) (hp:Sort.PermIn a' b' x y) (ho:Sort.SortedIn AB a' b' y):∃z,SU w wz g n c z∧Sort.PermIn a b d z∧Sort.SortedIn AB a b z:=
 ⟨y,h.su.trans hs,h.pq.glue y hp ho⟩
theorem PS.equal (h:PS w wr g n c a b d a' b' x) (hq:a'≤q) (qW:q<b') (h0:0<a') (hl:AB x[a'-1]! x[q]! = false) (hp:RS wr wz g n c a' b' x y m x[q]!):PS w wz g n c a b d m b' y:=
 ⟨h.su.trans hp.su,h.pq.equal hq qW h0 hl hp,zAO h.Uu hp.su.Ai.size⟩
theorem PS.drewN (h:PS w wr g n c a b d a' b' x) (k:Nat):PS w (wr.drewN k) g n c a b d a' b' x:=⟨h.su.drewN k,h.pq,h.Uu⟩
end
theorem pI (g n c N a b l:Nat) (d:Array Nat) (w:World) (IH0:∀(a b l:Nat) (d:Array Nat) (w:World),b-a<N→SU w w g n c d→a≤b→b≤n→l≤100→g<w.heap.size→Sort.Below AB a b d→fS g n c a b l d w)
  (hN:b-a≤N) (h:SU w w g n c d) (Gz:a≤b) (hb:b≤n) (hl100:l≤100) (hg:g<w.heap.size) (ZD:Sort.Below AB a b d) (hn:n<4611686018427387904):fS g n c a b l d w:=by
 have IH:=zAA IH0
 clear IH0
 have HS:Hid (PS w w g n c a b d a b d):=⟨h,PQ.start Gz (by rw [h.sz];exact hb) ZD,hg⟩
 clear h ZD hg
 unfold fS
 go_enter Tryz.func295,Tryz.ntmps295
 go_wp2_with fail
 go_loopw [1,2,3,8,9] (fun av bv lv pv sv wr=>∃(a' b' l':Nat) (wb wp:Bool) (x:Array Nat),av = .int .i64 (a':Int)∧bv = .int .i64 (b':Int)∧lv = .int .i64 (l':Int)∧pv = .bool wb∧sv = .bool wp∧l'≤100∧Hid (PS w wr g n c a b d a' b' x)) (fun av bv _ _ _ _=>(intOf bv-intOf av).toNat)
 case atStart=>exact ⟨a,b,l,true,true,d,rfl,rfl,rfl,rfl,rfl,hl100,HS.out⟩
 case round=>
  obtain ⟨a',b',l',wb,wp,x,rfl,rfl,rfl,rfl,rfl,hl',HX⟩:=hrel
  clear HS
  have PA:=HX.out.pq.h1;have ha2:=HX.out.pq.h2;have ha3:=HX.out.pq.h3
  by_cases h12:b'-a'≤12
  ·have h12':(b':Int)-(a':Int)≤12:=by omega
   have HI:=zAA (UG g n c a' b' x wr HX.out.su.here ha2 (by omega) hn)
   have HP:=zAA (Sort.insertionSort_holds Kg x a' b' ha2 (by rw [HX.out.su.sz];omega))
   go_wp2_with fail
   refine HI.out.mono ?_
   rintro e w1 ⟨rfl,h1⟩
   have HF:=zAA (HX.out.ends h1 HP.out.1 HP.out.2)
   clear h1 HI HP
   go_wp2_with fail
   refine zCB (zDZ rfl _ _ _) rfl ?_
   exact ⟨rfl,HF.out⟩
  ·have h12':¬(b':Int)-(a':Int)≤12:=by omega
   rcases l' with _ | l'
   ·have HI:=zAA (Ux g n c a' b' x wr HX.out.su.here (by omega) (by omega) hn)
    have HP:=zAA (Sort.heapSort_holds Kg x a' b' ha2 (by rw [HX.out.su.sz];omega))
    go_wp2_with fail
    refine HI.out.mono ?_
    rintro e w1 ⟨rfl,h1⟩
    have HF:=zAA (HX.out.ends h1 HP.out.1 HP.out.2)
    clear h1 HI HP
    go_wp2_with fail
    refine zCB (zDZ rfl _ _ _) rfl ?_
    exact ⟨rfl,HF.out⟩
   ·have Uy:¬(((l'+1:Nat):Int)=0):=by omega
    cases wb with
    | true=>
     cases wp with
     | true=>
      have HC:=zAA (E6 g n c a' b' x wr HX.out.su.here (by omega) (by omega) hn HX.out.Uu)
      go_wp2_with fail
      refine HC.out.mono ?_
      rintro e w2 ⟨q,t,rfl,⟨Md,Kv⟩,h2⟩
      have HY:=zAA (HX.out.same h2)
      clear h2 HC HX
      by_cases dF:t=2
      ·subst dF
       have HC:=zAA (EI g n c a' b' x w2 HY.out.su.here (by omega) (by omega) hn)
       obtain ⟨q,HQ,Md,Kv⟩:∃q2:Nat,Hid ((b':Int)-1-((q:Int)-(a':Int))=(q2:Int))∧a'≤q2∧q2<b':=⟨(b'-1)-(q-a'),by show _=_;omega,by omega,by omega⟩
       go_wp2_with fail
       refine HC.out.mono ?_
       rintro e w3 ⟨rfl,y0,h3,nF⟩
       have Qu:=zAA (HY.out.perm h3 nF)
       clear h3 nF HC HY
       go_wp2_with fail
       rw [HQ.out]
       clear HQ
       obtain ⟨pr,hpr⟩:∃pr,Sort.partialInsertionSort AB y0 a' b'=pr:=⟨_,rfl⟩
       have Vz:=Sort.partialInsertionSort_holds Kg y0 a' b' (by omega) (by rw [Qu.out.su.sz];omega) Qu.out.pq.below
       have FH:=FD g n c a' b' y0 w3 Qu.out.su.here (by omega) (by omega) hn
       rw [hpr] at Vz FH
       have rE:=zAA Vz
       have ri:=zAA FH
       clear Vz FH hpr
       obtain ⟨y,rb⟩:=pr
       cases rb with
       | true=>
        try go_wp2_with fail
        refine ri.out.mono ?_
        rintro e w4 ⟨rfl,h4⟩
        have HF:=zAA (Qu.out.ends h4 rE.out.1 (rE.out.2 (by simp)))
        clear h4 ri
        go_wp2_with fail
        refine zCB (zDZ rfl _ _ _) rfl ?_
        exact ⟨rfl,HF.out⟩
       | false=>
        try go_wp2_with fail
        refine ri.out.mono ?_
        rintro e w4 ⟨rfl,h4⟩
        have HZ:=zAA (Qu.out.perm h4 rE.out.1)
        clear h4 ri rE Qu
        rcases zDE a' with P1 | P1
        ·have BT:decide (0<a')=false:=zAV (by omega)
         clear P1
         try go_wp2_with fail
         go_quiet ((go_at_call 296;refine Calls.quiet_of_same (Ak _ _ _)))
         have HE:=zAA (HZ.out.drewN nq)
         generalize World.drewN _ nq=wq at *
         clear HZ BT
         have HC:=zAA (A7 g n c a' b' q y wq HE.out.su.here Md Kv (by omega) hn)
         go_wp2_with fail
         refine HC.out.mono ?_
         rintro e w5 ⟨m,rr,y,rfl,hP⟩
         have HP:=zAA hP
         have G6:=hP.b1;have F6:=hP.b2
         clear hP HC
         have Dr:=zAA ((HE.out.su.trans HP.out.su).here)
         have GM:g<w5.heap.size:=zAO HE.out.Uu HP.out.su.Ai.size
         have Cw:=zAA GM
         clear GM
         by_cases jp:m-a'<b'-m
         ·have Ca:(m:Int)-(a':Int)<(b':Int)-(m:Int):=by omega
          have HR:=zAA (IH.out a' m (l'+1) y w5 (by omega) Dr.out (by omega) (by omega) (by omega) Cw.out (HE.out.pq.AS HP.out))
          go_wp2_with fail
          refine zCU (R:=fun e w'=>e = .returned (.tuple #[])∧∃z,SU w5 w' g n c z∧Sort.PermIn a' m y z∧Sort.SortedIn AB a' m z) HR.out ?_
          rintro e w6 ⟨rfl,z,By,Co,CU⟩
          have Dc:Hid (PS w w6 g n c a b d (m+1) b' z):=⟨(HE.out.su.trans HP.out.su).trans By,HE.out.pq.left HP.out Co CU,zAO Cw.out By.Ai.size⟩
          clear By Co CU HR HP Dr Cw HE Ca
          go_wp2_with fail
          go_round
          case rel=>exact ⟨(m+1),b',(l'+1),_,_,_,by go_num,rfl,by go_num,rfl,rfl,by omega,Dc.out⟩
          case measure=>simp [intOf]<;>omega
         ·have Ca:¬(m:Int)-(a':Int)<(b':Int)-(m:Int):=by omega
          have HR:=zAA (IH.out (m+1) b' (l'+1) y w5 (by omega) Dr.out (by omega) (by omega) (by omega) Cw.out (HE.out.pq.GR HP.out))
          go_wp2_with fail
          refine zCU (R:=fun e w'=>e = .returned (.tuple #[])∧∃z,SU w5 w' g n c z∧Sort.PermIn (m+1) b' y z∧Sort.SortedIn AB (m+1) b' z) HR.out ?_
          rintro e w6 ⟨rfl,z,By,Co,CU⟩
          have Dc:Hid (PS w w6 g n c a b d a' m z):=⟨(HE.out.su.trans HP.out.su).trans By,HE.out.pq.right HP.out Co CU,zAO Cw.out By.Ai.size⟩
          clear By Co CU HR HP Dr Cw HE Ca
          go_wp2_with fail
          go_round
          case rel=>exact ⟨a',m,(l'+1),_,_,_,by go_num,rfl,by go_num,rfl,rfl,by omega,Dc.out⟩
          case measure=>simp [intOf]<;>omega
        ·have BT:decide ((a':Int)>0)=true:=zBA (by omega)
         obtain ⟨a1,PA⟩:∃a1,a'-1=a1:=⟨_,rfl⟩
         have Ju:(a':Int)-1=(a1:Int):=by omega
         have FC:=HZ.out.su.cell (i:=a1) (by omega)
         have DW:=HZ.out.su.cell (i:=q) (by omega)
         have Lf:(a1:Int)<(n:Int):=by omega
         have KF:(q:Int)<(n:Int):=by omega
         obtain ⟨p,hp⟩:∃p,y[a1]! = p:=⟨_,rfl⟩
         obtain ⟨v,hv⟩:∃v,y[q]! = v:=⟨_,rfl⟩
         rw [hp] at FC
         rw [hv] at DW
         have PF:Hid (y[a'-1]! = p):=by show _=_;rw [PA];exact hp
         have HV:=zAA hv
         have Rg:=zAA PA
         clear hp hv PA
         try go_wp2_with fail
         go_quiet ((go_at_call 296;refine Calls.quiet_of_same (Ak _ _ _)))
         have HE:=zAA (HZ.out.drewN nq)
         generalize World.drewN _ nq=wq at *
         clear HZ BT FC DW Lf
         cases LR:AB p v with
         | false=>
          have HC:=zAA (BB g n c a' b' q y wq HE.out.su.here Md Kv (by omega) hn)
          go_wp2_with fail
          refine HC.out.mono ?_
          rintro e w5 ⟨m,y,rfl,hP⟩
          have G6:=hP.b1;have F6:=hP.b2
          have Dc:Hid (PS w w5 g n c a b d m b' y):=HE.out.equal Md Kv P1 (by rw [PF.out,HV.out];exact LR) hP
          clear hP HC HE PF HV Rg Ju KF
          go_wp2_with fail
          go_round
          case rel=>exact ⟨m,b',(l'+1),_,_,_,by go_num,rfl,by go_num,rfl,rfl,by omega,Dc.out⟩
          case measure=>simp [intOf]<;>omega
         | true=>
          clear PF HV Rg Ju KF
          have HC:=zAA (A7 g n c a' b' q y wq HE.out.su.here Md Kv (by omega) hn)
          go_wp2_with fail
          refine HC.out.mono ?_
          rintro e w5 ⟨m,rr,y,rfl,hP⟩
          have HP:=zAA hP
          have G6:=hP.b1;have F6:=hP.b2
          clear hP HC
          have Dr:=zAA ((HE.out.su.trans HP.out.su).here)
          have GM:g<w5.heap.size:=zAO HE.out.Uu HP.out.su.Ai.size
          have Cw:=zAA GM
          clear GM
          by_cases jp:m-a'<b'-m
          ·have Ca:(m:Int)-(a':Int)<(b':Int)-(m:Int):=by omega
           have HR:=zAA (IH.out a' m (l'+1) y w5 (by omega) Dr.out (by omega) (by omega) (by omega) Cw.out (HE.out.pq.AS HP.out))
           go_wp2_with fail
           refine zCU (R:=fun e w'=>e = .returned (.tuple #[])∧∃z,SU w5 w' g n c z∧Sort.PermIn a' m y z∧Sort.SortedIn AB a' m z) HR.out ?_
           rintro e w6 ⟨rfl,z,By,Co,CU⟩
           have Dc:Hid (PS w w6 g n c a b d (m+1) b' z):=⟨(HE.out.su.trans HP.out.su).trans By,HE.out.pq.left HP.out Co CU,zAO Cw.out By.Ai.size⟩
           clear By Co CU HR HP Dr Cw HE Ca
           go_wp2_with fail
           go_round
           case rel=>exact ⟨(m+1),b',(l'+1),_,_,_,by go_num,rfl,by go_num,rfl,rfl,by omega,Dc.out⟩
           case measure=>simp [intOf]<;>omega
          ·have Ca:¬(m:Int)-(a':Int)<(b':Int)-(m:Int):=by omega
           have HR:=zAA (IH.out (m+1) b' (l'+1) y w5 (by omega) Dr.out (by omega) (by omega) (by omega) Cw.out (HE.out.pq.GR HP.out))
           go_wp2_with fail
           refine zCU (R:=fun e w'=>e = .returned (.tuple #[])∧∃z,SU w5 w' g n c z∧Sort.PermIn (m+1) b' y z∧Sort.SortedIn AB (m+1) b' z) HR.out ?_
           rintro e w6 ⟨rfl,z,By,Co,CU⟩
           have Dc:Hid (PS w w6 g n c a b d a' m z):=⟨(HE.out.su.trans HP.out.su).trans By,HE.out.pq.right HP.out Co CU,zAO Cw.out By.Ai.size⟩
           clear By Co CU HR HP Dr Cw HE Ca
           go_wp2_with fail
           go_round
           case rel=>exact ⟨a',m,(l'+1),_,_,_,by go_num,rfl,by go_num,rfl,rfl,by omega,Dc.out⟩
           case measure=>simp [intOf]<;>omega
      ·have xH:(t == 2)=false:=by simpa using dF
       by_cases Xl:t=1
       ·subst Xl
        clear dF xH
        obtain ⟨pr,hpr⟩:∃pr,Sort.partialInsertionSort AB x a' b'=pr:=⟨_,rfl⟩
        have Vz:=Sort.partialInsertionSort_holds Kg x a' b' (by omega) (by rw [HY.out.su.sz];omega) HY.out.pq.below
        have FH:=FD g n c a' b' x w2 HY.out.su.here (by omega) (by omega) hn
        rw [hpr] at Vz FH
        have rE:=zAA Vz
        have ri:=zAA FH
        clear Vz FH hpr
        obtain ⟨y,rb⟩:=pr
        cases rb with
        | true=>
         try go_wp2_with fail
         refine ri.out.mono ?_
         rintro e w4 ⟨rfl,h4⟩
         have HF:=zAA (HY.out.ends h4 rE.out.1 (rE.out.2 (by simp)))
         clear h4 ri
         go_wp2_with fail
         refine zCB (zDZ rfl _ _ _) rfl ?_
         exact ⟨rfl,HF.out⟩
        | false=>
         try go_wp2_with fail
         refine ri.out.mono ?_
         rintro e w4 ⟨rfl,h4⟩
         have HZ:=zAA (HY.out.perm h4 rE.out.1)
         clear h4 ri rE HY
         rcases zDE a' with P1 | P1
         ·have BT:decide (0<a')=false:=zAV (by omega)
          clear P1
          try go_wp2_with fail
          go_quiet ((go_at_call 296;refine Calls.quiet_of_same (Ak _ _ _)))
          have HE:=zAA (HZ.out.drewN nq)
          generalize World.drewN _ nq=wq at *
          clear HZ BT
          have HC:=zAA (A7 g n c a' b' q y wq HE.out.su.here Md Kv (by omega) hn)
          go_wp2_with fail
          refine HC.out.mono ?_
          rintro e w5 ⟨m,rr,y,rfl,hP⟩
          have HP:=zAA hP
          have G6:=hP.b1;have F6:=hP.b2
          clear hP HC
          have Dr:=zAA ((HE.out.su.trans HP.out.su).here)
          have GM:g<w5.heap.size:=zAO HE.out.Uu HP.out.su.Ai.size
          have Cw:=zAA GM
          clear GM
          by_cases jp:m-a'<b'-m
          ·have Ca:(m:Int)-(a':Int)<(b':Int)-(m:Int):=by omega
           have HR:=zAA (IH.out a' m (l'+1) y w5 (by omega) Dr.out (by omega) (by omega) (by omega) Cw.out (HE.out.pq.AS HP.out))
           go_wp2_with fail
           refine zCU (R:=fun e w'=>e = .returned (.tuple #[])∧∃z,SU w5 w' g n c z∧Sort.PermIn a' m y z∧Sort.SortedIn AB a' m z) HR.out ?_
           rintro e w6 ⟨rfl,z,By,Co,CU⟩
           have Dc:Hid (PS w w6 g n c a b d (m+1) b' z):=⟨(HE.out.su.trans HP.out.su).trans By,HE.out.pq.left HP.out Co CU,zAO Cw.out By.Ai.size⟩
           clear By Co CU HR HP Dr Cw HE Ca
           go_wp2_with fail
           go_round
           case rel=>exact ⟨(m+1),b',(l'+1),_,_,_,by go_num,rfl,by go_num,rfl,rfl,by omega,Dc.out⟩
           case measure=>simp [intOf]<;>omega
          ·have Ca:¬(m:Int)-(a':Int)<(b':Int)-(m:Int):=by omega
           have HR:=zAA (IH.out (m+1) b' (l'+1) y w5 (by omega) Dr.out (by omega) (by omega) (by omega) Cw.out (HE.out.pq.GR HP.out))
           go_wp2_with fail
           refine zCU (R:=fun e w'=>e = .returned (.tuple #[])∧∃z,SU w5 w' g n c z∧Sort.PermIn (m+1) b' y z∧Sort.SortedIn AB (m+1) b' z) HR.out ?_
           rintro e w6 ⟨rfl,z,By,Co,CU⟩
           have Dc:Hid (PS w w6 g n c a b d a' m z):=⟨(HE.out.su.trans HP.out.su).trans By,HE.out.pq.right HP.out Co CU,zAO Cw.out By.Ai.size⟩
           clear By Co CU HR HP Dr Cw HE Ca
           go_wp2_with fail
           go_round
           case rel=>exact ⟨a',m,(l'+1),_,_,_,by go_num,rfl,by go_num,rfl,rfl,by omega,Dc.out⟩
           case measure=>simp [intOf]<;>omega
         ·have BT:decide ((a':Int)>0)=true:=zBA (by omega)
          obtain ⟨a1,PA⟩:∃a1,a'-1=a1:=⟨_,rfl⟩
          have Ju:(a':Int)-1=(a1:Int):=by omega
          have FC:=HZ.out.su.cell (i:=a1) (by omega)
          have DW:=HZ.out.su.cell (i:=q) (by omega)
          have Lf:(a1:Int)<(n:Int):=by omega
          have KF:(q:Int)<(n:Int):=by omega
          obtain ⟨p,hp⟩:∃p,y[a1]! = p:=⟨_,rfl⟩
          obtain ⟨v,hv⟩:∃v,y[q]! = v:=⟨_,rfl⟩
          rw [hp] at FC
          rw [hv] at DW
          have PF:Hid (y[a'-1]! = p):=by show _=_;rw [PA];exact hp
          have HV:=zAA hv
          have Rg:=zAA PA
          clear hp hv PA
          try go_wp2_with fail
          go_quiet ((go_at_call 296;refine Calls.quiet_of_same (Ak _ _ _)))
          have HE:=zAA (HZ.out.drewN nq)
          generalize World.drewN _ nq=wq at *
          clear HZ BT FC DW Lf
          cases LR:AB p v with
          | false=>
           have HC:=zAA (BB g n c a' b' q y wq HE.out.su.here Md Kv (by omega) hn)
           go_wp2_with fail
           refine HC.out.mono ?_
           rintro e w5 ⟨m,y,rfl,hP⟩
           have G6:=hP.b1;have F6:=hP.b2
           have Dc:Hid (PS w w5 g n c a b d m b' y):=HE.out.equal Md Kv P1 (by rw [PF.out,HV.out];exact LR) hP
           clear hP HC HE PF HV Rg Ju KF
           go_wp2_with fail
           go_round
           case rel=>exact ⟨m,b',(l'+1),_,_,_,by go_num,rfl,by go_num,rfl,rfl,by omega,Dc.out⟩
           case measure=>simp [intOf]<;>omega
          | true=>
           clear PF HV Rg Ju KF
           have HC:=zAA (A7 g n c a' b' q y wq HE.out.su.here Md Kv (by omega) hn)
           go_wp2_with fail
           refine HC.out.mono ?_
           rintro e w5 ⟨m,rr,y,rfl,hP⟩
           have HP:=zAA hP
           have G6:=hP.b1;have F6:=hP.b2
           clear hP HC
           have Dr:=zAA ((HE.out.su.trans HP.out.su).here)
           have GM:g<w5.heap.size:=zAO HE.out.Uu HP.out.su.Ai.size
           have Cw:=zAA GM
           clear GM
           by_cases jp:m-a'<b'-m
           ·have Ca:(m:Int)-(a':Int)<(b':Int)-(m:Int):=by omega
            have HR:=zAA (IH.out a' m (l'+1) y w5 (by omega) Dr.out (by omega) (by omega) (by omega) Cw.out (HE.out.pq.AS HP.out))
            go_wp2_with fail
            refine zCU (R:=fun e w'=>e = .returned (.tuple #[])∧∃z,SU w5 w' g n c z∧Sort.PermIn a' m y z∧Sort.SortedIn AB a' m z) HR.out ?_
            rintro e w6 ⟨rfl,z,By,Co,CU⟩
            have Dc:Hid (PS w w6 g n c a b d (m+1) b' z):=⟨(HE.out.su.trans HP.out.su).trans By,HE.out.pq.left HP.out Co CU,zAO Cw.out By.Ai.size⟩
            clear By Co CU HR HP Dr Cw HE Ca
            go_wp2_with fail
            go_round
            case rel=>exact ⟨(m+1),b',(l'+1),_,_,_,by go_num,rfl,by go_num,rfl,rfl,by omega,Dc.out⟩
            case measure=>simp [intOf]<;>omega
           ·have Ca:¬(m:Int)-(a':Int)<(b':Int)-(m:Int):=by omega
            have HR:=zAA (IH.out (m+1) b' (l'+1) y w5 (by omega) Dr.out (by omega) (by omega) (by omega) Cw.out (HE.out.pq.GR HP.out))
            go_wp2_with fail
            refine zCU (R:=fun e w'=>e = .returned (.tuple #[])∧∃z,SU w5 w' g n c z∧Sort.PermIn (m+1) b' y z∧Sort.SortedIn AB (m+1) b' z) HR.out ?_
            rintro e w6 ⟨rfl,z,By,Co,CU⟩
            have Dc:Hid (PS w w6 g n c a b d a' m z):=⟨(HE.out.su.trans HP.out.su).trans By,HE.out.pq.right HP.out Co CU,zAO Cw.out By.Ai.size⟩
            clear By Co CU HR HP Dr Cw HE Ca
            go_wp2_with fail
            go_round
            case rel=>exact ⟨a',m,(l'+1),_,_,_,by go_num,rfl,by go_num,rfl,rfl,by omega,Dc.out⟩
            case measure=>simp [intOf]<;>omega
       ·have ht1':(t == 1)=false:=by simpa using Xl
        rcases zDE a' with P1 | P1
        ·have BT:decide (0<a')=false:=zAV (by omega)
         clear P1
         try go_wp2_with fail
         go_quiet ((go_at_call 296;refine Calls.quiet_of_same (Ak _ _ _)))
         have HE:=zAA (HY.out.drewN nq)
         generalize World.drewN _ nq=wq at *
         clear HY BT
         have HC:=zAA (A7 g n c a' b' q x wq HE.out.su.here Md Kv (by omega) hn)
         go_wp2_with fail
         refine HC.out.mono ?_
         rintro e w5 ⟨m,rr,y,rfl,hP⟩
         have HP:=zAA hP
         have G6:=hP.b1;have F6:=hP.b2
         clear hP HC
         have Dr:=zAA ((HE.out.su.trans HP.out.su).here)
         have GM:g<w5.heap.size:=zAO HE.out.Uu HP.out.su.Ai.size
         have Cw:=zAA GM
         clear GM
         by_cases jp:m-a'<b'-m
         ·have Ca:(m:Int)-(a':Int)<(b':Int)-(m:Int):=by omega
          have HR:=zAA (IH.out a' m (l'+1) y w5 (by omega) Dr.out (by omega) (by omega) (by omega) Cw.out (HE.out.pq.AS HP.out))
          go_wp2_with fail
          refine zCU (R:=fun e w'=>e = .returned (.tuple #[])∧∃z,SU w5 w' g n c z∧Sort.PermIn a' m y z∧Sort.SortedIn AB a' m z) HR.out ?_
          rintro e w6 ⟨rfl,z,By,Co,CU⟩
          have Dc:Hid (PS w w6 g n c a b d (m+1) b' z):=⟨(HE.out.su.trans HP.out.su).trans By,HE.out.pq.left HP.out Co CU,zAO Cw.out By.Ai.size⟩
          clear By Co CU HR HP Dr Cw HE Ca
          go_wp2_with fail
          go_round
          case rel=>exact ⟨(m+1),b',(l'+1),_,_,_,by go_num,rfl,by go_num,rfl,rfl,by omega,Dc.out⟩
          case measure=>simp [intOf]<;>omega
         ·have Ca:¬(m:Int)-(a':Int)<(b':Int)-(m:Int):=by omega
          have HR:=zAA (IH.out (m+1) b' (l'+1) y w5 (by omega) Dr.out (by omega) (by omega) (by omega) Cw.out (HE.out.pq.GR HP.out))
          go_wp2_with fail
          refine zCU (R:=fun e w'=>e = .returned (.tuple #[])∧∃z,SU w5 w' g n c z∧Sort.PermIn (m+1) b' y z∧Sort.SortedIn AB (m+1) b' z) HR.out ?_
          rintro e w6 ⟨rfl,z,By,Co,CU⟩
          have Dc:Hid (PS w w6 g n c a b d a' m z):=⟨(HE.out.su.trans HP.out.su).trans By,HE.out.pq.right HP.out Co CU,zAO Cw.out By.Ai.size⟩
          clear By Co CU HR HP Dr Cw HE Ca
          go_wp2_with fail
          go_round
          case rel=>exact ⟨a',m,(l'+1),_,_,_,by go_num,rfl,by go_num,rfl,rfl,by omega,Dc.out⟩
          case measure=>simp [intOf]<;>omega
        ·have BT:decide ((a':Int)>0)=true:=zBA (by omega)
         obtain ⟨a1,PA⟩:∃a1,a'-1=a1:=⟨_,rfl⟩
         have Ju:(a':Int)-1=(a1:Int):=by omega
         have FC:=HY.out.su.cell (i:=a1) (by omega)
         have DW:=HY.out.su.cell (i:=q) (by omega)
         have Lf:(a1:Int)<(n:Int):=by omega
         have KF:(q:Int)<(n:Int):=by omega
         obtain ⟨p,hp⟩:∃p,x[a1]! = p:=⟨_,rfl⟩
         obtain ⟨v,hv⟩:∃v,x[q]! = v:=⟨_,rfl⟩
         rw [hp] at FC
         rw [hv] at DW
         have PF:Hid (x[a'-1]! = p):=by show _=_;rw [PA];exact hp
         have HV:=zAA hv
         have Rg:=zAA PA
         clear hp hv PA
         try go_wp2_with fail
         go_quiet ((go_at_call 296;refine Calls.quiet_of_same (Ak _ _ _)))
         have HE:=zAA (HY.out.drewN nq)
         generalize World.drewN _ nq=wq at *
         clear HY BT FC DW Lf
         cases LR:AB p v with
         | false=>
          have HC:=zAA (BB g n c a' b' q x wq HE.out.su.here Md Kv (by omega) hn)
          go_wp2_with fail
          refine HC.out.mono ?_
          rintro e w5 ⟨m,y,rfl,hP⟩
          have G6:=hP.b1;have F6:=hP.b2
          have Dc:Hid (PS w w5 g n c a b d m b' y):=HE.out.equal Md Kv P1 (by rw [PF.out,HV.out];exact LR) hP
          clear hP HC HE PF HV Rg Ju KF
          go_wp2_with fail
          go_round
          case rel=>exact ⟨m,b',(l'+1),_,_,_,by go_num,rfl,by go_num,rfl,rfl,by omega,Dc.out⟩
          case measure=>simp [intOf]<;>omega
         | true=>
          clear PF HV Rg Ju KF
          have HC:=zAA (A7 g n c a' b' q x wq HE.out.su.here Md Kv (by omega) hn)
          go_wp2_with fail
          refine HC.out.mono ?_
          rintro e w5 ⟨m,rr,y,rfl,hP⟩
          have HP:=zAA hP
          have G6:=hP.b1;have F6:=hP.b2
          clear hP HC
          have Dr:=zAA ((HE.out.su.trans HP.out.su).here)
          have GM:g<w5.heap.size:=zAO HE.out.Uu HP.out.su.Ai.size
          have Cw:=zAA GM
          clear GM
          by_cases jp:m-a'<b'-m
          ·have Ca:(m:Int)-(a':Int)<(b':Int)-(m:Int):=by omega
           have HR:=zAA (IH.out a' m (l'+1) y w5 (by omega) Dr.out (by omega) (by omega) (by omega) Cw.out (HE.out.pq.AS HP.out))
           go_wp2_with fail
           refine zCU (R:=fun e w'=>e = .returned (.tuple #[])∧∃z,SU w5 w' g n c z∧Sort.PermIn a' m y z∧Sort.SortedIn AB a' m z) HR.out ?_
           rintro e w6 ⟨rfl,z,By,Co,CU⟩
           have Dc:Hid (PS w w6 g n c a b d (m+1) b' z):=⟨(HE.out.su.trans HP.out.su).trans By,HE.out.pq.left HP.out Co CU,zAO Cw.out By.Ai.size⟩
           clear By Co CU HR HP Dr Cw HE Ca
           go_wp2_with fail
           go_round
           case rel=>exact ⟨(m+1),b',(l'+1),_,_,_,by go_num,rfl,by go_num,rfl,rfl,by omega,Dc.out⟩
           case measure=>simp [intOf]<;>omega
          ·have Ca:¬(m:Int)-(a':Int)<(b':Int)-(m:Int):=by omega
           have HR:=zAA (IH.out (m+1) b' (l'+1) y w5 (by omega) Dr.out (by omega) (by omega) (by omega) Cw.out (HE.out.pq.GR HP.out))
           go_wp2_with fail
           refine zCU (R:=fun e w'=>e = .returned (.tuple #[])∧∃z,SU w5 w' g n c z∧Sort.PermIn (m+1) b' y z∧Sort.SortedIn AB (m+1) b' z) HR.out ?_
           rintro e w6 ⟨rfl,z,By,Co,CU⟩
           have Dc:Hid (PS w w6 g n c a b d a' m z):=⟨(HE.out.su.trans HP.out.su).trans By,HE.out.pq.right HP.out Co CU,zAO Cw.out By.Ai.size⟩
           clear By Co CU HR HP Dr Cw HE Ca
           go_wp2_with fail
           go_round
           case rel=>exact ⟨a',m,(l'+1),_,_,_,by go_num,rfl,by go_num,rfl,rfl,by omega,Dc.out⟩
           case measure=>simp [intOf]<;>omega
     | false=>
      have HC:=zAA (E6 g n c a' b' x wr HX.out.su.here (by omega) (by omega) hn HX.out.Uu)
      go_wp2_with fail
      refine HC.out.mono ?_
      rintro e w2 ⟨q,t,rfl,⟨Md,Kv⟩,h2⟩
      have HY:=zAA (HX.out.same h2)
      clear h2 HC HX
      by_cases dF:t=2
      ·subst dF
       have HC:=zAA (EI g n c a' b' x w2 HY.out.su.here (by omega) (by omega) hn)
       obtain ⟨q,HQ,Md,Kv⟩:∃q2:Nat,Hid ((b':Int)-1-((q:Int)-(a':Int))=(q2:Int))∧a'≤q2∧q2<b':=⟨(b'-1)-(q-a'),by show _=_;omega,by omega,by omega⟩
       go_wp2_with fail
       refine HC.out.mono ?_
       rintro e w3 ⟨rfl,y0,h3,nF⟩
       have Qu:=zAA (HY.out.perm h3 nF)
       clear h3 nF HC HY
       go_wp2_with fail
       rw [HQ.out]
       clear HQ
       rcases zDE a' with P1 | P1
       ·have BT:decide (0<a')=false:=zAV (by omega)
        clear P1
        try go_wp2_with fail
        go_quiet ((go_at_call 296;refine Calls.quiet_of_same (Ak _ _ _)))
        have HE:=zAA (Qu.out.drewN nq)
        generalize World.drewN _ nq=wq at *
        clear Qu BT
        have HC:=zAA (A7 g n c a' b' q y0 wq HE.out.su.here Md Kv (by omega) hn)
        go_wp2_with fail
        refine HC.out.mono ?_
        rintro e w5 ⟨m,rr,y,rfl,hP⟩
        have HP:=zAA hP
        have G6:=hP.b1;have F6:=hP.b2
        clear hP HC
        have Dr:=zAA ((HE.out.su.trans HP.out.su).here)
        have GM:g<w5.heap.size:=zAO HE.out.Uu HP.out.su.Ai.size
        have Cw:=zAA GM
        clear GM
        by_cases jp:m-a'<b'-m
        ·have Ca:(m:Int)-(a':Int)<(b':Int)-(m:Int):=by omega
         have HR:=zAA (IH.out a' m (l'+1) y w5 (by omega) Dr.out (by omega) (by omega) (by omega) Cw.out (HE.out.pq.AS HP.out))
         go_wp2_with fail
         refine zCU (R:=fun e w'=>e = .returned (.tuple #[])∧∃z,SU w5 w' g n c z∧Sort.PermIn a' m y z∧Sort.SortedIn AB a' m z) HR.out ?_
         rintro e w6 ⟨rfl,z,By,Co,CU⟩
         have Dc:Hid (PS w w6 g n c a b d (m+1) b' z):=⟨(HE.out.su.trans HP.out.su).trans By,HE.out.pq.left HP.out Co CU,zAO Cw.out By.Ai.size⟩
         clear By Co CU HR HP Dr Cw HE Ca
         go_wp2_with fail
         go_round
         case rel=>exact ⟨(m+1),b',(l'+1),_,_,_,by go_num,rfl,by go_num,rfl,rfl,by omega,Dc.out⟩
         case measure=>simp [intOf]<;>omega
        ·have Ca:¬(m:Int)-(a':Int)<(b':Int)-(m:Int):=by omega
         have HR:=zAA (IH.out (m+1) b' (l'+1) y w5 (by omega) Dr.out (by omega) (by omega) (by omega) Cw.out (HE.out.pq.GR HP.out))
         go_wp2_with fail
         refine zCU (R:=fun e w'=>e = .returned (.tuple #[])∧∃z,SU w5 w' g n c z∧Sort.PermIn (m+1) b' y z∧Sort.SortedIn AB (m+1) b' z) HR.out ?_
         rintro e w6 ⟨rfl,z,By,Co,CU⟩
         have Dc:Hid (PS w w6 g n c a b d a' m z):=⟨(HE.out.su.trans HP.out.su).trans By,HE.out.pq.right HP.out Co CU,zAO Cw.out By.Ai.size⟩
         clear By Co CU HR HP Dr Cw HE Ca
         go_wp2_with fail
         go_round
         case rel=>exact ⟨a',m,(l'+1),_,_,_,by go_num,rfl,by go_num,rfl,rfl,by omega,Dc.out⟩
         case measure=>simp [intOf]<;>omega
       ·have BT:decide ((a':Int)>0)=true:=zBA (by omega)
        obtain ⟨a1,PA⟩:∃a1,a'-1=a1:=⟨_,rfl⟩
        have Ju:(a':Int)-1=(a1:Int):=by omega
        have FC:=Qu.out.su.cell (i:=a1) (by omega)
        have DW:=Qu.out.su.cell (i:=q) (by omega)
        have Lf:(a1:Int)<(n:Int):=by omega
        have KF:(q:Int)<(n:Int):=by omega
        obtain ⟨p,hp⟩:∃p,y0[a1]! = p:=⟨_,rfl⟩
        obtain ⟨v,hv⟩:∃v,y0[q]! = v:=⟨_,rfl⟩
        rw [hp] at FC
        rw [hv] at DW
        have PF:Hid (y0[a'-1]! = p):=by show _=_;rw [PA];exact hp
        have HV:=zAA hv
        have Rg:=zAA PA
        clear hp hv PA
        try go_wp2_with fail
        go_quiet ((go_at_call 296;refine Calls.quiet_of_same (Ak _ _ _)))
        have HE:=zAA (Qu.out.drewN nq)
        generalize World.drewN _ nq=wq at *
        clear Qu BT FC DW Lf
        cases LR:AB p v with
        | false=>
         have HC:=zAA (BB g n c a' b' q y0 wq HE.out.su.here Md Kv (by omega) hn)
         go_wp2_with fail
         refine HC.out.mono ?_
         rintro e w5 ⟨m,y,rfl,hP⟩
         have G6:=hP.b1;have F6:=hP.b2
         have Dc:Hid (PS w w5 g n c a b d m b' y):=HE.out.equal Md Kv P1 (by rw [PF.out,HV.out];exact LR) hP
         clear hP HC HE PF HV Rg Ju KF
         go_wp2_with fail
         go_round
         case rel=>exact ⟨m,b',(l'+1),_,_,_,by go_num,rfl,by go_num,rfl,rfl,by omega,Dc.out⟩
         case measure=>simp [intOf]<;>omega
        | true=>
         clear PF HV Rg Ju KF
         have HC:=zAA (A7 g n c a' b' q y0 wq HE.out.su.here Md Kv (by omega) hn)
         go_wp2_with fail
         refine HC.out.mono ?_
         rintro e w5 ⟨m,rr,y,rfl,hP⟩
         have HP:=zAA hP
         have G6:=hP.b1;have F6:=hP.b2
         clear hP HC
         have Dr:=zAA ((HE.out.su.trans HP.out.su).here)
         have GM:g<w5.heap.size:=zAO HE.out.Uu HP.out.su.Ai.size
         have Cw:=zAA GM
         clear GM
         by_cases jp:m-a'<b'-m
         ·have Ca:(m:Int)-(a':Int)<(b':Int)-(m:Int):=by omega
          have HR:=zAA (IH.out a' m (l'+1) y w5 (by omega) Dr.out (by omega) (by omega) (by omega) Cw.out (HE.out.pq.AS HP.out))
          go_wp2_with fail
          refine zCU (R:=fun e w'=>e = .returned (.tuple #[])∧∃z,SU w5 w' g n c z∧Sort.PermIn a' m y z∧Sort.SortedIn AB a' m z) HR.out ?_
          rintro e w6 ⟨rfl,z,By,Co,CU⟩
          have Dc:Hid (PS w w6 g n c a b d (m+1) b' z):=⟨(HE.out.su.trans HP.out.su).trans By,HE.out.pq.left HP.out Co CU,zAO Cw.out By.Ai.size⟩
          clear By Co CU HR HP Dr Cw HE Ca
          go_wp2_with fail
          go_round
          case rel=>exact ⟨(m+1),b',(l'+1),_,_,_,by go_num,rfl,by go_num,rfl,rfl,by omega,Dc.out⟩
          case measure=>simp [intOf]<;>omega
         ·have Ca:¬(m:Int)-(a':Int)<(b':Int)-(m:Int):=by omega
          have HR:=zAA (IH.out (m+1) b' (l'+1) y w5 (by omega) Dr.out (by omega) (by omega) (by omega) Cw.out (HE.out.pq.GR HP.out))
          go_wp2_with fail
          refine zCU (R:=fun e w'=>e = .returned (.tuple #[])∧∃z,SU w5 w' g n c z∧Sort.PermIn (m+1) b' y z∧Sort.SortedIn AB (m+1) b' z) HR.out ?_
          rintro e w6 ⟨rfl,z,By,Co,CU⟩
          have Dc:Hid (PS w w6 g n c a b d a' m z):=⟨(HE.out.su.trans HP.out.su).trans By,HE.out.pq.right HP.out Co CU,zAO Cw.out By.Ai.size⟩
          clear By Co CU HR HP Dr Cw HE Ca
          go_wp2_with fail
          go_round
          case rel=>exact ⟨a',m,(l'+1),_,_,_,by go_num,rfl,by go_num,rfl,rfl,by omega,Dc.out⟩
          case measure=>simp [intOf]<;>omega
      ·have xH:(t == 2)=false:=by simpa using dF
       rcases zDE a' with P1 | P1
       ·have BT:decide (0<a')=false:=zAV (by omega)
        clear P1
        try go_wp2_with fail
        go_quiet ((go_at_call 296;refine Calls.quiet_of_same (Ak _ _ _)))
        have HE:=zAA (HY.out.drewN nq)
        generalize World.drewN _ nq=wq at *
        clear HY BT
        have HC:=zAA (A7 g n c a' b' q x wq HE.out.su.here Md Kv (by omega) hn)
        go_wp2_with fail
        refine HC.out.mono ?_
        rintro e w5 ⟨m,rr,y,rfl,hP⟩
        have HP:=zAA hP
        have G6:=hP.b1;have F6:=hP.b2
        clear hP HC
        have Dr:=zAA ((HE.out.su.trans HP.out.su).here)
        have GM:g<w5.heap.size:=zAO HE.out.Uu HP.out.su.Ai.size
        have Cw:=zAA GM
        clear GM
        by_cases jp:m-a'<b'-m
        ·have Ca:(m:Int)-(a':Int)<(b':Int)-(m:Int):=by omega
         have HR:=zAA (IH.out a' m (l'+1) y w5 (by omega) Dr.out (by omega) (by omega) (by omega) Cw.out (HE.out.pq.AS HP.out))
         go_wp2_with fail
         refine zCU (R:=fun e w'=>e = .returned (.tuple #[])∧∃z,SU w5 w' g n c z∧Sort.PermIn a' m y z∧Sort.SortedIn AB a' m z) HR.out ?_
         rintro e w6 ⟨rfl,z,By,Co,CU⟩
         have Dc:Hid (PS w w6 g n c a b d (m+1) b' z):=⟨(HE.out.su.trans HP.out.su).trans By,HE.out.pq.left HP.out Co CU,zAO Cw.out By.Ai.size⟩
         clear By Co CU HR HP Dr Cw HE Ca
         go_wp2_with fail
         go_round
         case rel=>exact ⟨(m+1),b',(l'+1),_,_,_,by go_num,rfl,by go_num,rfl,rfl,by omega,Dc.out⟩
         case measure=>simp [intOf]<;>omega
        ·have Ca:¬(m:Int)-(a':Int)<(b':Int)-(m:Int):=by omega
         have HR:=zAA (IH.out (m+1) b' (l'+1) y w5 (by omega) Dr.out (by omega) (by omega) (by omega) Cw.out (HE.out.pq.GR HP.out))
         go_wp2_with fail
         refine zCU (R:=fun e w'=>e = .returned (.tuple #[])∧∃z,SU w5 w' g n c z∧Sort.PermIn (m+1) b' y z∧Sort.SortedIn AB (m+1) b' z) HR.out ?_
         rintro e w6 ⟨rfl,z,By,Co,CU⟩
         have Dc:Hid (PS w w6 g n c a b d a' m z):=⟨(HE.out.su.trans HP.out.su).trans By,HE.out.pq.right HP.out Co CU,zAO Cw.out By.Ai.size⟩
         clear By Co CU HR HP Dr Cw HE Ca
         go_wp2_with fail
         go_round
         case rel=>exact ⟨a',m,(l'+1),_,_,_,by go_num,rfl,by go_num,rfl,rfl,by omega,Dc.out⟩
         case measure=>simp [intOf]<;>omega
       ·have BT:decide ((a':Int)>0)=true:=zBA (by omega)
        obtain ⟨a1,PA⟩:∃a1,a'-1=a1:=⟨_,rfl⟩
        have Ju:(a':Int)-1=(a1:Int):=by omega
        have FC:=HY.out.su.cell (i:=a1) (by omega)
        have DW:=HY.out.su.cell (i:=q) (by omega)
        have Lf:(a1:Int)<(n:Int):=by omega
        have KF:(q:Int)<(n:Int):=by omega
        obtain ⟨p,hp⟩:∃p,x[a1]! = p:=⟨_,rfl⟩
        obtain ⟨v,hv⟩:∃v,x[q]! = v:=⟨_,rfl⟩
        rw [hp] at FC
        rw [hv] at DW
        have PF:Hid (x[a'-1]! = p):=by show _=_;rw [PA];exact hp
        have HV:=zAA hv
        have Rg:=zAA PA
        clear hp hv PA
        try go_wp2_with fail
        go_quiet ((go_at_call 296;refine Calls.quiet_of_same (Ak _ _ _)))
        have HE:=zAA (HY.out.drewN nq)
        generalize World.drewN _ nq=wq at *
        clear HY BT FC DW Lf
        cases LR:AB p v with
        | false=>
         have HC:=zAA (BB g n c a' b' q x wq HE.out.su.here Md Kv (by omega) hn)
         go_wp2_with fail
         refine HC.out.mono ?_
         rintro e w5 ⟨m,y,rfl,hP⟩
         have G6:=hP.b1;have F6:=hP.b2
         have Dc:Hid (PS w w5 g n c a b d m b' y):=HE.out.equal Md Kv P1 (by rw [PF.out,HV.out];exact LR) hP
         clear hP HC HE PF HV Rg Ju KF
         go_wp2_with fail
         go_round
         case rel=>exact ⟨m,b',(l'+1),_,_,_,by go_num,rfl,by go_num,rfl,rfl,by omega,Dc.out⟩
         case measure=>simp [intOf]<;>omega
        | true=>
         clear PF HV Rg Ju KF
         have HC:=zAA (A7 g n c a' b' q x wq HE.out.su.here Md Kv (by omega) hn)
         go_wp2_with fail
         refine HC.out.mono ?_
         rintro e w5 ⟨m,rr,y,rfl,hP⟩
         have HP:=zAA hP
         have G6:=hP.b1;have F6:=hP.b2
         clear hP HC
         have Dr:=zAA ((HE.out.su.trans HP.out.su).here)
         have GM:g<w5.heap.size:=zAO HE.out.Uu HP.out.su.Ai.size
         have Cw:=zAA GM
         clear GM
         by_cases jp:m-a'<b'-m
         ·have Ca:(m:Int)-(a':Int)<(b':Int)-(m:Int):=by omega
          have HR:=zAA (IH.out a' m (l'+1) y w5 (by omega) Dr.out (by omega) (by omega) (by omega) Cw.out (HE.out.pq.AS HP.out))
          go_wp2_with fail
          refine zCU (R:=fun e w'=>e = .returned (.tuple #[])∧∃z,SU w5 w' g n c z∧Sort.PermIn a' m y z∧Sort.SortedIn AB a' m z) HR.out ?_
          rintro e w6 ⟨rfl,z,By,Co,CU⟩
          have Dc:Hid (PS w w6 g n c a b d (m+1) b' z):=⟨(HE.out.su.trans HP.out.su).trans By,HE.out.pq.left HP.out Co CU,zAO Cw.out By.Ai.size⟩
          clear By Co CU HR HP Dr Cw HE Ca
          go_wp2_with fail
          go_round
          case rel=>exact ⟨(m+1),b',(l'+1),_,_,_,by go_num,rfl,by go_num,rfl,rfl,by omega,Dc.out⟩
          case measure=>simp [intOf]<;>omega
         ·have Ca:¬(m:Int)-(a':Int)<(b':Int)-(m:Int):=by omega
          have HR:=zAA (IH.out (m+1) b' (l'+1) y w5 (by omega) Dr.out (by omega) (by omega) (by omega) Cw.out (HE.out.pq.GR HP.out))
          go_wp2_with fail
          refine zCU (R:=fun e w'=>e = .returned (.tuple #[])∧∃z,SU w5 w' g n c z∧Sort.PermIn (m+1) b' y z∧Sort.SortedIn AB (m+1) b' z) HR.out ?_
          rintro e w6 ⟨rfl,z,By,Co,CU⟩
          have Dc:Hid (PS w w6 g n c a b d a' m z):=⟨(HE.out.su.trans HP.out.su).trans By,HE.out.pq.right HP.out Co CU,zAO Cw.out By.Ai.size⟩
          clear By Co CU HR HP Dr Cw HE Ca
          go_wp2_with fail
          go_round
          case rel=>exact ⟨a',m,(l'+1),_,_,_,by go_num,rfl,by go_num,rfl,rfl,by omega,Dc.out⟩
          case measure=>simp [intOf]<;>omega
    | false=>
     have HB:=zAA (iE g n c a' b' x wr HX.out.su.here (by omega) (by omega) hn HX.out.Uu)
     go_wp2_with fail
     refine HB.out.mono ?_
     rintro e w1 ⟨rfl,x1,h1,gC⟩
     have TY:=zAA (HX.out.perm h1 gC)
     clear h1 gC HB HX
     have HC:=zAA (E6 g n c a' b' x1 w1 TY.out.su.here (by omega) (by omega) hn TY.out.Uu)
     go_wp2_with fail
     refine HC.out.mono ?_
     rintro e w2 ⟨q,t,rfl,⟨Md,Kv⟩,h2⟩
     have HY:=zAA (TY.out.same h2)
     clear h2 HC TY
     by_cases dF:t=2
     ·subst dF
      have HC:=zAA (EI g n c a' b' x1 w2 HY.out.su.here (by omega) (by omega) hn)
      obtain ⟨q,HQ,Md,Kv⟩:∃q2:Nat,Hid ((b':Int)-1-((q:Int)-(a':Int))=(q2:Int))∧a'≤q2∧q2<b':=⟨(b'-1)-(q-a'),by show _=_;omega,by omega,by omega⟩
      go_wp2_with fail
      refine HC.out.mono ?_
      rintro e w3 ⟨rfl,y0,h3,nF⟩
      have Qu:=zAA (HY.out.perm h3 nF)
      clear h3 nF HC HY
      go_wp2_with fail
      rw [HQ.out]
      clear HQ
      rcases zDE a' with P1 | P1
      ·have BT:decide (0<a')=false:=zAV (by omega)
       clear P1
       try go_wp2_with fail
       go_quiet ((go_at_call 296;refine Calls.quiet_of_same (Ak _ _ _)))
       have HE:=zAA (Qu.out.drewN nq)
       generalize World.drewN _ nq=wq at *
       clear Qu BT
       have HC:=zAA (A7 g n c a' b' q y0 wq HE.out.su.here Md Kv (by omega) hn)
       go_wp2_with fail
       refine HC.out.mono ?_
       rintro e w5 ⟨m,rr,y,rfl,hP⟩
       have HP:=zAA hP
       have G6:=hP.b1;have F6:=hP.b2
       clear hP HC
       have Dr:=zAA ((HE.out.su.trans HP.out.su).here)
       have GM:g<w5.heap.size:=zAO HE.out.Uu HP.out.su.Ai.size
       have Cw:=zAA GM
       clear GM
       by_cases jp:m-a'<b'-m
       ·have Ca:(m:Int)-(a':Int)<(b':Int)-(m:Int):=by omega
        have HR:=zAA (IH.out a' m l' y w5 (by omega) Dr.out (by omega) (by omega) (by omega) Cw.out (HE.out.pq.AS HP.out))
        go_wp2_with fail
        refine zCU (R:=fun e w'=>e = .returned (.tuple #[])∧∃z,SU w5 w' g n c z∧Sort.PermIn a' m y z∧Sort.SortedIn AB a' m z) HR.out ?_
        rintro e w6 ⟨rfl,z,By,Co,CU⟩
        have Dc:Hid (PS w w6 g n c a b d (m+1) b' z):=⟨(HE.out.su.trans HP.out.su).trans By,HE.out.pq.left HP.out Co CU,zAO Cw.out By.Ai.size⟩
        clear By Co CU HR HP Dr Cw HE Ca
        go_wp2_with fail
        go_round
        case rel=>exact ⟨(m+1),b',l',_,_,_,by go_num,rfl,by go_num,rfl,rfl,by omega,Dc.out⟩
        case measure=>simp [intOf]<;>omega
       ·have Ca:¬(m:Int)-(a':Int)<(b':Int)-(m:Int):=by omega
        have HR:=zAA (IH.out (m+1) b' l' y w5 (by omega) Dr.out (by omega) (by omega) (by omega) Cw.out (HE.out.pq.GR HP.out))
        go_wp2_with fail
        refine zCU (R:=fun e w'=>e = .returned (.tuple #[])∧∃z,SU w5 w' g n c z∧Sort.PermIn (m+1) b' y z∧Sort.SortedIn AB (m+1) b' z) HR.out ?_
        rintro e w6 ⟨rfl,z,By,Co,CU⟩
        have Dc:Hid (PS w w6 g n c a b d a' m z):=⟨(HE.out.su.trans HP.out.su).trans By,HE.out.pq.right HP.out Co CU,zAO Cw.out By.Ai.size⟩
        clear By Co CU HR HP Dr Cw HE Ca
        go_wp2_with fail
        go_round
        case rel=>exact ⟨a',m,l',_,_,_,by go_num,rfl,by go_num,rfl,rfl,by omega,Dc.out⟩
        case measure=>simp [intOf]<;>omega
      ·have BT:decide ((a':Int)>0)=true:=zBA (by omega)
       obtain ⟨a1,PA⟩:∃a1,a'-1=a1:=⟨_,rfl⟩
       have Ju:(a':Int)-1=(a1:Int):=by omega
       have FC:=Qu.out.su.cell (i:=a1) (by omega)
       have DW:=Qu.out.su.cell (i:=q) (by omega)
       have Lf:(a1:Int)<(n:Int):=by omega
       have KF:(q:Int)<(n:Int):=by omega
       obtain ⟨p,hp⟩:∃p,y0[a1]! = p:=⟨_,rfl⟩
       obtain ⟨v,hv⟩:∃v,y0[q]! = v:=⟨_,rfl⟩
       rw [hp] at FC
       rw [hv] at DW
       have PF:Hid (y0[a'-1]! = p):=by show _=_;rw [PA];exact hp
       have HV:=zAA hv
       have Rg:=zAA PA
       clear hp hv PA
       try go_wp2_with fail
       go_quiet ((go_at_call 296;refine Calls.quiet_of_same (Ak _ _ _)))
       have HE:=zAA (Qu.out.drewN nq)
       generalize World.drewN _ nq=wq at *
       clear Qu BT FC DW Lf
       cases LR:AB p v with
       | false=>
        have HC:=zAA (BB g n c a' b' q y0 wq HE.out.su.here Md Kv (by omega) hn)
        go_wp2_with fail
        refine HC.out.mono ?_
        rintro e w5 ⟨m,y,rfl,hP⟩
        have G6:=hP.b1;have F6:=hP.b2
        have Dc:Hid (PS w w5 g n c a b d m b' y):=HE.out.equal Md Kv P1 (by rw [PF.out,HV.out];exact LR) hP
        clear hP HC HE PF HV Rg Ju KF
        go_wp2_with fail
        go_round
        case rel=>exact ⟨m,b',l',_,_,_,by go_num,rfl,by go_num,rfl,rfl,by omega,Dc.out⟩
        case measure=>simp [intOf]<;>omega
       | true=>
        clear PF HV Rg Ju KF
        have HC:=zAA (A7 g n c a' b' q y0 wq HE.out.su.here Md Kv (by omega) hn)
        go_wp2_with fail
        refine HC.out.mono ?_
        rintro e w5 ⟨m,rr,y,rfl,hP⟩
        have HP:=zAA hP
        have G6:=hP.b1;have F6:=hP.b2
        clear hP HC
        have Dr:=zAA ((HE.out.su.trans HP.out.su).here)
        have GM:g<w5.heap.size:=zAO HE.out.Uu HP.out.su.Ai.size
        have Cw:=zAA GM
        clear GM
        by_cases jp:m-a'<b'-m
        ·have Ca:(m:Int)-(a':Int)<(b':Int)-(m:Int):=by omega
         have HR:=zAA (IH.out a' m l' y w5 (by omega) Dr.out (by omega) (by omega) (by omega) Cw.out (HE.out.pq.AS HP.out))
         go_wp2_with fail
         refine zCU (R:=fun e w'=>e = .returned (.tuple #[])∧∃z,SU w5 w' g n c z∧Sort.PermIn a' m y z∧Sort.SortedIn AB a' m z) HR.out ?_
         rintro e w6 ⟨rfl,z,By,Co,CU⟩
         have Dc:Hid (PS w w6 g n c a b d (m+1) b' z):=⟨(HE.out.su.trans HP.out.su).trans By,HE.out.pq.left HP.out Co CU,zAO Cw.out By.Ai.size⟩
         clear By Co CU HR HP Dr Cw HE Ca
         go_wp2_with fail
         go_round
         case rel=>exact ⟨(m+1),b',l',_,_,_,by go_num,rfl,by go_num,rfl,rfl,by omega,Dc.out⟩
         case measure=>simp [intOf]<;>omega
        ·have Ca:¬(m:Int)-(a':Int)<(b':Int)-(m:Int):=by omega
         have HR:=zAA (IH.out (m+1) b' l' y w5 (by omega) Dr.out (by omega) (by omega) (by omega) Cw.out (HE.out.pq.GR HP.out))
         go_wp2_with fail
         refine zCU (R:=fun e w'=>e = .returned (.tuple #[])∧∃z,SU w5 w' g n c z∧Sort.PermIn (m+1) b' y z∧Sort.SortedIn AB (m+1) b' z) HR.out ?_
         rintro e w6 ⟨rfl,z,By,Co,CU⟩
         have Dc:Hid (PS w w6 g n c a b d a' m z):=⟨(HE.out.su.trans HP.out.su).trans By,HE.out.pq.right HP.out Co CU,zAO Cw.out By.Ai.size⟩
         clear By Co CU HR HP Dr Cw HE Ca
         go_wp2_with fail
         go_round
         case rel=>exact ⟨a',m,l',_,_,_,by go_num,rfl,by go_num,rfl,rfl,by omega,Dc.out⟩
         case measure=>simp [intOf]<;>omega
     ·have xH:(t == 2)=false:=by simpa using dF
      rcases zDE a' with P1 | P1
      ·have BT:decide (0<a')=false:=zAV (by omega)
       clear P1
       try go_wp2_with fail
       go_quiet ((go_at_call 296;refine Calls.quiet_of_same (Ak _ _ _)))
       have HE:=zAA (HY.out.drewN nq)
       generalize World.drewN _ nq=wq at *
       clear HY BT
       have HC:=zAA (A7 g n c a' b' q x1 wq HE.out.su.here Md Kv (by omega) hn)
       go_wp2_with fail
       refine HC.out.mono ?_
       rintro e w5 ⟨m,rr,y,rfl,hP⟩
       have HP:=zAA hP
       have G6:=hP.b1;have F6:=hP.b2
       clear hP HC
       have Dr:=zAA ((HE.out.su.trans HP.out.su).here)
       have GM:g<w5.heap.size:=zAO HE.out.Uu HP.out.su.Ai.size
       have Cw:=zAA GM
       clear GM
       by_cases jp:m-a'<b'-m
       ·have Ca:(m:Int)-(a':Int)<(b':Int)-(m:Int):=by omega
        have HR:=zAA (IH.out a' m l' y w5 (by omega) Dr.out (by omega) (by omega) (by omega) Cw.out (HE.out.pq.AS HP.out))
        go_wp2_with fail
        refine zCU (R:=fun e w'=>e = .returned (.tuple #[])∧∃z,SU w5 w' g n c z∧Sort.PermIn a' m y z∧Sort.SortedIn AB a' m z) HR.out ?_
        rintro e w6 ⟨rfl,z,By,Co,CU⟩
        have Dc:Hid (PS w w6 g n c a b d (m+1) b' z):=⟨(HE.out.su.trans HP.out.su).trans By,HE.out.pq.left HP.out Co CU,zAO Cw.out By.Ai.size⟩
        clear By Co CU HR HP Dr Cw HE Ca
        go_wp2_with fail
        go_round
        case rel=>exact ⟨(m+1),b',l',_,_,_,by go_num,rfl,by go_num,rfl,rfl,by omega,Dc.out⟩
        case measure=>simp [intOf]<;>omega
       ·have Ca:¬(m:Int)-(a':Int)<(b':Int)-(m:Int):=by omega
        have HR:=zAA (IH.out (m+1) b' l' y w5 (by omega) Dr.out (by omega) (by omega) (by omega) Cw.out (HE.out.pq.GR HP.out))
        go_wp2_with fail
        refine zCU (R:=fun e w'=>e = .returned (.tuple #[])∧∃z,SU w5 w' g n c z∧Sort.PermIn (m+1) b' y z∧Sort.SortedIn AB (m+1) b' z) HR.out ?_
        rintro e w6 ⟨rfl,z,By,Co,CU⟩
        have Dc:Hid (PS w w6 g n c a b d a' m z):=⟨(HE.out.su.trans HP.out.su).trans By,HE.out.pq.right HP.out Co CU,zAO Cw.out By.Ai.size⟩
        clear By Co CU HR HP Dr Cw HE Ca
        go_wp2_with fail
        go_round
        case rel=>exact ⟨a',m,l',_,_,_,by go_num,rfl,by go_num,rfl,rfl,by omega,Dc.out⟩
        case measure=>simp [intOf]<;>omega
      ·have BT:decide ((a':Int)>0)=true:=zBA (by omega)
       obtain ⟨a1,PA⟩:∃a1,a'-1=a1:=⟨_,rfl⟩
       have Ju:(a':Int)-1=(a1:Int):=by omega
       have FC:=HY.out.su.cell (i:=a1) (by omega)
       have DW:=HY.out.su.cell (i:=q) (by omega)
       have Lf:(a1:Int)<(n:Int):=by omega
       have KF:(q:Int)<(n:Int):=by omega
       obtain ⟨p,hp⟩:∃p,x1[a1]! = p:=⟨_,rfl⟩
       obtain ⟨v,hv⟩:∃v,x1[q]! = v:=⟨_,rfl⟩
       rw [hp] at FC
       rw [hv] at DW
       have PF:Hid (x1[a'-1]! = p):=by show _=_;rw [PA];exact hp
       have HV:=zAA hv
       have Rg:=zAA PA
       clear hp hv PA
       try go_wp2_with fail
       go_quiet ((go_at_call 296;refine Calls.quiet_of_same (Ak _ _ _)))
       have HE:=zAA (HY.out.drewN nq)
       generalize World.drewN _ nq=wq at *
       clear HY BT FC DW Lf
       cases LR:AB p v with
       | false=>
        have HC:=zAA (BB g n c a' b' q x1 wq HE.out.su.here Md Kv (by omega) hn)
        go_wp2_with fail
        refine HC.out.mono ?_
        rintro e w5 ⟨m,y,rfl,hP⟩
        have G6:=hP.b1;have F6:=hP.b2
        have Dc:Hid (PS w w5 g n c a b d m b' y):=HE.out.equal Md Kv P1 (by rw [PF.out,HV.out];exact LR) hP
        clear hP HC HE PF HV Rg Ju KF
        go_wp2_with fail
        go_round
        case rel=>exact ⟨m,b',l',_,_,_,by go_num,rfl,by go_num,rfl,rfl,by omega,Dc.out⟩
        case measure=>simp [intOf]<;>omega
       | true=>
        clear PF HV Rg Ju KF
        have HC:=zAA (A7 g n c a' b' q x1 wq HE.out.su.here Md Kv (by omega) hn)
        go_wp2_with fail
        refine HC.out.mono ?_
        rintro e w5 ⟨m,rr,y,rfl,hP⟩
        have HP:=zAA hP
        have G6:=hP.b1;have F6:=hP.b2
        clear hP HC
        have Dr:=zAA ((HE.out.su.trans HP.out.su).here)
        have GM:g<w5.heap.size:=zAO HE.out.Uu HP.out.su.Ai.size
        have Cw:=zAA GM
        clear GM
        by_cases jp:m-a'<b'-m
        ·have Ca:(m:Int)-(a':Int)<(b':Int)-(m:Int):=by omega
         have HR:=zAA (IH.out a' m l' y w5 (by omega) Dr.out (by omega) (by omega) (by omega) Cw.out (HE.out.pq.AS HP.out))
         go_wp2_with fail
         refine zCU (R:=fun e w'=>e = .returned (.tuple #[])∧∃z,SU w5 w' g n c z∧Sort.PermIn a' m y z∧Sort.SortedIn AB a' m z) HR.out ?_
         rintro e w6 ⟨rfl,z,By,Co,CU⟩
         have Dc:Hid (PS w w6 g n c a b d (m+1) b' z):=⟨(HE.out.su.trans HP.out.su).trans By,HE.out.pq.left HP.out Co CU,zAO Cw.out By.Ai.size⟩
         clear By Co CU HR HP Dr Cw HE Ca
         go_wp2_with fail
         go_round
         case rel=>exact ⟨(m+1),b',l',_,_,_,by go_num,rfl,by go_num,rfl,rfl,by omega,Dc.out⟩
         case measure=>simp [intOf]<;>omega
        ·have Ca:¬(m:Int)-(a':Int)<(b':Int)-(m:Int):=by omega
         have HR:=zAA (IH.out (m+1) b' l' y w5 (by omega) Dr.out (by omega) (by omega) (by omega) Cw.out (HE.out.pq.GR HP.out))
         go_wp2_with fail
         refine zCU (R:=fun e w'=>e = .returned (.tuple #[])∧∃z,SU w5 w' g n c z∧Sort.PermIn (m+1) b' y z∧Sort.SortedIn AB (m+1) b' z) HR.out ?_
         rintro e w6 ⟨rfl,z,By,Co,CU⟩
         have Dc:Hid (PS w w6 g n c a b d a' m z):=⟨(HE.out.su.trans HP.out.su).trans By,HE.out.pq.right HP.out Co CU,zAO Cw.out By.Ai.size⟩
         clear By Co CU HR HP Dr Cw HE Ca
         go_wp2_with fail
         go_round
         case rel=>exact ⟨a',m,l',_,_,_,by go_num,rfl,by go_num,rfl,rfl,by omega,Dc.out⟩
         case measure=>simp [intOf]<;>omega
end
theorem tq (g n c:Nat) (hn:n<4611686018427387904):∀(N a b l:Nat) (d:Array Nat) (w:World),b-a<N→SU w w g n c d→a≤b→b≤n→l≤100→g<w.heap.size→Sort.Below AB a b d→fS g n c a b l d w:=by
 intro N
 induction N with
 | zero=>intro a b l d w h;omega
 | succ N IH=>intro a b l d w h h1 h2 h3 h4 h5 h6;exact pI g n c N a b l d w IH (by omega) h1 h2 h3 h4 h5 h6 hn
theorem cO {x:Nat} (h:x<4611686018427387904):Lib.bitLen x≤100:=by
 rcases zDE x with h0 | h0
 ·subst h0;decide
 ·have:=(JR x h0 h).2.2;omega
theorem ql (g n c:Nat) (d:Array Nat) (w:World) (h:SU w w g n c d) (hn:n<4611686018427387904) (hg:g<w.heap.size) :
  Calls Tryz.prog 281 #[.slice (some ⟨g,0,none⟩) n c] w fun e w'=>e = .returned (.tuple #[])∧∃z,SU w w' g n c z∧Sort.PermIn 0 n d z∧Sort.SortedIn AB 0 n z:=by
 have HP:=zAA (tq g n c hn (n+1) 0 n (Lib.bitLen n) d w (by omega) h (zAJ _) (zAD _) (cO hn) hg (Or.inl rfl))
 clear h hg
 have nD:(n:Int)<4611686018427387904:=by omega
 go_enter Tryz.func281,Tryz.ntmps281
 go_wp2_with fail
 refine (Nv n (by omega) w).mono ?_
 rintro e w1 ⟨rfl,rfl⟩
 generalize Lib.bitLen n=L at *
 go_wp2_with fail
 refine zCU (R:=fun e w'=>e = .returned (.tuple #[])∧∃z,SU w1 w' g n c z∧Sort.PermIn 0 n d z∧Sort.SortedIn AB 0 n z) HP.out ?_
 rintro e w2 ⟨rfl,h2⟩
 have HF:=zAA h2
 clear h2 HP
 go_wp2_with fail
 go_end0
 exact ⟨rfl,HF.out⟩
theorem UF (w:World):Calls Tryz.prog 301 #[.slice none 0 0,.int .i64 0,.int .i64 0] w fun e w'=>e = .returned (.tuple #[])∧w'=w:=by
 go_enter Tryz.func301,Tryz.ntmps301
 go_wp2_with fail
 refine wp_loop_rounds 1 ?_
 rw [rounds_succ]
 go_wp2_with fail
 go_end0
 exact ⟨rfl,rfl⟩
theorem tn (w:World):Calls Tryz.prog 295 #[.slice none 0 0,.int .i64 0,.int .i64 0,.int .i64 0] w fun e w'=>e = .returned (.tuple #[])∧w'=w:=by
 go_enter Tryz.func295,Tryz.ntmps295
 go_wp2_with fail
 refine wp_loop_rounds 1 ?_
 rw [rounds_succ]
 go_wp2_with fail
 refine (UF w).mono ?_
 rintro e w1 ⟨rfl,rfl⟩
 go_wp2_with fail
 refine zCB (zDZ rfl _ _ _) rfl ?_
 exact ⟨rfl,rfl⟩
theorem qi (w:World):Calls Tryz.prog 281 #[.slice none 0 0] w fun e w'=>e = .returned (.tuple #[])∧w'=w:=by
 go_enter Tryz.func281,Tryz.ntmps281
 go_wp2_with fail
 refine (Nv 0 (by omega) w).mono ?_
 rintro e w1 ⟨rfl,rfl⟩
 have h0:Lib.bitLen 0=0:=by rfl
 rw [h0]
 go_wp2_with fail
 refine (tn w1).mono ?_
 rintro e w2 ⟨rfl,rfl⟩
 go_wp2_with fail
 go_end0
 exact ⟨rfl,rfl⟩
section
section
variable {α:Type} [Inhabited α] (enc:α→List Value) (k:Nat)
omit [Inhabited α] in
theorem Zt (hk:∀x,(enc x).length=k) (T2:0<k) (l:List α):∀(t:Nat),(l.flatMap enc)[t]? = (l[t / k]?).bind (fun x=>(enc x)[t % k]?):=by
 induction l with
 | nil=>intro t;simp
 | cons x l ih=>
  intro t
  rw [zBN]
  by_cases ht:t<k
  ·rw [zCE (by rw [hk];exact ht),Nat.div_eq_of_lt ht,Nat.mod_eq_of_lt ht];rfl
  ·have T0:k≤t:=Nat.le_of_not_lt ht
   rw [zBS (by rw [hk];exact T0),hk,ih (t-k),Nat.mod_eq_sub_mod T0]
   have:t / k=(t-k) / k+1:=Nat.div_eq_sub_div T2 T0
   rw [this,zBE]
theorem Vs (hk:∀x,(enc x).length=k) (T2:0<k) (d:Array α) (t:Nat) (ht:t<d.size*k):(d.toList.flatMap enc)[t]? = some (Go.Sort.flatK enc k d)[t]!:=by
 rw [Zt enc k hk T2]
 have h1:t / k<d.size:=Nat.div_lt_of_lt_mul (by rwa [zGP])
 have h2:t % k<k:=zFO _ T2
 rw [Go.Sort.get_flatK enc k d t ht,zAC (by simpa using h1)]
 show (enc d.toList[t / k])[t % k]? = _
 have h3:d[t / k]! = d.toList[t / k]'(by simpa using h1):=by rw [zDW d _ h1];simp
 rw [h3,zAC (by rw [hk];exact h2),zDW]
omit [Inhabited α] in
theorem Lb (hk:∀x,(enc x).length=k) (l:List α):(l.flatMap enc).length=l.length*k:=by
 induction l with
 | nil=>simp
 | cons x l ih=>rw [zBN,zAB,ih,hk,zAH,zEO];omega
theorem Ec (hk:∀x,(enc x).length=k) (T2:0<k) {w:World} {g:Nat} {cur:Array Value} {e:TypeId} {l:List α} (hb:w.heap[g]? = some (.cells cur e (0,0))) (ht:cur.toList.take (l.length*k)=l.flatMap enc):Go.Sort.HoldsK enc k w g 0 l.toArray:=by
 intro j hj
 have hj':j<l.length*k:=by simpa using hj
 refine ⟨?_,by simp [World.frozen?,hb]⟩
 have h1:(cur.toList.take (l.length*k))[j]? = (l.flatMap enc)[j]?:=by rw [ht]
 rw [List.getElem?_take_of_lt hj'] at h1
 have h2:=Vs enc k hk T2 l.toArray j (by simpa using hj')
 simp only at h2
 simp only [World.cell?,hb,zEF]
 simp only [Option.isSome_none,zDC,zFK]
 rw [← zEJ,h1,h2]
 rfl
theorem Xd {w:World} {g n:Nat} {os:Array Obj} {cur:Array Value} {e:TypeId} {fr:Nat × Nat} (F:Array Value) (hb:w.heap[g]? = some (.cells cur e fr)) :
  (Go.Sort.grow (Go.Sort.putRow id (Go.Sort.ahead w n) g 0 F) os).heap[g]? = some (.cells (Go.Sort.putCells id 0 F cur) e fr):=by
 have hg:g<w.heap.size:=(zAX.1 hb).1
 rw [Go.Sort.heap_grow_old _ _ (by simpa using hg)]
 simp [Go.Sort.putRow,Go.Sort.mapBlock,Go.Sort.ahead,Array.getElem?_modify,hb,Go.Sort.onCells]
theorem DO {w:World} {g n:Nat} {os:Array Obj} (F:Array Value):Ac (fun j=>j=g) w (Go.Sort.grow (Go.Sort.putRow id (Go.Sort.ahead w n) g 0 F) os):=by
 refine ⟨rfl,rfl,rfl,by simp,fun j hj BC=>?_⟩
 rw [Go.Sort.heap_grow_old _ _ (by simpa using hj)]
 have:g≠j:=fun e=>BC e.symm
 simp [Go.Sort.putRow,Go.Sort.mapBlock,Go.Sort.ahead,Array.getElem?_modify,this]
theorem kO (hk:∀x,(enc x).length=k) (T2:0<k) (cur:Array Value) (d:Array α) (h:d.size*k≤cur.size):(Go.Sort.putCells id 0 (Go.Sort.flatK enc k d) cur).toList.take (d.size*k)=d.toList.flatMap enc:=by
 apply zFY
 intro j
 by_cases hj:j<d.size*k
 ·rw [List.getElem?_take_of_lt hj,zEJ,Vs enc k hk T2 d j hj]
  simp [Go.Sort.putCells,hj,show j<cur.size by omega]
 ·rw [List.getElem?_take_eq_none (by omega),zCJ (by rw [Lb enc k hk];simp;omega)]
theorem Ee (hk:∀x,(enc x).length=k) (T2:0<k) {w:World} {base g cap n m:Nat} {e:TypeId} {os:Array Obj} {cur:Array Value} {d:Array α} (hl:d.size=m) (FB:base≤g) (hb:w.heap[g]? = some (.cells cur e (0,0)))
  (h1:m≤cap) (h2:cap≤maxLen) (h3:cur.size=cap*k) :
  (sortWorldK enc k w g 0 n d os).ownsRow base e k (.slice (some ⟨g,0,none⟩) m cap) m (d.toList.flatMap enc):=by
 subst hl
 refine ⟨by rw [Lb enc k hk];simp,.inr ⟨g,cap,_,rfl,FB,Xd (Go.Sort.flatK enc k d) hb,h1,h2,by simp [Go.Sort.putCells,h3],?_⟩⟩
 exact kO enc k hk T2 cur d (by rw [h3];exact zGG k h1)
end
end
end Go.Proofs.YtdcgbgecbeegmaaGreatDoor
end
