/- Texts 13. -/
import Derived.Test.YtdcgbgecbeegmaaGreatDoorMgD12
import Derived.Test.YtdcgbgecbeegmaaGreatDoorMgD2
import Derived.Maps.RangeWalk
import Derived.Test.YtdcgbgecbeegmaaGreatDoorProg
import Derived.Shelf.Small.Bits
import Derived.Test.YtdcgbgecbeegmaaGreatDoorMgD1
import Derived.Lib.BitFns
set_option linter.unusedVariables false
set_option linter.unusedSimpArgs false
section
set_option maxRecDepth 20000
namespace Go.Proofs.YtdcgbgecbeegmaaGreatDoor
open Go Go.RowKit
structure EInv (w wr:World) (g n c a b:Nat) (d x:Array Nat) (i j p:Nat):Prop where
 su:SU w wr g n c x
 perm:Sort.PermIn a b d x
 hp:x[a]! = p
 lo:∀k,a<k→k<i→x[k]!≤p
 hi:∀k,j<k→k<b→p<x[k]!
 b1:a<i
 b2:j<b
 b3:i≤j+1
section
variable {w wr wz:World} {g n c a b:Nat} {d x:Array Nat} {i j p q:Nat}
theorem EInv.drewN (h:EInv w wr g n c a b d x i j p) (m:Nat):EInv w (wr.drewN m) g n c a b d x i j p:=⟨h.su.drewN m,h.perm,h.hp,h.lo,h.hi,h.b1,h.b2,h.b3⟩
theorem EInv.up (h:EInv w wr g n c a b d x i j p) (hij:i≤j) (hl:ltU p x[i]! = false):EInv w wr g n c a b d x (i+1) j p:=
 ⟨h.su,h.perm,h.hp,fun k h1 h2=>by
  by_cases e:k=i
  ·subst e;simpa [ltU] using hl
  ·exact h.lo k h1 (by omega),h.hi,by have:=h.b1;omega,h.b2,by omega⟩
theorem EInv.down (h:EInv w wr g n c a b d x i (j+1) p) (hij:i≤j+1) (hl:ltU p x[j+1]! = true):EInv w wr g n c a b d x i j p:=
 ⟨h.su,h.perm,h.hp,h.lo,fun k h1 h2=>by
  by_cases e:k=j+1
  ·subst e;simpa [ltU] using hl
  ·exact h.hi k (by omega) h2,h.b1,by have:=h.b2;omega,hij⟩
theorem EInv.swap (h:EInv w wr g n c a b d x i (j+1) p) (hb:b≤n) (hij:i≤j+1) (hi:ltU p x[i]! = true) (hj:ltU p x[j+1]! = false) (hs:SU w wz g n c (Sort.swp x i (j+1))):i≤j∧EInv w wz g n c a b d (Sort.swp x i (j+1)) (i+1) j p:=by
 have hne:i≠j+1:=fun e=>by subst e;rw [hi] at hj;cases hj
 have hsz:=h.su.sz
 have h1:=h.b1;have h2:=h.b2
 have ei:(Sort.swp x i (j+1))[i]! = x[j+1]!:=Sort.swp_left x i (j+1) (by omega) hne
 have ej:(Sort.swp x i (j+1))[j+1]! = x[i]!:=Sort.swp_right x i (j+1) (by omega)
 have eo:∀k,k≠i→k≠j+1→(Sort.swp x i (j+1))[k]! = x[k]!:=fun k e1 e2=>Sort.swp_other x i (j+1) k e1 e2
 refine ⟨by omega,hs,Sort.permIn_trans _ _ _ _ _ h.perm (Sort.swp_permIn x a b i (j+1) (by omega) (by omega) (by omega) h2 (by omega)),?_,?_,?_,by omega,by omega,by omega⟩
 ·rw [eo a (by omega) (by omega)];exact h.hp
 ·intro k k1 k2
  by_cases e:k=i
  ·subst e;rw [ei];simpa [ltU] using hj
  ·rw [eo k e (by omega)];exact h.lo k k1 (by omega)
 ·intro k k1 k2
  by_cases e:k=j+1
  ·subst e;rw [ej];simpa [ltU] using hi
  ·rw [eo k (by omega) e];exact h.hi k (by omega) k2
structure PartedE (w wr:World) (g n c a b:Nat) (d x:Array Nat) (m p:Nat):Prop where
 su:SU w wr g n c x
 perm:Sort.PermIn a b d x
 b1:a<m
 b2:m≤b
 lo:∀k,a≤k→k<m→ltU p x[k]! = false
 hi:∀k,m≤k→k<b→ltU p x[k]! = true
theorem EInv.parted (h:EInv w wr g n c a b d x i j p) (hij:j<i):PartedE w wr g n c a b d x i p:=by
 have h1:=h.b1;have h2:=h.b2;have h3:=h.b3
 refine ⟨h.su,h.perm,h1,by omega,?_,?_⟩
 ·intro k k1 k2
  by_cases e:k=a
  ·subst e;rw [h.hp];simp [ltU]
  ·have:=h.lo k (by omega) k2;simpa [ltU] using this
 ·intro k k1 k2
  have:=h.hi k (by omega) k2
  simpa [ltU] using this
theorem EInv.start (h:SU w wr g n c (Sort.swp d a q)) (hd:d.size=n) (hq:a≤q) (hqb:q<b) (hb:b≤n):EInv w wr g n c a b d (Sort.swp d a q) (a+1) (b-1) d[q]!:=by
 have hp:(Sort.swp d a q)[a]! = d[q]!:=by
  by_cases e:a=q
  ·subst e;exact Sort.swp_right d a a (by omega)
  ·exact Sort.swp_left d a q (by omega) e
 exact ⟨h,Sort.swp_permIn d a b a q (Nat.le_refl _) (by omega) hq hqb (by omega),hp,fun k k1 k2=>by omega,fun k k1 k2=>by omega,by omega,by omega,by omega⟩
end
set_option maxHeartbeats 80000000 in
theorem partition_equal_u64 (g n c a b q:Nat) (d:Array Nat) (w:World) (h:SU w w g n c d) (hq:a≤q) (hqb:q<b) (hb:b≤n) (hn:n<4611686018427387904) :
  Calls Tryz.prog 307 #[.slice (some ⟨g,0,none⟩) n c,.int .i64 (a:Int),.int .i64 (b:Int),.int .i64 (q:Int)] w fun e w'=>∃(m:Nat) (x:Array Nat),e = .returned (.int .i64 (m:Int))∧PartedE w w' g n c a b d x m d[q]!:=by
 have HS:=Lib.hid h
 clear h
 have hci:=HS.out.cell (i:=a) (by omega)
 have hfi:=HS.out.free a
 have hcj:=HS.out.cell (i:=q) (by omega)
 have hfj:=HS.out.free q
 have hin:(a:Int)<(n:Int):=by omega
 have hjn:(q:Int)<(n:Int):=by omega
 have HS2:=Lib.hid (HS.out.swp (i:=a) (j:=q) (by omega) (by omega))
 obtain ⟨hmc,hmf⟩:=HS.out.mid (i:=a) (j:=q) (by omega) (by omega)
 obtain ⟨p,hpq⟩:∃p,d[q]! = p:=⟨_,rfl⟩
 have HPQ:=Lib.hid hpq
 rw [hpq] at hcj hmc hmf HS2 ⊢
 clear hpq
 go_enter Tryz.func307,Tryz.ntmps307
 go_wp2_with fail
 go_big_region
 obtain ⟨J,hJ1,hJ2⟩:∃J,b≤J+1∧J+1≤b:=⟨b-1,by omega,by omega⟩
 have hJi:(b:Int)-1=(J:Int):=by omega
 have HP1:=Lib.hid (EInv.start HS2.out HS.out.sz hq hqb hb)
 rw [show b-1=J by omega,HPQ.out] at HP1
 generalize World.drew _=w1 at *
 clear hci hfi hcj hfj hmc hmf HS HS2 hjn
 generalize Sort.swp d a q=x0 at *
 go_wp2_with fail
 go_loopw [9,10] (fun iv jv wr=>∃(i j:Nat) (z:Array Nat),iv = .int .i64 (i:Int)∧jv = .int .i64 (j:Int)∧Hid (EInv w wr g n c a b d z i j p)) (fun iv _ _=>b+1-(intOf iv).toNat)
 case atStart=>exact ⟨a+1,J,x0,by go_num,by go_num,HP1.out⟩
 case round=>
  obtain ⟨i0,jJ,z,rfl,rfl,HS4⟩:=hrel
  clear HP1
  have hbj:=HS4.out.b2
  go_wp2_with fail
  go_loopw [9] (fun iv wr=>∃i:Nat,iv = .int .i64 (i:Int)∧i0≤i∧Hid (EInv w wr g n c a b d z i jJ p)) (fun iv _=>b+1-(intOf iv).toNat)
  case atStart=>exact ⟨i0,by go_num,Nat.le_refl _,HS4.out⟩
  case round=>
   obtain ⟨i,rfl,hI0,HA⟩:=hrel
   have hb1:=HA.out.b1;have hb2:=HA.out.b2;have hb3:=HA.out.b3
   clear HS4
   by_cases hij:i≤jJ
   ·have hiji:(i:Int)≤(jJ:Int):=by omega
    have hgd:decide ((i:Int)≤(jJ:Int))=true:=decide_eq_true hiji
    have hci:=HA.out.su.cell (i:=i) (by omega)
    have hca:=HA.out.su.cell (i:=a) (by omega)
    rw [HA.out.hp] at hca
    have hin:(i:Int)<(n:Int):=by omega
    go_wp2_with fail
    go_quiet ((go_at_call 296;refine Calls.quiet_of_same (less_u64' _ _ _)))
    have HB:=Lib.hid (HA.out.drewN nq)
    generalize World.drewN _ nq=wq at *
    clear hci hca HA
    cases hl:ltU p z[i]! with
    | false=>
     have HC:=Lib.hid (HB.out.up hij hl)
     go_wp2_with fail
     go_round
     case rel=>exact ⟨i+1,by go_num,by omega,HC.out⟩
     case measure=>simp [intOf]<;>omega
    | true=>
     have HF:Hid (i≤jJ→ltU p z[i]! = true):=fun _=>hl
     clear hiji hgd hij hl
     go_wp2_with fail
     go_loopw [10] (fun jv wr=>∃j:Nat,jv = .int .i64 (j:Int)∧j≤jJ∧Hid (EInv w wr g n c a b d z i j p)) (fun jv _=>(intOf jv).toNat)
     case atStart=>exact ⟨jJ,by go_num,Nat.le_refl _,HB.out⟩
     case round=>
      obtain ⟨j,rfl,hjJ,HA⟩:=hrel
      have hc2:=HA.out.b2;have hc3:=HA.out.b3
      clear HB
      by_cases hij:i≤j
      ·obtain ⟨j,rfl⟩:∃z,j=z+1:=⟨j-1,by omega⟩
       have hiji:(i:Int)≤((j+1:Nat):Int):=by omega
       have hgd:decide ((i:Int)≤(j:Int)+1)=true:=decide_eq_true (by omega)
       have hcj:=HA.out.su.cell (i:=j+1) (by omega)
       have hca:=HA.out.su.cell (i:=a) (by omega)
       rw [HA.out.hp] at hca
       have hjn:(j:Int)+1<(n:Int):=by omega
       go_wp2_with fail
       go_quiet ((go_at_call 296;refine Calls.quiet_of_same (less_u64' _ _ _)))
       have HB:=Lib.hid (HA.out.drewN nq)
       generalize World.drewN _ nq=wq2 at *
       clear hcj hca HA
       cases hl:ltU p z[j+1]! with
       | true=>
        have HC:=Lib.hid (HB.out.down hij hl)
        go_wp2_with fail
        go_round
        case rel=>exact ⟨j,by go_num,by omega,HC.out⟩
        case measure=>simp [intOf]<;>omega
       | false=>
        have hli:ltU p z[i]! = true:=HF.out (by omega)
        have HJ:Hid (i≤j+1∧ltU p z[i]! = true∧ltU p z[j+1]! = false):=⟨hij,hli,hl⟩
        have hgt:¬((j+1:Nat):Int)<(i:Int):=by omega
        clear hgd hli hl hiji
        have hci:=HB.out.su.cell (i:=i) (by omega)
        have hfi:=HB.out.su.free i
        have hcj:=HB.out.su.cell (i:=j+1) (by omega)
        have hfj:=HB.out.su.free (j+1)
        have hin:(i:Int)<(n:Int):=by omega
        have hjn:(j:Int)+1<(n:Int):=by omega
        obtain ⟨hmc,hmf⟩:=HB.out.su.mid (i:=i) (j:=j+1) (by omega) (by omega)
        obtain ⟨hij2,hsw⟩:=HB.out.swap hb HJ.out.1 HJ.out.2.1 HJ.out.2.2 (HB.out.su.swp (i:=i) (j:=j+1) (by omega) (by omega))
        have HS3:=Lib.hid hsw
        clear hsw
        go_wp2_with fail
        go_big_region
        generalize World.drew _=w3 at *
        clear hci hcj hfi hfj hmc hmf HJ HB
        generalize Sort.swp z i (j+1)=y at *
        go_wp2_with fail
        go_round
        case rel=>exact ⟨i+1,j,y,by go_num,by go_num,HS3.out⟩
        case measure=>simp [intOf]<;>omega
      ·have hiji:¬(i:Int)≤(j:Int):=by omega
       have hgd:decide ((i:Int)≤(j:Int))=false:=decide_eq_false hiji
       go_wp2_with fail
       go_quiet ((go_at_call 296;refine Calls.quiet_of_same (less_u64' _ _ _)))
       have HB:=Lib.hid (HA.out.drewN nq)
       generalize World.drewN _ nq=wq2 at *
       clear HA hgd
       have hgt:(j:Int)<(i:Int):=by omega
       have HE:=Lib.hid (HB.out.parted (by omega))
       go_wp2_with fail
       go_ret
       exact ⟨i,_,rfl,HE.out⟩
   ·have hiji:¬(i:Int)≤(jJ:Int):=by omega
    have hgd:decide ((i:Int)≤(jJ:Int))=false:=decide_eq_false hiji
    have HF:Hid (i≤jJ→ltU p z[i]! = true):=fun h=>absurd h hij
    go_wp2_with fail
    go_quiet ((go_at_call 296;refine Calls.quiet_of_same (less_u64' _ _ _)))
    have HB:=Lib.hid (HA.out.drewN nq)
    generalize World.drewN _ nq=wq at *
    clear HA hiji hgd hij
    go_wp2_with fail
    go_loopw [10] (fun jv wr=>∃j:Nat,jv = .int .i64 (j:Int)∧j≤jJ∧Hid (EInv w wr g n c a b d z i j p)) (fun jv _=>(intOf jv).toNat)
    case atStart=>exact ⟨jJ,by go_num,Nat.le_refl _,HB.out⟩
    case round=>
     obtain ⟨j,rfl,hjJ,HA⟩:=hrel
     have hc2:=HA.out.b2;have hc3:=HA.out.b3
     clear HB
     by_cases hij:i≤j
     ·obtain ⟨j,rfl⟩:∃z,j=z+1:=⟨j-1,by omega⟩
      have hiji:(i:Int)≤((j+1:Nat):Int):=by omega
      have hgd:decide ((i:Int)≤(j:Int)+1)=true:=decide_eq_true (by omega)
      have hcj:=HA.out.su.cell (i:=j+1) (by omega)
      have hca:=HA.out.su.cell (i:=a) (by omega)
      rw [HA.out.hp] at hca
      have hjn:(j:Int)+1<(n:Int):=by omega
      go_wp2_with fail
      go_quiet ((go_at_call 296;refine Calls.quiet_of_same (less_u64' _ _ _)))
      have HB:=Lib.hid (HA.out.drewN nq)
      generalize World.drewN _ nq=wq2 at *
      clear hcj hca HA
      cases hl:ltU p z[j+1]! with
      | true=>
       have HC:=Lib.hid (HB.out.down hij hl)
       go_wp2_with fail
       go_round
       case rel=>exact ⟨j,by go_num,by omega,HC.out⟩
       case measure=>simp [intOf]<;>omega
      | false=>
       have hli:ltU p z[i]! = true:=HF.out (by omega)
       have HJ:Hid (i≤j+1∧ltU p z[i]! = true∧ltU p z[j+1]! = false):=⟨hij,hli,hl⟩
       have hgt:¬((j+1:Nat):Int)<(i:Int):=by omega
       clear hgd hli hl hiji
       have hci:=HB.out.su.cell (i:=i) (by omega)
       have hfi:=HB.out.su.free i
       have hcj:=HB.out.su.cell (i:=j+1) (by omega)
       have hfj:=HB.out.su.free (j+1)
       have hin:(i:Int)<(n:Int):=by omega
       have hjn:(j:Int)+1<(n:Int):=by omega
       obtain ⟨hmc,hmf⟩:=HB.out.su.mid (i:=i) (j:=j+1) (by omega) (by omega)
       obtain ⟨hij2,hsw⟩:=HB.out.swap hb HJ.out.1 HJ.out.2.1 HJ.out.2.2 (HB.out.su.swp (i:=i) (j:=j+1) (by omega) (by omega))
       have HS3:=Lib.hid hsw
       clear hsw
       go_wp2_with fail
       go_big_region
       generalize World.drew _=w3 at *
       clear hci hcj hfi hfj hmc hmf HJ HB
       generalize Sort.swp z i (j+1)=y at *
       go_wp2_with fail
       go_round
       case rel=>exact ⟨i+1,j,y,by go_num,by go_num,HS3.out⟩
       case measure=>simp [intOf]<;>omega
     ·have hiji:¬(i:Int)≤(j:Int):=by omega
      have hgd:decide ((i:Int)≤(j:Int))=false:=decide_eq_false hiji
      go_wp2_with fail
      go_quiet ((go_at_call 296;refine Calls.quiet_of_same (less_u64' _ _ _)))
      have HB:=Lib.hid (HA.out.drewN nq)
      generalize World.drewN _ nq=wq2 at *
      clear HA hgd
      have hgt:(j:Int)<(i:Int):=by omega
      have HE:=Lib.hid (HB.out.parted (by omega))
      go_wp2_with fail
      go_ret
      exact ⟨i,_,rfl,HE.out⟩
end Go.Proofs.YtdcgbgecbeegmaaGreatDoor
end
section
namespace Go.Proofs.YtdcgbgecbeegmaaGreatDoor
open Go Go.RowKit
theorem swo_ltU:Sort.SWO ltU:=⟨fun x=>by simp [ltU],fun x y z h1 h2=>by simp [ltU] at *;omega,fun x y z h1 h2=>by simp [ltU] at *;omega⟩
structure PQ (a b:Nat) (d:Array Nat) (a' b':Nat) (x:Array Nat):Prop where
 h1:a≤a'
 h2:a'≤b'
 h3:b'≤b
 sz:b≤x.size
 below:Sort.Below ltU a' b' x
 glue:∀R,Sort.PermIn a' b' x R→Sort.SortedIn ltU a' b' R→Sort.PermIn a b d R∧Sort.SortedIn ltU a b R
section
variable {w wr:World} {g n c a b a' b' m q:Nat} {d x y z:Array Nat}
theorem PQ.start (hab:a≤b) (hb:b≤d.size) (h:Sort.Below ltU a b d):PQ a b d a b d:=⟨Nat.le_refl _,hab,Nat.le_refl _,hb,h,fun R h1 h2=>⟨h1,h2⟩⟩
theorem PQ.perm (h:PQ a b d a' b' x) (hp:Sort.PermIn a' b' x y):PQ a b d a' b' y:=
 ⟨h.h1,h.h2,h.h3,by rw [hp.1];exact h.sz,h.below.perm (by have:=h.sz;have:=h.h3;omega) hp,fun R h1 h2=>h.glue R (Sort.permIn_trans _ _ _ _ _ hp h1) h2⟩
theorem PQ.equal (h:PQ a b d a' b' x) (hq:a'≤q) (hqb:q<b') (h0:0<a') (hl:ltU x[a'-1]! x[q]! = false) (hp:PartedE w wr g n c a' b' x y m x[q]!):PQ a b d m b' y:=by
 have hs:=h.sz;have h3:=h.h3;have hm1:=hp.b1;have hm2:=hp.b2
 have hsy:y.size=x.size:=hp.perm.1
 generalize hv:x[q]! = v at *
 have hall:∀i,a'≤i→i<b'→ltU y[i]! v=false:=by
  refine Sort.permIn_all x y a' b' (fun t=>ltU t v=false) (by omega) hp.perm (fun i i1 i2=>?_)
  rcases h.below with e | e
  ·omega
  ·have:=e i i1 i2
   simp [ltU] at *
   omega
 refine ⟨by have:=h.h1;omega,hm2,h3,by omega,Or.inr (fun i i1 i2=>?_),fun R h1 h2=>?_⟩
 ·have e1:=hp.lo (m-1) (by omega) (by omega)
  have e2:=hp.hi i i1 i2
  simp [ltU] at *
  omega
 ·have hlow:∀i,i<m→R[i]! = y[i]!:=fun i hi=>h1.2.1 i (Or.inl hi)
  refine h.glue R (Sort.permIn_trans _ _ _ _ _ hp.perm (Sort.permIn_mono y R m b' a' b' (by omega) (Nat.le_refl _) (by omega) h1)) ?_
  refine Sort.sorted_glue_eq swo_ltU v h2 (fun i i1 i2=>?_) (fun i i1 i2=>?_) (fun i i1 i2=>?_)
  ·rw [hlow i i2];exact hp.lo i i1 i2
  ·rw [hlow i i2];exact hall i i1 (by omega)
  ·exact Sort.permIn_all y R m b' (fun t=>ltU v t=true) (by omega) h1 (fun i i1 i2=>hp.hi i i1 i2) i i1 i2
theorem PQ.partL (h:PQ a b d a' b' x) (hp:Parted w wr g n c a' b' x y m):Sort.Below ltU a' m y:=
 (h.below.perm (by have:=h.sz;have:=h.h3;omega) hp.perm).mono (by have:=hp.b2;omega)
theorem PQ.partR (h:PQ a b d a' b' x) (hp:Parted w wr g n c a' b' x y m):Sort.Below ltU (m+1) b' y:=
 Or.inr (fun i i1 i2=>hp.hi i (by omega) i2)
theorem PQ.left (h:PQ a b d a' b' x) (hp:Parted w wr g n c a' b' x y m) (hz:Sort.PermIn a' m y z) (hs:Sort.SortedIn ltU a' m z):PQ a b d (m+1) b' z:=by
 have h1:=h.h1;have h3:=h.h3;have hb1:=hp.b1;have hb2:=hp.b2;have hsx:=h.sz
 have hsy:y.size=x.size:=hp.perm.1
 have hsz:z.size=y.size:=hz.1
 have hhigh:∀i,m≤i→z[i]! = y[i]!:=fun i hi=>hz.2.1 i (Or.inr hi)
 have hlo:∀i,a'≤i→i<m→ltU z[i]! z[m]! = true:=fun i i1 i2=>by
  rw [hhigh m (Nat.le_refl _)]
  exact Sort.permIn_all y z a' m (fun t=>ltU t y[m]! = true) (by omega) hz (fun i i1 i2=>hp.lo i i1 i2) i i1 i2
 have hhi:∀i,m<i→i<b'→ltU z[i]! z[m]! = false:=fun i i1 i2=>by
  rw [hhigh m (Nat.le_refl _),hhigh i (by omega)]
  exact hp.hi i i1 i2
 refine ⟨by omega,by omega,h3,by omega,Or.inr (fun i i1 i2=>hhi i (by omega) i2),fun R r1 r2=>?_⟩
 have hR:∀i,i<m+1→R[i]! = z[i]!:=fun i hi=>r1.2.1 i (Or.inl hi)
 refine h.glue R (Sort.permIn_trans _ _ _ _ _ hp.perm (Sort.permIn_trans _ _ _ _ _ (Sort.permIn_mono y z a' m a' b' (Nat.le_refl _) (by omega) (by omega) hz) (Sort.permIn_mono z R (m+1) b' a' b' (by omega) (Nat.le_refl _) (by omega) r1))) ?_
 refine Sort.sorted_glue swo_ltU (mid:=m) ?_ r2 (fun i i1 i2=>?_) (fun i i1 i2=>?_)
 ·exact hs.congr (fun i i1 i2=>hR i (by omega))
 ·rw [hR i (by omega),hR m (by omega)];exact hlo i i1 i2
 ·rw [hR m (by omega)]
  exact Sort.permIn_all z R (m+1) b' (fun t=>ltU t z[m]! = false) (by omega) r1 (fun i i1 i2=>hhi i (by omega) i2) i (by omega) i2
theorem PQ.right (h:PQ a b d a' b' x) (hp:Parted w wr g n c a' b' x y m) (hz:Sort.PermIn (m+1) b' y z) (hs:Sort.SortedIn ltU (m+1) b' z):PQ a b d a' m z:=by
 have h1:=h.h1;have h3:=h.h3;have hb1:=hp.b1;have hb2:=hp.b2;have hsx:=h.sz
 have hsy:y.size=x.size:=hp.perm.1
 have hsz:z.size=y.size:=hz.1
 have hlow:∀i,i<m+1→z[i]! = y[i]!:=fun i hi=>hz.2.1 i (Or.inl hi)
 have hlo:∀i,a'≤i→i<m→ltU z[i]! z[m]! = true:=fun i i1 i2=>by
  rw [hlow i (by omega),hlow m (by omega)];exact hp.lo i i1 i2
 have hhi:∀i,m<i→i<b'→ltU z[i]! z[m]! = false:=fun i i1 i2=>by
  rw [hlow m (by omega)]
  exact Sort.permIn_all y z (m+1) b' (fun t=>ltU t y[m]! = false) (by omega) hz (fun i i1 i2=>hp.hi i (by omega) i2) i (by omega) i2
 have hpz:Sort.PermIn a' b' x z:=Sort.permIn_trans _ _ _ _ _ hp.perm (Sort.permIn_mono y z (m+1) b' a' b' (by omega) (Nat.le_refl _) (by omega) hz)
 refine ⟨h1,hb1,by omega,by omega,(h.below.perm (by omega) hpz).mono (by omega),fun R r1 r2=>?_⟩
 have hR:∀i,m≤i→R[i]! = z[i]!:=fun i hi=>r1.2.1 i (Or.inr hi)
 refine h.glue R (Sort.permIn_trans _ _ _ _ _ hpz (Sort.permIn_mono z R a' m a' b' (Nat.le_refl _) (by omega) (by omega) r1)) ?_
 refine Sort.sorted_glue swo_ltU (mid:=m) r2 ?_ (fun i i1 i2=>?_) (fun i i1 i2=>?_)
 ·exact hs.congr (fun i i1 i2=>hR i (by omega))
 ·rw [hR m (Nat.le_refl _)]
  exact Sort.permIn_all z R a' m (fun t=>ltU t z[m]! = true) (by omega) r1 (fun i i1 i2=>hlo i i1 i2) i i1 i2
 ·rw [hR m (Nat.le_refl _),hR i (by omega)];exact hhi i i1 i2
end
end Go.Proofs.YtdcgbgecbeegmaaGreatDoor
end
section
namespace Go.Proofs.YtdcgbgecbeegmaaGreatDoor
open Go Go.RowKit Go.Maps
theorem law_u64:Keyed Tryz.prog 81:=int_keyed Tryz.underlying81
theorem plain_bool_inv {P:Program} {e:TypeId} (he:P.underlying e=some .bool) {v:Value} {y:DataW Unit × List MemPlace} (h:plainElem P e v=some y):∃c,v = .bool c:=by
 unfold plainElem at h
 rw [he] at h
 cases v<;>simp at h
 exact ⟨_,rfl⟩
theorem boolR_inv (v:Value) (y:DataW Unit × List MemPlace) (h:plainElem Tryz.prog 4 v=some y):∃c,v = .bool c:=plain_bool_inv Tryz.underlying4 h
theorem keyU_inv (key:Value) (kl:Lit) (h:keyOf Tryz.prog 81 key=some kl):∃x:Nat,key = .int .u64 (x:Int)∧kl = .int .u64 (x:Int)∧in64u x:=by
 obtain ⟨x,rfl,rfl,hw⟩:=Maps.keyOf_int_inv Tryz.underlying81 h
 have h1:IntKind.u64.min=0:=rfl
 have h2:IntKind.u64.max=18446744073709551615:=rfl
 have h3:IntKind.u64.min≤x∧x≤IntKind.u64.max:=by simpa [Lit.wf] using hw
 have hx:0≤x∧x<18446744073709551616:=by omega
 obtain ⟨n,rfl⟩:∃n:Nat,x=(n:Int):=⟨x.toNat,by omega⟩
 exact ⟨n,rfl,rfl,by show n<_;omega⟩
theorem keyU_shape (key:Value) (kl:Lit) (h:keyOf Tryz.prog 81 key=some kl):∃x:Nat,key = .int .u64 (x:Int):=by obtain ⟨x,h,_⟩:=keyU_inv key kl h;exact ⟨x,h⟩
theorem keyU_mk {x:Nat} (h:in64u x):keyOf Tryz.prog 81 (.int .u64 (x:Int))=some (.int .u64 (x:Int)):=by
 have h':x<18446744073709551616:=h
 exact keyOf_int_mk Tryz.underlying81 (by have h1:IntKind.u64.min=0:=rfl;have h2:IntKind.u64.max=18446744073709551615:=rfl;simp [Lit.wf];omega)
theorem boolR_nat (v:Value) (y:DataW Unit × List MemPlace) (h:plainElem Tryz.prog 4 v=some y):∃c:Nat,v = .bool (decide (c=1)):=by
 obtain ⟨c,rfl⟩:=boolR_inv v y h
 cases c
 ·exact ⟨0,rfl⟩
 ·exact ⟨1,rfl⟩
def KeysU (D:DataW Unit) (l:List Nat):Prop:=∀x:Nat,Maps.has D (.int .u64 (x:Int))=true↔x∈l
theorem KeysU.empty:KeysU (.map []) []:=fun x=>by simp [Maps.has]
theorem KeysU.put {D:DataW Unit} {l:List Nat} (h:KeysU D l) (hm:IsMap D) (y:Nat) (d:DataW Unit):KeysU (D.put (.int .u64 (y:Int)) d) (l++[y]):=fun x=>by
 by_cases e:x=y
 ·subst e
  rw [has_put_same hm (by simp [WideAt.IsKeyLit]) d]
  simp
 ·rw [has_put_other (by simp;omega) d,h x]
  simp [e]
def ColU (D:DataW Unit) (left:Lit→Bool) (ss:List Nat):Prop:=ss.Nodup∧∀x:Nat,x∈ss↔(Maps.has D (.int .u64 (x:Int))=true∧left (.int .u64 (x:Int))=false)
theorem ColU.start (D:DataW Unit):ColU D (Maps.has D) []:=⟨List.nodup_nil,fun x=>by cases Maps.has D (.int .u64 (x:Int))<;>simp⟩
theorem ColU.step {D:DataW Unit} {left:Lit→Bool} {ss:List Nat} (h:ColU D left ss) {x:Nat} {y:DataW Unit} (hlk:left (.int .u64 (x:Int))=true) (hat:∀zd,D.atKey (.int .u64 (x:Int)) zd=y):ColU D (fun z=>left z && !z.sameKey (.int .u64 (x:Int))) (ss++[x]):=by
 have hhas:Maps.has D (.int .u64 (x:Int))=true:=has_true_of_atKey hat
 have hnew:x∉ss:=fun hx=>by have:=((h.2 x).1 hx).2;rw [hlk] at this;cases this
 refine ⟨List.nodup_append.2 ⟨h.1,by simp,fun a ha b hb=>by simp at hb;subst hb;exact fun e=>hnew (e ▸ ha)⟩,fun y=>?_⟩
 by_cases hy:y=x
 ·subst hy;simp [hhas,Lit.sameKey]
 ·have hyi:¬(y:Int)=(x:Int):=by omega
  simp [h.2 y,hy,Lit.sameKey,hyi]
theorem ColU.mem {D:DataW Unit} {left:Lit→Bool} {ss l:List Nat} (h:ColU D left ss) (hk:KeysU D l) (hl:∀kl,left kl=false) (x:Nat):x∈ss↔x∈l:=by
 rw [h.2 x,hl,hk x];simp
theorem sorted_dict {ss l:List Nat} {z:Array Nat} (hn:ss.Nodup) (hm:∀x,x∈ss↔x∈l) (hp:Sort.PermIn 0 ss.length ss.toArray z) (hs:Sort.SortedIn ltU 0 ss.length z):z.toList=dictD l:=by
 have hsz:z.size=ss.length:=by rw [hp.1];simp
 have hperm:z.toList.Perm ss:=by
  have h:=hp.2.2
  have e1:z.extract 0 ss.length=z:=by rw [← hsz];exact Array.extract_size
  have e2:ss.toArray.extract 0 ss.length=ss.toArray:=by
   have:ss.toArray.size=ss.length:=by simp
   rw [← this];exact Array.extract_size
  rw [e1,e2] at h
  simpa using h
 have hnd:z.toList.Nodup:=hperm.nodup_iff.2 hn
 refine (dictD_unique l z.toList ?_ (fun x=>by rw [hperm.mem_iff,hm])).symm
 refine List.pairwise_iff_getElem.2 (fun i j hi hj hij=>?_)
 have hi':i<z.size:=by simpa using hi
 have hj':j<z.size:=by simpa using hj
 have h1:=hs i j (Nat.zero_le _) hij (by omega)
 rw [getElem!_pos z j hj',getElem!_pos z i hi'] at h1
 have h2:z[i]≠z[j]:=by
  have:=List.pairwise_iff_getElem.1 hnd i j hi hj hij
  simpa using this
 simp [ltU] at h1
 simp only [Array.getElem_toList]
 omega
theorem grown_mods {S:Nat→Prop} {w w':World} {row:Option Nat} (h:w.grownBy w' row) (hS:∀k,row=some k→S k):Mods S w w':=
 ⟨h.os,h.tape,h.output,h.size,fun k hk hn=>h.block k hk (fun e=>hn (hS k e.symm))⟩
theorem mods_grown {w w':World} {row:Option Nat} (h:Mods (fun k=>row=some k) w w'):w.grownBy w' row:=
 ⟨h.os,h.tape,h.output,h.size,fun k hk hn=>h.block k hk (fun e=>hn e.symm)⟩
end Go.Proofs.YtdcgbgecbeegmaaGreatDoor
end
section
set_option maxRecDepth 20000
namespace Go.Proofs.YtdcgbgecbeegmaaGreatDoor
open Go Go.RowKit
theorem insOuter_step {a b i:Nat} {d:Array Nat} (h:i<b):Sort.insOuter ltU a b i d=Sort.insOuter ltU a b (i+1) (Sort.insInner ltU a i d):=by rw [Sort.insOuter,if_pos h]
theorem insOuter_end {a b i:Nat} {d:Array Nat} (h:¬i<b):Sort.insOuter ltU a b i d=d:=by rw [Sort.insOuter,if_neg h]
theorem insInner_step {a j:Nat} {d:Array Nat} (h:a<j+1) (hl:ltU d[j+1]! d[j]! = true):Sort.insInner ltU a (j+1) d=Sort.insInner ltU a j (Sort.swp d (j+1) j):=by
 rw [Sort.insInner,if_pos (by rw [hl];simpa using h)]
theorem insInner_le {a j:Nat} {d:Array Nat} (h:j≤a):Sort.insInner ltU a j d=d:=by
 cases j with
 | zero=>rfl
 | succ j=>rw [Sort.insInner,if_neg (by simp;omega)]
theorem insInner_not {a j:Nat} {d:Array Nat} (hl:ltU d[j+1]! d[j]! = false):Sort.insInner ltU a (j+1) d=d:=by rw [Sort.insInner,if_neg (by rw [hl];simp)]
set_option maxHeartbeats 8000000 in
theorem insertion_u64 (g n c a b:Nat) (d:Array Nat) (w:World) (h:SU w w g n c d) (hab:a≤b) (hb:b≤n) (hn:n<4611686018427387904) :
  Calls Tryz.prog 301 #[.slice (some ⟨g,0,none⟩) n c,.int .i64 (a:Int),.int .i64 (b:Int)] w fun e w'=>e = .returned (.tuple #[])∧SU w w' g n c (Sort.insertionSort ltU d a b):=by
 have HS:=Lib.hid h
 clear h
 go_enter Tryz.func301,Tryz.ntmps301
 go_wp2_with fail
 go_loopw [6] (fun iv wr=>∃(i:Nat) (x:Array Nat),a<i∧i≤b+1∧iv = .int .i64 (i:Int)∧Hid (SU w wr g n c x)∧Hid (Sort.insOuter ltU a b i x=Sort.insertionSort ltU d a b)) (fun iv _=>b+1-(intOf iv).toNat)
 case atStart=>exact ⟨a+1,d,by omega,by omega,by go_num,HS.out,rfl⟩
 case round=>
  obtain ⟨i,x,hai,hib,rfl,HX,HE⟩:=hrel
  clear HS
  by_cases hlt:i<b
  ·have hlt':(i:Int)<(b:Int):=by omega
   rw [insOuter_step hlt] at HE
   go_wp2_with fail
   go_loopw [7] (fun jv wr=>∃(j:Nat) (y:Array Nat),a≤j∧j≤i∧jv = .int .i64 (j:Int)∧Hid (SU w wr g n c y)∧Hid (Sort.insInner ltU a j y=Sort.insInner ltU a i x)) (fun jv _=>(intOf jv).toNat)
   case atStart=>exact ⟨i,x,by omega,Nat.le_refl _,rfl,HX.out,rfl⟩
   case round=>
    obtain ⟨j,y,haj,hji,rfl,HY,HI⟩:=hrel
    clear HX
    by_cases hja:a<j
    ·obtain ⟨j,rfl⟩:∃q,j=q+1:=⟨j-1,by omega⟩
     have hgt:(a:Int)<((j+1:Nat):Int):=by omega
     have hgd:decide (((j:Int)+1)>(a:Int))=true:=decide_eq_true (by omega)
     have hc1:=HY.out.cell (i:=j+1) (by omega)
     have hc0:=HY.out.cell (i:=j) (by omega)
     have hf1:=HY.out.free (j+1)
     have hf0:=HY.out.free j
     obtain ⟨p,hp⟩:∃p,y[j+1]! = p:=⟨_,rfl⟩
     obtain ⟨q,hq⟩:∃q,y[j]! = q:=⟨_,rfl⟩
     rw [hp] at hc1
     rw [hq] at hc0
     have HP:=Lib.hid hp;have HQ:=Lib.hid hq
     clear hp hq
     have hn1:((j+1:Nat):Int)<(n:Int):=by omega
     have hn0:(j:Int)<(n:Int):=by omega
     go_wp2_with fail
     go_quiet ((go_at_call 296;refine Calls.quiet_of_same (less_u64' _ _ _)))
     cases hlv:ltU p q with
     | true=>
      have HN:Hid (Sort.insInner ltU a j (Sort.swp y (j+1) j)=Sort.insInner ltU a i x):=by
       show _=_
       rw [← HI.out,insInner_step (by omega) (by rw [HP.out,HQ.out];exact hlv)]
      have HS2:=Lib.hid ((HY.out.drewN nq).swp (i:=j+1) (j:=j) (by omega) (by omega))
      rw [HP.out,HQ.out] at HS2
      have hd1:(wr.drewN nq).cell? ⟨g,j+1,none⟩=some (.int .u64 (p:Int)):=hc1
      have hd0:(wr.drewN nq).cell? ⟨g,j,none⟩=some (.int .u64 (q:Int)):=hc0
      have he1:(wr.drewN nq).frozen? ⟨g,j+1,none⟩=false:=hf1
      have he0:(wr.drewN nq).frozen? ⟨g,j,none⟩=false:=hf0
      have hjj:¬(j+1=j):=by omega
      generalize wr.drewN nq=wq at *
      clear hc1 hc0 hf1 hf0
      go_wp2_with fail
      go_big_region
      go_wp2_with fail
      go_round
      case rel=>exact ⟨j,_,by omega,by omega,rfl,HS2.out,HN.out⟩
      case measure=>simp [intOf]
     | false=>
      have HN:Hid (Sort.insOuter ltU a b (i+1) y=Sort.insertionSort ltU d a b):=by
       show _=_
       rw [← HE.out,← HI.out,insInner_not (by rw [HP.out,HQ.out];exact hlv)]
      have HX2:=Lib.hid (HY.out.drewN nq)
      generalize wr.drewN nq=wq at *
      go_wp2_with fail
      go_round
      case rel=>exact ⟨i+1,y,by omega,by omega,by go_num,HX2.out,HN.out⟩
      case measure=>simp [intOf];omega
    ·obtain rfl:j=a:=by omega
     have HN:Hid (Sort.insOuter ltU j b (i+1) y=Sort.insertionSort ltU d j b):=by
      show _=_
      rw [← HE.out,← HI.out,insInner_le (Nat.le_refl _)]
     go_wp2_with fail
     go_quiet ((go_at_call 296;refine Calls.quiet_of_same (less_u64' _ _ _)))
     have HX2:=Lib.hid (HY.out.drewN nq)
     generalize wr.drewN nq=wq at *
     go_wp2_with fail
     go_round
     case rel=>exact ⟨i+1,y,by omega,by omega,by go_num,HX2.out,HN.out⟩
     case measure=>simp [intOf];omega
  ·have hlt':¬(i:Int)<(b:Int):=by omega
   go_wp2_with fail
   go_end0
   refine ⟨rfl,?_⟩
   rw [← HE.out,insOuter_end hlt]
   exact HX.out
set_option maxHeartbeats 8000000 in
theorem reverse_range_u64 (g n c a b:Nat) (d:Array Nat) (w:World) (h:SU w w g n c d) (hab:a≤b) (hb:b≤n) (hn:n<4611686018427387904) :
  Calls Tryz.prog 305 #[.slice (some ⟨g,0,none⟩) n c,.int .i64 (a:Int),.int .i64 (b:Int)] w fun e w'=>e = .returned (.tuple #[])∧∃d',SU w w' g n c d'∧Sort.PermIn a b d d':=by
 have HS:=Lib.hid h
 clear h
 go_enter Tryz.func305,Tryz.ntmps305
 go_wp2_with fail
 go_loopw [6,7] (fun iv jv wr=>∃(i:Nat) (j:Int) (x:Array Nat),a≤i∧iv = .int .i64 (i:Int)∧jv = .int .i64 j∧j<(b:Int)∧-1≤j∧(i:Int)≤(b:Int)+1∧Hid (SU w wr g n c x)∧Hid (Sort.PermIn a b d x)) (fun _ jv _=>(intOf jv+1).toNat)
 case atStart=>exact ⟨a,(b:Int)-1,d,Nat.le_refl _,rfl,by go_num,by omega,by omega,by omega,HS.out,Sort.permIn_refl _ _ _⟩
 case round=>
  obtain ⟨i,j,x,hai,rfl,rfl,hjb,hj1,hib,HX,HP⟩:=hrel
  clear HS
  by_cases hlt:(i:Int)<j
  ·obtain ⟨j,rfl⟩:∃m:Nat,j=(m:Int):=⟨j.toNat,by omega⟩
   have hci:=HX.out.cell (i:=i) (by omega)
   have hcj:=HX.out.cell (i:=j) (by omega)
   have hfi:=HX.out.free i
   have hfj:=HX.out.free j
   have hin:(i:Int)<(n:Int):=by omega
   have hjn:(j:Int)<(n:Int):=by omega
   have HS2:=Lib.hid (HX.out.swp (i:=i) (j:=j) (by omega) (by omega))
   have HP2:Hid (Sort.PermIn a b d (Sort.swp x i j)):=Sort.permIn_trans _ _ _ _ _ HP.out (Sort.swp_permIn x a b i j hai (by omega) (by omega) (by omega) (by rw [HX.out.sz];exact hb))
   have hij:¬(i=j):=by omega
   generalize x[i]! = p at *
   generalize x[j]! = q at *
   go_wp2_with fail
   go_big_region
   go_wp2_with fail
   go_round
   case rel=>exact ⟨i+1,(j:Int)-1,_,by omega,by go_num,by go_num,by omega,by omega,by omega,HS2.out,HP2.out⟩
   case measure=>simp [intOf]<;>omega
  ·go_wp2_with fail
   go_end0
   exact ⟨rfl,x,HX.out,HP.out⟩
theorem siftDown_eq (hi first root:Nat) (d:Array Nat):Sort.siftDown ltU hi first root d=(if 2*root+1≥hi then d else
  if 2*root+1+1<hi&&ltU d[first+(2*root+1)]! d[first+(2*root+1)+1]! then
   if !ltU d[first+root]! d[first+(2*root+2)]! then d else Sort.siftDown ltU hi first (2*root+2) (Sort.swp d (first+root) (first+(2*root+2)))
  else
   if !ltU d[first+root]! d[first+(2*root+1)]! then d else Sort.siftDown ltU hi first (2*root+1) (Sort.swp d (first+root) (first+(2*root+1)))):=by
 rw [Sort.siftDown]
 by_cases h1:2*root+1≥hi
 ·rw [dif_pos h1,if_pos h1]
 ·rw [dif_neg h1,if_neg h1]
  by_cases h2:(decide (2*root+1+1<hi)&&ltU d[first+(2*root+1)]! d[first+(2*root+1)+1]!)=true
  ·have h3:2*root+2<hi:=by simp at h2;omega
   rw [if_pos h2,if_pos h2,dif_pos h3]
  ·rw [if_neg h2,if_neg h2]
set_option maxHeartbeats 8000000 in
theorem sift_down_u64 (g n c lo hi first:Nat) (d:Array Nat) (w:World) (h:SU w w g n c d) (hb:first+hi≤n) (hn:n<4611686018427387904) (hlo:lo≤n) :
  Calls Tryz.prog 310 #[.slice (some ⟨g,0,none⟩) n c,.int .i64 (lo:Int),.int .i64 (hi:Int),.int .i64 (first:Int)] w fun e w'=>e = .returned (.tuple #[])∧SU w w' g n c (Sort.siftDown ltU hi first lo d):=by
 have HS:=Lib.hid h
 clear h
 go_enter Tryz.func310,Tryz.ntmps310
 go_wp2_with fail
 go_loopw [8] (fun rv wr=>∃(r:Nat) (x:Array Nat),rv = .int .i64 (r:Int)∧r≤n∧Hid (SU w wr g n c x)∧Hid (Sort.siftDown ltU hi first r x=Sort.siftDown ltU hi first lo d)) (fun rv _=>n+1-(intOf rv).toNat)
 case atStart=>exact ⟨lo,d,rfl,hlo,HS.out,rfl⟩
 case round=>
  obtain ⟨r,x,rfl,hrn,HX,HE⟩:=hrel
  clear HS
  have hd:=siftDown_eq hi first r x
  have hri:(r:Int)≤4611686018427387904:=by omega
  by_cases h1:2*r+1≥hi
  ·rw [if_pos h1] at hd
   rw [hd] at HE
   have h1i:(hi:Int)≤2*(r:Int)+1:=by omega
   clear hd
   go_wp2_with fail
   go_end0
   refine ⟨rfl,?_⟩
   rw [← HE.out]
   exact HX.out
  ·rw [if_neg h1] at hd
   rw [hd] at HE
   have h1i:¬(hi:Int)≤2*(r:Int)+1:=by omega
   have h1k:2*(r:Int)+1<(hi:Int):=by omega
   clear hd
   by_cases h2:2*r+1+1<hi
   ·have hc1:=HX.out.cell (i:=first+(2*r+1)) (by omega)
    have hf1:=HX.out.free (first+(2*r+1))
    have hc2:=HX.out.cell (i:=first+(2*r+1)+1) (by omega)
    have hf2:=HX.out.free (first+(2*r+1)+1)
    have h2i:2*(r:Int)+1+1<(hi:Int):=by omega
    go_wp2_with fail
    go_quiet ((go_at_call 296;refine Calls.quiet_of_same (less_u64' _ _ _)))
    have HX2:=Lib.hid (HX.out.drewN nq)
    clear hc1 hf1 hc2 hf2
    cases hlv:ltU x[first+(2*r+1)]! x[first+(2*r+1)+1]! with
    | true=>
     rw [hlv,if_pos (by simpa using h2)] at HE
     generalize World.drewN _ nq=wr1 at *
     clear HX
     have hk0:=HX2.out.cell (i:=first+r) (by omega)
     have hk1:=HX2.out.cell (i:=first+(2*r+1+1)) (by omega)
     have hg0:=HX2.out.free (first+r)
     have hg1:=HX2.out.free (first+(2*r+1+1))
     have HS2:=Lib.hid ((HX2.out.drewN 0).here)
     go_wp2_with fail
     go_quiet ((go_at_call 296;refine Calls.quiet_of_same (less_u64' _ _ _)))
     have HX3:=Lib.hid (HX2.out.drewN nq)
     cases hlq:ltU x[first+r]! x[first+(2*r+1+1)]! with
     | false=>
      rw [hlq] at HE
      have HE2:Hid (x=Sort.siftDown ltU hi first lo d):=by
       have h:=HE.out
       show _=_
       simpa using h
      go_wp2_with fail
      refine bodyPost_ret (results_none rfl _ _ _) rfl ?_
      refine ⟨rfl,?_⟩
      rw [← HE2.out]
      exact HX3.out
     | true=>
      rw [hlq] at HE
      have HE2:Hid (Sort.siftDown ltU hi first (2*r+1+1) (Sort.swp x (first+r) (first+(2*r+1+1)))=Sort.siftDown ltU hi first lo d):=by
       have h:=HE.out
       show _=_
       simpa using h
      have HS3:=Lib.hid (HX3.out.swp (i:=first+r) (j:=first+(2*r+1+1)) (by omega) (by omega))
      have hl0:=HX3.out.cell (i:=first+r) (by omega)
      have hl1:=HX3.out.cell (i:=first+(2*r+1+1)) (by omega)
      have hm0:=HX3.out.free (first+r)
      have hm1:=HX3.out.free (first+(2*r+1+1))
      have hij:¬(first+r=first+(2*r+1+1)):=by omega
      clear hk0 hk1 hg0 hg1 HE
      generalize x[first+r]! = p at *
      generalize x[first+(2*r+1+1)]! = q at *
      generalize World.drewN _ nq=wq at *
      go_wp2_with fail
      go_big_region
      go_wp2_with fail
      go_round
      case rel=>exact ⟨2*r+1+1,_,by go_num,by omega,HS3.out,HE2.out⟩
      case measure=>simp [intOf]<;>omega
    | false=>
     rw [hlv,if_neg (by simp)] at HE
     generalize World.drewN _ nq=wr1 at *
     clear HX
     have hk0:=HX2.out.cell (i:=first+r) (by omega)
     have hk1:=HX2.out.cell (i:=first+(2*r+1)) (by omega)
     have hg0:=HX2.out.free (first+r)
     have hg1:=HX2.out.free (first+(2*r+1))
     have HS2:=Lib.hid ((HX2.out.drewN 0).here)
     go_wp2_with fail
     go_quiet ((go_at_call 296;refine Calls.quiet_of_same (less_u64' _ _ _)))
     have HX3:=Lib.hid (HX2.out.drewN nq)
     cases hlq:ltU x[first+r]! x[first+(2*r+1)]! with
     | false=>
      rw [hlq] at HE
      have HE2:Hid (x=Sort.siftDown ltU hi first lo d):=by
       have h:=HE.out
       show _=_
       simpa using h
      go_wp2_with fail
      refine bodyPost_ret (results_none rfl _ _ _) rfl ?_
      refine ⟨rfl,?_⟩
      rw [← HE2.out]
      exact HX3.out
     | true=>
      rw [hlq] at HE
      have HE2:Hid (Sort.siftDown ltU hi first (2*r+1) (Sort.swp x (first+r) (first+(2*r+1)))=Sort.siftDown ltU hi first lo d):=by
       have h:=HE.out
       show _=_
       simpa using h
      have HS3:=Lib.hid (HX3.out.swp (i:=first+r) (j:=first+(2*r+1)) (by omega) (by omega))
      have hl0:=HX3.out.cell (i:=first+r) (by omega)
      have hl1:=HX3.out.cell (i:=first+(2*r+1)) (by omega)
      have hm0:=HX3.out.free (first+r)
      have hm1:=HX3.out.free (first+(2*r+1))
      have hij:¬(first+r=first+(2*r+1)):=by omega
      clear hk0 hk1 hg0 hg1 HE
      generalize x[first+r]! = p at *
      generalize x[first+(2*r+1)]! = q at *
      generalize World.drewN _ nq=wq at *
      go_wp2_with fail
      go_big_region
      go_wp2_with fail
      go_round
      case rel=>exact ⟨2*r+1,_,by go_num,by omega,HS3.out,HE2.out⟩
      case measure=>simp [intOf]<;>omega
   ·have h2i:¬(2*(r:Int)+1+1<(hi:Int)):=by omega
    rw [if_neg (by simp;omega)] at HE
    have hgd:decide (2*(r:Int)+1+1<(hi:Int))=false:=decide_eq_false h2i
    go_wp2_with fail
    go_quiet ((go_at_call 296;refine Calls.quiet_of_same (less_u64' _ _ _)))
    have HX2:=Lib.hid (HX.out.drewN nq)
    generalize World.drewN _ nq=wr1 at *
    clear HX
    have hk0:=HX2.out.cell (i:=first+r) (by omega)
    have hk1:=HX2.out.cell (i:=first+(2*r+1)) (by omega)
    have hg0:=HX2.out.free (first+r)
    have hg1:=HX2.out.free (first+(2*r+1))
    have HS2:=Lib.hid ((HX2.out.drewN 0).here)
    go_wp2_with fail
    go_quiet ((go_at_call 296;refine Calls.quiet_of_same (less_u64' _ _ _)))
    have HX3:=Lib.hid (HX2.out.drewN nq)
    cases hlq:ltU x[first+r]! x[first+(2*r+1)]! with
    | false=>
     rw [hlq] at HE
     have HE2:Hid (x=Sort.siftDown ltU hi first lo d):=by
      have h:=HE.out
      show _=_
      simpa using h
     go_wp2_with fail
     refine bodyPost_ret (results_none rfl _ _ _) rfl ?_
     refine ⟨rfl,?_⟩
     rw [← HE2.out]
     exact HX3.out
    | true=>
     rw [hlq] at HE
     have HE2:Hid (Sort.siftDown ltU hi first (2*r+1) (Sort.swp x (first+r) (first+(2*r+1)))=Sort.siftDown ltU hi first lo d):=by
      have h:=HE.out
      show _=_
      simpa using h
     have HS3:=Lib.hid (HX3.out.swp (i:=first+r) (j:=first+(2*r+1)) (by omega) (by omega))
     have hl0:=HX3.out.cell (i:=first+r) (by omega)
     have hl1:=HX3.out.cell (i:=first+(2*r+1)) (by omega)
     have hm0:=HX3.out.free (first+r)
     have hm1:=HX3.out.free (first+(2*r+1))
     have hij:¬(first+r=first+(2*r+1)):=by omega
     clear hk0 hk1 hg0 hg1 HE
     generalize x[first+r]! = p at *
     generalize x[first+(2*r+1)]! = q at *
     generalize World.drewN _ nq=wq at *
     go_wp2_with fail
     go_big_region
     go_wp2_with fail
     go_round
     case rel=>exact ⟨2*r+1,_,by go_num,by omega,HS3.out,HE2.out⟩
     case measure=>simp [intOf]<;>omega
theorem heapBuild_step (hi first k:Nat) (d:Array Nat):Sort.heapBuild ltU hi first (k+1) d=Sort.heapBuild ltU hi first k (Sort.siftDown ltU hi first k d):=rfl
theorem heapPop_step (first k:Nat) (d:Array Nat):Sort.heapPop ltU first (k+1) d=Sort.heapPop ltU first k (Sort.siftDown ltU k first 0 (Sort.swp d first (first+k))):=rfl
set_option maxHeartbeats 8000000 in
theorem heap_sort_u64 (g n c a b:Nat) (d:Array Nat) (w:World) (h:SU w w g n c d) (hab:a<b) (hb:b≤n) (hn:n<4611686018427387904) :
  Calls Tryz.prog 302 #[.slice (some ⟨g,0,none⟩) n c,.int .i64 (a:Int),.int .i64 (b:Int)] w fun e w'=>e = .returned (.tuple #[])∧SU w w' g n c (Sort.heapSort ltU d a b):=by
 have HS:=Lib.hid h
 clear h
 obtain ⟨m,hm0⟩:∃m,b-a=m:=⟨_,rfl⟩
 have hm:0<m:=by omega
 have hsub:(b:Int)-(a:Int)=(m:Int):=by omega
 have hE:Sort.heapSort ltU d a b=Sort.heapPop ltU a m (Sort.heapBuild ltU m a ((m-1) / 2+1) d):=by
  rw [Sort.heapSort,hm0]
 rw [hE]
 have hbm:a+m≤n:=by omega
 clear hE hab hm0 hb
 obtain ⟨q,hq⟩:∃q,(m-1) / 2=q:=⟨_,rfl⟩
 have hdv:Hid (((m:Int)-1) / 2=(q:Int)):=by show _=_;omega
 have hql:q≤n:=by omega
 rw [hq]
 clear hq
 go_enter Tryz.func302,Tryz.ntmps302
 go_wp2_with fail
 go_loopw [9] (fun iv wr=>∃(k:Nat) (x:Array Nat),k≤n+1∧iv = .int .i64 ((k:Int)-1)∧Hid (SU w wr g n c x)∧Hid (Sort.heapBuild ltU m a k x=Sort.heapBuild ltU m a (q+1) d)) (fun iv _=>(intOf iv+1).toNat)
 case atStart=>exact ⟨q+1,d,by omega,by rw [hdv.out];go_num,HS.out,rfl⟩
 case round=>
  obtain ⟨k,x,hkn,rfl,HX,HE⟩:=hrel
  clear HS
  cases k with
  | succ k=>
   have hkv:((k+1:Nat):Int)-1=(k:Int):=by omega
   rw [hkv]
   clear hkv
   have hk0:(0:Int)≤(k:Int):=by omega
   rw [heapBuild_step] at HE
   have HC:=Lib.hid (sift_down_u64 g n c k m a x wr HX.out.here hbm hn (by omega))
   go_wp2_with fail
   refine HC.out.mono ?_
   rintro e w1 ⟨rfl,h1⟩
   have HX1:=Lib.hid (HX.out.trans h1)
   clear h1 HC HX
   go_wp2_with fail
   go_round
   case rel=>exact ⟨k,_,by omega,by go_num,HX1.out,HE.out⟩
   case measure=>simp [intOf]<;>omega
  | zero=>
   have HE2:x=Sort.heapBuild ltU m a (q+1) d:=HE.out
   have hkv:((0:Nat):Int)-1 = -1:=by omega
   rw [hkv]
   clear HE hkv
   go_wp2_with fail
   go_loopw [10] (fun iv wr=>∃(k:Nat) (z:Array Nat),k≤m∧iv = .int .i64 ((k:Int)-1)∧Hid (SU w wr g n c z)∧Hid (Sort.heapPop ltU a k z=Sort.heapPop ltU a m x)) (fun iv _=>(intOf iv+1).toNat)
   case atStart=>exact ⟨m,x,Nat.le_refl _,rfl,HX.out,rfl⟩
   case round=>
    obtain ⟨k,z,hkm,rfl,HZ,HE⟩:=hrel
    clear HX
    rcases k with _ | _ | k
    ·have hkv:((0:Nat):Int)-1 = -1:=by omega
     rw [hkv]
     clear hkv
     go_wp2_with fail
     go_end0
     refine ⟨rfl,?_⟩
     rw [← HE2,← HE.out]
     exact HZ.out
    ·have hkv:((0+1:Nat):Int)-1=0:=by omega
     rw [hkv]
     clear hkv
     rw [heapPop_step,Nat.add_zero] at HE
     have hci:=HZ.out.cell (i:=a) (by omega)
     have hfi:=HZ.out.free a
     have han:(a:Int)<(n:Int):=by omega
     have hakn:(a:Int)+(0:Int)<(n:Int):=by omega
     have HS2:=Lib.hid (HZ.out.swp (i:=a) (j:=a) (by omega) (by omega))
     generalize Sort.swp z a (a)=z2 at *
     generalize z[a]! = p at *
     go_wp2_with fail
     go_big_region
     generalize World.drew _=w2 at *
     have HC:=Lib.hid (sift_down_u64 g n c 0 0 a z2 w2 HS2.out.here (by omega) hn (by omega))
     go_wp2_with fail
     refine HC.out.mono ?_
     rintro e w3 ⟨rfl,h3⟩
     have HX3:=Lib.hid (HS2.out.trans h3)
     clear h3 HC HS2
     go_wp2_with fail
     go_round
     case rel=>exact ⟨0,_,by omega,by go_num,HX3.out,HE.out⟩
     case measure=>simp [intOf]<;>omega
    ·have hkv:((k+1+1:Nat):Int)-1=((k+1:Nat):Int):=by omega
     rw [hkv]
     clear hkv
     rw [heapPop_step] at HE
     obtain ⟨k',hk'⟩:∃k',k+1=k':=⟨_,rfl⟩
     rw [hk'] at HE ⊢
     have hk0:(0:Int)≤(k':Int):=by omega
     have hk1:0<k':=by omega
     have hkm:k'+1≤m:=by omega
     clear hk'
     have hci:=HZ.out.cell (i:=a) (by omega)
     have hfi:=HZ.out.free a
     have hcj:=HZ.out.cell (i:=a+k') (by omega)
     have hfj:=HZ.out.free (a+k')
     have hij:¬(a=a+k'):=by omega
     have han:(a:Int)<(n:Int):=by omega
     have hakn:(a:Int)+(k':Int)<(n:Int):=by omega
     have HS2:=Lib.hid (HZ.out.swp (i:=a) (j:=a+k') (by omega) (by omega))
     generalize Sort.swp z a (a+k')=z2 at *
     generalize z[a]! = p at *
     generalize z[a+k']! = r at *
     go_wp2_with fail
     go_big_region
     generalize World.drew _=w2 at *
     have HC:=Lib.hid (sift_down_u64 g n c 0 k' a z2 w2 HS2.out.here (by omega) hn (by omega))
     go_wp2_with fail
     refine HC.out.mono ?_
     rintro e w3 ⟨rfl,h3⟩
     have HX3:=Lib.hid (HS2.out.trans h3)
     clear h3 HC HS2
     go_wp2_with fail
     go_round
     case rel=>exact ⟨k',_,by omega,by go_num,HX3.out,HE.out⟩
     case measure=>simp [intOf]<;>omega
structure PV (w:World) (g n c q:Nat) (d:Array Nat) (s:Nat):Prop where
 su:SU w w g n c d
 ne:q≠g
 box:Blk w q [.int .i64 (s:Int)]
theorem PV.mods {w w':World} {g n c q:Nat} {d:Array Nat} {s t:Nat} (h:PV w g n c q d s) (m:Mods (fun k=>k=q) w w') (hb:Blk w' q [.int .i64 (t:Int)]):PV w' g n c q d t:=
 ⟨⟨h.su.sz,m.owns h.su.row (fun k hk e=>h.ne (by simp [Value.ownBlock] at hk;omega)),Mods.refl _ _⟩,h.ne,hb⟩
structure PVd (w w':World) (g n c q:Nat) (d:Array Nat) (s m:Nat):Prop where
 mods:Mods (fun k=>k=q) w w'
 pv:∃t,t≤s+m∧PV w' g n c q d t
set_option maxHeartbeats 4000000 in
theorem order2_u64 (g n c q a b s:Nat) (d:Array Nat) (w:World) (h:PV w g n c q d s) (ha:a<n) (hb:b<n) (hn:n<4611686018427387904) (hs:s≤1000) :
  Calls Tryz.prog 313 #[.slice (some ⟨g,0,none⟩) n c,.int .i64 (a:Int),.int .i64 (b:Int),.pointer (some ⟨q,0,none⟩)] w fun e w'=>
   ∃x y:Nat,e = .returned (.tuple #[.int .i64 (x:Int),.int .i64 (y:Int)])∧((x=a∧y=b)∨(x=b∧y=a))∧PVd w w' g n c q d s 1:=by
 have HP:=Lib.hid h
 have hca:=h.su.cell ha
 have hcb:=h.su.cell hb
 have hcq:w.cell? ⟨q,0,none⟩=some (.int .i64 (s:Int)):=h.box.cell 0
 have hfq:=h.box.free 0
 have hai:(a:Int)<(n:Int):=by omega
 have hbi:(b:Int)<(n:Int):=by omega
 clear h
 generalize d[a]! = p at *
 generalize d[b]! = r at *
 go_enter Tryz.func313,Tryz.ntmps313
 go_wp2_with fail
 go_quiet ((go_at_call 296;refine Calls.quiet_of_same (less_u64' _ _ _)))
 have hm:Mods (fun k=>k=q) w (w.drewN nq):=Mods.drewN _ _ _
 have HM:=Lib.hid hm
 have HB:Hid (Blk (w.drewN nq) q [.int .i64 (s:Int)]):=HP.out.box
 have hcq:(w.drewN nq).cell? ⟨q,0,none⟩=some (.int .i64 (s:Int)):=hcq
 have hfq:(w.drewN nq).frozen? ⟨q,0,none⟩=false:=hfq
 clear hm hca hcb
 generalize w.drewN nq=w1 at *
 cases hl:ltU r p with
 | true=>
  go_wp2_with fail
  go_ret2
  refine ⟨b,a,rfl,Or.inr ⟨rfl,rfl⟩,?_⟩
  have m2:Mods (fun k=>k=q) w1 (w1.setCell ⟨q,0,none⟩ (.int .i64 ((s:Int)+1))):=Mods.set _ _ _ _ (fun _=>rfl)
  have hb2:Blk (w1.setCell ⟨q,0,none⟩ (.int .i64 ((s:Int)+1))) q [.int .i64 ((s+1:Nat):Int)]:=HB.out.set 0 _
  have m3:=HM.out.trans m2 (fun _ _ e=>e)
  exact ⟨m3,s+1,Nat.le_refl _,HP.out.mods m3 hb2⟩
 | false=>
  go_wp2_with fail
  go_ret2
  exact ⟨a,b,rfl,Or.inl ⟨rfl,rfl⟩,HM.out,s,by omega,HP.out.mods HM.out HB.out⟩
set_option maxHeartbeats 4000000 in
theorem median_u64 (g n c q a b k s:Nat) (d:Array Nat) (w:World) (h:PV w g n c q d s) (ha:a<n) (hb:b<n) (hk:k<n) (hn:n<4611686018427387904) (hs:s≤900) :
  Calls Tryz.prog 312 #[.slice (some ⟨g,0,none⟩) n c,.int .i64 (a:Int),.int .i64 (b:Int),.int .i64 (k:Int),.pointer (some ⟨q,0,none⟩)] w fun e w'=>
   ∃x:Nat,e = .returned (.int .i64 (x:Int))∧(x=a∨x=b∨x=k)∧PVd w w' g n c q d s 3:=by
 have HP:=Lib.hid h
 clear h
 go_enter Tryz.func312,Tryz.ntmps312
 go_wp2_with fail
 refine (order2_u64 g n c q a b s d w HP.out ha hb hn (by omega)).mono ?_
 rintro e w1 ⟨x1,y1,rfl,hxy,h1⟩
 obtain ⟨hm1,t1,ht1,hp1⟩:=h1
 have HM1:=Lib.hid hm1;have HP1:=Lib.hid hp1;have HX1:=Lib.hid hxy
 have hx1:x1<n:=by omega
 have hy1:y1<n:=by omega
 clear hm1 hp1 hxy
 go_wp2_with fail
 refine (order2_u64 g n c q y1 k t1 d w1 HP1.out hy1 hk hn (by omega)).mono ?_
 rintro e w2 ⟨x2,y2,rfl,hxy,h2⟩
 obtain ⟨hm2,t2,ht2,hp2⟩:=h2
 have HM2:=Lib.hid (HM1.out.trans hm2 (fun _ _ e=>e));have HP2:=Lib.hid hp2;have HX2:=Lib.hid hxy
 have hx2:x2<n:=by omega
 clear hm2 hp2 hxy
 go_wp2_with fail
 refine (order2_u64 g n c q x1 x2 t2 d w2 HP2.out hx1 hx2 hn (by omega)).mono ?_
 rintro e w3 ⟨x3,y3,rfl,hxy,h3⟩
 obtain ⟨hm3,t3,ht3,hp3⟩:=h3
 have HM3:=Lib.hid (HM2.out.trans hm3 (fun _ _ e=>e));have HP3:=Lib.hid hp3;have HX3:=Lib.hid hxy
 clear hm3 hp3 hxy
 go_wp2_with fail
 go_ret
 refine ⟨y3,rfl,?_,HM3.out,t3,by omega,HP3.out⟩
 have:=HX1.out;have:=HX2.out;have:=HX3.out
 omega
set_option maxHeartbeats 4000000 in
theorem median_adjacent_u64 (g n c q a s:Nat) (d:Array Nat) (w:World) (h:PV w g n c q d s) (ha:a+1<n) (h0:0<a) (hn:n<4611686018427387904) (hs:s≤900) :
  Calls Tryz.prog 311 #[.slice (some ⟨g,0,none⟩) n c,.int .i64 (a:Int),.pointer (some ⟨q,0,none⟩)] w fun e w'=>
   ∃x:Nat,e = .returned (.int .i64 (x:Int))∧(a≤x+1∧x≤a+1)∧PVd w w' g n c q d s 3:=by
 have HP:=Lib.hid h
 clear h
 obtain ⟨z,rfl⟩:∃z,a=z+1:=⟨a-1,by omega⟩
 have HC:=Lib.hid (median_u64 g n c q z (z+1) (z+1+1) s d w HP.out (by omega) (by omega) (by omega) hn hs)
 go_enter Tryz.func311,Tryz.ntmps311
 go_wp2_with fail
 refine HC.out.mono ?_
 rintro e w1 ⟨x,rfl,hx,hp⟩
 have HP1:=Lib.hid hp;have HX:=Lib.hid hx
 clear hp hx
 go_wp2_with fail
 go_ret
 exact ⟨x,rfl,by have:=HX.out;omega,HP1.out⟩
set_option maxHeartbeats 8000000 in
theorem choose_pivot_u64 (g n c a b:Nat) (d:Array Nat) (w:World) (h:SU w w g n c d) (hab:a+12<b) (hb:b≤n) (hn:n<4611686018427387904) (hg:g<w.heap.size) :
  Calls Tryz.prog 304 #[.slice (some ⟨g,0,none⟩) n c,.int .i64 (a:Int),.int .i64 (b:Int)] w fun e w'=>
   ∃(x:Nat) (t:Int),e = .returned (.tuple #[.int .i64 (x:Int),.int .i64 t])∧(a≤x∧x<b)∧SU w w' g n c d:=by
 have HS:=Lib.hid h
 clear h
 obtain ⟨m,hm0⟩:∃m,b-a=m:=⟨_,rfl⟩
 have hsub:(b:Int)-(a:Int)=(m:Int):=by omega
 obtain ⟨t,ht⟩:∃t,m / 4=t:=⟨_,rfl⟩
 have hdv:(m:Int) / 4=(t:Int):=by omega
 have h12:(8:Int)≤(m:Int):=by omega
 have HI:Hid (12<m∧a+m≤n∧b=a+m∧4*t≤m∧m<4*t+4):=by show _∧_∧_∧_∧_;omega
 have hmn:(m:Int)≤4611686018427387904:=by omega
 have han:(a:Int)≤4611686018427387904:=by omega
 have htn:(t:Int)≤4611686018427387904:=by omega
 clear hm0 ht hab
 go_enter Tryz.func304,Tryz.ntmps304
 have hw1:∃w1,(w.alloc (.cells #[.int .i64 0] 3))=w1:=⟨_,rfl⟩
 have hbl:Below w.heap.size w (w.alloc (.cells #[.int .i64 0] 3)):=(Below.refl _ _).alloc (Nat.le_refl _) _
 have HM1':Mods (fun k=>k=g) w (w.alloc (.cells #[.int .i64 0] 3)):=Mods.of_below hbl _
 have HP0':PV (w.alloc (.cells #[.int .i64 0] 3)) g n c w.heap.size d 0:=⟨⟨HS.out.sz,(Mods.of_below hbl (fun _=>False)).owns HS.out.row (fun _ _ e=>e),Mods.refl _ _⟩,by omega,Blk.new _ _ _⟩
 by_cases h50:50≤m
 ·have h50i:(50:Int)≤(m:Int):=by omega
  clear h12
  have h12:(8:Int)≤(m:Int):=by omega
  go_wp2_with fail
  have HM1:=Lib.hid HM1';have HP0:=Lib.hid HP0'
  clear HM1' HP0' hbl hw1
  generalize (w.alloc (.cells #[.int .i64 0] 3))=w1 at *
  refine (median_adjacent_u64 g n c w.heap.size (a+t) 0 d w1 HP0.out (by have:=HI.out;omega) (by have:=HI.out;omega) hn (by omega)).mono ?_
  rintro e w2 ⟨x1,rfl,hx,hp⟩
  obtain ⟨hm,t1,ht1,hp1⟩:=hp
  have HPa:=Lib.hid hp1;have HMa:=Lib.hid hm;have hx1:=hx
  clear hm hp1 hx
  go_wp2_with fail
  refine (median_adjacent_u64 g n c w.heap.size (a+t*2) t1 d w2 HPa.out (by have:=HI.out;omega) (by have:=HI.out;omega) hn (by omega)).mono ?_
  rintro e w3 ⟨x2,rfl,hx,hp⟩
  obtain ⟨hm,t2,ht2,hp1⟩:=hp
  have HPb:=Lib.hid hp1;have HMb:=Lib.hid (HMa.out.trans hm (fun _ _ e=>e));have hx2:=hx
  clear hm hp1 hx
  go_wp2_with fail
  refine (median_adjacent_u64 g n c w.heap.size (a+t*3) t2 d w3 HPb.out (by have:=HI.out;omega) (by have:=HI.out;omega) hn (by omega)).mono ?_
  rintro e w4 ⟨x3,rfl,hx,hp⟩
  obtain ⟨hm,t3,ht3,hp1⟩:=hp
  have HPc:=Lib.hid hp1;have HMc:=Lib.hid (HMb.out.trans hm (fun _ _ e=>e));have hx3:=hx
  clear hm hp1 hx
  go_wp2_with fail
  refine (median_u64 g n c w.heap.size x1 x2 x3 t3 d w4 HPc.out (by have:=HI.out;omega) (by have:=HI.out;omega) (by have:=HI.out;omega) hn (by omega)).mono ?_
  rintro e wf ⟨x,rfl,hx,hp⟩
  obtain ⟨hm2,tf,htf,hp2⟩:=hp
  have HX:Hid (a≤x∧x<b):=by show _∧_;have:=HI.out;omega
  have HM2:Hid (Mods (fun k=>k=w.heap.size) w1 wf):=HMc.out.trans hm2 (fun _ _ e=>e)
  have HPf:=Lib.hid hp2
  have hcf:wf.cell? ⟨w.heap.size,0,none⟩=some (.int .i64 (tf:Int)):=HPf.out.box.cell 0
  have HF:Hid (SU w wf g n c d):=⟨HS.out.sz,HPf.out.su.row,HM1.out.trans HM2.out (fun k hk e=>absurd hk (by subst e;exact Nat.lt_irrefl _))⟩
  clear hm2 hp2 hx
  by_cases h0:tf=0
  ·subst h0
   go_wp2_with fail
   go_ret2
   exact ⟨x,_,rfl,HX.out,HF.out⟩
  ·have h0i:¬(tf:Int)=0:=by omega
   by_cases h1:tf=12
   ·subst h1
    go_wp2_with fail
    go_ret2
    exact ⟨x,_,rfl,HX.out,HF.out⟩
   ·have h1i:¬(tf:Int)=12:=by omega
    go_wp2_with fail
    go_ret2
    exact ⟨x,_,rfl,HX.out,HF.out⟩
 ·have h50i:¬(50:Int)≤(m:Int):=by omega
  have HM1:=Lib.hid HM1';have HP0:=Lib.hid HP0'
  clear HM1' HP0' hbl
  clear hw1
  go_wp2_with fail
  generalize (w.alloc (.cells #[.int .i64 0] 3))=w1 at *
  refine (median_u64 g n c w.heap.size (a+t) (a+t*2) (a+t*3) 0 d w1 HP0.out (by have:=HI.out;omega) (by have:=HI.out;omega) (by have:=HI.out;omega) hn (by omega)).mono ?_
  rintro e wf ⟨x,rfl,hx,hp⟩
  obtain ⟨hm2,tf,htf,hp2⟩:=hp
  have HX:Hid (a≤x∧x<b):=by show _∧_;have:=HI.out;omega
  have HM2:Hid (Mods (fun k=>k=w.heap.size) w1 wf):=hm2
  have HPf:=Lib.hid hp2
  have hcf:wf.cell? ⟨w.heap.size,0,none⟩=some (.int .i64 (tf:Int)):=HPf.out.box.cell 0
  have HF:Hid (SU w wf g n c d):=⟨HS.out.sz,HPf.out.su.row,HM1.out.trans HM2.out (fun k hk e=>absurd hk (by subst e;exact Nat.lt_irrefl _))⟩
  clear hm2 hp2 hx
  by_cases h0:tf=0
  ·subst h0
   go_wp2_with fail
   go_ret2
   exact ⟨x,_,rfl,HX.out,HF.out⟩
  ·have h0i:¬(tf:Int)=0:=by omega
   by_cases h1:tf=12
   ·subst h1
    go_wp2_with fail
    go_ret2
    exact ⟨x,_,rfl,HX.out,HF.out⟩
   ·have h1i:¬(tf:Int)=12:=by omega
    go_wp2_with fail
    go_ret2
    exact ⟨x,_,rfl,HX.out,HF.out⟩
end Go.Proofs.YtdcgbgecbeegmaaGreatDoor
end
section
namespace Go.Proofs.YtdcgbgecbeegmaaGreatDoor
open Go
def renN:Go.Shelf.Ren:=⟨fun | 125=>122 | 128=>168 | 129=>169 | n=>n,fun | 3=>3 | 4=>4 | 5=>5 | 9=>9 | 46=>177 | 51=>139 | 53=>81 | n=>n,fun n=>n⟩
theorem laysN:Go.Proofs.Lays.n125 Tryz.prog renN:={ mixed:=by kernel_rfl,f125:=Tryz.func122.trans (congrArg some (by kernel_rfl)),f128:=Tryz.func168.trans (congrArg some (by kernel_rfl)),f129:=Tryz.func169.trans (congrArg some (by kernel_rfl)),t3:=Tryz.underlying3,a3:=Tryz.isAgg3,z3:=Tryz.sizeOf3,v3:=Tryz.zeroValue3,t4:=Tryz.underlying4,a4:=Tryz.isAgg4,z4:=Tryz.sizeOf4,v4:=Tryz.zeroValue4,t5:=Tryz.underlying5,a5:=Tryz.isAgg5,z5:=Tryz.sizeOf5,v5:=Tryz.zeroValue5,t9:=Tryz.underlying9,a9:=Tryz.isAgg9,z9:=Tryz.sizeOf9,v9:=Tryz.zeroValue9,t46:=Tryz.underlying177,a46:=Tryz.isAgg177,z46:=Tryz.sizeOf177,v46:=Tryz.zeroValue177,t51:=Tryz.underlying139,a51:=Tryz.isAgg139,z51:=Tryz.sizeOf139,v51:=Tryz.zeroValue139,t53:=Tryz.underlying81,a53:=Tryz.isAgg81,z53:=Tryz.sizeOf81,v53:=Tryz.zeroValue81 }
theorem bits_len (x:Nat) (hx:x<18446744073709551616) (w:World):Calls Tryz.prog 122 #[.int .u64 (x:Int)] w fun e w'=>e = .returned (.int .i64 (Lib.bitLen x:Nat))∧w'=w:=
 (Any.bits_Len laysN (x:Int) w (by omega) (by omega)).mono fun e w' h=>by
  rw [Int.toNat_natCast] at h
  exact h
end Go.Proofs.YtdcgbgecbeegmaaGreatDoor
end
section
set_option maxRecDepth 20000
namespace Go.Proofs.YtdcgbgecbeegmaaGreatDoor
open Go Go.RowKit
theorem bits_u64_nat (op:BinOp) (x y:Int):∃t:Nat,bits op .u64 x y=(t:Int)∧t<18446744073709551616:=by
 unfold bits
 simp only [IntKind.wrap_u64]
 generalize ((match op with
  | .and=>BitVec.ofInt IntKind.u64.bits x &&& BitVec.ofInt IntKind.u64.bits y
  | .or=>BitVec.ofInt IntKind.u64.bits x ||| BitVec.ofInt IntKind.u64.bits y
  | .xor=>BitVec.ofInt IntKind.u64.bits x ^^^ BitVec.ofInt IntKind.u64.bits y
  | _=>BitVec.ofInt IntKind.u64.bits x &&& ~~~BitVec.ofInt IntKind.u64.bits y:BitVec IntKind.u64.bits)).toNat=z
 exact ⟨z % 18446744073709551616,by omega,Nat.mod_lt _ (by decide)⟩
theorem bitLen_pow (n:Nat) (h0:0<n) (hn:n<4611686018427387904):n<2 ^ Lib.bitLen n∧2 ^ Lib.bitLen n≤2*n∧Lib.bitLen n<64:=by
 have h1:2 ^ n.log2≤n:=Nat.log2_self_le (by omega)
 have h2:n<2 ^ (n.log2+1):=Nat.lt_log2_self
 have hb:Lib.bitLen n=n.log2+1:=by
  rw [Lib.bitLen_shift n.log2 n h1 (by omega)]
  have e:n / 2 ^ n.log2=1:=by
   have hp:=Nat.two_pow_pos n.log2
   rw [Nat.pow_succ] at h2
   exact Nat.div_eq_of_lt_le (by omega) (by omega)
  rw [e];rfl
 have h3:Lib.bitLen n≤62:=Lib.bitLen_le n 62 (by omega) (by omega)
 rw [hb] at h3 ⊢
 refine ⟨h2,?_,by omega⟩
 rw [Nat.pow_succ];omega
set_option maxHeartbeats 4000000 in
theorem next_pow (n:Nat) (h0:0<n) (hn:n<4611686018427387904) (w:World):Calls Tryz.prog 218 #[.int .i64 (n:Int)] w fun e w'=>e = .returned (.int .u64 (IntKind.u64.wrap (2 ^ Lib.bitLen n)))∧w'=w:=by
 go_enter Tryz.func218,Tryz.ntmps218
 go_wp2_with fail
 refine (bits_len n (by omega) w).mono ?_
 rintro e w1 ⟨rfl,rfl⟩
 have hm:min (Lib.bitLen n) 64=Lib.bitLen n:=by have:=(bitLen_pow n h0 hn).2.2;omega
 go_wp2_with fail
 go_ret
 exact ⟨rfl,rfl⟩
set_option maxHeartbeats 4000000 in
theorem xor_next (q r:Nat) (w:World) (hb:Blk w q [.int .u64 (r:Int)]):Calls Tryz.prog 219 #[.pointer (some ⟨q,0,none⟩)] w fun e w'=>∃t:Nat,e = .returned (.int .u64 (t:Int))∧t<18446744073709551616∧Blk w' q [.int .u64 (t:Int)]∧Mods (fun k=>k=q) w w':=by
 have HB:=Lib.hid hb
 have hc:w.cell? ⟨q,0,none⟩=some (.int .u64 (r:Int)):=hb.cell 0
 have hf:=hb.free 0
 have HM:Hid (Mods (fun k=>k=q) w w):=Mods.refl _ _
 have step:∀(w0:World) (x:Int) (t:Nat),Blk w0 q [.int .u64 x]→Mods (fun k=>k=q) w w0→Blk ((w0.setCell ⟨q,0,none⟩ (.int .u64 (t:Int))).drew) q [.int .u64 (t:Int)]∧Mods (fun k=>k=q) w ((w0.setCell ⟨q,0,none⟩ (.int .u64 (t:Int))).drew):=fun w0 x t h m=>
  ⟨((h.set 0 (.int .u64 (t:Int)))).drew,(m.trans (Mods.set (fun k=>k=q) w0 ⟨q,0,none⟩ (.int .u64 (t:Int)) (fun _=>rfl)) (fun _ _ e=>e)).trans (Mods.drew _ _) (fun _ _ e=>e)⟩
 have HSt:=Lib.hid step
 clear hb step
 go_enter Tryz.func219,Tryz.ntmps219
 go_wp2_with fail
 go_big_region
 obtain ⟨t1,ht1,hlt1⟩:=bits_u64_nat .xor ((r:Nat):Int) (IntKind.u64.wrap (↑r*8192))
 rw [ht1]
 obtain ⟨HB',HM'⟩:=HSt.out w _ t1 HB.out HM.out
 clear HB HM hc hf ht1
 have HB:=Lib.hid HB';have HM:=Lib.hid HM'
 clear HB' HM'
 generalize (w.setCell ⟨q,0,none⟩ (.int .u64 (t1:Int))).drew=w1 at *
 have hc:w1.cell? ⟨q,0,none⟩=some (.int .u64 (t1:Int)):=HB.out.cell 0
 have hf:=HB.out.free 0
 go_wp2_with fail
 go_big_region
 obtain ⟨t2,ht2,hlt2⟩:=bits_u64_nat .xor ((t1:Nat):Int) (↑t1 / 128)
 rw [ht2]
 obtain ⟨HB',HM'⟩:=HSt.out w1 _ t2 HB.out HM.out
 clear HB HM hc hf ht2
 have HB:=Lib.hid HB';have HM:=Lib.hid HM'
 clear HB' HM'
 generalize (w1.setCell ⟨q,0,none⟩ (.int .u64 (t2:Int))).drew=w2 at *
 have hc:w2.cell? ⟨q,0,none⟩=some (.int .u64 (t2:Int)):=HB.out.cell 0
 have hf:=HB.out.free 0
 go_wp2_with fail
 go_big_region
 obtain ⟨t3,ht3,hlt3⟩:=bits_u64_nat .xor ((t2:Nat):Int) (IntKind.u64.wrap (↑t2*131072))
 rw [ht3]
 obtain ⟨HB',HM'⟩:=HSt.out w2 _ t3 HB.out HM.out
 clear HB HM hc hf ht3
 have HB:=Lib.hid HB';have HM:=Lib.hid HM'
 clear HB' HM'
 generalize (w2.setCell ⟨q,0,none⟩ (.int .u64 (t3:Int))).drew=w3 at *
 have hc:w3.cell? ⟨q,0,none⟩=some (.int .u64 (t3:Int)):=HB.out.cell 0
 have hf:=HB.out.free 0
 go_wp2_with fail
 go_ret
 exact ⟨t3,rfl,hlt3,HB.out,HM.out⟩
end Go.Proofs.YtdcgbgecbeegmaaGreatDoor
end
