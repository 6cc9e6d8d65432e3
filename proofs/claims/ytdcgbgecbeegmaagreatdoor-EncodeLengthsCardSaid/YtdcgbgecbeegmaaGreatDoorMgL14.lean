/- Texts 14. -/
import Derived.Test.YtdcgbgecbeegmaaGreatDoorMgL13
import Derived.Test.YtdcgbgecbeegmaaGreatDoorMgL1
import Derived.Maps.RangeWalk
set_option linter.unusedVariables false
set_option linter.unusedSimpArgs false
section
set_option maxRecDepth 20000
namespace Go.Proofs.YtdcgbgecbeegmaaGreatDoor
open Go Go.RowKit
structure PInv (w wr:World) (g n c a b:Nat) (d x:Array Nat) (i j p:Nat):Prop where
 su:SU w wr g n c x
 perm:Sort.PermIn a b d x
 hp:x[a]! = p
 lo:∀k,a<k→k<i→x[k]! < p
 hi:∀k,j<k→k<b→p≤x[k]!
 b1:a<i
 b2:j<b
 b3:i≤j+1
section
variable {w wr wz:World} {g n c a b:Nat} {d x:Array Nat} {i j p q:Nat}
theorem PInv.drewN (h:PInv w wr g n c a b d x i j p) (m:Nat):PInv w (wr.drewN m) g n c a b d x i j p:=⟨h.su.drewN m,h.perm,h.hp,h.lo,h.hi,h.b1,h.b2,h.b3⟩
theorem PInv.up (h:PInv w wr g n c a b d x i j p) (hij:i≤j) (hl:ltU x[i]! p=true):PInv w wr g n c a b d x (i+1) j p:=
 ⟨h.su,h.perm,h.hp,fun k h1 h2=>by
  by_cases e:k=i
  ·subst e;simpa [ltU] using hl
  ·exact h.lo k h1 (by omega),h.hi,by have:=h.b1;omega,h.b2,by omega⟩
theorem PInv.down (h:PInv w wr g n c a b d x i (j+1) p) (hij:i≤j+1) (hl:ltU x[j+1]! p=false):PInv w wr g n c a b d x i j p:=
 ⟨h.su,h.perm,h.hp,h.lo,fun k h1 h2=>by
  by_cases e:k=j+1
  ·subst e;simpa [ltU] using hl
  ·exact h.hi k (by omega) h2,h.b1,by have:=h.b2;omega,hij⟩
theorem PInv.swap (h:PInv w wr g n c a b d x i (j+1) p) (hb:b≤n) (hij:i≤j+1) (hi:ltU x[i]! p=false) (hj:ltU x[j+1]! p=true) (hs:SU w wz g n c (Sort.swp x i (j+1))):i≤j∧PInv w wz g n c a b d (Sort.swp x i (j+1)) (i+1) j p:=by
 have hne:i≠j+1:=fun e=>by subst e;rw [hi] at hj;cases hj
 have hsz:=h.su.sz
 have h1:=h.b1;have h2:=h.b2
 have ei:(Sort.swp x i (j+1))[i]! = x[j+1]!:=Sort.swp_left x i (j+1) (by omega) hne
 have ej:(Sort.swp x i (j+1))[j+1]! = x[i]!:=Sort.swp_right x i (j+1) (by omega)
 have eo:∀k,k≠i→k≠j+1→(Sort.swp x i (j+1))[k]! = x[k]!:=fun k e1 e2=>Sort.swp_other x i (j+1) k e1 e2
 refine ⟨by omega,hs,Sort.permIn_trans _ _ _ _ _ h.perm (Sort.swp_permIn x a b i (j+1) (by omega) (by omega) (by omega) h2 (by omega)),?_,?_,?_,by omega,by omega,by omega⟩
 ·rw [eo a (by omega) (by omega)];exact h.hp
 ·intro k k1 k2
  by_cases e:k=i
  ·subst e;rw [ei];simpa [ltU] using hj
  ·rw [eo k e (by omega)];exact h.lo k k1 (by omega)
 ·intro k k1 k2
  by_cases e:k=j+1
  ·subst e;rw [ej];simpa [ltU] using hi
  ·rw [eo k (by omega) e];exact h.hi k (by omega) k2
structure Parted (w wr:World) (g n c a b:Nat) (d x:Array Nat) (m:Nat):Prop where
 su:SU w wr g n c x
 perm:Sort.PermIn a b d x
 b1:a≤m
 b2:m<b
 lo:∀k,a≤k→k<m→ltU x[k]! x[m]! = true
 hi:∀k,m<k→k<b→ltU x[k]! x[m]! = false
theorem PInv.parted (h:PInv w wr g n c a b d x i j p) (hb:b≤n) (hij:j<i) (hs:SU w wz g n c (Sort.swp x j a)):Parted w wz g n c a b d (Sort.swp x j a) j:=by
 have hsz:=h.su.sz
 have h1:=h.b1;have h2:=h.b2;have h3:=h.b3
 have ea:(Sort.swp x j a)[a]! = x[j]!:=Sort.swp_right x j a (by omega)
 have ej:(Sort.swp x j a)[j]! = p:=by
  by_cases e:j=a
  ·subst e;rw [ea];exact h.hp
  ·rw [Sort.swp_left x j a (by omega) e];exact h.hp
 have eo:∀k,k≠j→k≠a→(Sort.swp x j a)[k]! = x[k]!:=fun k e1 e2=>Sort.swp_other x j a k e1 e2
 refine ⟨hs,Sort.permIn_trans _ _ _ _ _ h.perm (Sort.swp_permIn x a b j a (by omega) h2 (Nat.le_refl _) (by omega) (by omega)),by omega,h2,?_,?_⟩
 ·intro k k1 k2
  rw [ej]
  by_cases e:k=a
  ·subst e;rw [ea];have:=h.lo j (by omega) (by omega);simpa [ltU] using this
  ·rw [eo k (by omega) e];have:=h.lo k (by omega) (by omega);simpa [ltU] using this
 ·intro k k1 k2
  rw [ej,eo k (by omega) (by omega)]
  have:=h.hi k k1 k2
  simpa [ltU] using this
theorem PInv.start (h:SU w wr g n c (Sort.swp d a q)) (hd:d.size=n) (hq:a≤q) (hqb:q<b) (hb:b≤n):PInv w wr g n c a b d (Sort.swp d a q) (a+1) (b-1) (Sort.swp d a q)[a]!:=
 ⟨h,Sort.swp_permIn d a b a q (Nat.le_refl _) (by omega) hq hqb (by omega),rfl,fun k k1 k2=>by omega,fun k k1 k2=>by omega,by omega,by omega,by omega⟩
end
set_option maxHeartbeats 80000000 in
theorem partition_u64 (g n c a b q:Nat) (d:Array Nat) (w:World) (h:SU w w g n c d) (hq:a≤q) (hqb:q<b) (hb:b≤n) (hn:n<4611686018427387904) :
  Calls Tryz.prog 308 #[.slice (some ⟨g,0,none⟩) n c,.int .i64 (a:Int),.int .i64 (b:Int),.int .i64 (q:Int)] w fun e w'=>∃(m:Nat) (r:Bool) (x:Array Nat),e = .returned (.tuple #[.int .i64 (m:Int),.bool r])∧Parted w w' g n c a b d x m:=by
 have HS:=Lib.hid h
 clear h
 have hci:=HS.out.cell (i:=a) (by omega)
 have hfi:=HS.out.free a
 have hcj:=HS.out.cell (i:=q) (by omega)
 have hfj:=HS.out.free q
 have hin:(a:Int)<(n:Int):=by omega
 have hjn:(q:Int)<(n:Int):=by omega
 have HS2:=Lib.hid (HS.out.swp (i:=a) (j:=q) (by omega) (by omega))
 go_enter Tryz.func308,Tryz.ntmps308
 obtain ⟨hmc,hmf⟩:=HS.out.mid (i:=a) (j:=q) (by omega) (by omega)
 go_wp2_with fail
 go_big_region
 obtain ⟨J,hJ⟩:∃J,b=J+1:=⟨b-1,by omega⟩
 have hJi:(b:Int)-1=(J:Int):=by omega
 have HP1:=Lib.hid (PInv.start HS2.out HS.out.sz hq hqb hb)
 rw [show b-1=J by omega] at HP1
 generalize World.drew _=w1 at *
 clear hci hfi hcj hfj hmc hmf HS HS2 hjn
 generalize Sort.swp d a q=x0 at *
 generalize x0[a]! = p at *
 go_wp2_with fail
 go_loopw [10] (fun iv wr=>∃i:Nat,iv = .int .i64 (i:Int)∧a+1≤i∧Hid (PInv w wr g n c a b d x0 i J p)) (fun iv _=>b+1-(intOf iv).toNat)
 case atStart=>exact ⟨a+1,by go_num,Nat.le_refl _,HP1.out⟩
 case round=>
  obtain ⟨i,rfl,hI0,HA⟩:=hrel
  have hb1:=HA.out.b1;have hb2:=HA.out.b2;have hb3:=HA.out.b3
  clear HP1
  by_cases hij:i≤J
  ·have hiji:(i:Int)≤(J:Int):=by omega
   have hgd:decide ((i:Int)≤(J:Int))=true:=decide_eq_true hiji
   have hci:=HA.out.su.cell (i:=i) (by omega)
   have hca:=HA.out.su.cell (i:=a) (by omega)
   rw [HA.out.hp] at hca
   have hin:(i:Int)<(n:Int):=by omega
   go_wp2_with fail
   go_quiet ((go_at_call 296;refine Calls.quiet_of_same (less_u64' _ _ _)))
   have HB:=Lib.hid (HA.out.drewN nq)
   generalize World.drewN _ nq=wq at *
   clear hci hca HA
   cases hl:ltU x0[i]! p with
   | true=>
    have HC:=Lib.hid (HB.out.up hij hl)
    go_wp2_with fail
    go_round
    case rel=>exact ⟨i+1,by go_num,by omega,HC.out⟩
    case measure=>simp [intOf]<;>omega
   | false=>
    have HF:Hid (i≤J→ltU x0[i]! p=false):=fun _=>hl
    clear hiji hgd hij hl
    go_wp2_with fail
    go_loopw [11] (fun jv wr=>∃j:Nat,jv = .int .i64 (j:Int)∧j≤J∧Hid (PInv w wr g n c a b d x0 i j p)) (fun jv _=>(intOf jv).toNat)
    case atStart=>exact ⟨J,by go_num,Nat.le_refl _,HB.out⟩
    case round=>
     obtain ⟨j,rfl,hjJ,HA⟩:=hrel
     have hc2:=HA.out.b2;have hc3:=HA.out.b3
     clear HB
     by_cases hij:i≤j
     ·obtain ⟨j,rfl⟩:∃z,j=z+1:=⟨j-1,by omega⟩
      have hiji:(i:Int)≤((j+1:Nat):Int):=by omega
      have hgd:decide ((i:Int)≤(j:Int)+1)=true:=decide_eq_true (by omega)
      have hcj:=HA.out.su.cell (i:=j+1) (by omega)
      have hca:=HA.out.su.cell (i:=a) (by omega)
      rw [HA.out.hp] at hca
      have hjn:(j:Int)+1<(n:Int):=by omega
      go_wp2_with fail
      go_quiet ((go_at_call 296;refine Calls.quiet_of_same (less_u64' _ _ _)))
      have HB:=Lib.hid (HA.out.drewN nq)
      generalize World.drewN _ nq=wq2 at *
      clear hcj hca HA
      cases hl:ltU x0[j+1]! p with
      | false=>
       have HC:=Lib.hid (HB.out.down hij hl)
       go_wp2_with fail
       go_round
       case rel=>exact ⟨j,by go_num,by omega,HC.out⟩
       case measure=>simp [intOf]<;>omega
      | true=>
       have hli:ltU x0[i]! p=false:=HF.out (by omega)
       have HJ:Hid (i≤j+1∧ltU x0[i]! p=false∧ltU x0[j+1]! p=true):=⟨hij,hli,hl⟩
       have hgt:¬((j+1:Nat):Int)<(i:Int):=by omega
       clear hgd hli hl hiji
       have hci:=HB.out.su.cell (i:=i) (by omega)
       have hfi:=HB.out.su.free i
       have hcj:=HB.out.su.cell (i:=j+1) (by omega)
       have hfj:=HB.out.su.free (j+1)
       have hin:(i:Int)<(n:Int):=by omega
       have hjn:(j:Int)+1<(n:Int):=by omega
       obtain ⟨hmc,hmf⟩:=HB.out.su.mid (i:=i) (j:=j+1) (by omega) (by omega)
       obtain ⟨hij2,hsw⟩:=HB.out.swap hb HJ.out.1 HJ.out.2.1 HJ.out.2.2 (HB.out.su.swp (i:=i) (j:=j+1) (by omega) (by omega))
       have HS3:=Lib.hid hsw
       clear hsw
       go_wp2_with fail
       go_big_region
       generalize World.drew _=w3 at *
       clear hci hcj hfi hfj hmc hmf HJ HB
       generalize Sort.swp x0 i (j+1)=y at *
       go_wp2_with fail
       go_loopw [10,11] (fun iv jv wr=>∃(i j:Nat) (z:Array Nat),iv = .int .i64 (i:Int)∧jv = .int .i64 (j:Int)∧Hid (PInv w wr g n c a b d z i j p)) (fun iv _ _=>b+1-(intOf iv).toNat)
       case atStart=>exact ⟨i+1,j,y,by go_num,by go_num,HS3.out⟩
       case round=>
        obtain ⟨i0,jJ,z,rfl,rfl,HS4⟩:=hrel
        clear HS3 HF hgt hij hij2 hc2 hc3 hb1 hb2 hb3 hI0
        have hbj:=HS4.out.b2
        go_wp2_with fail
        go_loopw [10] (fun iv wr=>∃i:Nat,iv = .int .i64 (i:Int)∧i0≤i∧Hid (PInv w wr g n c a b d z i jJ p)) (fun iv _=>b+1-(intOf iv).toNat)
        case atStart=>exact ⟨i0,by go_num,Nat.le_refl _,HS4.out⟩
        case round=>
         obtain ⟨i,rfl,hI0,HA⟩:=hrel
         have hb1:=HA.out.b1;have hb2:=HA.out.b2;have hb3:=HA.out.b3
         clear HS4
         by_cases hij:i≤jJ
         ·have hiji:(i:Int)≤(jJ:Int):=by omega
          have hgd:decide ((i:Int)≤(jJ:Int))=true:=decide_eq_true hiji
          have hci:=HA.out.su.cell (i:=i) (by omega)
          have hca:=HA.out.su.cell (i:=a) (by omega)
          rw [HA.out.hp] at hca
          have hin:(i:Int)<(n:Int):=by omega
          go_wp2_with fail
          go_quiet ((go_at_call 296;refine Calls.quiet_of_same (less_u64' _ _ _)))
          have HB:=Lib.hid (HA.out.drewN nq)
          generalize World.drewN _ nq=wq at *
          clear hci hca HA
          cases hl:ltU z[i]! p with
          | true=>
           have HC:=Lib.hid (HB.out.up hij hl)
           go_wp2_with fail
           go_round
           case rel=>exact ⟨i+1,by go_num,by omega,HC.out⟩
           case measure=>simp [intOf]<;>omega
          | false=>
           have HF:Hid (i≤jJ→ltU z[i]! p=false):=fun _=>hl
           clear hiji hgd hij hl
           go_wp2_with fail
           go_loopw [11] (fun jv wr=>∃j:Nat,jv = .int .i64 (j:Int)∧j≤jJ∧Hid (PInv w wr g n c a b d z i j p)) (fun jv _=>(intOf jv).toNat)
           case atStart=>exact ⟨jJ,by go_num,Nat.le_refl _,HB.out⟩
           case round=>
            obtain ⟨j,rfl,hjJ,HA⟩:=hrel
            have hc2:=HA.out.b2;have hc3:=HA.out.b3
            clear HB
            by_cases hij:i≤j
            ·obtain ⟨j,rfl⟩:∃z,j=z+1:=⟨j-1,by omega⟩
             have hiji:(i:Int)≤((j+1:Nat):Int):=by omega
             have hgd:decide ((i:Int)≤(j:Int)+1)=true:=decide_eq_true (by omega)
             have hcj:=HA.out.su.cell (i:=j+1) (by omega)
             have hca:=HA.out.su.cell (i:=a) (by omega)
             rw [HA.out.hp] at hca
             have hjn:(j:Int)+1<(n:Int):=by omega
             go_wp2_with fail
             go_quiet ((go_at_call 296;refine Calls.quiet_of_same (less_u64' _ _ _)))
             have HB:=Lib.hid (HA.out.drewN nq)
             generalize World.drewN _ nq=wq2 at *
             clear hcj hca HA
             cases hl:ltU z[j+1]! p with
             | false=>
              have HC:=Lib.hid (HB.out.down hij hl)
              go_wp2_with fail
              go_round
              case rel=>exact ⟨j,by go_num,by omega,HC.out⟩
              case measure=>simp [intOf]<;>omega
             | true=>
              have hli:ltU z[i]! p=false:=HF.out (by omega)
              have HJ:Hid (i≤j+1∧ltU z[i]! p=false∧ltU z[j+1]! p=true):=⟨hij,hli,hl⟩
              have hgt:¬((j+1:Nat):Int)<(i:Int):=by omega
              clear hgd hli hl hiji
              have hci:=HB.out.su.cell (i:=i) (by omega)
              have hfi:=HB.out.su.free i
              have hcj:=HB.out.su.cell (i:=j+1) (by omega)
              have hfj:=HB.out.su.free (j+1)
              have hin:(i:Int)<(n:Int):=by omega
              have hjn:(j:Int)+1<(n:Int):=by omega
              obtain ⟨hmc,hmf⟩:=HB.out.su.mid (i:=i) (j:=j+1) (by omega) (by omega)
              obtain ⟨hij2,hsw⟩:=HB.out.swap hb HJ.out.1 HJ.out.2.1 HJ.out.2.2 (HB.out.su.swp (i:=i) (j:=j+1) (by omega) (by omega))
              have HS3:=Lib.hid hsw
              clear hsw
              go_wp2_with fail
              go_big_region
              generalize World.drew _=w3 at *
              clear hci hcj hfi hfj hmc hmf HJ HB
              generalize Sort.swp z i (j+1)=y at *
              go_wp2_with fail
              go_round
              case rel=>exact ⟨i+1,j,y,by go_num,by go_num,HS3.out⟩
              case measure=>simp [intOf]<;>omega
            ·have hiji:¬(i:Int)≤(j:Int):=by omega
             have hgd:decide ((i:Int)≤(j:Int))=false:=decide_eq_false hiji
             go_wp2_with fail
             go_quiet ((go_at_call 296;refine Calls.quiet_of_same (less_u64' _ _ _)))
             have HB:=Lib.hid (HA.out.drewN nq)
             generalize World.drewN _ nq=wq2 at *
             clear HA hgd
             have hgt:(j:Int)<(i:Int):=by omega
             have hcj:=HB.out.su.cell (i:=j) (by omega)
             have hfj:=HB.out.su.free j
             have hca:=HB.out.su.cell (i:=a) (by omega)
             have hfa:=HB.out.su.free a
             have hjn:(j:Int)<(n:Int):=by omega
             obtain ⟨hmc,hmf⟩:=HB.out.su.mid (i:=j) (j:=a) (by omega) (by omega)
             have HE:=Lib.hid (HB.out.parted hb (by omega) (HB.out.su.swp (i:=j) (j:=a) (by omega) (by omega)))
             go_wp2_with fail
             go_big_region
             go_wp2_with fail
             go_ret2
             exact ⟨j,_,_,rfl,HE.out⟩
         ·have hiji:¬(i:Int)≤(jJ:Int):=by omega
          have hgd:decide ((i:Int)≤(jJ:Int))=false:=decide_eq_false hiji
          have HF:Hid (i≤jJ→ltU z[i]! p=false):=fun h=>absurd h hij
          go_wp2_with fail
          go_quiet ((go_at_call 296;refine Calls.quiet_of_same (less_u64' _ _ _)))
          have HB:=Lib.hid (HA.out.drewN nq)
          generalize World.drewN _ nq=wq at *
          clear HA hiji hgd hij
          go_wp2_with fail
          go_loopw [11] (fun jv wr=>∃j:Nat,jv = .int .i64 (j:Int)∧j≤jJ∧Hid (PInv w wr g n c a b d z i j p)) (fun jv _=>(intOf jv).toNat)
          case atStart=>exact ⟨jJ,by go_num,Nat.le_refl _,HB.out⟩
          case round=>
           obtain ⟨j,rfl,hjJ,HA⟩:=hrel
           have hc2:=HA.out.b2;have hc3:=HA.out.b3
           clear HB
           by_cases hij:i≤j
           ·obtain ⟨j,rfl⟩:∃z,j=z+1:=⟨j-1,by omega⟩
            have hiji:(i:Int)≤((j+1:Nat):Int):=by omega
            have hgd:decide ((i:Int)≤(j:Int)+1)=true:=decide_eq_true (by omega)
            have hcj:=HA.out.su.cell (i:=j+1) (by omega)
            have hca:=HA.out.su.cell (i:=a) (by omega)
            rw [HA.out.hp] at hca
            have hjn:(j:Int)+1<(n:Int):=by omega
            go_wp2_with fail
            go_quiet ((go_at_call 296;refine Calls.quiet_of_same (less_u64' _ _ _)))
            have HB:=Lib.hid (HA.out.drewN nq)
            generalize World.drewN _ nq=wq2 at *
            clear hcj hca HA
            cases hl:ltU z[j+1]! p with
            | false=>
             have HC:=Lib.hid (HB.out.down hij hl)
             go_wp2_with fail
             go_round
             case rel=>exact ⟨j,by go_num,by omega,HC.out⟩
             case measure=>simp [intOf]<;>omega
            | true=>
             have hli:ltU z[i]! p=false:=HF.out (by omega)
             have HJ:Hid (i≤j+1∧ltU z[i]! p=false∧ltU z[j+1]! p=true):=⟨hij,hli,hl⟩
             have hgt:¬((j+1:Nat):Int)<(i:Int):=by omega
             clear hgd hli hl hiji
             have hci:=HB.out.su.cell (i:=i) (by omega)
             have hfi:=HB.out.su.free i
             have hcj:=HB.out.su.cell (i:=j+1) (by omega)
             have hfj:=HB.out.su.free (j+1)
             have hin:(i:Int)<(n:Int):=by omega
             have hjn:(j:Int)+1<(n:Int):=by omega
             obtain ⟨hmc,hmf⟩:=HB.out.su.mid (i:=i) (j:=j+1) (by omega) (by omega)
             obtain ⟨hij2,hsw⟩:=HB.out.swap hb HJ.out.1 HJ.out.2.1 HJ.out.2.2 (HB.out.su.swp (i:=i) (j:=j+1) (by omega) (by omega))
             have HS3:=Lib.hid hsw
             clear hsw
             go_wp2_with fail
             go_big_region
             generalize World.drew _=w3 at *
             clear hci hcj hfi hfj hmc hmf HJ HB
             generalize Sort.swp z i (j+1)=y at *
             go_wp2_with fail
             go_round
             case rel=>exact ⟨i+1,j,y,by go_num,by go_num,HS3.out⟩
             case measure=>simp [intOf]<;>omega
           ·have hiji:¬(i:Int)≤(j:Int):=by omega
            have hgd:decide ((i:Int)≤(j:Int))=false:=decide_eq_false hiji
            go_wp2_with fail
            go_quiet ((go_at_call 296;refine Calls.quiet_of_same (less_u64' _ _ _)))
            have HB:=Lib.hid (HA.out.drewN nq)
            generalize World.drewN _ nq=wq2 at *
            clear HA hgd
            have hgt:(j:Int)<(i:Int):=by omega
            have hcj:=HB.out.su.cell (i:=j) (by omega)
            have hfj:=HB.out.su.free j
            have hca:=HB.out.su.cell (i:=a) (by omega)
            have hfa:=HB.out.su.free a
            have hjn:(j:Int)<(n:Int):=by omega
            obtain ⟨hmc,hmf⟩:=HB.out.su.mid (i:=j) (j:=a) (by omega) (by omega)
            have HE:=Lib.hid (HB.out.parted hb (by omega) (HB.out.su.swp (i:=j) (j:=a) (by omega) (by omega)))
            go_wp2_with fail
            go_big_region
            go_wp2_with fail
            go_ret2
            exact ⟨j,_,_,rfl,HE.out⟩
     ·have hiji:¬(i:Int)≤(j:Int):=by omega
      have hgd:decide ((i:Int)≤(j:Int))=false:=decide_eq_false hiji
      go_wp2_with fail
      go_quiet ((go_at_call 296;refine Calls.quiet_of_same (less_u64' _ _ _)))
      have HB:=Lib.hid (HA.out.drewN nq)
      generalize World.drewN _ nq=wq2 at *
      clear HA hgd
      have hgt:(j:Int)<(i:Int):=by omega
      have hcj:=HB.out.su.cell (i:=j) (by omega)
      have hfj:=HB.out.su.free j
      have hca:=HB.out.su.cell (i:=a) (by omega)
      have hfa:=HB.out.su.free a
      have hjn:(j:Int)<(n:Int):=by omega
      obtain ⟨hmc,hmf⟩:=HB.out.su.mid (i:=j) (j:=a) (by omega) (by omega)
      have HE:=Lib.hid (HB.out.parted hb (by omega) (HB.out.su.swp (i:=j) (j:=a) (by omega) (by omega)))
      go_wp2_with fail
      go_big_region
      go_wp2_with fail
      go_ret2
      exact ⟨j,_,_,rfl,HE.out⟩
  ·have hiji:¬(i:Int)≤(J:Int):=by omega
   have hgd:decide ((i:Int)≤(J:Int))=false:=decide_eq_false hiji
   have HF:Hid (i≤J→ltU x0[i]! p=false):=fun h=>absurd h hij
   go_wp2_with fail
   go_quiet ((go_at_call 296;refine Calls.quiet_of_same (less_u64' _ _ _)))
   have HB:=Lib.hid (HA.out.drewN nq)
   generalize World.drewN _ nq=wq at *
   clear HA hiji hgd hij
   go_wp2_with fail
   go_loopw [11] (fun jv wr=>∃j:Nat,jv = .int .i64 (j:Int)∧j≤J∧Hid (PInv w wr g n c a b d x0 i j p)) (fun jv _=>(intOf jv).toNat)
   case atStart=>exact ⟨J,by go_num,Nat.le_refl _,HB.out⟩
   case round=>
    obtain ⟨j,rfl,hjJ,HA⟩:=hrel
    have hc2:=HA.out.b2;have hc3:=HA.out.b3
    clear HB
    by_cases hij:i≤j
    ·obtain ⟨j,rfl⟩:∃z,j=z+1:=⟨j-1,by omega⟩
     have hiji:(i:Int)≤((j+1:Nat):Int):=by omega
     have hgd:decide ((i:Int)≤(j:Int)+1)=true:=decide_eq_true (by omega)
     have hcj:=HA.out.su.cell (i:=j+1) (by omega)
     have hca:=HA.out.su.cell (i:=a) (by omega)
     rw [HA.out.hp] at hca
     have hjn:(j:Int)+1<(n:Int):=by omega
     go_wp2_with fail
     go_quiet ((go_at_call 296;refine Calls.quiet_of_same (less_u64' _ _ _)))
     have HB:=Lib.hid (HA.out.drewN nq)
     generalize World.drewN _ nq=wq2 at *
     clear hcj hca HA
     cases hl:ltU x0[j+1]! p with
     | false=>
      have HC:=Lib.hid (HB.out.down hij hl)
      go_wp2_with fail
      go_round
      case rel=>exact ⟨j,by go_num,by omega,HC.out⟩
      case measure=>simp [intOf]<;>omega
     | true=>
      have hli:ltU x0[i]! p=false:=HF.out (by omega)
      have HJ:Hid (i≤j+1∧ltU x0[i]! p=false∧ltU x0[j+1]! p=true):=⟨hij,hli,hl⟩
      have hgt:¬((j+1:Nat):Int)<(i:Int):=by omega
      clear hgd hli hl hiji
      have hci:=HB.out.su.cell (i:=i) (by omega)
      have hfi:=HB.out.su.free i
      have hcj:=HB.out.su.cell (i:=j+1) (by omega)
      have hfj:=HB.out.su.free (j+1)
      have hin:(i:Int)<(n:Int):=by omega
      have hjn:(j:Int)+1<(n:Int):=by omega
      obtain ⟨hmc,hmf⟩:=HB.out.su.mid (i:=i) (j:=j+1) (by omega) (by omega)
      obtain ⟨hij2,hsw⟩:=HB.out.swap hb HJ.out.1 HJ.out.2.1 HJ.out.2.2 (HB.out.su.swp (i:=i) (j:=j+1) (by omega) (by omega))
      have HS3:=Lib.hid hsw
      clear hsw
      go_wp2_with fail
      go_big_region
      generalize World.drew _=w3 at *
      clear hci hcj hfi hfj hmc hmf HJ HB
      generalize Sort.swp x0 i (j+1)=y at *
      go_wp2_with fail
      go_loopw [10,11] (fun iv jv wr=>∃(i j:Nat) (z:Array Nat),iv = .int .i64 (i:Int)∧jv = .int .i64 (j:Int)∧Hid (PInv w wr g n c a b d z i j p)) (fun iv _ _=>b+1-(intOf iv).toNat)
      case atStart=>exact ⟨i+1,j,y,by go_num,by go_num,HS3.out⟩
      case round=>
       obtain ⟨i0,jJ,z,rfl,rfl,HS4⟩:=hrel
       clear HS3 HF hgt hij hij2 hc2 hc3 hb1 hb2 hb3 hI0
       have hbj:=HS4.out.b2
       go_wp2_with fail
       go_loopw [10] (fun iv wr=>∃i:Nat,iv = .int .i64 (i:Int)∧i0≤i∧Hid (PInv w wr g n c a b d z i jJ p)) (fun iv _=>b+1-(intOf iv).toNat)
       case atStart=>exact ⟨i0,by go_num,Nat.le_refl _,HS4.out⟩
       case round=>
        obtain ⟨i,rfl,hI0,HA⟩:=hrel
        have hb1:=HA.out.b1;have hb2:=HA.out.b2;have hb3:=HA.out.b3
        clear HS4
        by_cases hij:i≤jJ
        ·have hiji:(i:Int)≤(jJ:Int):=by omega
         have hgd:decide ((i:Int)≤(jJ:Int))=true:=decide_eq_true hiji
         have hci:=HA.out.su.cell (i:=i) (by omega)
         have hca:=HA.out.su.cell (i:=a) (by omega)
         rw [HA.out.hp] at hca
         have hin:(i:Int)<(n:Int):=by omega
         go_wp2_with fail
         go_quiet ((go_at_call 296;refine Calls.quiet_of_same (less_u64' _ _ _)))
         have HB:=Lib.hid (HA.out.drewN nq)
         generalize World.drewN _ nq=wq at *
         clear hci hca HA
         cases hl:ltU z[i]! p with
         | true=>
          have HC:=Lib.hid (HB.out.up hij hl)
          go_wp2_with fail
          go_round
          case rel=>exact ⟨i+1,by go_num,by omega,HC.out⟩
          case measure=>simp [intOf]<;>omega
         | false=>
          have HF:Hid (i≤jJ→ltU z[i]! p=false):=fun _=>hl
          clear hiji hgd hij hl
          go_wp2_with fail
          go_loopw [11] (fun jv wr=>∃j:Nat,jv = .int .i64 (j:Int)∧j≤jJ∧Hid (PInv w wr g n c a b d z i j p)) (fun jv _=>(intOf jv).toNat)
          case atStart=>exact ⟨jJ,by go_num,Nat.le_refl _,HB.out⟩
          case round=>
           obtain ⟨j,rfl,hjJ,HA⟩:=hrel
           have hc2:=HA.out.b2;have hc3:=HA.out.b3
           clear HB
           by_cases hij:i≤j
           ·obtain ⟨j,rfl⟩:∃z,j=z+1:=⟨j-1,by omega⟩
            have hiji:(i:Int)≤((j+1:Nat):Int):=by omega
            have hgd:decide ((i:Int)≤(j:Int)+1)=true:=decide_eq_true (by omega)
            have hcj:=HA.out.su.cell (i:=j+1) (by omega)
            have hca:=HA.out.su.cell (i:=a) (by omega)
            rw [HA.out.hp] at hca
            have hjn:(j:Int)+1<(n:Int):=by omega
            go_wp2_with fail
            go_quiet ((go_at_call 296;refine Calls.quiet_of_same (less_u64' _ _ _)))
            have HB:=Lib.hid (HA.out.drewN nq)
            generalize World.drewN _ nq=wq2 at *
            clear hcj hca HA
            cases hl:ltU z[j+1]! p with
            | false=>
             have HC:=Lib.hid (HB.out.down hij hl)
             go_wp2_with fail
             go_round
             case rel=>exact ⟨j,by go_num,by omega,HC.out⟩
             case measure=>simp [intOf]<;>omega
            | true=>
             have hli:ltU z[i]! p=false:=HF.out (by omega)
             have HJ:Hid (i≤j+1∧ltU z[i]! p=false∧ltU z[j+1]! p=true):=⟨hij,hli,hl⟩
             have hgt:¬((j+1:Nat):Int)<(i:Int):=by omega
             clear hgd hli hl hiji
             have hci:=HB.out.su.cell (i:=i) (by omega)
             have hfi:=HB.out.su.free i
             have hcj:=HB.out.su.cell (i:=j+1) (by omega)
             have hfj:=HB.out.su.free (j+1)
             have hin:(i:Int)<(n:Int):=by omega
             have hjn:(j:Int)+1<(n:Int):=by omega
             obtain ⟨hmc,hmf⟩:=HB.out.su.mid (i:=i) (j:=j+1) (by omega) (by omega)
             obtain ⟨hij2,hsw⟩:=HB.out.swap hb HJ.out.1 HJ.out.2.1 HJ.out.2.2 (HB.out.su.swp (i:=i) (j:=j+1) (by omega) (by omega))
             have HS3:=Lib.hid hsw
             clear hsw
             go_wp2_with fail
             go_big_region
             generalize World.drew _=w3 at *
             clear hci hcj hfi hfj hmc hmf HJ HB
             generalize Sort.swp z i (j+1)=y at *
             go_wp2_with fail
             go_round
             case rel=>exact ⟨i+1,j,y,by go_num,by go_num,HS3.out⟩
             case measure=>simp [intOf]<;>omega
           ·have hiji:¬(i:Int)≤(j:Int):=by omega
            have hgd:decide ((i:Int)≤(j:Int))=false:=decide_eq_false hiji
            go_wp2_with fail
            go_quiet ((go_at_call 296;refine Calls.quiet_of_same (less_u64' _ _ _)))
            have HB:=Lib.hid (HA.out.drewN nq)
            generalize World.drewN _ nq=wq2 at *
            clear HA hgd
            have hgt:(j:Int)<(i:Int):=by omega
            have hcj:=HB.out.su.cell (i:=j) (by omega)
            have hfj:=HB.out.su.free j
            have hca:=HB.out.su.cell (i:=a) (by omega)
            have hfa:=HB.out.su.free a
            have hjn:(j:Int)<(n:Int):=by omega
            obtain ⟨hmc,hmf⟩:=HB.out.su.mid (i:=j) (j:=a) (by omega) (by omega)
            have HE:=Lib.hid (HB.out.parted hb (by omega) (HB.out.su.swp (i:=j) (j:=a) (by omega) (by omega)))
            go_wp2_with fail
            go_big_region
            go_wp2_with fail
            go_ret2
            exact ⟨j,_,_,rfl,HE.out⟩
        ·have hiji:¬(i:Int)≤(jJ:Int):=by omega
         have hgd:decide ((i:Int)≤(jJ:Int))=false:=decide_eq_false hiji
         have HF:Hid (i≤jJ→ltU z[i]! p=false):=fun h=>absurd h hij
         go_wp2_with fail
         go_quiet ((go_at_call 296;refine Calls.quiet_of_same (less_u64' _ _ _)))
         have HB:=Lib.hid (HA.out.drewN nq)
         generalize World.drewN _ nq=wq at *
         clear HA hiji hgd hij
         go_wp2_with fail
         go_loopw [11] (fun jv wr=>∃j:Nat,jv = .int .i64 (j:Int)∧j≤jJ∧Hid (PInv w wr g n c a b d z i j p)) (fun jv _=>(intOf jv).toNat)
         case atStart=>exact ⟨jJ,by go_num,Nat.le_refl _,HB.out⟩
         case round=>
          obtain ⟨j,rfl,hjJ,HA⟩:=hrel
          have hc2:=HA.out.b2;have hc3:=HA.out.b3
          clear HB
          by_cases hij:i≤j
          ·obtain ⟨j,rfl⟩:∃z,j=z+1:=⟨j-1,by omega⟩
           have hiji:(i:Int)≤((j+1:Nat):Int):=by omega
           have hgd:decide ((i:Int)≤(j:Int)+1)=true:=decide_eq_true (by omega)
           have hcj:=HA.out.su.cell (i:=j+1) (by omega)
           have hca:=HA.out.su.cell (i:=a) (by omega)
           rw [HA.out.hp] at hca
           have hjn:(j:Int)+1<(n:Int):=by omega
           go_wp2_with fail
           go_quiet ((go_at_call 296;refine Calls.quiet_of_same (less_u64' _ _ _)))
           have HB:=Lib.hid (HA.out.drewN nq)
           generalize World.drewN _ nq=wq2 at *
           clear hcj hca HA
           cases hl:ltU z[j+1]! p with
           | false=>
            have HC:=Lib.hid (HB.out.down hij hl)
            go_wp2_with fail
            go_round
            case rel=>exact ⟨j,by go_num,by omega,HC.out⟩
            case measure=>simp [intOf]<;>omega
           | true=>
            have hli:ltU z[i]! p=false:=HF.out (by omega)
            have HJ:Hid (i≤j+1∧ltU z[i]! p=false∧ltU z[j+1]! p=true):=⟨hij,hli,hl⟩
            have hgt:¬((j+1:Nat):Int)<(i:Int):=by omega
            clear hgd hli hl hiji
            have hci:=HB.out.su.cell (i:=i) (by omega)
            have hfi:=HB.out.su.free i
            have hcj:=HB.out.su.cell (i:=j+1) (by omega)
            have hfj:=HB.out.su.free (j+1)
            have hin:(i:Int)<(n:Int):=by omega
            have hjn:(j:Int)+1<(n:Int):=by omega
            obtain ⟨hmc,hmf⟩:=HB.out.su.mid (i:=i) (j:=j+1) (by omega) (by omega)
            obtain ⟨hij2,hsw⟩:=HB.out.swap hb HJ.out.1 HJ.out.2.1 HJ.out.2.2 (HB.out.su.swp (i:=i) (j:=j+1) (by omega) (by omega))
            have HS3:=Lib.hid hsw
            clear hsw
            go_wp2_with fail
            go_big_region
            generalize World.drew _=w3 at *
            clear hci hcj hfi hfj hmc hmf HJ HB
            generalize Sort.swp z i (j+1)=y at *
            go_wp2_with fail
            go_round
            case rel=>exact ⟨i+1,j,y,by go_num,by go_num,HS3.out⟩
            case measure=>simp [intOf]<;>omega
          ·have hiji:¬(i:Int)≤(j:Int):=by omega
           have hgd:decide ((i:Int)≤(j:Int))=false:=decide_eq_false hiji
           go_wp2_with fail
           go_quiet ((go_at_call 296;refine Calls.quiet_of_same (less_u64' _ _ _)))
           have HB:=Lib.hid (HA.out.drewN nq)
           generalize World.drewN _ nq=wq2 at *
           clear HA hgd
           have hgt:(j:Int)<(i:Int):=by omega
           have hcj:=HB.out.su.cell (i:=j) (by omega)
           have hfj:=HB.out.su.free j
           have hca:=HB.out.su.cell (i:=a) (by omega)
           have hfa:=HB.out.su.free a
           have hjn:(j:Int)<(n:Int):=by omega
           obtain ⟨hmc,hmf⟩:=HB.out.su.mid (i:=j) (j:=a) (by omega) (by omega)
           have HE:=Lib.hid (HB.out.parted hb (by omega) (HB.out.su.swp (i:=j) (j:=a) (by omega) (by omega)))
           go_wp2_with fail
           go_big_region
           go_wp2_with fail
           go_ret2
           exact ⟨j,_,_,rfl,HE.out⟩
    ·have hiji:¬(i:Int)≤(j:Int):=by omega
     have hgd:decide ((i:Int)≤(j:Int))=false:=decide_eq_false hiji
     go_wp2_with fail
     go_quiet ((go_at_call 296;refine Calls.quiet_of_same (less_u64' _ _ _)))
     have HB:=Lib.hid (HA.out.drewN nq)
     generalize World.drewN _ nq=wq2 at *
     clear HA hgd
     have hgt:(j:Int)<(i:Int):=by omega
     have hcj:=HB.out.su.cell (i:=j) (by omega)
     have hfj:=HB.out.su.free j
     have hca:=HB.out.su.cell (i:=a) (by omega)
     have hfa:=HB.out.su.free a
     have hjn:(j:Int)<(n:Int):=by omega
     obtain ⟨hmc,hmf⟩:=HB.out.su.mid (i:=j) (j:=a) (by omega) (by omega)
     have HE:=Lib.hid (HB.out.parted hb (by omega) (HB.out.su.swp (i:=j) (j:=a) (by omega) (by omega)))
     go_wp2_with fail
     go_big_region
     go_wp2_with fail
     go_ret2
     exact ⟨j,_,_,rfl,HE.out⟩
end Go.Proofs.YtdcgbgecbeegmaaGreatDoor
end
section
set_option maxRecDepth 20000
namespace Go.Proofs.YtdcgbgecbeegmaaGreatDoor
open Go Go.RowKit
structure EInv (w wr:World) (g n c a b:Nat) (d x:Array Nat) (i j p:Nat):Prop where
 su:SU w wr g n c x
 perm:Sort.PermIn a b d x
 hp:x[a]! = p
 lo:∀k,a<k→k<i→x[k]!≤p
 hi:∀k,j<k→k<b→p<x[k]!
 b1:a<i
 b2:j<b
 b3:i≤j+1
section
variable {w wr wz:World} {g n c a b:Nat} {d x:Array Nat} {i j p q:Nat}
theorem EInv.drewN (h:EInv w wr g n c a b d x i j p) (m:Nat):EInv w (wr.drewN m) g n c a b d x i j p:=⟨h.su.drewN m,h.perm,h.hp,h.lo,h.hi,h.b1,h.b2,h.b3⟩
theorem EInv.up (h:EInv w wr g n c a b d x i j p) (hij:i≤j) (hl:ltU p x[i]! = false):EInv w wr g n c a b d x (i+1) j p:=
 ⟨h.su,h.perm,h.hp,fun k h1 h2=>by
  by_cases e:k=i
  ·subst e;simpa [ltU] using hl
  ·exact h.lo k h1 (by omega),h.hi,by have:=h.b1;omega,h.b2,by omega⟩
theorem EInv.down (h:EInv w wr g n c a b d x i (j+1) p) (hij:i≤j+1) (hl:ltU p x[j+1]! = true):EInv w wr g n c a b d x i j p:=
 ⟨h.su,h.perm,h.hp,h.lo,fun k h1 h2=>by
  by_cases e:k=j+1
  ·subst e;simpa [ltU] using hl
  ·exact h.hi k (by omega) h2,h.b1,by have:=h.b2;omega,hij⟩
theorem EInv.swap (h:EInv w wr g n c a b d x i (j+1) p) (hb:b≤n) (hij:i≤j+1) (hi:ltU p x[i]! = true) (hj:ltU p x[j+1]! = false) (hs:SU w wz g n c (Sort.swp x i (j+1))):i≤j∧EInv w wz g n c a b d (Sort.swp x i (j+1)) (i+1) j p:=by
 have hne:i≠j+1:=fun e=>by subst e;rw [hi] at hj;cases hj
 have hsz:=h.su.sz
 have h1:=h.b1;have h2:=h.b2
 have ei:(Sort.swp x i (j+1))[i]! = x[j+1]!:=Sort.swp_left x i (j+1) (by omega) hne
 have ej:(Sort.swp x i (j+1))[j+1]! = x[i]!:=Sort.swp_right x i (j+1) (by omega)
 have eo:∀k,k≠i→k≠j+1→(Sort.swp x i (j+1))[k]! = x[k]!:=fun k e1 e2=>Sort.swp_other x i (j+1) k e1 e2
 refine ⟨by omega,hs,Sort.permIn_trans _ _ _ _ _ h.perm (Sort.swp_permIn x a b i (j+1) (by omega) (by omega) (by omega) h2 (by omega)),?_,?_,?_,by omega,by omega,by omega⟩
 ·rw [eo a (by omega) (by omega)];exact h.hp
 ·intro k k1 k2
  by_cases e:k=i
  ·subst e;rw [ei];simpa [ltU] using hj
  ·rw [eo k e (by omega)];exact h.lo k k1 (by omega)
 ·intro k k1 k2
  by_cases e:k=j+1
  ·subst e;rw [ej];simpa [ltU] using hi
  ·rw [eo k (by omega) e];exact h.hi k (by omega) k2
structure PartedE (w wr:World) (g n c a b:Nat) (d x:Array Nat) (m p:Nat):Prop where
 su:SU w wr g n c x
 perm:Sort.PermIn a b d x
 b1:a<m
 b2:m≤b
 lo:∀k,a≤k→k<m→ltU p x[k]! = false
 hi:∀k,m≤k→k<b→ltU p x[k]! = true
theorem EInv.parted (h:EInv w wr g n c a b d x i j p) (hij:j<i):PartedE w wr g n c a b d x i p:=by
 have h1:=h.b1;have h2:=h.b2;have h3:=h.b3
 refine ⟨h.su,h.perm,h1,by omega,?_,?_⟩
 ·intro k k1 k2
  by_cases e:k=a
  ·subst e;rw [h.hp];simp [ltU]
  ·have:=h.lo k (by omega) k2;simpa [ltU] using this
 ·intro k k1 k2
  have:=h.hi k (by omega) k2
  simpa [ltU] using this
theorem EInv.start (h:SU w wr g n c (Sort.swp d a q)) (hd:d.size=n) (hq:a≤q) (hqb:q<b) (hb:b≤n):EInv w wr g n c a b d (Sort.swp d a q) (a+1) (b-1) d[q]!:=by
 have hp:(Sort.swp d a q)[a]! = d[q]!:=by
  by_cases e:a=q
  ·subst e;exact Sort.swp_right d a a (by omega)
  ·exact Sort.swp_left d a q (by omega) e
 exact ⟨h,Sort.swp_permIn d a b a q (Nat.le_refl _) (by omega) hq hqb (by omega),hp,fun k k1 k2=>by omega,fun k k1 k2=>by omega,by omega,by omega,by omega⟩
end
set_option maxHeartbeats 80000000 in
theorem partition_equal_u64 (g n c a b q:Nat) (d:Array Nat) (w:World) (h:SU w w g n c d) (hq:a≤q) (hqb:q<b) (hb:b≤n) (hn:n<4611686018427387904) :
  Calls Tryz.prog 307 #[.slice (some ⟨g,0,none⟩) n c,.int .i64 (a:Int),.int .i64 (b:Int),.int .i64 (q:Int)] w fun e w'=>∃(m:Nat) (x:Array Nat),e = .returned (.int .i64 (m:Int))∧PartedE w w' g n c a b d x m d[q]!:=by
 have HS:=Lib.hid h
 clear h
 have hci:=HS.out.cell (i:=a) (by omega)
 have hfi:=HS.out.free a
 have hcj:=HS.out.cell (i:=q) (by omega)
 have hfj:=HS.out.free q
 have hin:(a:Int)<(n:Int):=by omega
 have hjn:(q:Int)<(n:Int):=by omega
 have HS2:=Lib.hid (HS.out.swp (i:=a) (j:=q) (by omega) (by omega))
 obtain ⟨hmc,hmf⟩:=HS.out.mid (i:=a) (j:=q) (by omega) (by omega)
 obtain ⟨p,hpq⟩:∃p,d[q]! = p:=⟨_,rfl⟩
 have HPQ:=Lib.hid hpq
 rw [hpq] at hcj hmc hmf HS2 ⊢
 clear hpq
 go_enter Tryz.func307,Tryz.ntmps307
 go_wp2_with fail
 go_big_region
 obtain ⟨J,hJ1,hJ2⟩:∃J,b≤J+1∧J+1≤b:=⟨b-1,by omega,by omega⟩
 have hJi:(b:Int)-1=(J:Int):=by omega
 have HP1:=Lib.hid (EInv.start HS2.out HS.out.sz hq hqb hb)
 rw [show b-1=J by omega,HPQ.out] at HP1
 generalize World.drew _=w1 at *
 clear hci hfi hcj hfj hmc hmf HS HS2 hjn
 generalize Sort.swp d a q=x0 at *
 go_wp2_with fail
 go_loopw [9,10] (fun iv jv wr=>∃(i j:Nat) (z:Array Nat),iv = .int .i64 (i:Int)∧jv = .int .i64 (j:Int)∧Hid (EInv w wr g n c a b d z i j p)) (fun iv _ _=>b+1-(intOf iv).toNat)
 case atStart=>exact ⟨a+1,J,x0,by go_num,by go_num,HP1.out⟩
 case round=>
  obtain ⟨i0,jJ,z,rfl,rfl,HS4⟩:=hrel
  clear HP1
  have hbj:=HS4.out.b2
  go_wp2_with fail
  go_loopw [9] (fun iv wr=>∃i:Nat,iv = .int .i64 (i:Int)∧i0≤i∧Hid (EInv w wr g n c a b d z i jJ p)) (fun iv _=>b+1-(intOf iv).toNat)
  case atStart=>exact ⟨i0,by go_num,Nat.le_refl _,HS4.out⟩
  case round=>
   obtain ⟨i,rfl,hI0,HA⟩:=hrel
   have hb1:=HA.out.b1;have hb2:=HA.out.b2;have hb3:=HA.out.b3
   clear HS4
   by_cases hij:i≤jJ
   ·have hiji:(i:Int)≤(jJ:Int):=by omega
    have hgd:decide ((i:Int)≤(jJ:Int))=true:=decide_eq_true hiji
    have hci:=HA.out.su.cell (i:=i) (by omega)
    have hca:=HA.out.su.cell (i:=a) (by omega)
    rw [HA.out.hp] at hca
    have hin:(i:Int)<(n:Int):=by omega
    go_wp2_with fail
    go_quiet ((go_at_call 296;refine Calls.quiet_of_same (less_u64' _ _ _)))
    have HB:=Lib.hid (HA.out.drewN nq)
    generalize World.drewN _ nq=wq at *
    clear hci hca HA
    cases hl:ltU p z[i]! with
    | false=>
     have HC:=Lib.hid (HB.out.up hij hl)
     go_wp2_with fail
     go_round
     case rel=>exact ⟨i+1,by go_num,by omega,HC.out⟩
     case measure=>simp [intOf]<;>omega
    | true=>
     have HF:Hid (i≤jJ→ltU p z[i]! = true):=fun _=>hl
     clear hiji hgd hij hl
     go_wp2_with fail
     go_loopw [10] (fun jv wr=>∃j:Nat,jv = .int .i64 (j:Int)∧j≤jJ∧Hid (EInv w wr g n c a b d z i j p)) (fun jv _=>(intOf jv).toNat)
     case atStart=>exact ⟨jJ,by go_num,Nat.le_refl _,HB.out⟩
     case round=>
      obtain ⟨j,rfl,hjJ,HA⟩:=hrel
      have hc2:=HA.out.b2;have hc3:=HA.out.b3
      clear HB
      by_cases hij:i≤j
      ·obtain ⟨j,rfl⟩:∃z,j=z+1:=⟨j-1,by omega⟩
       have hiji:(i:Int)≤((j+1:Nat):Int):=by omega
       have hgd:decide ((i:Int)≤(j:Int)+1)=true:=decide_eq_true (by omega)
       have hcj:=HA.out.su.cell (i:=j+1) (by omega)
       have hca:=HA.out.su.cell (i:=a) (by omega)
       rw [HA.out.hp] at hca
       have hjn:(j:Int)+1<(n:Int):=by omega
       go_wp2_with fail
       go_quiet ((go_at_call 296;refine Calls.quiet_of_same (less_u64' _ _ _)))
       have HB:=Lib.hid (HA.out.drewN nq)
       generalize World.drewN _ nq=wq2 at *
       clear hcj hca HA
       cases hl:ltU p z[j+1]! with
       | true=>
        have HC:=Lib.hid (HB.out.down hij hl)
        go_wp2_with fail
        go_round
        case rel=>exact ⟨j,by go_num,by omega,HC.out⟩
        case measure=>simp [intOf]<;>omega
       | false=>
        have hli:ltU p z[i]! = true:=HF.out (by omega)
        have HJ:Hid (i≤j+1∧ltU p z[i]! = true∧ltU p z[j+1]! = false):=⟨hij,hli,hl⟩
        have hgt:¬((j+1:Nat):Int)<(i:Int):=by omega
        clear hgd hli hl hiji
        have hci:=HB.out.su.cell (i:=i) (by omega)
        have hfi:=HB.out.su.free i
        have hcj:=HB.out.su.cell (i:=j+1) (by omega)
        have hfj:=HB.out.su.free (j+1)
        have hin:(i:Int)<(n:Int):=by omega
        have hjn:(j:Int)+1<(n:Int):=by omega
        obtain ⟨hmc,hmf⟩:=HB.out.su.mid (i:=i) (j:=j+1) (by omega) (by omega)
        obtain ⟨hij2,hsw⟩:=HB.out.swap hb HJ.out.1 HJ.out.2.1 HJ.out.2.2 (HB.out.su.swp (i:=i) (j:=j+1) (by omega) (by omega))
        have HS3:=Lib.hid hsw
        clear hsw
        go_wp2_with fail
        go_big_region
        generalize World.drew _=w3 at *
        clear hci hcj hfi hfj hmc hmf HJ HB
        generalize Sort.swp z i (j+1)=y at *
        go_wp2_with fail
        go_round
        case rel=>exact ⟨i+1,j,y,by go_num,by go_num,HS3.out⟩
        case measure=>simp [intOf]<;>omega
      ·have hiji:¬(i:Int)≤(j:Int):=by omega
       have hgd:decide ((i:Int)≤(j:Int))=false:=decide_eq_false hiji
       go_wp2_with fail
       go_quiet ((go_at_call 296;refine Calls.quiet_of_same (less_u64' _ _ _)))
       have HB:=Lib.hid (HA.out.drewN nq)
       generalize World.drewN _ nq=wq2 at *
       clear HA hgd
       have hgt:(j:Int)<(i:Int):=by omega
       have HE:=Lib.hid (HB.out.parted (by omega))
       go_wp2_with fail
       go_ret
       exact ⟨i,_,rfl,HE.out⟩
   ·have hiji:¬(i:Int)≤(jJ:Int):=by omega
    have hgd:decide ((i:Int)≤(jJ:Int))=false:=decide_eq_false hiji
    have HF:Hid (i≤jJ→ltU p z[i]! = true):=fun h=>absurd h hij
    go_wp2_with fail
    go_quiet ((go_at_call 296;refine Calls.quiet_of_same (less_u64' _ _ _)))
    have HB:=Lib.hid (HA.out.drewN nq)
    generalize World.drewN _ nq=wq at *
    clear HA hiji hgd hij
    go_wp2_with fail
    go_loopw [10] (fun jv wr=>∃j:Nat,jv = .int .i64 (j:Int)∧j≤jJ∧Hid (EInv w wr g n c a b d z i j p)) (fun jv _=>(intOf jv).toNat)
    case atStart=>exact ⟨jJ,by go_num,Nat.le_refl _,HB.out⟩
    case round=>
     obtain ⟨j,rfl,hjJ,HA⟩:=hrel
     have hc2:=HA.out.b2;have hc3:=HA.out.b3
     clear HB
     by_cases hij:i≤j
     ·obtain ⟨j,rfl⟩:∃z,j=z+1:=⟨j-1,by omega⟩
      have hiji:(i:Int)≤((j+1:Nat):Int):=by omega
      have hgd:decide ((i:Int)≤(j:Int)+1)=true:=decide_eq_true (by omega)
      have hcj:=HA.out.su.cell (i:=j+1) (by omega)
      have hca:=HA.out.su.cell (i:=a) (by omega)
      rw [HA.out.hp] at hca
      have hjn:(j:Int)+1<(n:Int):=by omega
      go_wp2_with fail
      go_quiet ((go_at_call 296;refine Calls.quiet_of_same (less_u64' _ _ _)))
      have HB:=Lib.hid (HA.out.drewN nq)
      generalize World.drewN _ nq=wq2 at *
      clear hcj hca HA
      cases hl:ltU p z[j+1]! with
      | true=>
       have HC:=Lib.hid (HB.out.down hij hl)
       go_wp2_with fail
       go_round
       case rel=>exact ⟨j,by go_num,by omega,HC.out⟩
       case measure=>simp [intOf]<;>omega
      | false=>
       have hli:ltU p z[i]! = true:=HF.out (by omega)
       have HJ:Hid (i≤j+1∧ltU p z[i]! = true∧ltU p z[j+1]! = false):=⟨hij,hli,hl⟩
       have hgt:¬((j+1:Nat):Int)<(i:Int):=by omega
       clear hgd hli hl hiji
       have hci:=HB.out.su.cell (i:=i) (by omega)
       have hfi:=HB.out.su.free i
       have hcj:=HB.out.su.cell (i:=j+1) (by omega)
       have hfj:=HB.out.su.free (j+1)
       have hin:(i:Int)<(n:Int):=by omega
       have hjn:(j:Int)+1<(n:Int):=by omega
       obtain ⟨hmc,hmf⟩:=HB.out.su.mid (i:=i) (j:=j+1) (by omega) (by omega)
       obtain ⟨hij2,hsw⟩:=HB.out.swap hb HJ.out.1 HJ.out.2.1 HJ.out.2.2 (HB.out.su.swp (i:=i) (j:=j+1) (by omega) (by omega))
       have HS3:=Lib.hid hsw
       clear hsw
       go_wp2_with fail
       go_big_region
       generalize World.drew _=w3 at *
       clear hci hcj hfi hfj hmc hmf HJ HB
       generalize Sort.swp z i (j+1)=y at *
       go_wp2_with fail
       go_round
       case rel=>exact ⟨i+1,j,y,by go_num,by go_num,HS3.out⟩
       case measure=>simp [intOf]<;>omega
     ·have hiji:¬(i:Int)≤(j:Int):=by omega
      have hgd:decide ((i:Int)≤(j:Int))=false:=decide_eq_false hiji
      go_wp2_with fail
      go_quiet ((go_at_call 296;refine Calls.quiet_of_same (less_u64' _ _ _)))
      have HB:=Lib.hid (HA.out.drewN nq)
      generalize World.drewN _ nq=wq2 at *
      clear HA hgd
      have hgt:(j:Int)<(i:Int):=by omega
      have HE:=Lib.hid (HB.out.parted (by omega))
      go_wp2_with fail
      go_ret
      exact ⟨i,_,rfl,HE.out⟩
end Go.Proofs.YtdcgbgecbeegmaaGreatDoor
end
section
namespace Go.Proofs.YtdcgbgecbeegmaaGreatDoor
open Go Go.RowKit
theorem swo_ltU:Sort.SWO ltU:=⟨fun x=>by simp [ltU],fun x y z h1 h2=>by simp [ltU] at *;omega,fun x y z h1 h2=>by simp [ltU] at *;omega⟩
structure PQ (a b:Nat) (d:Array Nat) (a' b':Nat) (x:Array Nat):Prop where
 h1:a≤a'
 h2:a'≤b'
 h3:b'≤b
 sz:b≤x.size
 below:Sort.Below ltU a' b' x
 glue:∀R,Sort.PermIn a' b' x R→Sort.SortedIn ltU a' b' R→Sort.PermIn a b d R∧Sort.SortedIn ltU a b R
section
variable {w wr:World} {g n c a b a' b' m q:Nat} {d x y z:Array Nat}
theorem PQ.start (hab:a≤b) (hb:b≤d.size) (h:Sort.Below ltU a b d):PQ a b d a b d:=⟨Nat.le_refl _,hab,Nat.le_refl _,hb,h,fun R h1 h2=>⟨h1,h2⟩⟩
theorem PQ.perm (h:PQ a b d a' b' x) (hp:Sort.PermIn a' b' x y):PQ a b d a' b' y:=
 ⟨h.h1,h.h2,h.h3,by rw [hp.1];exact h.sz,h.below.perm (by have:=h.sz;have:=h.h3;omega) hp,fun R h1 h2=>h.glue R (Sort.permIn_trans _ _ _ _ _ hp h1) h2⟩
theorem PQ.equal (h:PQ a b d a' b' x) (hq:a'≤q) (hqb:q<b') (h0:0<a') (hl:ltU x[a'-1]! x[q]! = false) (hp:PartedE w wr g n c a' b' x y m x[q]!):PQ a b d m b' y:=by
 have hs:=h.sz;have h3:=h.h3;have hm1:=hp.b1;have hm2:=hp.b2
 have hsy:y.size=x.size:=hp.perm.1
 generalize hv:x[q]! = v at *
 have hall:∀i,a'≤i→i<b'→ltU y[i]! v=false:=by
  refine Sort.permIn_all x y a' b' (fun t=>ltU t v=false) (by omega) hp.perm (fun i i1 i2=>?_)
  rcases h.below with e | e
  ·omega
  ·have:=e i i1 i2
   simp [ltU] at *
   omega
 refine ⟨by have:=h.h1;omega,hm2,h3,by omega,Or.inr (fun i i1 i2=>?_),fun R h1 h2=>?_⟩
 ·have e1:=hp.lo (m-1) (by omega) (by omega)
  have e2:=hp.hi i i1 i2
  simp [ltU] at *
  omega
 ·have hlow:∀i,i<m→R[i]! = y[i]!:=fun i hi=>h1.2.1 i (Or.inl hi)
  refine h.glue R (Sort.permIn_trans _ _ _ _ _ hp.perm (Sort.permIn_mono y R m b' a' b' (by omega) (Nat.le_refl _) (by omega) h1)) ?_
  refine Sort.sorted_glue_eq swo_ltU v h2 (fun i i1 i2=>?_) (fun i i1 i2=>?_) (fun i i1 i2=>?_)
  ·rw [hlow i i2];exact hp.lo i i1 i2
  ·rw [hlow i i2];exact hall i i1 (by omega)
  ·exact Sort.permIn_all y R m b' (fun t=>ltU v t=true) (by omega) h1 (fun i i1 i2=>hp.hi i i1 i2) i i1 i2
theorem PQ.partL (h:PQ a b d a' b' x) (hp:Parted w wr g n c a' b' x y m):Sort.Below ltU a' m y:=
 (h.below.perm (by have:=h.sz;have:=h.h3;omega) hp.perm).mono (by have:=hp.b2;omega)
theorem PQ.partR (h:PQ a b d a' b' x) (hp:Parted w wr g n c a' b' x y m):Sort.Below ltU (m+1) b' y:=
 Or.inr (fun i i1 i2=>hp.hi i (by omega) i2)
theorem PQ.left (h:PQ a b d a' b' x) (hp:Parted w wr g n c a' b' x y m) (hz:Sort.PermIn a' m y z) (hs:Sort.SortedIn ltU a' m z):PQ a b d (m+1) b' z:=by
 have h1:=h.h1;have h3:=h.h3;have hb1:=hp.b1;have hb2:=hp.b2;have hsx:=h.sz
 have hsy:y.size=x.size:=hp.perm.1
 have hsz:z.size=y.size:=hz.1
 have hhigh:∀i,m≤i→z[i]! = y[i]!:=fun i hi=>hz.2.1 i (Or.inr hi)
 have hlo:∀i,a'≤i→i<m→ltU z[i]! z[m]! = true:=fun i i1 i2=>by
  rw [hhigh m (Nat.le_refl _)]
  exact Sort.permIn_all y z a' m (fun t=>ltU t y[m]! = true) (by omega) hz (fun i i1 i2=>hp.lo i i1 i2) i i1 i2
 have hhi:∀i,m<i→i<b'→ltU z[i]! z[m]! = false:=fun i i1 i2=>by
  rw [hhigh m (Nat.le_refl _),hhigh i (by omega)]
  exact hp.hi i i1 i2
 refine ⟨by omega,by omega,h3,by omega,Or.inr (fun i i1 i2=>hhi i (by omega) i2),fun R r1 r2=>?_⟩
 have hR:∀i,i<m+1→R[i]! = z[i]!:=fun i hi=>r1.2.1 i (Or.inl hi)
 refine h.glue R (Sort.permIn_trans _ _ _ _ _ hp.perm (Sort.permIn_trans _ _ _ _ _ (Sort.permIn_mono y z a' m a' b' (Nat.le_refl _) (by omega) (by omega) hz) (Sort.permIn_mono z R (m+1) b' a' b' (by omega) (Nat.le_refl _) (by omega) r1))) ?_
 refine Sort.sorted_glue swo_ltU (mid:=m) ?_ r2 (fun i i1 i2=>?_) (fun i i1 i2=>?_)
 ·exact hs.congr (fun i i1 i2=>hR i (by omega))
 ·rw [hR i (by omega),hR m (by omega)];exact hlo i i1 i2
 ·rw [hR m (by omega)]
  exact Sort.permIn_all z R (m+1) b' (fun t=>ltU t z[m]! = false) (by omega) r1 (fun i i1 i2=>hhi i (by omega) i2) i (by omega) i2
theorem PQ.right (h:PQ a b d a' b' x) (hp:Parted w wr g n c a' b' x y m) (hz:Sort.PermIn (m+1) b' y z) (hs:Sort.SortedIn ltU (m+1) b' z):PQ a b d a' m z:=by
 have h1:=h.h1;have h3:=h.h3;have hb1:=hp.b1;have hb2:=hp.b2;have hsx:=h.sz
 have hsy:y.size=x.size:=hp.perm.1
 have hsz:z.size=y.size:=hz.1
 have hlow:∀i,i<m+1→z[i]! = y[i]!:=fun i hi=>hz.2.1 i (Or.inl hi)
 have hlo:∀i,a'≤i→i<m→ltU z[i]! z[m]! = true:=fun i i1 i2=>by
  rw [hlow i (by omega),hlow m (by omega)];exact hp.lo i i1 i2
 have hhi:∀i,m<i→i<b'→ltU z[i]! z[m]! = false:=fun i i1 i2=>by
  rw [hlow m (by omega)]
  exact Sort.permIn_all y z (m+1) b' (fun t=>ltU t y[m]! = false) (by omega) hz (fun i i1 i2=>hp.hi i (by omega) i2) i (by omega) i2
 have hpz:Sort.PermIn a' b' x z:=Sort.permIn_trans _ _ _ _ _ hp.perm (Sort.permIn_mono y z (m+1) b' a' b' (by omega) (Nat.le_refl _) (by omega) hz)
 refine ⟨h1,hb1,by omega,by omega,(h.below.perm (by omega) hpz).mono (by omega),fun R r1 r2=>?_⟩
 have hR:∀i,m≤i→R[i]! = z[i]!:=fun i hi=>r1.2.1 i (Or.inr hi)
 refine h.glue R (Sort.permIn_trans _ _ _ _ _ hpz (Sort.permIn_mono z R a' m a' b' (Nat.le_refl _) (by omega) (by omega) r1)) ?_
 refine Sort.sorted_glue swo_ltU (mid:=m) r2 ?_ (fun i i1 i2=>?_) (fun i i1 i2=>?_)
 ·exact hs.congr (fun i i1 i2=>hR i (by omega))
 ·rw [hR m (Nat.le_refl _)]
  exact Sort.permIn_all z R a' m (fun t=>ltU t z[m]! = true) (by omega) r1 (fun i i1 i2=>hlo i i1 i2) i i1 i2
 ·rw [hR m (Nat.le_refl _),hR i (by omega)];exact hhi i i1 i2
end
end Go.Proofs.YtdcgbgecbeegmaaGreatDoor
end
section
namespace Go.Proofs.YtdcgbgecbeegmaaGreatDoor
open Go Go.RowKit Go.Maps
theorem law_u64:Keyed Tryz.prog 81:=int_keyed Tryz.underlying81
theorem plain_bool_inv {P:Program} {e:TypeId} (he:P.underlying e=some .bool) {v:Value} {y:DataW Unit × List MemPlace} (h:plainElem P e v=some y):∃c,v = .bool c:=by
 unfold plainElem at h
 rw [he] at h
 cases v<;>simp at h
 exact ⟨_,rfl⟩
theorem boolR_inv (v:Value) (y:DataW Unit × List MemPlace) (h:plainElem Tryz.prog 4 v=some y):∃c,v = .bool c:=plain_bool_inv Tryz.underlying4 h
theorem keyU_inv (key:Value) (kl:Lit) (h:keyOf Tryz.prog 81 key=some kl):∃x:Nat,key = .int .u64 (x:Int)∧kl = .int .u64 (x:Int)∧in64u x:=by
 obtain ⟨x,rfl,rfl,hw⟩:=Maps.keyOf_int_inv Tryz.underlying81 h
 have h1:IntKind.u64.min=0:=rfl
 have h2:IntKind.u64.max=18446744073709551615:=rfl
 have h3:IntKind.u64.min≤x∧x≤IntKind.u64.max:=by simpa [Lit.wf] using hw
 have hx:0≤x∧x<18446744073709551616:=by omega
 obtain ⟨n,rfl⟩:∃n:Nat,x=(n:Int):=⟨x.toNat,by omega⟩
 exact ⟨n,rfl,rfl,by show n<_;omega⟩
theorem keyU_shape (key:Value) (kl:Lit) (h:keyOf Tryz.prog 81 key=some kl):∃x:Nat,key = .int .u64 (x:Int):=by obtain ⟨x,h,_⟩:=keyU_inv key kl h;exact ⟨x,h⟩
theorem keyU_mk {x:Nat} (h:in64u x):keyOf Tryz.prog 81 (.int .u64 (x:Int))=some (.int .u64 (x:Int)):=by
 have h':x<18446744073709551616:=h
 exact keyOf_int_mk Tryz.underlying81 (by have h1:IntKind.u64.min=0:=rfl;have h2:IntKind.u64.max=18446744073709551615:=rfl;simp [Lit.wf];omega)
theorem boolR_nat (v:Value) (y:DataW Unit × List MemPlace) (h:plainElem Tryz.prog 4 v=some y):∃c:Nat,v = .bool (decide (c=1)):=by
 obtain ⟨c,rfl⟩:=boolR_inv v y h
 cases c
 ·exact ⟨0,rfl⟩
 ·exact ⟨1,rfl⟩
def KeysU (D:DataW Unit) (l:List Nat):Prop:=∀x:Nat,Maps.has D (.int .u64 (x:Int))=true↔x∈l
theorem KeysU.empty:KeysU (.map []) []:=fun x=>by simp [Maps.has]
theorem KeysU.put {D:DataW Unit} {l:List Nat} (h:KeysU D l) (hm:IsMap D) (y:Nat) (d:DataW Unit):KeysU (D.put (.int .u64 (y:Int)) d) (l++[y]):=fun x=>by
 by_cases e:x=y
 ·subst e
  rw [has_put_same hm (by simp [WideAt.IsKeyLit]) d]
  simp
 ·rw [has_put_other (by simp;omega) d,h x]
  simp [e]
def ColU (D:DataW Unit) (left:Lit→Bool) (ss:List Nat):Prop:=ss.Nodup∧∀x:Nat,x∈ss↔(Maps.has D (.int .u64 (x:Int))=true∧left (.int .u64 (x:Int))=false)
theorem ColU.start (D:DataW Unit):ColU D (Maps.has D) []:=⟨List.nodup_nil,fun x=>by cases Maps.has D (.int .u64 (x:Int))<;>simp⟩
theorem ColU.step {D:DataW Unit} {left:Lit→Bool} {ss:List Nat} (h:ColU D left ss) {x:Nat} {y:DataW Unit} (hlk:left (.int .u64 (x:Int))=true) (hat:∀zd,D.atKey (.int .u64 (x:Int)) zd=y):ColU D (fun z=>left z && !z.sameKey (.int .u64 (x:Int))) (ss++[x]):=by
 have hhas:Maps.has D (.int .u64 (x:Int))=true:=has_true_of_atKey hat
 have hnew:x∉ss:=fun hx=>by have:=((h.2 x).1 hx).2;rw [hlk] at this;cases this
 refine ⟨List.nodup_append.2 ⟨h.1,by simp,fun a ha b hb=>by simp at hb;subst hb;exact fun e=>hnew (e ▸ ha)⟩,fun y=>?_⟩
 by_cases hy:y=x
 ·subst hy;simp [hhas,Lit.sameKey]
 ·have hyi:¬(y:Int)=(x:Int):=by omega
  simp [h.2 y,hy,Lit.sameKey,hyi]
theorem ColU.mem {D:DataW Unit} {left:Lit→Bool} {ss l:List Nat} (h:ColU D left ss) (hk:KeysU D l) (hl:∀kl,left kl=false) (x:Nat):x∈ss↔x∈l:=by
 rw [h.2 x,hl,hk x];simp
theorem sorted_dict {ss l:List Nat} {z:Array Nat} (hn:ss.Nodup) (hm:∀x,x∈ss↔x∈l) (hp:Sort.PermIn 0 ss.length ss.toArray z) (hs:Sort.SortedIn ltU 0 ss.length z):z.toList=dictD l:=by
 have hsz:z.size=ss.length:=by rw [hp.1];simp
 have hperm:z.toList.Perm ss:=by
  have h:=hp.2.2
  have e1:z.extract 0 ss.length=z:=by rw [← hsz];exact Array.extract_size
  have e2:ss.toArray.extract 0 ss.length=ss.toArray:=by
   have:ss.toArray.size=ss.length:=by simp
   rw [← this];exact Array.extract_size
  rw [e1,e2] at h
  simpa using h
 have hnd:z.toList.Nodup:=hperm.nodup_iff.2 hn
 refine (dictD_unique l z.toList ?_ (fun x=>by rw [hperm.mem_iff,hm])).symm
 refine List.pairwise_iff_getElem.2 (fun i j hi hj hij=>?_)
 have hi':i<z.size:=by simpa using hi
 have hj':j<z.size:=by simpa using hj
 have h1:=hs i j (Nat.zero_le _) hij (by omega)
 rw [getElem!_pos z j hj',getElem!_pos z i hi'] at h1
 have h2:z[i]≠z[j]:=by
  have:=List.pairwise_iff_getElem.1 hnd i j hi hj hij
  simpa using this
 simp [ltU] at h1
 simp only [Array.getElem_toList]
 omega
theorem grown_mods {S:Nat→Prop} {w w':World} {row:Option Nat} (h:w.grownBy w' row) (hS:∀k,row=some k→S k):Mods S w w':=
 ⟨h.os,h.tape,h.output,h.size,fun k hk hn=>h.block k hk (fun e=>hn (hS k e.symm))⟩
theorem mods_grown {w w':World} {row:Option Nat} (h:Mods (fun k=>row=some k) w w'):w.grownBy w' row:=
 ⟨h.os,h.tape,h.output,h.size,fun k hk hn=>h.block k hk (fun e=>hn e.symm)⟩
end Go.Proofs.YtdcgbgecbeegmaaGreatDoor
end
section
set_option maxRecDepth 20000
namespace Go.Proofs.YtdcgbgecbeegmaaGreatDoor
open Go Go.RowKit
theorem insOuter_step {a b i:Nat} {d:Array Nat} (h:i<b):Sort.insOuter ltU a b i d=Sort.insOuter ltU a b (i+1) (Sort.insInner ltU a i d):=by rw [Sort.insOuter,if_pos h]
theorem insOuter_end {a b i:Nat} {d:Array Nat} (h:¬i<b):Sort.insOuter ltU a b i d=d:=by rw [Sort.insOuter,if_neg h]
theorem insInner_step {a j:Nat} {d:Array Nat} (h:a<j+1) (hl:ltU d[j+1]! d[j]! = true):Sort.insInner ltU a (j+1) d=Sort.insInner ltU a j (Sort.swp d (j+1) j):=by
 rw [Sort.insInner,if_pos (by rw [hl];simpa using h)]
theorem insInner_le {a j:Nat} {d:Array Nat} (h:j≤a):Sort.insInner ltU a j d=d:=by
 cases j with
 | zero=>rfl
 | succ j=>rw [Sort.insInner,if_neg (by simp;omega)]
theorem insInner_not {a j:Nat} {d:Array Nat} (hl:ltU d[j+1]! d[j]! = false):Sort.insInner ltU a (j+1) d=d:=by rw [Sort.insInner,if_neg (by rw [hl];simp)]
set_option maxHeartbeats 8000000 in
theorem insertion_u64 (g n c a b:Nat) (d:Array Nat) (w:World) (h:SU w w g n c d) (hab:a≤b) (hb:b≤n) (hn:n<4611686018427387904) :
  Calls Tryz.prog 301 #[.slice (some ⟨g,0,none⟩) n c,.int .i64 (a:Int),.int .i64 (b:Int)] w fun e w'=>e = .returned (.tuple #[])∧SU w w' g n c (Sort.insertionSort ltU d a b):=by
 have HS:=Lib.hid h
 clear h
 go_enter Tryz.func301,Tryz.ntmps301
 go_wp2_with fail
 go_loopw [6] (fun iv wr=>∃(i:Nat) (x:Array Nat),a<i∧i≤b+1∧iv = .int .i64 (i:Int)∧Hid (SU w wr g n c x)∧Hid (Sort.insOuter ltU a b i x=Sort.insertionSort ltU d a b)) (fun iv _=>b+1-(intOf iv).toNat)
 case atStart=>exact ⟨a+1,d,by omega,by omega,by go_num,HS.out,rfl⟩
 case round=>
  obtain ⟨i,x,hai,hib,rfl,HX,HE⟩:=hrel
  clear HS
  by_cases hlt:i<b
  ·have hlt':(i:Int)<(b:Int):=by omega
   rw [insOuter_step hlt] at HE
   go_wp2_with fail
   go_loopw [7] (fun jv wr=>∃(j:Nat) (y:Array Nat),a≤j∧j≤i∧jv = .int .i64 (j:Int)∧Hid (SU w wr g n c y)∧Hid (Sort.insInner ltU a j y=Sort.insInner ltU a i x)) (fun jv _=>(intOf jv).toNat)
   case atStart=>exact ⟨i,x,by omega,Nat.le_refl _,rfl,HX.out,rfl⟩
   case round=>
    obtain ⟨j,y,haj,hji,rfl,HY,HI⟩:=hrel
    clear HX
    by_cases hja:a<j
    ·obtain ⟨j,rfl⟩:∃q,j=q+1:=⟨j-1,by omega⟩
     have hgt:(a:Int)<((j+1:Nat):Int):=by omega
     have hgd:decide (((j:Int)+1)>(a:Int))=true:=decide_eq_true (by omega)
     have hc1:=HY.out.cell (i:=j+1) (by omega)
     have hc0:=HY.out.cell (i:=j) (by omega)
     have hf1:=HY.out.free (j+1)
     have hf0:=HY.out.free j
     obtain ⟨p,hp⟩:∃p,y[j+1]! = p:=⟨_,rfl⟩
     obtain ⟨q,hq⟩:∃q,y[j]! = q:=⟨_,rfl⟩
     rw [hp] at hc1
     rw [hq] at hc0
     have HP:=Lib.hid hp;have HQ:=Lib.hid hq
     clear hp hq
     have hn1:((j+1:Nat):Int)<(n:Int):=by omega
     have hn0:(j:Int)<(n:Int):=by omega
     go_wp2_with fail
     go_quiet ((go_at_call 296;refine Calls.quiet_of_same (less_u64' _ _ _)))
     cases hlv:ltU p q with
     | true=>
      have HN:Hid (Sort.insInner ltU a j (Sort.swp y (j+1) j)=Sort.insInner ltU a i x):=by
       show _=_
       rw [← HI.out,insInner_step (by omega) (by rw [HP.out,HQ.out];exact hlv)]
      have HS2:=Lib.hid ((HY.out.drewN nq).swp (i:=j+1) (j:=j) (by omega) (by omega))
      rw [HP.out,HQ.out] at HS2
      have hd1:(wr.drewN nq).cell? ⟨g,j+1,none⟩=some (.int .u64 (p:Int)):=hc1
      have hd0:(wr.drewN nq).cell? ⟨g,j,none⟩=some (.int .u64 (q:Int)):=hc0
      have he1:(wr.drewN nq).frozen? ⟨g,j+1,none⟩=false:=hf1
      have he0:(wr.drewN nq).frozen? ⟨g,j,none⟩=false:=hf0
      have hjj:¬(j+1=j):=by omega
      generalize wr.drewN nq=wq at *
      clear hc1 hc0 hf1 hf0
      go_wp2_with fail
      go_big_region
      go_wp2_with fail
      go_round
      case rel=>exact ⟨j,_,by omega,by omega,rfl,HS2.out,HN.out⟩
      case measure=>simp [intOf]
     | false=>
      have HN:Hid (Sort.insOuter ltU a b (i+1) y=Sort.insertionSort ltU d a b):=by
       show _=_
       rw [← HE.out,← HI.out,insInner_not (by rw [HP.out,HQ.out];exact hlv)]
      have HX2:=Lib.hid (HY.out.drewN nq)
      generalize wr.drewN nq=wq at *
      go_wp2_with fail
      go_round
      case rel=>exact ⟨i+1,y,by omega,by omega,by go_num,HX2.out,HN.out⟩
      case measure=>simp [intOf];omega
    ·obtain rfl:j=a:=by omega
     have HN:Hid (Sort.insOuter ltU j b (i+1) y=Sort.insertionSort ltU d j b):=by
      show _=_
      rw [← HE.out,← HI.out,insInner_le (Nat.le_refl _)]
     go_wp2_with fail
     go_quiet ((go_at_call 296;refine Calls.quiet_of_same (less_u64' _ _ _)))
     have HX2:=Lib.hid (HY.out.drewN nq)
     generalize wr.drewN nq=wq at *
     go_wp2_with fail
     go_round
     case rel=>exact ⟨i+1,y,by omega,by omega,by go_num,HX2.out,HN.out⟩
     case measure=>simp [intOf];omega
  ·have hlt':¬(i:Int)<(b:Int):=by omega
   go_wp2_with fail
   go_end0
   refine ⟨rfl,?_⟩
   rw [← HE.out,insOuter_end hlt]
   exact HX.out
end Go.Proofs.YtdcgbgecbeegmaaGreatDoor
end
