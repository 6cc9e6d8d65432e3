/- Texts 38. -/
import Derived.Test.YtdcgbgecbeegmaaGreatDoorMgSA
import Derived.Test.YtdcgbgecbeegmaaGreatDoorMgS14
import Derived.OwnWalk
import Derived.BigRegion
import Derived.Sort.AssemblyPlain
import Derived.Shelf.Small.Bits
import Derived.Lib.BitFns
set_option linter.unusedVariables false
set_option linter.unusedSimpArgs false
set_option maxHeartbeats 400000000
set_option maxRecDepth 100000
section
namespace Go.Proofs.YtdcgbgecbeegmaaGreatDoor
open Go Go.RowKit
def AB (x y:Nat):Bool:=decide (x<y)
structure SU (w wr:World) (g n c:Nat) (d:Array Nat):Prop where
 sz:d.size=n
 row:wr.ownsRow 0 81 1 (.slice (some ⟨g,0,none⟩) n c) n (AL d.toList)
 Ai:Ac (fun k=>k=g) w wr
theorem g7 {d:Array Nat} {i:Nat} (h:i<d.size):(AL d.toList)[i]? = some (.int .u64 (d[i]! : Int)):=by
 rw [AL,zBQ,zEJ,Array.getElem?_eq_getElem h,zDW d i h];rfl
theorem SU.cell {w wr:World} {g n c:Nat} {d:Array Nat} (h:SU w wr g n c d) {i:Nat} (hi:i<n):wr.cell? ⟨g,i,none⟩=some (.int .u64 (d[i]! : Int)):=by
 rw [h.row.cellAt i (by omega),g7 (by rw [h.sz];exact hi)]
theorem SU.free {w wr:World} {g n c:Nat} {d:Array Nat} (h:SU w wr g n c d) (i:Nat):wr.frozen? ⟨g,i,none⟩=false:=h.row.frozenAt i
theorem SU.drewN {w wr:World} {g n c:Nat} {d:Array Nat} (h:SU w wr g n c d) (m:Nat):SU w (wr.drewN m) g n c d:=
 ⟨h.sz,(Ac.drewN (fun _=>False) wr m).owns h.row (fun _ _ e=>e),h.Ai.trans (Ac.drewN _ wr m) (fun _ _ e=>e)⟩
theorem SU.swp {w wr:World} {g n c:Nat} {d:Array Nat} (h:SU w wr g n c d) {i j:Nat} (hi:i<n) (hj:j<n) :
  SU w ((wr.setCell ⟨g,i,none⟩ (.int .u64 (d[j]! : Int))).setCell ⟨g,j,none⟩ (.int .u64 (d[i]! : Int))).drew g n c (Sort.swp d i j):=by
 have h2:=((h.row.stored i (.int .u64 (d[j]! : Int))).1.stored j (.int .u64 (d[i]! : Int))).1
 have e:((AL d.toList).set i (.int .u64 (d[j]! : Int))).set j (.int .u64 (d[i]! : Int))=AL (Sort.swp d i j).toList:=by
  simp [AL,Sort.swp,zGO]
 rw [e] at h2
 have hS:∀(wy:World) (o:Nat) (v:Value),Ac (fun k=>k=g) wy (wy.setCell ⟨g,o,none⟩ v):=fun wy o v=>Ac.set _ _ _ _ (fun _=>rfl)
 exact ⟨by rw [Sort.size_swp];exact h.sz,(Ac.drew (fun _=>False) _).owns h2 (fun _ _ e=>e),
  ((h.Ai.trans (hS _ _ _) (fun _ _ e=>e)).trans (hS _ _ _) (fun _ _ e=>e)).trans (Ac.drew _ _) (fun _ _ e=>e)⟩
theorem SU.mid {w wr:World} {g n c:Nat} {d:Array Nat} (h:SU w wr g n c d) {i j:Nat} (hi:i<n) (hj:j<n) :
  (wr.setCell ⟨g,i,none⟩ (.int .u64 (d[j]! : Int))).drew.cell? ⟨g,j,none⟩=some (.int .u64 (d[j]! : Int))∧(wr.setCell ⟨g,i,none⟩ (.int .u64 (d[j]! : Int))).drew.frozen? ⟨g,j,none⟩=false:=by
 have h2:=(h.row.stored i (.int .u64 (d[j]! : Int))).1
 refine ⟨?_,h2.frozenAt j⟩
 have h3:=h2.cellAt j (by omega)
 refine h3.trans ?_
 by_cases e:i=j
 ·subst e
  rw [List.getElem?_set_self (by rw [BP,zGM,h.sz];exact hi)]
 ·rw [List.getElem?_set_ne e,g7 (by rw [h.sz];exact hj)]
theorem SU.trans {w wr wz:World} {g n c:Nat} {d e:Array Nat} (h:SU w wr g n c d) (k:SU wr wz g n c e):SU w wz g n c e:=⟨k.sz,k.row,h.Ai.trans k.Ai (fun _ _ e=>e)⟩
theorem SU.here {w wr:World} {g n c:Nat} {d:Array Nat} (h:SU w wr g n c d):SU wr wr g n c d:=⟨h.sz,h.row,Ac.refl _ _⟩
theorem dK (x:Nat) (w:World):Calls Tryz.prog 309 #[.int .u64 (x:Int)] w fun e w'=>e = .returned (.bool false)∧w'=w:=by
 go_enter Tryz.func309,Tryz.ntmps309
 go_wp2_with fail
 go_ret
 exact ⟨by simp,rfl⟩
theorem Ak (x y:Nat) (w:World):Calls Tryz.prog 296 #[.int .u64 (x:Int),.int .u64 (y:Int)] w fun e w'=>e = .returned (.bool (AB x y))∧w'=w:=by
 go_enter Tryz.func296,Tryz.ntmps296
 go_wp2_with fail
 refine (dK x w).mono ?_
 rintro e w1 ⟨rfl,rfl⟩
 go_wp2_with fail
 go_ret
 exact ⟨by simp [AB],rfl⟩
section
structure ES (w wr:World) (g n c a b:Nat) (d x:Array Nat) (i j p:Nat):Prop where
 su:SU w wr g n c x
 perm:Sort.PermIn a b d x
 hp:x[a]! = p
 lo:∀k,a<k→k<i→x[k]! < p
 hi:∀k,j<k→k<b→p≤x[k]!
 b1:a<i
 b2:j<b
 b3:i≤j+1
section
variable {w wr wz:World} {g n c a b:Nat} {d x:Array Nat} {i j p q:Nat}
theorem ES.drewN (h:ES w wr g n c a b d x i j p) (m:Nat):ES w (wr.drewN m) g n c a b d x i j p:=⟨h.su.drewN m,h.perm,h.hp,h.lo,h.hi,h.b1,h.b2,h.b3⟩
theorem ES.up (h:ES w wr g n c a b d x i j p) (C3:i≤j) (hl:AB x[i]! p=true):ES w wr g n c a b d x (i+1) j p:=
 ⟨h.su,h.perm,h.hp,fun k h1 h2=>by
  by_cases e:k=i
  ·subst e;simpa [AB] using hl
  ·exact h.lo k h1 (by omega),h.hi,by have:=h.b1;omega,h.b2,by omega⟩
theorem ES.down (h:ES w wr g n c a b d x i (j+1) p) (C3:i≤j+1) (hl:AB x[j+1]! p=false):ES w wr g n c a b d x i j p:=
 ⟨h.su,h.perm,h.hp,h.lo,fun k h1 h2=>by
  by_cases e:k=j+1
  ·subst e;simpa [AB] using hl
  ·exact h.hi k (by omega) h2,h.b1,by have:=h.b2;omega,C3⟩
theorem ES.swap (h:ES w wr g n c a b d x i (j+1) p) (hb:b≤n) (C3:i≤j+1) (hi:AB x[i]! p=false) (hj:AB x[j+1]! p=true) (hs:SU w wz g n c (Sort.swp x i (j+1))):i≤j∧ES w wz g n c a b d (Sort.swp x i (j+1)) (i+1) j p:=by
 have BC:i≠j+1:=fun e=>by subst e;rw [hi] at hj;cases hj
 have Ed:=h.su.sz
 have h1:=h.b1;have h2:=h.b2
 have ei:(Sort.swp x i (j+1))[i]! = x[j+1]!:=Sort.swp_left x i (j+1) (by omega) BC
 have ej:(Sort.swp x i (j+1))[j+1]! = x[i]!:=Sort.swp_right x i (j+1) (by omega)
 have eo:∀k,k≠i→k≠j+1→(Sort.swp x i (j+1))[k]! = x[k]!:=fun k e1 e2=>Sort.swp_other x i (j+1) k e1 e2
 refine ⟨by omega,hs,Sort.permIn_trans _ _ _ _ _ h.perm (Sort.swp_permIn x a b i (j+1) (by omega) (by omega) (by omega) h2 (by omega)),?_,?_,?_,by omega,by omega,by omega⟩
 ·rw [eo a (by omega) (by omega)];exact h.hp
 ·intro k k1 k2
  by_cases e:k=i
  ·subst e;rw [ei];simpa [AB] using hj
  ·rw [eo k e (by omega)];exact h.lo k k1 (by omega)
 ·intro k k1 k2
  by_cases e:k=j+1
  ·subst e;rw [ej];simpa [AB] using hi
  ·rw [eo k (by omega) e];exact h.hi k (by omega) k2
structure PH (w wr:World) (g n c a b:Nat) (d x:Array Nat) (m:Nat):Prop where
 su:SU w wr g n c x
 perm:Sort.PermIn a b d x
 b1:a≤m
 b2:m<b
 lo:∀k,a≤k→k<m→AB x[k]! x[m]! = true
 hi:∀k,m<k→k<b→AB x[k]! x[m]! = false
theorem ES.J9 (h:ES w wr g n c a b d x i j p) (hb:b≤n) (C3:j<i) (hs:SU w wz g n c (Sort.swp x j a)):PH w wz g n c a b d (Sort.swp x j a) j:=by
 have Ed:=h.su.sz
 have h1:=h.b1;have h2:=h.b2;have h3:=h.b3
 have ea:(Sort.swp x j a)[a]! = x[j]!:=Sort.swp_right x j a (by omega)
 have ej:(Sort.swp x j a)[j]! = p:=by
  by_cases e:j=a
  ·subst e;rw [ea];exact h.hp
  ·rw [Sort.swp_left x j a (by omega) e];exact h.hp
 have eo:∀k,k≠j→k≠a→(Sort.swp x j a)[k]! = x[k]!:=fun k e1 e2=>Sort.swp_other x j a k e1 e2
 refine ⟨hs,Sort.permIn_trans _ _ _ _ _ h.perm (Sort.swp_permIn x a b j a (by omega) h2 (zAD _) (by omega) (by omega)),by omega,h2,?_,?_⟩
 ·intro k k1 k2
  rw [ej]
  by_cases e:k=a
  ·subst e;rw [ea];have:=h.lo j (by omega) (by omega);simpa [AB] using this
  ·rw [eo k (by omega) e];have:=h.lo k (by omega) (by omega);simpa [AB] using this
 ·intro k k1 k2
  rw [ej,eo k (by omega) (by omega)]
  have:=h.hi k k1 k2
  simpa [AB] using this
theorem ES.start (h:SU w wr g n c (Sort.swp d a q)) (hd:d.size=n) (hq:a≤q) (qW:q<b) (hb:b≤n):ES w wr g n c a b d (Sort.swp d a q) (a+1) (b-1) (Sort.swp d a q)[a]!:=
 ⟨h,Sort.swp_permIn d a b a q (zAD _) (by omega) hq qW (by omega),rfl,fun k k1 k2=>by omega,fun k k1 k2=>by omega,by omega,by omega,by omega⟩
end
theorem A7 (g n c a b q:Nat) (d:Array Nat) (w:World) (h:SU w w g n c d) (hq:a≤q) (qW:q<b) (hb:b≤n) (hn:n<4611686018427387904) :
  Calls Tryz.prog 308 #[.slice (some ⟨g,0,none⟩) n c,.int .i64 (a:Int),.int .i64 (b:Int),.int .i64 (q:Int)] w fun e w'=>∃(m:Nat) (r:Bool) (x:Array Nat),e = .returned (.tuple #[.int .i64 (m:Int),.bool r])∧PH w w' g n c a b d x m:=by
 have HS:=zAA h
 clear h
 have G5:=HS.out.cell (i:=a) (by omega)
 have QK:=HS.out.free a
 have FY:=HS.out.cell (i:=q) (by omega)
 have NM:=HS.out.free q
 have Ct:(a:Int)<(n:Int):=by omega
 have JF:(q:Int)<(n:Int):=by omega
 have HS2:=zAA (HS.out.swp (i:=a) (j:=q) (by omega) (by omega))
 go_enter Tryz.func308,Tryz.ntmps308
 obtain ⟨QM,QN⟩:=HS.out.mid (i:=a) (j:=q) (by omega) (by omega)
 go_wp2_with fail
 go_big_region
 obtain ⟨J,hJ⟩:∃J,b=J+1:=⟨b-1,by omega⟩
 have hJi:(b:Int)-1=(J:Int):=by omega
 have fP:=zAA (ES.start HS2.out HS.out.sz hq qW hb)
 rw [show b-1=J by omega] at fP
 generalize World.drew _=w1 at *
 clear G5 QK FY NM QM QN HS HS2 JF
 generalize Sort.swp d a q=x0 at *
 generalize x0[a]! = p at *
 go_wp2_with fail
 go_loopw [10] (fun iv wr=>∃i:Nat,iv = .int .i64 (i:Int)∧a+1≤i∧Hid (ES w wr g n c a b d x0 i J p)) (fun iv _=>b+1-(intOf iv).toNat)
 case atStart=>exact ⟨a+1,by go_num,zAD _,fP.out⟩
 case round=>
  obtain ⟨i,rfl,wN,HA⟩:=hrel
  have RW:=HA.out.b1;have LQ:=HA.out.b2;have Uw:=HA.out.b3
  clear fP
  by_cases C3:i≤J
  ·have B1:(i:Int)≤(J:Int):=by omega
   have BT:decide ((i:Int)≤(J:Int))=true:=zBA B1
   have G5:=HA.out.su.cell (i:=i) (by omega)
   have G4:=HA.out.su.cell (i:=a) (by omega)
   rw [HA.out.hp] at G4
   have Ct:(i:Int)<(n:Int):=by omega
   go_wp2_with fail
   go_quiet ((go_at_call 296;refine Calls.quiet_of_same (Ak _ _ _)))
   have HB:=zAA (HA.out.drewN nq)
   generalize World.drewN _ nq=wq at *
   clear G5 G4 HA
   cases hl:AB x0[i]! p with
   | true=>
    have HC:=zAA (HB.out.up C3 hl)
    go_wp2_with fail
    go_round
    case rel=>exact ⟨i+1,by go_num,by omega,HC.out⟩
    case measure=>simp [intOf]<;>omega
   | false=>
    have HF:Hid (i≤J→AB x0[i]! p=false):=fun _=>hl
    clear B1 BT C3 hl
    go_wp2_with fail
    go_loopw [11] (fun jv wr=>∃j:Nat,jv = .int .i64 (j:Int)∧j≤J∧Hid (ES w wr g n c a b d x0 i j p)) (fun jv _=>(intOf jv).toNat)
    case atStart=>exact ⟨J,by go_num,zAD _,HB.out⟩
    case round=>
     obtain ⟨j,rfl,xm,HA⟩:=hrel
     have Vw:=HA.out.b2;have jd:=HA.out.b3
     clear HB
     by_cases C3:i≤j
     ·obtain ⟨j,rfl⟩:∃z,j=z+1:=⟨j-1,by omega⟩
      have B1:(i:Int)≤((j+1:Nat):Int):=by omega
      have BT:decide ((i:Int)≤(j:Int)+1)=true:=zBA (by omega)
      have FY:=HA.out.su.cell (i:=j+1) (by omega)
      have G4:=HA.out.su.cell (i:=a) (by omega)
      rw [HA.out.hp] at G4
      have JF:(j:Int)+1<(n:Int):=by omega
      go_wp2_with fail
      go_quiet ((go_at_call 296;refine Calls.quiet_of_same (Ak _ _ _)))
      have HB:=zAA (HA.out.drewN nq)
      generalize World.drewN _ nq=wq2 at *
      clear FY G4 HA
      cases hl:AB x0[j+1]! p with
      | false=>
       have HC:=zAA (HB.out.down C3 hl)
       go_wp2_with fail
       go_round
       case rel=>exact ⟨j,by go_num,by omega,HC.out⟩
       case measure=>simp [intOf]<;>omega
      | true=>
       have QL:AB x0[i]! p=false:=HF.out (by omega)
       have HJ:Hid (i≤j+1∧AB x0[i]! p=false∧AB x0[j+1]! p=true):=⟨C3,QL,hl⟩
       have NO:¬((j+1:Nat):Int)<(i:Int):=by omega
       clear BT QL hl B1
       have G5:=HB.out.su.cell (i:=i) (by omega)
       have QK:=HB.out.su.free i
       have FY:=HB.out.su.cell (i:=j+1) (by omega)
       have NM:=HB.out.su.free (j+1)
       have Ct:(i:Int)<(n:Int):=by omega
       have JF:(j:Int)+1<(n:Int):=by omega
       obtain ⟨QM,QN⟩:=HB.out.su.mid (i:=i) (j:=j+1) (by omega) (by omega)
       obtain ⟨Xe,SK⟩:=HB.out.swap hb HJ.out.1 HJ.out.2.1 HJ.out.2.2 (HB.out.su.swp (i:=i) (j:=j+1) (by omega) (by omega))
       have Fu:=zAA SK
       clear SK
       go_wp2_with fail
       go_big_region
       generalize World.drew _=w3 at *
       clear G5 FY QK NM QM QN HJ HB
       generalize Sort.swp x0 i (j+1)=y at *
       go_wp2_with fail
       go_loopw [10,11] (fun iv jv wr=>∃(i j:Nat) (z:Array Nat),iv = .int .i64 (i:Int)∧jv = .int .i64 (j:Int)∧Hid (ES w wr g n c a b d z i j p)) (fun iv _ _=>b+1-(intOf iv).toNat)
       case atStart=>exact ⟨i+1,j,y,by go_num,by go_num,Fu.out⟩
       case round=>
        obtain ⟨i0,jJ,z,rfl,rfl,JK⟩:=hrel
        clear Fu HF NO C3 Xe Vw jd RW LQ Uw wN
        have hbj:=JK.out.b2
        go_wp2_with fail
        go_loopw [10] (fun iv wr=>∃i:Nat,iv = .int .i64 (i:Int)∧i0≤i∧Hid (ES w wr g n c a b d z i jJ p)) (fun iv _=>b+1-(intOf iv).toNat)
        case atStart=>exact ⟨i0,by go_num,zAD _,JK.out⟩
        case round=>
         obtain ⟨i,rfl,wN,HA⟩:=hrel
         have RW:=HA.out.b1;have LQ:=HA.out.b2;have Uw:=HA.out.b3
         clear JK
         by_cases C3:i≤jJ
         ·have B1:(i:Int)≤(jJ:Int):=by omega
          have BT:decide ((i:Int)≤(jJ:Int))=true:=zBA B1
          have G5:=HA.out.su.cell (i:=i) (by omega)
          have G4:=HA.out.su.cell (i:=a) (by omega)
          rw [HA.out.hp] at G4
          have Ct:(i:Int)<(n:Int):=by omega
          go_wp2_with fail
          go_quiet ((go_at_call 296;refine Calls.quiet_of_same (Ak _ _ _)))
          have HB:=zAA (HA.out.drewN nq)
          generalize World.drewN _ nq=wq at *
          clear G5 G4 HA
          cases hl:AB z[i]! p with
          | true=>
           have HC:=zAA (HB.out.up C3 hl)
           go_wp2_with fail
           go_round
           case rel=>exact ⟨i+1,by go_num,by omega,HC.out⟩
           case measure=>simp [intOf]<;>omega
          | false=>
           have HF:Hid (i≤jJ→AB z[i]! p=false):=fun _=>hl
           clear B1 BT C3 hl
           go_wp2_with fail
           go_loopw [11] (fun jv wr=>∃j:Nat,jv = .int .i64 (j:Int)∧j≤jJ∧Hid (ES w wr g n c a b d z i j p)) (fun jv _=>(intOf jv).toNat)
           case atStart=>exact ⟨jJ,by go_num,zAD _,HB.out⟩
           case round=>
            obtain ⟨j,rfl,xm,HA⟩:=hrel
            have Vw:=HA.out.b2;have jd:=HA.out.b3
            clear HB
            by_cases C3:i≤j
            ·obtain ⟨j,rfl⟩:∃z,j=z+1:=⟨j-1,by omega⟩
             have B1:(i:Int)≤((j+1:Nat):Int):=by omega
             have BT:decide ((i:Int)≤(j:Int)+1)=true:=zBA (by omega)
             have FY:=HA.out.su.cell (i:=j+1) (by omega)
             have G4:=HA.out.su.cell (i:=a) (by omega)
             rw [HA.out.hp] at G4
             have JF:(j:Int)+1<(n:Int):=by omega
             go_wp2_with fail
             go_quiet ((go_at_call 296;refine Calls.quiet_of_same (Ak _ _ _)))
             have HB:=zAA (HA.out.drewN nq)
             generalize World.drewN _ nq=wq2 at *
             clear FY G4 HA
             cases hl:AB z[j+1]! p with
             | false=>
              have HC:=zAA (HB.out.down C3 hl)
              go_wp2_with fail
              go_round
              case rel=>exact ⟨j,by go_num,by omega,HC.out⟩
              case measure=>simp [intOf]<;>omega
             | true=>
              have QL:AB z[i]! p=false:=HF.out (by omega)
              have HJ:Hid (i≤j+1∧AB z[i]! p=false∧AB z[j+1]! p=true):=⟨C3,QL,hl⟩
              have NO:¬((j+1:Nat):Int)<(i:Int):=by omega
              clear BT QL hl B1
              have G5:=HB.out.su.cell (i:=i) (by omega)
              have QK:=HB.out.su.free i
              have FY:=HB.out.su.cell (i:=j+1) (by omega)
              have NM:=HB.out.su.free (j+1)
              have Ct:(i:Int)<(n:Int):=by omega
              have JF:(j:Int)+1<(n:Int):=by omega
              obtain ⟨QM,QN⟩:=HB.out.su.mid (i:=i) (j:=j+1) (by omega) (by omega)
              obtain ⟨Xe,SK⟩:=HB.out.swap hb HJ.out.1 HJ.out.2.1 HJ.out.2.2 (HB.out.su.swp (i:=i) (j:=j+1) (by omega) (by omega))
              have Fu:=zAA SK
              clear SK
              go_wp2_with fail
              go_big_region
              generalize World.drew _=w3 at *
              clear G5 FY QK NM QM QN HJ HB
              generalize Sort.swp z i (j+1)=y at *
              go_wp2_with fail
              go_round
              case rel=>exact ⟨i+1,j,y,by go_num,by go_num,Fu.out⟩
              case measure=>simp [intOf]<;>omega
            ·have B1:¬(i:Int)≤(j:Int):=by omega
             have BT:decide ((i:Int)≤(j:Int))=false:=zAV B1
             go_wp2_with fail
             go_quiet ((go_at_call 296;refine Calls.quiet_of_same (Ak _ _ _)))
             have HB:=zAA (HA.out.drewN nq)
             generalize World.drewN _ nq=wq2 at *
             clear HA BT
             have NO:(j:Int)<(i:Int):=by omega
             have FY:=HB.out.su.cell (i:=j) (by omega)
             have NM:=HB.out.su.free j
             have G4:=HB.out.su.cell (i:=a) (by omega)
             have hfa:=HB.out.su.free a
             have JF:(j:Int)<(n:Int):=by omega
             obtain ⟨QM,QN⟩:=HB.out.su.mid (i:=j) (j:=a) (by omega) (by omega)
             have HE:=zAA (HB.out.J9 hb (by omega) (HB.out.su.swp (i:=j) (j:=a) (by omega) (by omega)))
             go_wp2_with fail
             go_big_region
             go_wp2_with fail
             go_ret2
             exact ⟨j,_,_,rfl,HE.out⟩
         ·have B1:¬(i:Int)≤(jJ:Int):=by omega
          have BT:decide ((i:Int)≤(jJ:Int))=false:=zAV B1
          have HF:Hid (i≤jJ→AB z[i]! p=false):=fun h=>absurd h C3
          go_wp2_with fail
          go_quiet ((go_at_call 296;refine Calls.quiet_of_same (Ak _ _ _)))
          have HB:=zAA (HA.out.drewN nq)
          generalize World.drewN _ nq=wq at *
          clear HA B1 BT C3
          go_wp2_with fail
          go_loopw [11] (fun jv wr=>∃j:Nat,jv = .int .i64 (j:Int)∧j≤jJ∧Hid (ES w wr g n c a b d z i j p)) (fun jv _=>(intOf jv).toNat)
          case atStart=>exact ⟨jJ,by go_num,zAD _,HB.out⟩
          case round=>
           obtain ⟨j,rfl,xm,HA⟩:=hrel
           have Vw:=HA.out.b2;have jd:=HA.out.b3
           clear HB
           by_cases C3:i≤j
           ·obtain ⟨j,rfl⟩:∃z,j=z+1:=⟨j-1,by omega⟩
            have B1:(i:Int)≤((j+1:Nat):Int):=by omega
            have BT:decide ((i:Int)≤(j:Int)+1)=true:=zBA (by omega)
            have FY:=HA.out.su.cell (i:=j+1) (by omega)
            have G4:=HA.out.su.cell (i:=a) (by omega)
            rw [HA.out.hp] at G4
            have JF:(j:Int)+1<(n:Int):=by omega
            go_wp2_with fail
            go_quiet ((go_at_call 296;refine Calls.quiet_of_same (Ak _ _ _)))
            have HB:=zAA (HA.out.drewN nq)
            generalize World.drewN _ nq=wq2 at *
            clear FY G4 HA
            cases hl:AB z[j+1]! p with
            | false=>
             have HC:=zAA (HB.out.down C3 hl)
             go_wp2_with fail
             go_round
             case rel=>exact ⟨j,by go_num,by omega,HC.out⟩
             case measure=>simp [intOf]<;>omega
            | true=>
             have QL:AB z[i]! p=false:=HF.out (by omega)
             have HJ:Hid (i≤j+1∧AB z[i]! p=false∧AB z[j+1]! p=true):=⟨C3,QL,hl⟩
             have NO:¬((j+1:Nat):Int)<(i:Int):=by omega
             clear BT QL hl B1
             have G5:=HB.out.su.cell (i:=i) (by omega)
             have QK:=HB.out.su.free i
             have FY:=HB.out.su.cell (i:=j+1) (by omega)
             have NM:=HB.out.su.free (j+1)
             have Ct:(i:Int)<(n:Int):=by omega
             have JF:(j:Int)+1<(n:Int):=by omega
             obtain ⟨QM,QN⟩:=HB.out.su.mid (i:=i) (j:=j+1) (by omega) (by omega)
             obtain ⟨Xe,SK⟩:=HB.out.swap hb HJ.out.1 HJ.out.2.1 HJ.out.2.2 (HB.out.su.swp (i:=i) (j:=j+1) (by omega) (by omega))
             have Fu:=zAA SK
             clear SK
             go_wp2_with fail
             go_big_region
             generalize World.drew _=w3 at *
             clear G5 FY QK NM QM QN HJ HB
             generalize Sort.swp z i (j+1)=y at *
             go_wp2_with fail
             go_round
             case rel=>exact ⟨i+1,j,y,by go_num,by go_num,Fu.out⟩
             case measure=>simp [intOf]<;>omega
           ·have B1:¬(i:Int)≤(j:Int):=by omega
            have BT:decide ((i:Int)≤(j:Int))=false:=zAV B1
            go_wp2_with fail
            go_quiet ((go_at_call 296;refine Calls.quiet_of_same (Ak _ _ _)))
            have HB:=zAA (HA.out.drewN nq)
            generalize World.drewN _ nq=wq2 at *
            clear HA BT
            have NO:(j:Int)<(i:Int):=by omega
            have FY:=HB.out.su.cell (i:=j) (by omega)
            have NM:=HB.out.su.free j
            have G4:=HB.out.su.cell (i:=a) (by omega)
            have hfa:=HB.out.su.free a
            have JF:(j:Int)<(n:Int):=by omega
            obtain ⟨QM,QN⟩:=HB.out.su.mid (i:=j) (j:=a) (by omega) (by omega)
            have HE:=zAA (HB.out.J9 hb (by omega) (HB.out.su.swp (i:=j) (j:=a) (by omega) (by omega)))
            go_wp2_with fail
            go_big_region
            go_wp2_with fail
            go_ret2
            exact ⟨j,_,_,rfl,HE.out⟩
     ·have B1:¬(i:Int)≤(j:Int):=by omega
      have BT:decide ((i:Int)≤(j:Int))=false:=zAV B1
      go_wp2_with fail
      go_quiet ((go_at_call 296;refine Calls.quiet_of_same (Ak _ _ _)))
      have HB:=zAA (HA.out.drewN nq)
      generalize World.drewN _ nq=wq2 at *
      clear HA BT
      have NO:(j:Int)<(i:Int):=by omega
      have FY:=HB.out.su.cell (i:=j) (by omega)
      have NM:=HB.out.su.free j
      have G4:=HB.out.su.cell (i:=a) (by omega)
      have hfa:=HB.out.su.free a
      have JF:(j:Int)<(n:Int):=by omega
      obtain ⟨QM,QN⟩:=HB.out.su.mid (i:=j) (j:=a) (by omega) (by omega)
      have HE:=zAA (HB.out.J9 hb (by omega) (HB.out.su.swp (i:=j) (j:=a) (by omega) (by omega)))
      go_wp2_with fail
      go_big_region
      go_wp2_with fail
      go_ret2
      exact ⟨j,_,_,rfl,HE.out⟩
  ·have B1:¬(i:Int)≤(J:Int):=by omega
   have BT:decide ((i:Int)≤(J:Int))=false:=zAV B1
   have HF:Hid (i≤J→AB x0[i]! p=false):=fun h=>absurd h C3
   go_wp2_with fail
   go_quiet ((go_at_call 296;refine Calls.quiet_of_same (Ak _ _ _)))
   have HB:=zAA (HA.out.drewN nq)
   generalize World.drewN _ nq=wq at *
   clear HA B1 BT C3
   go_wp2_with fail
   go_loopw [11] (fun jv wr=>∃j:Nat,jv = .int .i64 (j:Int)∧j≤J∧Hid (ES w wr g n c a b d x0 i j p)) (fun jv _=>(intOf jv).toNat)
   case atStart=>exact ⟨J,by go_num,zAD _,HB.out⟩
   case round=>
    obtain ⟨j,rfl,xm,HA⟩:=hrel
    have Vw:=HA.out.b2;have jd:=HA.out.b3
    clear HB
    by_cases C3:i≤j
    ·obtain ⟨j,rfl⟩:∃z,j=z+1:=⟨j-1,by omega⟩
     have B1:(i:Int)≤((j+1:Nat):Int):=by omega
     have BT:decide ((i:Int)≤(j:Int)+1)=true:=zBA (by omega)
     have FY:=HA.out.su.cell (i:=j+1) (by omega)
     have G4:=HA.out.su.cell (i:=a) (by omega)
     rw [HA.out.hp] at G4
     have JF:(j:Int)+1<(n:Int):=by omega
     go_wp2_with fail
     go_quiet ((go_at_call 296;refine Calls.quiet_of_same (Ak _ _ _)))
     have HB:=zAA (HA.out.drewN nq)
     generalize World.drewN _ nq=wq2 at *
     clear FY G4 HA
     cases hl:AB x0[j+1]! p with
     | false=>
      have HC:=zAA (HB.out.down C3 hl)
      go_wp2_with fail
      go_round
      case rel=>exact ⟨j,by go_num,by omega,HC.out⟩
      case measure=>simp [intOf]<;>omega
     | true=>
      have QL:AB x0[i]! p=false:=HF.out (by omega)
      have HJ:Hid (i≤j+1∧AB x0[i]! p=false∧AB x0[j+1]! p=true):=⟨C3,QL,hl⟩
      have NO:¬((j+1:Nat):Int)<(i:Int):=by omega
      clear BT QL hl B1
      have G5:=HB.out.su.cell (i:=i) (by omega)
      have QK:=HB.out.su.free i
      have FY:=HB.out.su.cell (i:=j+1) (by omega)
      have NM:=HB.out.su.free (j+1)
      have Ct:(i:Int)<(n:Int):=by omega
      have JF:(j:Int)+1<(n:Int):=by omega
      obtain ⟨QM,QN⟩:=HB.out.su.mid (i:=i) (j:=j+1) (by omega) (by omega)
      obtain ⟨Xe,SK⟩:=HB.out.swap hb HJ.out.1 HJ.out.2.1 HJ.out.2.2 (HB.out.su.swp (i:=i) (j:=j+1) (by omega) (by omega))
      have Fu:=zAA SK
      clear SK
      go_wp2_with fail
      go_big_region
      generalize World.drew _=w3 at *
      clear G5 FY QK NM QM QN HJ HB
      generalize Sort.swp x0 i (j+1)=y at *
      go_wp2_with fail
      go_loopw [10,11] (fun iv jv wr=>∃(i j:Nat) (z:Array Nat),iv = .int .i64 (i:Int)∧jv = .int .i64 (j:Int)∧Hid (ES w wr g n c a b d z i j p)) (fun iv _ _=>b+1-(intOf iv).toNat)
      case atStart=>exact ⟨i+1,j,y,by go_num,by go_num,Fu.out⟩
      case round=>
       obtain ⟨i0,jJ,z,rfl,rfl,JK⟩:=hrel
       clear Fu HF NO C3 Xe Vw jd RW LQ Uw wN
       have hbj:=JK.out.b2
       go_wp2_with fail
       go_loopw [10] (fun iv wr=>∃i:Nat,iv = .int .i64 (i:Int)∧i0≤i∧Hid (ES w wr g n c a b d z i jJ p)) (fun iv _=>b+1-(intOf iv).toNat)
       case atStart=>exact ⟨i0,by go_num,zAD _,JK.out⟩
       case round=>
        obtain ⟨i,rfl,wN,HA⟩:=hrel
        have RW:=HA.out.b1;have LQ:=HA.out.b2;have Uw:=HA.out.b3
        clear JK
        by_cases C3:i≤jJ
        ·have B1:(i:Int)≤(jJ:Int):=by omega
         have BT:decide ((i:Int)≤(jJ:Int))=true:=zBA B1
         have G5:=HA.out.su.cell (i:=i) (by omega)
         have G4:=HA.out.su.cell (i:=a) (by omega)
         rw [HA.out.hp] at G4
         have Ct:(i:Int)<(n:Int):=by omega
         go_wp2_with fail
         go_quiet ((go_at_call 296;refine Calls.quiet_of_same (Ak _ _ _)))
         have HB:=zAA (HA.out.drewN nq)
         generalize World.drewN _ nq=wq at *
         clear G5 G4 HA
         cases hl:AB z[i]! p with
         | true=>
          have HC:=zAA (HB.out.up C3 hl)
          go_wp2_with fail
          go_round
          case rel=>exact ⟨i+1,by go_num,by omega,HC.out⟩
          case measure=>simp [intOf]<;>omega
         | false=>
          have HF:Hid (i≤jJ→AB z[i]! p=false):=fun _=>hl
          clear B1 BT C3 hl
          go_wp2_with fail
          go_loopw [11] (fun jv wr=>∃j:Nat,jv = .int .i64 (j:Int)∧j≤jJ∧Hid (ES w wr g n c a b d z i j p)) (fun jv _=>(intOf jv).toNat)
          case atStart=>exact ⟨jJ,by go_num,zAD _,HB.out⟩
          case round=>
           obtain ⟨j,rfl,xm,HA⟩:=hrel
           have Vw:=HA.out.b2;have jd:=HA.out.b3
           clear HB
           by_cases C3:i≤j
           ·obtain ⟨j,rfl⟩:∃z,j=z+1:=⟨j-1,by omega⟩
            have B1:(i:Int)≤((j+1:Nat):Int):=by omega
            have BT:decide ((i:Int)≤(j:Int)+1)=true:=zBA (by omega)
            have FY:=HA.out.su.cell (i:=j+1) (by omega)
            have G4:=HA.out.su.cell (i:=a) (by omega)
            rw [HA.out.hp] at G4
            have JF:(j:Int)+1<(n:Int):=by omega
            go_wp2_with fail
            go_quiet ((go_at_call 296;refine Calls.quiet_of_same (Ak _ _ _)))
            have HB:=zAA (HA.out.drewN nq)
            generalize World.drewN _ nq=wq2 at *
            clear FY G4 HA
            cases hl:AB z[j+1]! p with
            | false=>
             have HC:=zAA (HB.out.down C3 hl)
             go_wp2_with fail
             go_round
             case rel=>exact ⟨j,by go_num,by omega,HC.out⟩
             case measure=>simp [intOf]<;>omega
            | true=>
             have QL:AB z[i]! p=false:=HF.out (by omega)
             have HJ:Hid (i≤j+1∧AB z[i]! p=false∧AB z[j+1]! p=true):=⟨C3,QL,hl⟩
             have NO:¬((j+1:Nat):Int)<(i:Int):=by omega
             clear BT QL hl B1
             have G5:=HB.out.su.cell (i:=i) (by omega)
             have QK:=HB.out.su.free i
             have FY:=HB.out.su.cell (i:=j+1) (by omega)
             have NM:=HB.out.su.free (j+1)
             have Ct:(i:Int)<(n:Int):=by omega
             have JF:(j:Int)+1<(n:Int):=by omega
             obtain ⟨QM,QN⟩:=HB.out.su.mid (i:=i) (j:=j+1) (by omega) (by omega)
             obtain ⟨Xe,SK⟩:=HB.out.swap hb HJ.out.1 HJ.out.2.1 HJ.out.2.2 (HB.out.su.swp (i:=i) (j:=j+1) (by omega) (by omega))
             have Fu:=zAA SK
             clear SK
             go_wp2_with fail
             go_big_region
             generalize World.drew _=w3 at *
             clear G5 FY QK NM QM QN HJ HB
             generalize Sort.swp z i (j+1)=y at *
             go_wp2_with fail
             go_round
             case rel=>exact ⟨i+1,j,y,by go_num,by go_num,Fu.out⟩
             case measure=>simp [intOf]<;>omega
           ·have B1:¬(i:Int)≤(j:Int):=by omega
            have BT:decide ((i:Int)≤(j:Int))=false:=zAV B1
            go_wp2_with fail
            go_quiet ((go_at_call 296;refine Calls.quiet_of_same (Ak _ _ _)))
            have HB:=zAA (HA.out.drewN nq)
            generalize World.drewN _ nq=wq2 at *
            clear HA BT
            have NO:(j:Int)<(i:Int):=by omega
            have FY:=HB.out.su.cell (i:=j) (by omega)
            have NM:=HB.out.su.free j
            have G4:=HB.out.su.cell (i:=a) (by omega)
            have hfa:=HB.out.su.free a
            have JF:(j:Int)<(n:Int):=by omega
            obtain ⟨QM,QN⟩:=HB.out.su.mid (i:=j) (j:=a) (by omega) (by omega)
            have HE:=zAA (HB.out.J9 hb (by omega) (HB.out.su.swp (i:=j) (j:=a) (by omega) (by omega)))
            go_wp2_with fail
            go_big_region
            go_wp2_with fail
            go_ret2
            exact ⟨j,_,_,rfl,HE.out⟩
        ·have B1:¬(i:Int)≤(jJ:Int):=by omega
         have BT:decide ((i:Int)≤(jJ:Int))=false:=zAV B1
         have HF:Hid (i≤jJ→AB z[i]! p=false):=fun h=>absurd h C3
         go_wp2_with fail
         go_quiet ((go_at_call 296;refine Calls.quiet_of_same (Ak _ _ _)))
         have HB:=zAA (HA.out.drewN nq)
         generalize World.drewN _ nq=wq at *
         clear HA B1 BT C3
         go_wp2_with fail
         go_loopw [11] (fun jv wr=>∃j:Nat,jv = .int .i64 (j:Int)∧j≤jJ∧Hid (ES w wr g n c a b d z i j p)) (fun jv _=>(intOf jv).toNat)
         case atStart=>exact ⟨jJ,by go_num,zAD _,HB.out⟩
         case round=>
          obtain ⟨j,rfl,xm,HA⟩:=hrel
          have Vw:=HA.out.b2;have jd:=HA.out.b3
          clear HB
          by_cases C3:i≤j
          ·obtain ⟨j,rfl⟩:∃z,j=z+1:=⟨j-1,by omega⟩
           have B1:(i:Int)≤((j+1:Nat):Int):=by omega
           have BT:decide ((i:Int)≤(j:Int)+1)=true:=zBA (by omega)
           have FY:=HA.out.su.cell (i:=j+1) (by omega)
           have G4:=HA.out.su.cell (i:=a) (by omega)
           rw [HA.out.hp] at G4
           have JF:(j:Int)+1<(n:Int):=by omega
           go_wp2_with fail
           go_quiet ((go_at_call 296;refine Calls.quiet_of_same (Ak _ _ _)))
           have HB:=zAA (HA.out.drewN nq)
           generalize World.drewN _ nq=wq2 at *
           clear FY G4 HA
           cases hl:AB z[j+1]! p with
           | false=>
            have HC:=zAA (HB.out.down C3 hl)
            go_wp2_with fail
            go_round
            case rel=>exact ⟨j,by go_num,by omega,HC.out⟩
            case measure=>simp [intOf]<;>omega
           | true=>
            have QL:AB z[i]! p=false:=HF.out (by omega)
            have HJ:Hid (i≤j+1∧AB z[i]! p=false∧AB z[j+1]! p=true):=⟨C3,QL,hl⟩
            have NO:¬((j+1:Nat):Int)<(i:Int):=by omega
            clear BT QL hl B1
            have G5:=HB.out.su.cell (i:=i) (by omega)
            have QK:=HB.out.su.free i
            have FY:=HB.out.su.cell (i:=j+1) (by omega)
            have NM:=HB.out.su.free (j+1)
            have Ct:(i:Int)<(n:Int):=by omega
            have JF:(j:Int)+1<(n:Int):=by omega
            obtain ⟨QM,QN⟩:=HB.out.su.mid (i:=i) (j:=j+1) (by omega) (by omega)
            obtain ⟨Xe,SK⟩:=HB.out.swap hb HJ.out.1 HJ.out.2.1 HJ.out.2.2 (HB.out.su.swp (i:=i) (j:=j+1) (by omega) (by omega))
            have Fu:=zAA SK
            clear SK
            go_wp2_with fail
            go_big_region
            generalize World.drew _=w3 at *
            clear G5 FY QK NM QM QN HJ HB
            generalize Sort.swp z i (j+1)=y at *
            go_wp2_with fail
            go_round
            case rel=>exact ⟨i+1,j,y,by go_num,by go_num,Fu.out⟩
            case measure=>simp [intOf]<;>omega
          ·have B1:¬(i:Int)≤(j:Int):=by omega
           have BT:decide ((i:Int)≤(j:Int))=false:=zAV B1
           go_wp2_with fail
           go_quiet ((go_at_call 296;refine Calls.quiet_of_same (Ak _ _ _)))
           have HB:=zAA (HA.out.drewN nq)
           generalize World.drewN _ nq=wq2 at *
           clear HA BT
           have NO:(j:Int)<(i:Int):=by omega
           have FY:=HB.out.su.cell (i:=j) (by omega)
           have NM:=HB.out.su.free j
           have G4:=HB.out.su.cell (i:=a) (by omega)
           have hfa:=HB.out.su.free a
           have JF:(j:Int)<(n:Int):=by omega
           obtain ⟨QM,QN⟩:=HB.out.su.mid (i:=j) (j:=a) (by omega) (by omega)
           have HE:=zAA (HB.out.J9 hb (by omega) (HB.out.su.swp (i:=j) (j:=a) (by omega) (by omega)))
           go_wp2_with fail
           go_big_region
           go_wp2_with fail
           go_ret2
           exact ⟨j,_,_,rfl,HE.out⟩
    ·have B1:¬(i:Int)≤(j:Int):=by omega
     have BT:decide ((i:Int)≤(j:Int))=false:=zAV B1
     go_wp2_with fail
     go_quiet ((go_at_call 296;refine Calls.quiet_of_same (Ak _ _ _)))
     have HB:=zAA (HA.out.drewN nq)
     generalize World.drewN _ nq=wq2 at *
     clear HA BT
     have NO:(j:Int)<(i:Int):=by omega
     have FY:=HB.out.su.cell (i:=j) (by omega)
     have NM:=HB.out.su.free j
     have G4:=HB.out.su.cell (i:=a) (by omega)
     have hfa:=HB.out.su.free a
     have JF:(j:Int)<(n:Int):=by omega
     obtain ⟨QM,QN⟩:=HB.out.su.mid (i:=j) (j:=a) (by omega) (by omega)
     have HE:=zAA (HB.out.J9 hb (by omega) (HB.out.su.swp (i:=j) (j:=a) (by omega) (by omega)))
     go_wp2_with fail
     go_big_region
     go_wp2_with fail
     go_ret2
     exact ⟨j,_,_,rfl,HE.out⟩
end
section
structure GZ (w wr:World) (g n c a b:Nat) (d x:Array Nat) (i j p:Nat):Prop where
 su:SU w wr g n c x
 perm:Sort.PermIn a b d x
 hp:x[a]! = p
 lo:∀k,a<k→k<i→x[k]!≤p
 hi:∀k,j<k→k<b→p<x[k]!
 b1:a<i
 b2:j<b
 b3:i≤j+1
section
variable {w wr wz:World} {g n c a b:Nat} {d x:Array Nat} {i j p q:Nat}
theorem GZ.drewN (h:GZ w wr g n c a b d x i j p) (m:Nat):GZ w (wr.drewN m) g n c a b d x i j p:=⟨h.su.drewN m,h.perm,h.hp,h.lo,h.hi,h.b1,h.b2,h.b3⟩
theorem GZ.up (h:GZ w wr g n c a b d x i j p) (C3:i≤j) (hl:AB p x[i]! = false):GZ w wr g n c a b d x (i+1) j p:=
 ⟨h.su,h.perm,h.hp,fun k h1 h2=>by
  by_cases e:k=i
  ·subst e;simpa [AB] using hl
  ·exact h.lo k h1 (by omega),h.hi,by have:=h.b1;omega,h.b2,by omega⟩
theorem GZ.down (h:GZ w wr g n c a b d x i (j+1) p) (C3:i≤j+1) (hl:AB p x[j+1]! = true):GZ w wr g n c a b d x i j p:=
 ⟨h.su,h.perm,h.hp,h.lo,fun k h1 h2=>by
  by_cases e:k=j+1
  ·subst e;simpa [AB] using hl
  ·exact h.hi k (by omega) h2,h.b1,by have:=h.b2;omega,C3⟩
theorem GZ.swap (h:GZ w wr g n c a b d x i (j+1) p) (hb:b≤n) (C3:i≤j+1) (hi:AB p x[i]! = true) (hj:AB p x[j+1]! = false) (hs:SU w wz g n c (Sort.swp x i (j+1))):i≤j∧GZ w wz g n c a b d (Sort.swp x i (j+1)) (i+1) j p:=by
 have BC:i≠j+1:=fun e=>by subst e;rw [hi] at hj;cases hj
 have Ed:=h.su.sz
 have h1:=h.b1;have h2:=h.b2
 have ei:(Sort.swp x i (j+1))[i]! = x[j+1]!:=Sort.swp_left x i (j+1) (by omega) BC
 have ej:(Sort.swp x i (j+1))[j+1]! = x[i]!:=Sort.swp_right x i (j+1) (by omega)
 have eo:∀k,k≠i→k≠j+1→(Sort.swp x i (j+1))[k]! = x[k]!:=fun k e1 e2=>Sort.swp_other x i (j+1) k e1 e2
 refine ⟨by omega,hs,Sort.permIn_trans _ _ _ _ _ h.perm (Sort.swp_permIn x a b i (j+1) (by omega) (by omega) (by omega) h2 (by omega)),?_,?_,?_,by omega,by omega,by omega⟩
 ·rw [eo a (by omega) (by omega)];exact h.hp
 ·intro k k1 k2
  by_cases e:k=i
  ·subst e;rw [ei];simpa [AB] using hj
  ·rw [eo k e (by omega)];exact h.lo k k1 (by omega)
 ·intro k k1 k2
  by_cases e:k=j+1
  ·subst e;rw [ej];simpa [AB] using hi
  ·rw [eo k (by omega) e];exact h.hi k (by omega) k2
structure RS (w wr:World) (g n c a b:Nat) (d x:Array Nat) (m p:Nat):Prop where
 su:SU w wr g n c x
 perm:Sort.PermIn a b d x
 b1:a<m
 b2:m≤b
 lo:∀k,a≤k→k<m→AB p x[k]! = false
 hi:∀k,m≤k→k<b→AB p x[k]! = true
theorem GZ.J9 (h:GZ w wr g n c a b d x i j p) (C3:j<i):RS w wr g n c a b d x i p:=by
 have h1:=h.b1;have h2:=h.b2;have h3:=h.b3
 refine ⟨h.su,h.perm,h1,by omega,?_,?_⟩
 ·intro k k1 k2
  by_cases e:k=a
  ·subst e;rw [h.hp];simp [AB]
  ·have:=h.lo k (by omega) k2;simpa [AB] using this
 ·intro k k1 k2
  have:=h.hi k (by omega) k2
  simpa [AB] using this
theorem GZ.start (h:SU w wr g n c (Sort.swp d a q)) (hd:d.size=n) (hq:a≤q) (qW:q<b) (hb:b≤n):GZ w wr g n c a b d (Sort.swp d a q) (a+1) (b-1) d[q]!:=by
 have hp:(Sort.swp d a q)[a]! = d[q]!:=by
  by_cases e:a=q
  ·subst e;exact Sort.swp_right d a a (by omega)
  ·exact Sort.swp_left d a q (by omega) e
 exact ⟨h,Sort.swp_permIn d a b a q (zAD _) (by omega) hq qW (by omega),hp,fun k k1 k2=>by omega,fun k k1 k2=>by omega,by omega,by omega,by omega⟩
end
theorem BB (g n c a b q:Nat) (d:Array Nat) (w:World) (h:SU w w g n c d) (hq:a≤q) (qW:q<b) (hb:b≤n) (hn:n<4611686018427387904) :
  Calls Tryz.prog 307 #[.slice (some ⟨g,0,none⟩) n c,.int .i64 (a:Int),.int .i64 (b:Int),.int .i64 (q:Int)] w fun e w'=>∃(m:Nat) (x:Array Nat),e = .returned (.int .i64 (m:Int))∧RS w w' g n c a b d x m d[q]!:=by
 have HS:=zAA h
 clear h
 have G5:=HS.out.cell (i:=a) (by omega)
 have QK:=HS.out.free a
 have FY:=HS.out.cell (i:=q) (by omega)
 have NM:=HS.out.free q
 have Ct:(a:Int)<(n:Int):=by omega
 have JF:(q:Int)<(n:Int):=by omega
 have HS2:=zAA (HS.out.swp (i:=a) (j:=q) (by omega) (by omega))
 obtain ⟨QM,QN⟩:=HS.out.mid (i:=a) (j:=q) (by omega) (by omega)
 obtain ⟨p,hpq⟩:∃p,d[q]! = p:=⟨_,rfl⟩
 have HPQ:=zAA hpq
 rw [hpq] at FY QM QN HS2 ⊢
 clear hpq
 go_enter Tryz.func307,Tryz.ntmps307
 go_wp2_with fail
 go_big_region
 obtain ⟨J,hJ1,hJ2⟩:∃J,b≤J+1∧J+1≤b:=⟨b-1,by omega,by omega⟩
 have hJi:(b:Int)-1=(J:Int):=by omega
 have fP:=zAA (GZ.start HS2.out HS.out.sz hq qW hb)
 rw [show b-1=J by omega,HPQ.out] at fP
 generalize World.drew _=w1 at *
 clear G5 QK FY NM QM QN HS HS2 JF
 generalize Sort.swp d a q=x0 at *
 go_wp2_with fail
 go_loopw [9,10] (fun iv jv wr=>∃(i j:Nat) (z:Array Nat),iv = .int .i64 (i:Int)∧jv = .int .i64 (j:Int)∧Hid (GZ w wr g n c a b d z i j p)) (fun iv _ _=>b+1-(intOf iv).toNat)
 case atStart=>exact ⟨a+1,J,x0,by go_num,by go_num,fP.out⟩
 case round=>
  obtain ⟨i0,jJ,z,rfl,rfl,JK⟩:=hrel
  clear fP
  have hbj:=JK.out.b2
  go_wp2_with fail
  go_loopw [9] (fun iv wr=>∃i:Nat,iv = .int .i64 (i:Int)∧i0≤i∧Hid (GZ w wr g n c a b d z i jJ p)) (fun iv _=>b+1-(intOf iv).toNat)
  case atStart=>exact ⟨i0,by go_num,zAD _,JK.out⟩
  case round=>
   obtain ⟨i,rfl,wN,HA⟩:=hrel
   have RW:=HA.out.b1;have LQ:=HA.out.b2;have Uw:=HA.out.b3
   clear JK
   by_cases C3:i≤jJ
   ·have B1:(i:Int)≤(jJ:Int):=by omega
    have BT:decide ((i:Int)≤(jJ:Int))=true:=zBA B1
    have G5:=HA.out.su.cell (i:=i) (by omega)
    have G4:=HA.out.su.cell (i:=a) (by omega)
    rw [HA.out.hp] at G4
    have Ct:(i:Int)<(n:Int):=by omega
    go_wp2_with fail
    go_quiet ((go_at_call 296;refine Calls.quiet_of_same (Ak _ _ _)))
    have HB:=zAA (HA.out.drewN nq)
    generalize World.drewN _ nq=wq at *
    clear G5 G4 HA
    cases hl:AB p z[i]! with
    | false=>
     have HC:=zAA (HB.out.up C3 hl)
     go_wp2_with fail
     go_round
     case rel=>exact ⟨i+1,by go_num,by omega,HC.out⟩
     case measure=>simp [intOf]<;>omega
    | true=>
     have HF:Hid (i≤jJ→AB p z[i]! = true):=fun _=>hl
     clear B1 BT C3 hl
     go_wp2_with fail
     go_loopw [10] (fun jv wr=>∃j:Nat,jv = .int .i64 (j:Int)∧j≤jJ∧Hid (GZ w wr g n c a b d z i j p)) (fun jv _=>(intOf jv).toNat)
     case atStart=>exact ⟨jJ,by go_num,zAD _,HB.out⟩
     case round=>
      obtain ⟨j,rfl,xm,HA⟩:=hrel
      have Vw:=HA.out.b2;have jd:=HA.out.b3
      clear HB
      by_cases C3:i≤j
      ·obtain ⟨j,rfl⟩:∃z,j=z+1:=⟨j-1,by omega⟩
       have B1:(i:Int)≤((j+1:Nat):Int):=by omega
       have BT:decide ((i:Int)≤(j:Int)+1)=true:=zBA (by omega)
       have FY:=HA.out.su.cell (i:=j+1) (by omega)
       have G4:=HA.out.su.cell (i:=a) (by omega)
       rw [HA.out.hp] at G4
       have JF:(j:Int)+1<(n:Int):=by omega
       go_wp2_with fail
       go_quiet ((go_at_call 296;refine Calls.quiet_of_same (Ak _ _ _)))
       have HB:=zAA (HA.out.drewN nq)
       generalize World.drewN _ nq=wq2 at *
       clear FY G4 HA
       cases hl:AB p z[j+1]! with
       | true=>
        have HC:=zAA (HB.out.down C3 hl)
        go_wp2_with fail
        go_round
        case rel=>exact ⟨j,by go_num,by omega,HC.out⟩
        case measure=>simp [intOf]<;>omega
       | false=>
        have QL:AB p z[i]! = true:=HF.out (by omega)
        have HJ:Hid (i≤j+1∧AB p z[i]! = true∧AB p z[j+1]! = false):=⟨C3,QL,hl⟩
        have NO:¬((j+1:Nat):Int)<(i:Int):=by omega
        clear BT QL hl B1
        have G5:=HB.out.su.cell (i:=i) (by omega)
        have QK:=HB.out.su.free i
        have FY:=HB.out.su.cell (i:=j+1) (by omega)
        have NM:=HB.out.su.free (j+1)
        have Ct:(i:Int)<(n:Int):=by omega
        have JF:(j:Int)+1<(n:Int):=by omega
        obtain ⟨QM,QN⟩:=HB.out.su.mid (i:=i) (j:=j+1) (by omega) (by omega)
        obtain ⟨Xe,SK⟩:=HB.out.swap hb HJ.out.1 HJ.out.2.1 HJ.out.2.2 (HB.out.su.swp (i:=i) (j:=j+1) (by omega) (by omega))
        have Fu:=zAA SK
        clear SK
        go_wp2_with fail
        go_big_region
        generalize World.drew _=w3 at *
        clear G5 FY QK NM QM QN HJ HB
        generalize Sort.swp z i (j+1)=y at *
        go_wp2_with fail
        go_round
        case rel=>exact ⟨i+1,j,y,by go_num,by go_num,Fu.out⟩
        case measure=>simp [intOf]<;>omega
      ·have B1:¬(i:Int)≤(j:Int):=by omega
       have BT:decide ((i:Int)≤(j:Int))=false:=zAV B1
       go_wp2_with fail
       go_quiet ((go_at_call 296;refine Calls.quiet_of_same (Ak _ _ _)))
       have HB:=zAA (HA.out.drewN nq)
       generalize World.drewN _ nq=wq2 at *
       clear HA BT
       have NO:(j:Int)<(i:Int):=by omega
       have HE:=zAA (HB.out.J9 (by omega))
       go_wp2_with fail
       go_ret
       exact ⟨i,_,rfl,HE.out⟩
   ·have B1:¬(i:Int)≤(jJ:Int):=by omega
    have BT:decide ((i:Int)≤(jJ:Int))=false:=zAV B1
    have HF:Hid (i≤jJ→AB p z[i]! = true):=fun h=>absurd h C3
    go_wp2_with fail
    go_quiet ((go_at_call 296;refine Calls.quiet_of_same (Ak _ _ _)))
    have HB:=zAA (HA.out.drewN nq)
    generalize World.drewN _ nq=wq at *
    clear HA B1 BT C3
    go_wp2_with fail
    go_loopw [10] (fun jv wr=>∃j:Nat,jv = .int .i64 (j:Int)∧j≤jJ∧Hid (GZ w wr g n c a b d z i j p)) (fun jv _=>(intOf jv).toNat)
    case atStart=>exact ⟨jJ,by go_num,zAD _,HB.out⟩
    case round=>
     obtain ⟨j,rfl,xm,HA⟩:=hrel
     have Vw:=HA.out.b2;have jd:=HA.out.b3
     clear HB
     by_cases C3:i≤j
     ·obtain ⟨j,rfl⟩:∃z,j=z+1:=⟨j-1,by omega⟩
      have B1:(i:Int)≤((j+1:Nat):Int):=by omega
      have BT:decide ((i:Int)≤(j:Int)+1)=true:=zBA (by omega)
      have FY:=HA.out.su.cell (i:=j+1) (by omega)
      have G4:=HA.out.su.cell (i:=a) (by omega)
      rw [HA.out.hp] at G4
      have JF:(j:Int)+1<(n:Int):=by omega
      go_wp2_with fail
      go_quiet ((go_at_call 296;refine Calls.quiet_of_same (Ak _ _ _)))
      have HB:=zAA (HA.out.drewN nq)
      generalize World.drewN _ nq=wq2 at *
      clear FY G4 HA
      cases hl:AB p z[j+1]! with
      | true=>
       have HC:=zAA (HB.out.down C3 hl)
       go_wp2_with fail
       go_round
       case rel=>exact ⟨j,by go_num,by omega,HC.out⟩
       case measure=>simp [intOf]<;>omega
      | false=>
       have QL:AB p z[i]! = true:=HF.out (by omega)
       have HJ:Hid (i≤j+1∧AB p z[i]! = true∧AB p z[j+1]! = false):=⟨C3,QL,hl⟩
       have NO:¬((j+1:Nat):Int)<(i:Int):=by omega
       clear BT QL hl B1
       have G5:=HB.out.su.cell (i:=i) (by omega)
       have QK:=HB.out.su.free i
       have FY:=HB.out.su.cell (i:=j+1) (by omega)
       have NM:=HB.out.su.free (j+1)
       have Ct:(i:Int)<(n:Int):=by omega
       have JF:(j:Int)+1<(n:Int):=by omega
       obtain ⟨QM,QN⟩:=HB.out.su.mid (i:=i) (j:=j+1) (by omega) (by omega)
       obtain ⟨Xe,SK⟩:=HB.out.swap hb HJ.out.1 HJ.out.2.1 HJ.out.2.2 (HB.out.su.swp (i:=i) (j:=j+1) (by omega) (by omega))
       have Fu:=zAA SK
       clear SK
       go_wp2_with fail
       go_big_region
       generalize World.drew _=w3 at *
       clear G5 FY QK NM QM QN HJ HB
       generalize Sort.swp z i (j+1)=y at *
       go_wp2_with fail
       go_round
       case rel=>exact ⟨i+1,j,y,by go_num,by go_num,Fu.out⟩
       case measure=>simp [intOf]<;>omega
     ·have B1:¬(i:Int)≤(j:Int):=by omega
      have BT:decide ((i:Int)≤(j:Int))=false:=zAV B1
      go_wp2_with fail
      go_quiet ((go_at_call 296;refine Calls.quiet_of_same (Ak _ _ _)))
      have HB:=zAA (HA.out.drewN nq)
      generalize World.drewN _ nq=wq2 at *
      clear HA BT
      have NO:(j:Int)<(i:Int):=by omega
      have HE:=zAA (HB.out.J9 (by omega))
      go_wp2_with fail
      go_ret
      exact ⟨i,_,rfl,HE.out⟩
end
section
theorem Kg:Sort.SWO AB:=⟨fun x=>by simp [AB],fun x y z h1 h2=>by simp [AB] at *;omega,fun x y z h1 h2=>by simp [AB] at *;omega⟩
structure PQ (a b:Nat) (d:Array Nat) (a' b':Nat) (x:Array Nat):Prop where
 h1:a≤a'
 h2:a'≤b'
 h3:b'≤b
 sz:b≤x.size
 below:Sort.Below AB a' b' x
 glue:∀R,Sort.PermIn a' b' x R→Sort.SortedIn AB a' b' R→Sort.PermIn a b d R∧Sort.SortedIn AB a b R
section
variable {w wr:World} {g n c a b a' b' m q:Nat} {d x y z:Array Nat}
theorem PQ.start (Gz:a≤b) (hb:b≤d.size) (h:Sort.Below AB a b d):PQ a b d a b d:=⟨zAD _,Gz,zAD _,hb,h,fun R h1 h2=>⟨h1,h2⟩⟩
theorem PQ.perm (h:PQ a b d a' b' x) (hp:Sort.PermIn a' b' x y):PQ a b d a' b' y:=
 ⟨h.h1,h.h2,h.h3,by rw [hp.1];exact h.sz,h.below.perm (by have:=h.sz;have:=h.h3;omega) hp,fun R h1 h2=>h.glue R (Sort.permIn_trans _ _ _ _ _ hp h1) h2⟩
theorem PQ.equal (h:PQ a b d a' b' x) (hq:a'≤q) (qW:q<b') (h0:0<a') (hl:AB x[a'-1]! x[q]! = false) (hp:RS w wr g n c a' b' x y m x[q]!):PQ a b d m b' y:=by
 have hs:=h.sz;have h3:=h.h3;have G6:=hp.b1;have F6:=hp.b2
 have hsy:y.size=x.size:=hp.perm.1
 generalize hv:x[q]! = v at *
 have SC:∀i,a'≤i→i<b'→AB y[i]! v=false:=by
  refine Sort.permIn_all x y a' b' (fun t=>AB t v=false) (by omega) hp.perm (fun i i1 i2=>?_)
  rcases h.below with e | e
  ·omega
  ·have:=e i i1 i2
   simp [AB] at *
   omega
 refine ⟨by have:=h.h1;omega,F6,h3,by omega,Or.inr (fun i i1 i2=>?_),fun R h1 h2=>?_⟩
 ·have e1:=hp.lo (m-1) (by omega) (by omega)
  have e2:=hp.hi i i1 i2
  simp [AB] at *
  omega
 ·have P4:∀i,i<m→R[i]! = y[i]!:=fun i hi=>h1.2.1 i (Or.inl hi)
  refine h.glue R (Sort.permIn_trans _ _ _ _ _ hp.perm (Sort.permIn_mono y R m b' a' b' (by omega) (zAD _) (by omega) h1)) ?_
  refine Sort.sorted_glue_eq Kg v h2 (fun i i1 i2=>?_) (fun i i1 i2=>?_) (fun i i1 i2=>?_)
  ·rw [P4 i i2];exact hp.lo i i1 i2
  ·rw [P4 i i2];exact SC i i1 (by omega)
  ·exact Sort.permIn_all y R m b' (fun t=>AB v t=true) (by omega) h1 (fun i i1 i2=>hp.hi i i1 i2) i i1 i2
theorem PQ.AS (h:PQ a b d a' b' x) (hp:PH w wr g n c a' b' x y m):Sort.Below AB a' m y:=
 (h.below.perm (by have:=h.sz;have:=h.h3;omega) hp.perm).mono (by have:=hp.b2;omega)
theorem PQ.GR (h:PQ a b d a' b' x) (hp:PH w wr g n c a' b' x y m):Sort.Below AB (m+1) b' y:=
 Or.inr (fun i i1 i2=>hp.hi i (by omega) i2)
theorem PQ.left (h:PQ a b d a' b' x) (hp:PH w wr g n c a' b' x y m) (hz:Sort.PermIn a' m y z) (hs:Sort.SortedIn AB a' m z):PQ a b d (m+1) b' z:=by
 have h1:=h.h1;have h3:=h.h3;have RW:=hp.b1;have LQ:=hp.b2;have yZ:=h.sz
 have hsy:y.size=x.size:=hp.perm.1
 have Ed:z.size=y.size:=hz.1
 have nt:∀i,m≤i→z[i]! = y[i]!:=fun i hi=>hz.2.1 i (Or.inr hi)
 have dC:∀i,a'≤i→i<m→AB z[i]! z[m]! = true:=fun i i1 i2=>by
  rw [nt m (zAD _)]
  exact Sort.permIn_all y z a' m (fun t=>AB t y[m]! = true) (by omega) hz (fun i i1 i2=>hp.lo i i1 i2) i i1 i2
 have yN:∀i,m<i→i<b'→AB z[i]! z[m]! = false:=fun i i1 i2=>by
  rw [nt m (zAD _),nt i (by omega)]
  exact hp.hi i i1 i2
 refine ⟨by omega,by omega,h3,by omega,Or.inr (fun i i1 i2=>yN i (by omega) i2),fun R r1 r2=>?_⟩
 have hR:∀i,i<m+1→R[i]! = z[i]!:=fun i hi=>r1.2.1 i (Or.inl hi)
 refine h.glue R (Sort.permIn_trans _ _ _ _ _ hp.perm (Sort.permIn_trans _ _ _ _ _ (Sort.permIn_mono y z a' m a' b' (zAD _) (by omega) (by omega) hz) (Sort.permIn_mono z R (m+1) b' a' b' (by omega) (zAD _) (by omega) r1))) ?_
 refine Sort.sorted_glue Kg (mid:=m) ?_ r2 (fun i i1 i2=>?_) (fun i i1 i2=>?_)
 ·exact hs.congr (fun i i1 i2=>hR i (by omega))
 ·rw [hR i (by omega),hR m (by omega)];exact dC i i1 i2
 ·rw [hR m (by omega)]
  exact Sort.permIn_all z R (m+1) b' (fun t=>AB t z[m]! = false) (by omega) r1 (fun i i1 i2=>yN i (by omega) i2) i (by omega) i2
theorem PQ.right (h:PQ a b d a' b' x) (hp:PH w wr g n c a' b' x y m) (hz:Sort.PermIn (m+1) b' y z) (hs:Sort.SortedIn AB (m+1) b' z):PQ a b d a' m z:=by
 have h1:=h.h1;have h3:=h.h3;have RW:=hp.b1;have LQ:=hp.b2;have yZ:=h.sz
 have hsy:y.size=x.size:=hp.perm.1
 have Ed:z.size=y.size:=hz.1
 have P4:∀i,i<m+1→z[i]! = y[i]!:=fun i hi=>hz.2.1 i (Or.inl hi)
 have dC:∀i,a'≤i→i<m→AB z[i]! z[m]! = true:=fun i i1 i2=>by
  rw [P4 i (by omega),P4 m (by omega)];exact hp.lo i i1 i2
 have yN:∀i,m<i→i<b'→AB z[i]! z[m]! = false:=fun i i1 i2=>by
  rw [P4 m (by omega)]
  exact Sort.permIn_all y z (m+1) b' (fun t=>AB t y[m]! = false) (by omega) hz (fun i i1 i2=>hp.hi i (by omega) i2) i (by omega) i2
 have hpz:Sort.PermIn a' b' x z:=Sort.permIn_trans _ _ _ _ _ hp.perm (Sort.permIn_mono y z (m+1) b' a' b' (by omega) (zAD _) (by omega) hz)
 refine ⟨h1,RW,by omega,by omega,(h.below.perm (by omega) hpz).mono (by omega),fun R r1 r2=>?_⟩
 have hR:∀i,m≤i→R[i]! = z[i]!:=fun i hi=>r1.2.1 i (Or.inr hi)
 refine h.glue R (Sort.permIn_trans _ _ _ _ _ hpz (Sort.permIn_mono z R a' m a' b' (zAD _) (by omega) (by omega) r1)) ?_
 refine Sort.sorted_glue Kg (mid:=m) r2 ?_ (fun i i1 i2=>?_) (fun i i1 i2=>?_)
 ·exact hs.congr (fun i i1 i2=>hR i (by omega))
 ·rw [hR m (zAD _)]
  exact Sort.permIn_all z R a' m (fun t=>AB t z[m]! = true) (by omega) r1 (fun i i1 i2=>dC i i1 i2) i i1 i2
 ·rw [hR m (zAD _),hR i (by omega)];exact yN i i1 i2
end
end
theorem UE {a b i:Nat} {d:Array Nat} (h:i<b):Sort.insOuter AB a b i d=Sort.insOuter AB a b (i+1) (Sort.insInner AB a i d):=by rw [Sort.insOuter,if_pos h]
theorem Xr {a b i:Nat} {d:Array Nat} (h:¬i<b):Sort.insOuter AB a b i d=d:=by rw [Sort.insOuter,if_neg h]
theorem UD {a j:Nat} {d:Array Nat} (h:a<j+1) (hl:AB d[j+1]! d[j]! = true):Sort.insInner AB a (j+1) d=Sort.insInner AB a j (Sort.swp d (j+1) j):=by
 rw [Sort.insInner,if_pos (by rw [hl];simpa using h)]
theorem ZS {a j:Nat} {d:Array Nat} (h:j≤a):Sort.insInner AB a j d=d:=by
 cases j with
 | zero=>rfl
 | succ j=>rw [Sort.insInner,if_neg (by simp;omega)]
theorem Xq {a j:Nat} {d:Array Nat} (hl:AB d[j+1]! d[j]! = false):Sort.insInner AB a (j+1) d=d:=by rw [Sort.insInner,if_neg (by rw [hl];simp)]
theorem UG (g n c a b:Nat) (d:Array Nat) (w:World) (h:SU w w g n c d) (Gz:a≤b) (hb:b≤n) (hn:n<4611686018427387904) :
  Calls Tryz.prog 301 #[.slice (some ⟨g,0,none⟩) n c,.int .i64 (a:Int),.int .i64 (b:Int)] w fun e w'=>e = .returned (.tuple #[])∧SU w w' g n c (Sort.insertionSort AB d a b):=by
 have HS:=zAA h
 clear h
 go_enter Tryz.func301,Tryz.ntmps301
 go_wp2_with fail
 go_loopw [6] (fun iv wr=>∃(i:Nat) (x:Array Nat),a<i∧i≤b+1∧iv = .int .i64 (i:Int)∧Hid (SU w wr g n c x)∧Hid (Sort.insOuter AB a b i x=Sort.insertionSort AB d a b)) (fun iv _=>b+1-(intOf iv).toNat)
 case atStart=>exact ⟨a+1,d,by omega,by omega,by go_num,HS.out,rfl⟩
 case round=>
  obtain ⟨i,x,wS,bQ,rfl,HX,HE⟩:=hrel
  clear HS
  by_cases Aq:i<b
  ·have AF:(i:Int)<(b:Int):=by omega
   rw [UE Aq] at HE
   go_wp2_with fail
   go_loopw [7] (fun jv wr=>∃(j:Nat) (y:Array Nat),a≤j∧j≤i∧jv = .int .i64 (j:Int)∧Hid (SU w wr g n c y)∧Hid (Sort.insInner AB a j y=Sort.insInner AB a i x)) (fun jv _=>(intOf jv).toNat)
   case atStart=>exact ⟨i,x,by omega,zAD _,rfl,HX.out,rfl⟩
   case round=>
    obtain ⟨j,y,haj,T1,rfl,HY,HI⟩:=hrel
    clear HX
    by_cases hja:a<j
    ·obtain ⟨j,rfl⟩:∃q,j=q+1:=⟨j-1,by omega⟩
     have NO:(a:Int)<((j+1:Nat):Int):=by omega
     have BT:decide (((j:Int)+1)>(a:Int))=true:=zBA (by omega)
     have FC:=HY.out.cell (i:=j+1) (by omega)
     have DW:=HY.out.cell (i:=j) (by omega)
     have gr:=HY.out.free (j+1)
     have hf0:=HY.out.free j
     obtain ⟨p,hp⟩:∃p,y[j+1]! = p:=⟨_,rfl⟩
     obtain ⟨q,hq⟩:∃q,y[j]! = q:=⟨_,rfl⟩
     rw [hp] at FC
     rw [hq] at DW
     have HP:=zAA hp;have HQ:=zAA hq
     clear hp hq
     have Lf:((j+1:Nat):Int)<(n:Int):=by omega
     have KF:(j:Int)<(n:Int):=by omega
     go_wp2_with fail
     go_quiet ((go_at_call 296;refine Calls.quiet_of_same (Ak _ _ _)))
     cases LR:AB p q with
     | true=>
      have HN:Hid (Sort.insInner AB a j (Sort.swp y (j+1) j)=Sort.insInner AB a i x):=by
       show _=_
       rw [← HI.out,UD (by omega) (by rw [HP.out,HQ.out];exact LR)]
      have HS2:=zAA ((HY.out.drewN nq).swp (i:=j+1) (j:=j) (by omega) (by omega))
      rw [HP.out,HQ.out] at HS2
      have SE:(wr.drewN nq).cell? ⟨g,j+1,none⟩=some (.int .u64 (p:Int)):=FC
      have ZF:(wr.drewN nq).cell? ⟨g,j,none⟩=some (.int .u64 (q:Int)):=DW
      have Yt:(wr.drewN nq).frozen? ⟨g,j+1,none⟩=false:=gr
      have Xc:(wr.drewN nq).frozen? ⟨g,j,none⟩=false:=hf0
      have jm:¬(j+1=j):=by omega
      generalize wr.drewN nq=wq at *
      clear FC DW gr hf0
      go_wp2_with fail
      go_big_region
      go_wp2_with fail
      go_round
      case rel=>exact ⟨j,_,by omega,by omega,rfl,HS2.out,HN.out⟩
      case measure=>simp [intOf]
     | false=>
      have HN:Hid (Sort.insOuter AB a b (i+1) y=Sort.insertionSort AB d a b):=by
       show _=_
       rw [← HE.out,← HI.out,Xq (by rw [HP.out,HQ.out];exact LR)]
      have C1:=zAA (HY.out.drewN nq)
      generalize wr.drewN nq=wq at *
      go_wp2_with fail
      go_round
      case rel=>exact ⟨i+1,y,by omega,by omega,by go_num,C1.out,HN.out⟩
      case measure=>simp [intOf];omega
    ·obtain rfl:j=a:=by omega
     have HN:Hid (Sort.insOuter AB j b (i+1) y=Sort.insertionSort AB d j b):=by
      show _=_
      rw [← HE.out,← HI.out,ZS (zAD _)]
     go_wp2_with fail
     go_quiet ((go_at_call 296;refine Calls.quiet_of_same (Ak _ _ _)))
     have C1:=zAA (HY.out.drewN nq)
     generalize wr.drewN nq=wq at *
     go_wp2_with fail
     go_round
     case rel=>exact ⟨i+1,y,by omega,by omega,by go_num,C1.out,HN.out⟩
     case measure=>simp [intOf];omega
  ·have AF:¬(i:Int)<(b:Int):=by omega
   go_wp2_with fail
   go_end0
   refine ⟨rfl,?_⟩
   rw [← HE.out,Xr Aq]
   exact HX.out
theorem EI (g n c a b:Nat) (d:Array Nat) (w:World) (h:SU w w g n c d) (Gz:a≤b) (hb:b≤n) (hn:n<4611686018427387904) :
  Calls Tryz.prog 305 #[.slice (some ⟨g,0,none⟩) n c,.int .i64 (a:Int),.int .i64 (b:Int)] w fun e w'=>e = .returned (.tuple #[])∧∃d',SU w w' g n c d'∧Sort.PermIn a b d d':=by
 have HS:=zAA h
 clear h
 go_enter Tryz.func305,Tryz.ntmps305
 go_wp2_with fail
 go_loopw [6,7] (fun iv jv wr=>∃(i:Nat) (j:Int) (x:Array Nat),a≤i∧iv = .int .i64 (i:Int)∧jv = .int .i64 j∧j<(b:Int)∧-1≤j∧(i:Int)≤(b:Int)+1∧Hid (SU w wr g n c x)∧Hid (Sort.PermIn a b d x)) (fun _ jv _=>(intOf jv+1).toNat)
 case atStart=>exact ⟨a,(b:Int)-1,d,zAD _,rfl,by go_num,by omega,by omega,by omega,HS.out,Sort.permIn_refl _ _ _⟩
 case round=>
  obtain ⟨i,j,x,wS,rfl,rfl,hjb,yQ,bQ,HX,HP⟩:=hrel
  clear HS
  by_cases Aq:(i:Int)<j
  ·obtain ⟨j,rfl⟩:∃m:Nat,j=(m:Int):=⟨j.toNat,by omega⟩
   have G5:=HX.out.cell (i:=i) (by omega)
   have FY:=HX.out.cell (i:=j) (by omega)
   have QK:=HX.out.free i
   have NM:=HX.out.free j
   have Ct:(i:Int)<(n:Int):=by omega
   have JF:(j:Int)<(n:Int):=by omega
   have HS2:=zAA (HX.out.swp (i:=i) (j:=j) (by omega) (by omega))
   have TW:Hid (Sort.PermIn a b d (Sort.swp x i j)):=Sort.permIn_trans _ _ _ _ _ HP.out (Sort.swp_permIn x a b i j wS (by omega) (by omega) (by omega) (by rw [HX.out.sz];exact hb))
   have C3:¬(i=j):=by omega
   generalize x[i]! = p at *
   generalize x[j]! = q at *
   go_wp2_with fail
   go_big_region
   go_wp2_with fail
   go_round
   case rel=>exact ⟨i+1,(j:Int)-1,_,by omega,by go_num,by go_num,by omega,by omega,by omega,HS2.out,TW.out⟩
   case measure=>simp [intOf]<;>omega
  ·go_wp2_with fail
   go_end0
   exact ⟨rfl,x,HX.out,HP.out⟩
theorem a8 (hi first root:Nat) (d:Array Nat):Sort.siftDown AB hi first root d=(if 2*root+1≥hi then d else
  if 2*root+1+1<hi&&AB d[first+(2*root+1)]! d[first+(2*root+1)+1]! then
   if !AB d[first+root]! d[first+(2*root+2)]! then d else Sort.siftDown AB hi first (2*root+2) (Sort.swp d (first+root) (first+(2*root+2)))
  else
   if !AB d[first+root]! d[first+(2*root+1)]! then d else Sort.siftDown AB hi first (2*root+1) (Sort.swp d (first+root) (first+(2*root+1)))):=by
 rw [Sort.siftDown]
 by_cases h1:2*root+1≥hi
 ·rw [dif_pos h1,if_pos h1]
 ·rw [dif_neg h1,if_neg h1]
  by_cases h2:(decide (2*root+1+1<hi)&&AB d[first+(2*root+1)]! d[first+(2*root+1)+1]!)=true
  ·have h3:2*root+2<hi:=by simp at h2;omega
   rw [if_pos h2,if_pos h2,dif_pos h3]
  ·rw [if_neg h2,if_neg h2]
theorem Jb (g n c lo hi first:Nat) (d:Array Nat) (w:World) (h:SU w w g n c d) (hb:first+hi≤n) (hn:n<4611686018427387904) (dC:lo≤n) :
  Calls Tryz.prog 310 #[.slice (some ⟨g,0,none⟩) n c,.int .i64 (lo:Int),.int .i64 (hi:Int),.int .i64 (first:Int)] w fun e w'=>e = .returned (.tuple #[])∧SU w w' g n c (Sort.siftDown AB hi first lo d):=by
 have HS:=zAA h
 clear h
 go_enter Tryz.func310,Tryz.ntmps310
 go_wp2_with fail
 go_loopw [8] (fun rv wr=>∃(r:Nat) (x:Array Nat),rv = .int .i64 (r:Int)∧r≤n∧Hid (SU w wr g n c x)∧Hid (Sort.siftDown AB hi first r x=Sort.siftDown AB hi first lo d)) (fun rv _=>n+1-(intOf rv).toNat)
 case atStart=>exact ⟨lo,d,rfl,dC,HS.out,rfl⟩
 case round=>
  obtain ⟨r,x,rfl,hrn,HX,HE⟩:=hrel
  clear HS
  have hd:=a8 hi first r x
  have hri:(r:Int)≤4611686018427387904:=by omega
  by_cases h1:2*r+1≥hi
  ·rw [if_pos h1] at hd
   rw [hd] at HE
   have h1i:(hi:Int)≤2*(r:Int)+1:=by omega
   clear hd
   go_wp2_with fail
   go_end0
   refine ⟨rfl,?_⟩
   rw [← HE.out]
   exact HX.out
  ·rw [if_neg h1] at hd
   rw [hd] at HE
   have h1i:¬(hi:Int)≤2*(r:Int)+1:=by omega
   have h1k:2*(r:Int)+1<(hi:Int):=by omega
   clear hd
   by_cases h2:2*r+1+1<hi
   ·have FC:=HX.out.cell (i:=first+(2*r+1)) (by omega)
    have gr:=HX.out.free (first+(2*r+1))
    have Vw:=HX.out.cell (i:=first+(2*r+1)+1) (by omega)
    have jk:=HX.out.free (first+(2*r+1)+1)
    have h2i:2*(r:Int)+1+1<(hi:Int):=by omega
    go_wp2_with fail
    go_quiet ((go_at_call 296;refine Calls.quiet_of_same (Ak _ _ _)))
    have C1:=zAA (HX.out.drewN nq)
    clear FC gr Vw jk
    cases LR:AB x[first+(2*r+1)]! x[first+(2*r+1)+1]! with
    | true=>
     rw [LR,if_pos (by simpa using h2)] at HE
     generalize World.drewN _ nq=wr1 at *
     clear HX
     have T2:=C1.out.cell (i:=first+r) (by omega)
     have lk:=C1.out.cell (i:=first+(2*r+1+1)) (by omega)
     have NN:=C1.out.free (first+r)
     have xg:=C1.out.free (first+(2*r+1+1))
     have HS2:=zAA ((C1.out.drewN 0).here)
     go_wp2_with fail
     go_quiet ((go_at_call 296;refine Calls.quiet_of_same (Ak _ _ _)))
     have Jh:=zAA (C1.out.drewN nq)
     cases uF:AB x[first+r]! x[first+(2*r+1+1)]! with
     | false=>
      rw [uF] at HE
      have Ev:Hid (x=Sort.siftDown AB hi first lo d):=by
       have h:=HE.out
       show _=_
       simpa using h
      go_wp2_with fail
      refine zCB (zDZ rfl _ _ _) rfl ?_
      refine ⟨rfl,?_⟩
      rw [← Ev.out]
      exact Jh.out
     | true=>
      rw [uF] at HE
      have Ev:Hid (Sort.siftDown AB hi first (2*r+1+1) (Sort.swp x (first+r) (first+(2*r+1+1)))=Sort.siftDown AB hi first lo d):=by
       have h:=HE.out
       show _=_
       simpa using h
      have Fu:=zAA (Jh.out.swp (i:=first+r) (j:=first+(2*r+1+1)) (by omega) (by omega))
      have Uy:=Jh.out.cell (i:=first+r) (by omega)
      have Xh:=Jh.out.cell (i:=first+(2*r+1+1)) (by omega)
      have jq:=Jh.out.free (first+r)
      have G6:=Jh.out.free (first+(2*r+1+1))
      have C3:¬(first+r=first+(2*r+1+1)):=by omega
      clear T2 lk NN xg HE
      generalize x[first+r]! = p at *
      generalize x[first+(2*r+1+1)]! = q at *
      generalize World.drewN _ nq=wq at *
      go_wp2_with fail
      go_big_region
      go_wp2_with fail
      go_round
      case rel=>exact ⟨2*r+1+1,_,by go_num,by omega,Fu.out,Ev.out⟩
      case measure=>simp [intOf]<;>omega
    | false=>
     rw [LR,if_neg (by simp)] at HE
     generalize World.drewN _ nq=wr1 at *
     clear HX
     have T2:=C1.out.cell (i:=first+r) (by omega)
     have lk:=C1.out.cell (i:=first+(2*r+1)) (by omega)
     have NN:=C1.out.free (first+r)
     have xg:=C1.out.free (first+(2*r+1))
     have HS2:=zAA ((C1.out.drewN 0).here)
     go_wp2_with fail
     go_quiet ((go_at_call 296;refine Calls.quiet_of_same (Ak _ _ _)))
     have Jh:=zAA (C1.out.drewN nq)
     cases uF:AB x[first+r]! x[first+(2*r+1)]! with
     | false=>
      rw [uF] at HE
      have Ev:Hid (x=Sort.siftDown AB hi first lo d):=by
       have h:=HE.out
       show _=_
       simpa using h
      go_wp2_with fail
      refine zCB (zDZ rfl _ _ _) rfl ?_
      refine ⟨rfl,?_⟩
      rw [← Ev.out]
      exact Jh.out
     | true=>
      rw [uF] at HE
      have Ev:Hid (Sort.siftDown AB hi first (2*r+1) (Sort.swp x (first+r) (first+(2*r+1)))=Sort.siftDown AB hi first lo d):=by
       have h:=HE.out
       show _=_
       simpa using h
      have Fu:=zAA (Jh.out.swp (i:=first+r) (j:=first+(2*r+1)) (by omega) (by omega))
      have Uy:=Jh.out.cell (i:=first+r) (by omega)
      have Xh:=Jh.out.cell (i:=first+(2*r+1)) (by omega)
      have jq:=Jh.out.free (first+r)
      have G6:=Jh.out.free (first+(2*r+1))
      have C3:¬(first+r=first+(2*r+1)):=by omega
      clear T2 lk NN xg HE
      generalize x[first+r]! = p at *
      generalize x[first+(2*r+1)]! = q at *
      generalize World.drewN _ nq=wq at *
      go_wp2_with fail
      go_big_region
      go_wp2_with fail
      go_round
      case rel=>exact ⟨2*r+1,_,by go_num,by omega,Fu.out,Ev.out⟩
      case measure=>simp [intOf]<;>omega
   ·have h2i:¬(2*(r:Int)+1+1<(hi:Int)):=by omega
    rw [if_neg (by simp;omega)] at HE
    have BT:decide (2*(r:Int)+1+1<(hi:Int))=false:=zAV h2i
    go_wp2_with fail
    go_quiet ((go_at_call 296;refine Calls.quiet_of_same (Ak _ _ _)))
    have C1:=zAA (HX.out.drewN nq)
    generalize World.drewN _ nq=wr1 at *
    clear HX
    have T2:=C1.out.cell (i:=first+r) (by omega)
    have lk:=C1.out.cell (i:=first+(2*r+1)) (by omega)
    have NN:=C1.out.free (first+r)
    have xg:=C1.out.free (first+(2*r+1))
    have HS2:=zAA ((C1.out.drewN 0).here)
    go_wp2_with fail
    go_quiet ((go_at_call 296;refine Calls.quiet_of_same (Ak _ _ _)))
    have Jh:=zAA (C1.out.drewN nq)
    cases uF:AB x[first+r]! x[first+(2*r+1)]! with
    | false=>
     rw [uF] at HE
     have Ev:Hid (x=Sort.siftDown AB hi first lo d):=by
      have h:=HE.out
      show _=_
      simpa using h
     go_wp2_with fail
     refine zCB (zDZ rfl _ _ _) rfl ?_
     refine ⟨rfl,?_⟩
     rw [← Ev.out]
     exact Jh.out
    | true=>
     rw [uF] at HE
     have Ev:Hid (Sort.siftDown AB hi first (2*r+1) (Sort.swp x (first+r) (first+(2*r+1)))=Sort.siftDown AB hi first lo d):=by
      have h:=HE.out
      show _=_
      simpa using h
     have Fu:=zAA (Jh.out.swp (i:=first+r) (j:=first+(2*r+1)) (by omega) (by omega))
     have Uy:=Jh.out.cell (i:=first+r) (by omega)
     have Xh:=Jh.out.cell (i:=first+(2*r+1)) (by omega)
     have jq:=Jh.out.free (first+r)
     have G6:=Jh.out.free (first+(2*r+1))
     have C3:¬(first+r=first+(2*r+1)):=by omega
     clear T2 lk NN xg HE
     generalize x[first+r]! = p at *
     generalize x[first+(2*r+1)]! = q at *
     generalize World.drewN _ nq=wq at *
     go_wp2_with fail
     go_big_region
     go_wp2_with fail
     go_round
     case rel=>exact ⟨2*r+1,_,by go_num,by omega,Fu.out,Ev.out⟩
     case measure=>simp [intOf]<;>omega
theorem SF (hi first k:Nat) (d:Array Nat):Sort.heapBuild AB hi first (k+1) d=Sort.heapBuild AB hi first k (Sort.siftDown AB hi first k d):=rfl
theorem NL (first k:Nat) (d:Array Nat):Sort.heapPop AB first (k+1) d=Sort.heapPop AB first k (Sort.siftDown AB k first 0 (Sort.swp d first (first+k))):=rfl
theorem Ux (g n c a b:Nat) (d:Array Nat) (w:World) (h:SU w w g n c d) (Gz:a<b) (hb:b≤n) (hn:n<4611686018427387904) :
  Calls Tryz.prog 302 #[.slice (some ⟨g,0,none⟩) n c,.int .i64 (a:Int),.int .i64 (b:Int)] w fun e w'=>e = .returned (.tuple #[])∧SU w w' g n c (Sort.heapSort AB d a b):=by
 have HS:=zAA h
 clear h
 obtain ⟨m,jq⟩:∃m,b-a=m:=⟨_,rfl⟩
 have hm:0<m:=by omega
 have SJ:(b:Int)-(a:Int)=(m:Int):=by omega
 have hE:Sort.heapSort AB d a b=Sort.heapPop AB a m (Sort.heapBuild AB m a ((m-1) / 2+1) d):=by
  rw [Sort.heapSort,jq]
 rw [hE]
 have hbm:a+m≤n:=by omega
 clear hE Gz jq hb
 obtain ⟨q,hq⟩:∃q,(m-1) / 2=q:=⟨_,rfl⟩
 have hdv:Hid (((m:Int)-1) / 2=(q:Int)):=by show _=_;omega
 have hql:q≤n:=by omega
 rw [hq]
 clear hq
 go_enter Tryz.func302,Tryz.ntmps302
 go_wp2_with fail
 go_loopw [9] (fun iv wr=>∃(k:Nat) (x:Array Nat),k≤n+1∧iv = .int .i64 ((k:Int)-1)∧Hid (SU w wr g n c x)∧Hid (Sort.heapBuild AB m a k x=Sort.heapBuild AB m a (q+1) d)) (fun iv _=>(intOf iv+1).toNat)
 case atStart=>exact ⟨q+1,d,by omega,by rw [hdv.out];go_num,HS.out,rfl⟩
 case round=>
  obtain ⟨k,x,hkn,rfl,HX,HE⟩:=hrel
  clear HS
  cases k with
  | succ k=>
   have gy:((k+1:Nat):Int)-1=(k:Int):=by omega
   rw [gy]
   clear gy
   have T2:(0:Int)≤(k:Int):=by omega
   rw [SF] at HE
   have HC:=zAA (Jb g n c k m a x wr HX.out.here hbm hn (by omega))
   go_wp2_with fail
   refine HC.out.mono ?_
   rintro e w1 ⟨rfl,h1⟩
   have TY:=zAA (HX.out.trans h1)
   clear h1 HC HX
   go_wp2_with fail
   go_round
   case rel=>exact ⟨k,_,by omega,by go_num,TY.out,HE.out⟩
   case measure=>simp [intOf]<;>omega
  | zero=>
   have Ev:x=Sort.heapBuild AB m a (q+1) d:=HE.out
   have gy:((0:Nat):Int)-1 = -1:=by omega
   rw [gy]
   clear HE gy
   go_wp2_with fail
   go_loopw [10] (fun iv wr=>∃(k:Nat) (z:Array Nat),k≤m∧iv = .int .i64 ((k:Int)-1)∧Hid (SU w wr g n c z)∧Hid (Sort.heapPop AB a k z=Sort.heapPop AB a m x)) (fun iv _=>(intOf iv+1).toNat)
   case atStart=>exact ⟨m,x,zAD _,rfl,HX.out,rfl⟩
   case round=>
    obtain ⟨k,z,Xg,rfl,HZ,HE⟩:=hrel
    clear HX
    rcases k with _ | _ | k
    ·have gy:((0:Nat):Int)-1 = -1:=by omega
     rw [gy]
     clear gy
     go_wp2_with fail
     go_end0
     refine ⟨rfl,?_⟩
     rw [← Ev,← HE.out]
     exact HZ.out
    ·have gy:((0+1:Nat):Int)-1=0:=by omega
     rw [gy]
     clear gy
     rw [NL,Nat.add_zero] at HE
     have G5:=HZ.out.cell (i:=a) (by omega)
     have QK:=HZ.out.free a
     have han:(a:Int)<(n:Int):=by omega
     have hakn:(a:Int)+(0:Int)<(n:Int):=by omega
     have HS2:=zAA (HZ.out.swp (i:=a) (j:=a) (by omega) (by omega))
     generalize Sort.swp z a (a)=z2 at *
     generalize z[a]! = p at *
     go_wp2_with fail
     go_big_region
     generalize World.drew _=w2 at *
     have HC:=zAA (Jb g n c 0 0 a z2 w2 HS2.out.here (by omega) hn (by omega))
     go_wp2_with fail
     refine HC.out.mono ?_
     rintro e w3 ⟨rfl,h3⟩
     have Jh:=zAA (HS2.out.trans h3)
     clear h3 HC HS2
     go_wp2_with fail
     go_round
     case rel=>exact ⟨0,_,by omega,by go_num,Jh.out,HE.out⟩
     case measure=>simp [intOf]<;>omega
    ·have gy:((k+1+1:Nat):Int)-1=((k+1:Nat):Int):=by omega
     rw [gy]
     clear gy
     rw [NL] at HE
     obtain ⟨k',hk'⟩:∃k',k+1=k':=⟨_,rfl⟩
     rw [hk'] at HE ⊢
     have T2:(0:Int)≤(k':Int):=by omega
     have lk:0<k':=by omega
     have Xg:k'+1≤m:=by omega
     clear hk'
     have G5:=HZ.out.cell (i:=a) (by omega)
     have QK:=HZ.out.free a
     have FY:=HZ.out.cell (i:=a+k') (by omega)
     have NM:=HZ.out.free (a+k')
     have C3:¬(a=a+k'):=by omega
     have han:(a:Int)<(n:Int):=by omega
     have hakn:(a:Int)+(k':Int)<(n:Int):=by omega
     have HS2:=zAA (HZ.out.swp (i:=a) (j:=a+k') (by omega) (by omega))
     generalize Sort.swp z a (a+k')=z2 at *
     generalize z[a]! = p at *
     generalize z[a+k']! = r at *
     go_wp2_with fail
     go_big_region
     generalize World.drew _=w2 at *
     have HC:=zAA (Jb g n c 0 k' a z2 w2 HS2.out.here (by omega) hn (by omega))
     go_wp2_with fail
     refine HC.out.mono ?_
     rintro e w3 ⟨rfl,h3⟩
     have Jh:=zAA (HS2.out.trans h3)
     clear h3 HC HS2
     go_wp2_with fail
     go_round
     case rel=>exact ⟨k',_,by omega,by go_num,Jh.out,HE.out⟩
     case measure=>simp [intOf]<;>omega
structure PV (w:World) (g n c q:Nat) (d:Array Nat) (s:Nat):Prop where
 su:SU w w g n c d
 ne:q≠g
 box:Ao w q [.int .i64 (s:Int)]
theorem PV.Ai {w w':World} {g n c q:Nat} {d:Array Nat} {s t:Nat} (h:PV w g n c q d s) (m:Ac (fun k=>k=q) w w') (hb:Ao w' q [.int .i64 (t:Int)]):PV w' g n c q d t:=
 ⟨⟨h.su.sz,m.owns h.su.row (fun k hk e=>h.ne (by simp [Value.ownBlock] at hk;omega)),Ac.refl _ _⟩,h.ne,hb⟩
structure PVd (w w':World) (g n c q:Nat) (d:Array Nat) (s m:Nat):Prop where
 Ai:Ac (fun k=>k=q) w w'
 pv:∃t,t≤s+m∧PV w' g n c q d t
theorem M8 (g n c q a b s:Nat) (d:Array Nat) (w:World) (h:PV w g n c q d s) (ha:a<n) (hb:b<n) (hn:n<4611686018427387904) (hs:s≤1000) :
  Calls Tryz.prog 313 #[.slice (some ⟨g,0,none⟩) n c,.int .i64 (a:Int),.int .i64 (b:Int),.pointer (some ⟨q,0,none⟩)] w fun e w'=>
   ∃x y:Nat,e = .returned (.tuple #[.int .i64 (x:Int),.int .i64 (y:Int)])∧((x=a∧y=b)∨(x=b∧y=a))∧PVd w w' g n c q d s 1:=by
 have HP:=zAA h
 have G4:=h.su.cell ha
 have gm:=h.su.cell hb
 have hcq:w.cell? ⟨q,0,none⟩=some (.int .i64 (s:Int)):=h.box.cell 0
 have hfq:=h.box.free 0
 have wS:(a:Int)<(n:Int):=by omega
 have hbi:(b:Int)<(n:Int):=by omega
 clear h
 generalize d[a]! = p at *
 generalize d[b]! = r at *
 go_enter Tryz.func313,Tryz.ntmps313
 go_wp2_with fail
 go_quiet ((go_at_call 296;refine Calls.quiet_of_same (Ak _ _ _)))
 have hm:Ac (fun k=>k=q) w (w.drewN nq):=Ac.drewN _ _ _
 have HM:=zAA hm
 have HB:Hid (Ao (w.drewN nq) q [.int .i64 (s:Int)]):=HP.out.box
 have hcq:(w.drewN nq).cell? ⟨q,0,none⟩=some (.int .i64 (s:Int)):=hcq
 have hfq:(w.drewN nq).frozen? ⟨q,0,none⟩=false:=hfq
 clear hm G4 gm
 generalize w.drewN nq=w1 at *
 cases hl:AB r p with
 | true=>
  go_wp2_with fail
  go_ret2
  refine ⟨b,a,rfl,Or.inr ⟨rfl,rfl⟩,?_⟩
  have m2:Ac (fun k=>k=q) w1 (w1.setCell ⟨q,0,none⟩ (.int .i64 ((s:Int)+1))):=Ac.set _ _ _ _ (fun _=>rfl)
  have LQ:Ao (w1.setCell ⟨q,0,none⟩ (.int .i64 ((s:Int)+1))) q [.int .i64 ((s+1:Nat):Int)]:=HB.out.set 0 _
  have m3:=HM.out.trans m2 (fun _ _ e=>e)
  exact ⟨m3,s+1,zAD _,HP.out.Ai m3 LQ⟩
 | false=>
  go_wp2_with fail
  go_ret2
  exact ⟨a,b,rfl,Or.inl ⟨rfl,rfl⟩,HM.out,s,by omega,HP.out.Ai HM.out HB.out⟩
theorem M5 (g n c q a b k s:Nat) (d:Array Nat) (w:World) (h:PV w g n c q d s) (ha:a<n) (hb:b<n) (hk:k<n) (hn:n<4611686018427387904) (hs:s≤900) :
  Calls Tryz.prog 312 #[.slice (some ⟨g,0,none⟩) n c,.int .i64 (a:Int),.int .i64 (b:Int),.int .i64 (k:Int),.pointer (some ⟨q,0,none⟩)] w fun e w'=>
   ∃x:Nat,e = .returned (.int .i64 (x:Int))∧(x=a∨x=b∨x=k)∧PVd w w' g n c q d s 3:=by
 have HP:=zAA h
 clear h
 go_enter Tryz.func312,Tryz.ntmps312
 go_wp2_with fail
 refine (M8 g n c q a b s d w HP.out ha hb hn (by omega)).mono ?_
 rintro e w1 ⟨x1,y1,rfl,KH,h1⟩
 obtain ⟨G6,t1,Xl,gC⟩:=h1
 have lO:=zAA G6;have fP:=zAA gC;have TY:=zAA KH
 have ZP:x1<n:=by omega
 have xO:y1<n:=by omega
 clear G6 gC KH
 go_wp2_with fail
 refine (M8 g n c q y1 k t1 d w1 fP.out xO hk hn (by omega)).mono ?_
 rintro e w2 ⟨x2,y2,rfl,KH,h2⟩
 obtain ⟨F6,t2,dF,uL⟩:=h2
 have Ni:=zAA (lO.out.trans F6 (fun _ _ e=>e));have TW:=zAA uL;have C1:=zAA KH
 have hx2:x2<n:=by omega
 clear F6 uL KH
 go_wp2_with fail
 refine (M8 g n c q x1 x2 t2 d w2 TW.out ZP hx2 hn (by omega)).mono ?_
 rintro e w3 ⟨x3,y3,rfl,KH,h3⟩
 obtain ⟨lm,t3,ht3,nF⟩:=h3
 have ro:=zAA (Ni.out.trans lm (fun _ _ e=>e));have vP:=zAA nF;have Jh:=zAA KH
 clear lm nF KH
 go_wp2_with fail
 go_ret
 refine ⟨y3,rfl,?_,ro.out,t3,by omega,vP.out⟩
 have:=TY.out;have:=C1.out;have:=Jh.out
 omega
theorem DX (g n c q a s:Nat) (d:Array Nat) (w:World) (h:PV w g n c q d s) (ha:a+1<n) (h0:0<a) (hn:n<4611686018427387904) (hs:s≤900) :
  Calls Tryz.prog 311 #[.slice (some ⟨g,0,none⟩) n c,.int .i64 (a:Int),.pointer (some ⟨q,0,none⟩)] w fun e w'=>
   ∃x:Nat,e = .returned (.int .i64 (x:Int))∧(a≤x+1∧x≤a+1)∧PVd w w' g n c q d s 3:=by
 have HP:=zAA h
 clear h
 obtain ⟨z,rfl⟩:∃z,a=z+1:=⟨a-1,by omega⟩
 have HC:=zAA (M5 g n c q z (z+1) (z+1+1) s d w HP.out (by omega) (by omega) (by omega) hn hs)
 go_enter Tryz.func311,Tryz.ntmps311
 go_wp2_with fail
 refine HC.out.mono ?_
 rintro e w1 ⟨x,rfl,hx,hp⟩
 have fP:=zAA hp;have HX:=zAA hx
 clear hp hx
 go_wp2_with fail
 go_ret
 exact ⟨x,rfl,by have:=HX.out;omega,fP.out⟩
theorem E6 (g n c a b:Nat) (d:Array Nat) (w:World) (h:SU w w g n c d) (Gz:a+12<b) (hb:b≤n) (hn:n<4611686018427387904) (hg:g<w.heap.size) :
  Calls Tryz.prog 304 #[.slice (some ⟨g,0,none⟩) n c,.int .i64 (a:Int),.int .i64 (b:Int)] w fun e w'=>
   ∃(x:Nat) (t:Int),e = .returned (.tuple #[.int .i64 (x:Int),.int .i64 t])∧(a≤x∧x<b)∧SU w w' g n c d:=by
 have HS:=zAA h
 clear h
 obtain ⟨m,jq⟩:∃m,b-a=m:=⟨_,rfl⟩
 have SJ:(b:Int)-(a:Int)=(m:Int):=by omega
 obtain ⟨t,ht⟩:∃t,m / 4=t:=⟨_,rfl⟩
 have hdv:(m:Int) / 4=(t:Int):=by omega
 have h12:(8:Int)≤(m:Int):=by omega
 have HI:Hid (12<m∧a+m≤n∧b=a+m∧4*t≤m∧m<4*t+4):=by show _∧_∧_∧_∧_;omega
 have hmn:(m:Int)≤4611686018427387904:=by omega
 have han:(a:Int)≤4611686018427387904:=by omega
 have Yx:(t:Int)≤4611686018427387904:=by omega
 clear jq ht Gz
 go_enter Tryz.func304,Tryz.ntmps304
 have Cg:∃w1,(w.alloc (.cells #[.int .i64 0] 3))=w1:=⟨_,rfl⟩
 have ZD:Below w.heap.size w (w.alloc (.cells #[.int .i64 0] 3)):=(zAM _ _).alloc (zAD _) _
 have rm:Ac (fun k=>k=g) w (w.alloc (.cells #[.int .i64 0] 3)):=Ac.Ah ZD _
 have ry:PV (w.alloc (.cells #[.int .i64 0] 3)) g n c w.heap.size d 0:=⟨⟨HS.out.sz,(Ac.Ah ZD (fun _=>False)).owns HS.out.row (fun _ _ e=>e),Ac.refl _ _⟩,by omega,Ao.new _ _ _⟩
 by_cases ul:50≤m
 ·have h50i:(50:Int)≤(m:Int):=by omega
  clear h12
  have h12:(8:Int)≤(m:Int):=by omega
  go_wp2_with fail
  have lO:=zAA rm;have HP0:=zAA ry
  clear rm ry ZD Cg
  generalize (w.alloc (.cells #[.int .i64 0] 3))=w1 at *
  refine (DX g n c w.heap.size (a+t) 0 d w1 HP0.out (by have:=HI.out;omega) (by have:=HI.out;omega) hn (by omega)).mono ?_
  rintro e w2 ⟨x1,rfl,hx,hp⟩
  obtain ⟨hm,t1,Xl,gC⟩:=hp
  have lT:=zAA gC;have HMa:=zAA hm;have ZP:=hx
  clear hm gC hx
  go_wp2_with fail
  refine (DX g n c w.heap.size (a+t*2) t1 d w2 lT.out (by have:=HI.out;omega) (by have:=HI.out;omega) hn (by omega)).mono ?_
  rintro e w3 ⟨x2,rfl,hx,hp⟩
  obtain ⟨hm,t2,dF,gC⟩:=hp
  have HPb:=zAA gC;have HMb:=zAA (HMa.out.trans hm (fun _ _ e=>e));have hx2:=hx
  clear hm gC hx
  go_wp2_with fail
  refine (DX g n c w.heap.size (a+t*3) t2 d w3 HPb.out (by have:=HI.out;omega) (by have:=HI.out;omega) hn (by omega)).mono ?_
  rintro e w4 ⟨x3,rfl,hx,hp⟩
  obtain ⟨hm,t3,ht3,gC⟩:=hp
  have HPc:=zAA gC;have HMc:=zAA (HMb.out.trans hm (fun _ _ e=>e));have hx3:=hx
  clear hm gC hx
  go_wp2_with fail
  refine (M5 g n c w.heap.size x1 x2 x3 t3 d w4 HPc.out (by have:=HI.out;omega) (by have:=HI.out;omega) (by have:=HI.out;omega) hn (by omega)).mono ?_
  rintro e wf ⟨x,rfl,hx,hp⟩
  obtain ⟨F6,tf,htf,uL⟩:=hp
  have HX:Hid (a≤x∧x<b):=by show _∧_;have:=HI.out;omega
  have Ni:Hid (Ac (fun k=>k=w.heap.size) w1 wf):=HMc.out.trans F6 (fun _ _ e=>e)
  have HPf:=zAA uL
  have sA:wf.cell? ⟨w.heap.size,0,none⟩=some (.int .i64 (tf:Int)):=HPf.out.box.cell 0
  have HF:Hid (SU w wf g n c d):=⟨HS.out.sz,HPf.out.su.row,lO.out.trans Ni.out (fun k hk e=>absurd hk (by subst e;exact Nat.lt_irrefl _))⟩
  clear F6 uL hx
  by_cases h0:tf=0
  ·subst h0
   go_wp2_with fail
   go_ret2
   exact ⟨x,_,rfl,HX.out,HF.out⟩
  ·have h0i:¬(tf:Int)=0:=by omega
   by_cases h1:tf=12
   ·subst h1
    go_wp2_with fail
    go_ret2
    exact ⟨x,_,rfl,HX.out,HF.out⟩
   ·have h1i:¬(tf:Int)=12:=by omega
    go_wp2_with fail
    go_ret2
    exact ⟨x,_,rfl,HX.out,HF.out⟩
 ·have h50i:¬(50:Int)≤(m:Int):=by omega
  have lO:=zAA rm;have HP0:=zAA ry
  clear rm ry ZD
  clear Cg
  go_wp2_with fail
  generalize (w.alloc (.cells #[.int .i64 0] 3))=w1 at *
  refine (M5 g n c w.heap.size (a+t) (a+t*2) (a+t*3) 0 d w1 HP0.out (by have:=HI.out;omega) (by have:=HI.out;omega) (by have:=HI.out;omega) hn (by omega)).mono ?_
  rintro e wf ⟨x,rfl,hx,hp⟩
  obtain ⟨F6,tf,htf,uL⟩:=hp
  have HX:Hid (a≤x∧x<b):=by show _∧_;have:=HI.out;omega
  have Ni:Hid (Ac (fun k=>k=w.heap.size) w1 wf):=F6
  have HPf:=zAA uL
  have sA:wf.cell? ⟨w.heap.size,0,none⟩=some (.int .i64 (tf:Int)):=HPf.out.box.cell 0
  have HF:Hid (SU w wf g n c d):=⟨HS.out.sz,HPf.out.su.row,lO.out.trans Ni.out (fun k hk e=>absurd hk (by subst e;exact Nat.lt_irrefl _))⟩
  clear F6 uL hx
  by_cases h0:tf=0
  ·subst h0
   go_wp2_with fail
   go_ret2
   exact ⟨x,_,rfl,HX.out,HF.out⟩
  ·have h0i:¬(tf:Int)=0:=by omega
   by_cases h1:tf=12
   ·subst h1
    go_wp2_with fail
    go_ret2
    exact ⟨x,_,rfl,HX.out,HF.out⟩
   ·have h1i:¬(tf:Int)=12:=by omega
    go_wp2_with fail
    go_ret2
    exact ⟨x,_,rfl,HX.out,HF.out⟩
end Go.Proofs.YtdcgbgecbeegmaaGreatDoor
end
section
namespace Go.Proofs.YtdcgbgecbeegmaaGreatDoor
open Go
def renN:Go.Shelf.Ren:=⟨fun | 125=>122 | 128=>168 | 129=>169 | n=>n,fun | 3=>3 | 4=>4 | 5=>5 | 9=>9 | 46=>177 | 51=>139 | 53=>81 | n=>n,fun n=>n⟩
theorem laysN:Go.Proofs.Lays.n125 Tryz.prog renN:={ mixed:=by kernel_rfl,f125:=Tryz.func122.trans (congrArg some (by kernel_rfl)),f128:=Tryz.func168.trans (congrArg some (by kernel_rfl)),f129:=Tryz.func169.trans (congrArg some (by kernel_rfl)),t3:=Tryz.underlying3,a3:=Tryz.isAgg3,z3:=Tryz.sizeOf3,v3:=Tryz.zeroValue3,t4:=Tryz.underlying4,a4:=Tryz.isAgg4,z4:=Tryz.sizeOf4,v4:=Tryz.zeroValue4,t5:=Tryz.underlying5,a5:=Tryz.isAgg5,z5:=Tryz.sizeOf5,v5:=Tryz.zeroValue5,t9:=Tryz.underlying9,a9:=Tryz.isAgg9,z9:=Tryz.sizeOf9,v9:=Tryz.zeroValue9,t46:=Tryz.underlying177,a46:=Tryz.isAgg177,z46:=Tryz.sizeOf177,v46:=Tryz.zeroValue177,t51:=Tryz.underlying139,a51:=Tryz.isAgg139,z51:=Tryz.sizeOf139,v51:=Tryz.zeroValue139,t53:=Tryz.underlying81,a53:=Tryz.isAgg81,z53:=Tryz.sizeOf81,v53:=Tryz.zeroValue81 }
theorem Nv (x:Nat) (hx:x<18446744073709551616) (w:World):Calls Tryz.prog 122 #[.int .u64 (x:Int)] w fun e w'=>e = .returned (.int .i64 (Lib.bitLen x:Nat))∧w'=w:=
 (Any.bits_Len laysN (x:Int) w (by omega) (by omega)).mono fun e w' h=>by
  rw [zCA] at h
  exact h
end Go.Proofs.YtdcgbgecbeegmaaGreatDoor
end
section
namespace Go.Proofs.YtdcgbgecbeegmaaGreatDoor
open Go Go.RowKit
theorem JS (op:BinOp) (x y:Int):∃t:Nat,bits op .u64 x y=(t:Int)∧t<18446744073709551616:=by
 unfold bits
 simp only [zBB]
 generalize ((match op with
  | .and=>BitVec.ofInt IntKind.u64.bits x &&& BitVec.ofInt IntKind.u64.bits y
  | .or=>BitVec.ofInt IntKind.u64.bits x ||| BitVec.ofInt IntKind.u64.bits y
  | .xor=>BitVec.ofInt IntKind.u64.bits x ^^^ BitVec.ofInt IntKind.u64.bits y
  | _=>BitVec.ofInt IntKind.u64.bits x &&& ~~~BitVec.ofInt IntKind.u64.bits y:BitVec IntKind.u64.bits)).toNat=z
 exact ⟨z % 18446744073709551616,by omega,zFO _ (by decide)⟩
theorem JR (n:Nat) (h0:0<n) (hn:n<4611686018427387904):n<2 ^ Lib.bitLen n∧2 ^ Lib.bitLen n≤2*n∧Lib.bitLen n<64:=by
 have h1:2 ^ n.log2≤n:=Nat.log2_self_le (by omega)
 have h2:n<2 ^ (n.log2+1):=Nat.lt_log2_self
 have hb:Lib.bitLen n=n.log2+1:=by
  rw [Lib.bitLen_shift n.log2 n h1 (by omega)]
  have e:n / 2 ^ n.log2=1:=by
   have hp:=zEL n.log2
   rw [zDS] at h2
   exact Nat.div_eq_of_lt_le (by omega) (by omega)
  rw [e];rfl
 have h3:Lib.bitLen n≤62:=Lib.bitLen_le n 62 (by omega) (by omega)
 rw [hb] at h3 ⊢
 refine ⟨h2,?_,by omega⟩
 rw [zDS];omega
theorem pA (n:Nat) (h0:0<n) (hn:n<4611686018427387904) (w:World):Calls Tryz.prog 218 #[.int .i64 (n:Int)] w fun e w'=>e = .returned (.int .u64 (IntKind.u64.wrap (2 ^ Lib.bitLen n)))∧w'=w:=by
 go_enter Tryz.func218,Tryz.ntmps218
 go_wp2_with fail
 refine (Nv n (by omega) w).mono ?_
 rintro e w1 ⟨rfl,rfl⟩
 have hm:min (Lib.bitLen n) 64=Lib.bitLen n:=by have:=(JR n h0 hn).2.2;omega
 go_wp2_with fail
 go_ret
 exact ⟨rfl,rfl⟩
theorem qB (q r:Nat) (w:World) (hb:Ao w q [.int .u64 (r:Int)]):Calls Tryz.prog 219 #[.pointer (some ⟨q,0,none⟩)] w fun e w'=>∃t:Nat,e = .returned (.int .u64 (t:Int))∧t<18446744073709551616∧Ao w' q [.int .u64 (t:Int)]∧Ac (fun k=>k=q) w w':=by
 have HB:=zAA hb
 have hc:w.cell? ⟨q,0,none⟩=some (.int .u64 (r:Int)):=hb.cell 0
 have hf:=hb.free 0
 have HM:Hid (Ac (fun k=>k=q) w w):=Ac.refl _ _
 have step:∀(w0:World) (x:Int) (t:Nat),Ao w0 q [.int .u64 x]→Ac (fun k=>k=q) w w0→Ao ((w0.setCell ⟨q,0,none⟩ (.int .u64 (t:Int))).drew) q [.int .u64 (t:Int)]∧Ac (fun k=>k=q) w ((w0.setCell ⟨q,0,none⟩ (.int .u64 (t:Int))).drew):=fun w0 x t h m=>
  ⟨((h.set 0 (.int .u64 (t:Int)))).drew,(m.trans (Ac.set (fun k=>k=q) w0 ⟨q,0,none⟩ (.int .u64 (t:Int)) (fun _=>rfl)) (fun _ _ e=>e)).trans (Ac.drew _ _) (fun _ _ e=>e)⟩
 have BH:=zAA step
 clear hb step
 go_enter Tryz.func219,Tryz.ntmps219
 go_wp2_with fail
 go_big_region
 obtain ⟨t1,Xl,hlt1⟩:=JS .xor ((r:Nat):Int) (IntKind.u64.wrap (↑r*8192))
 rw [Xl]
 obtain ⟨HB',HM'⟩:=BH.out w _ t1 HB.out HM.out
 clear HB HM hc hf Xl
 have HB:=zAA HB';have HM:=zAA HM'
 clear HB' HM'
 generalize (w.setCell ⟨q,0,none⟩ (.int .u64 (t1:Int))).drew=w1 at *
 have hc:w1.cell? ⟨q,0,none⟩=some (.int .u64 (t1:Int)):=HB.out.cell 0
 have hf:=HB.out.free 0
 go_wp2_with fail
 go_big_region
 obtain ⟨t2,dF,Mc⟩:=JS .xor ((t1:Nat):Int) (↑t1 / 128)
 rw [dF]
 obtain ⟨HB',HM'⟩:=BH.out w1 _ t2 HB.out HM.out
 clear HB HM hc hf dF
 have HB:=zAA HB';have HM:=zAA HM'
 clear HB' HM'
 generalize (w1.setCell ⟨q,0,none⟩ (.int .u64 (t2:Int))).drew=w2 at *
 have hc:w2.cell? ⟨q,0,none⟩=some (.int .u64 (t2:Int)):=HB.out.cell 0
 have hf:=HB.out.free 0
 go_wp2_with fail
 go_big_region
 obtain ⟨t3,ht3,hlt3⟩:=JS .xor ((t2:Nat):Int) (IntKind.u64.wrap (↑t2*131072))
 rw [ht3]
 obtain ⟨HB',HM'⟩:=BH.out w2 _ t3 HB.out HM.out
 clear HB HM hc hf ht3
 have HB:=zAA HB';have HM:=zAA HM'
 clear HB' HM'
 generalize (w2.setCell ⟨q,0,none⟩ (.int .u64 (t3:Int))).drew=w3 at *
 have hc:w3.cell? ⟨q,0,none⟩=some (.int .u64 (t3:Int)):=HB.out.cell 0
 have hf:=HB.out.free 0
 go_wp2_with fail
 go_ret
 exact ⟨t3,rfl,hlt3,HB.out,HM.out⟩
end Go.Proofs.YtdcgbgecbeegmaaGreatDoor
end
