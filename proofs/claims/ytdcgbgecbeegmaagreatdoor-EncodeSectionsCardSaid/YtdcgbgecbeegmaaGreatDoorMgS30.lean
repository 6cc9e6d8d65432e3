/- Texts 30. -/
import Derived.Test.YtdcgbgecbeegmaaGreatDoorMgSA
import Derived.Test.YtdcgbgecbeegmaaGreatDoorMgS28
import Derived.Test.YtdcgbgecbeegmaaGreatDoorMgS29
set_option linter.unusedVariables false
set_option linter.unusedSimpArgs false
set_option maxHeartbeats 400000000
set_option maxRecDepth 100000
section
namespace Go.Proofs.YtdcgbgecbeegmaaGreatDoor
open Go Go.RowKit
theorem Kf (tag:Nat) (l:List Nat) : -1≤AO tag l∧AO tag l≤8199+78*(l.length:Int):=by
 have:=LK tag l
 rw [AO]
 split<;>omega
theorem V4 (tag:Nat) (ht:tag=1∨tag=2∨tag=3) (v lv:Value) (bs:List Bool) (l:List Nat) (w:World) (h:GY w v bs) (hl:Rd w 1 lv l.length (AL l)) (Ct:∀t∈l,C4 t) (Dz:l≠[]→∀k,lv.ownBlock=some k→v.ownBlock≠some k) (hn:l.length≤1000000) (hz:bs.length≤1000000000) :
  Calls Tryz.prog 73 #[v,.int .i64 (tag:Int),lv] w fun e w'=>∃v',e = .returned (.tuple #[v',.bool (q7 tag l)])∧Ag v (bs++Fz tag l) w v' w':=by
 rcases ht with rfl | rfl | rfl
 ·have HP:=zAA (ki v lv bs l w h hl Ct Dz (by omega))
  clear h hl Ct Dz hn hz
  go_enter Tryz.func73,Tryz.ntmps73
  go_wp2_with fail
  refine HP.out.mono ?_
  rintro e w1 ⟨v1,rfl,hR⟩
  go_wp2_with fail
  go_ret2
  exact ⟨_,rfl,hR⟩
 ·have HP:=zAA (kj v lv bs l w h hl Ct Dz (by omega))
  clear h hl Ct Dz hn hz
  go_enter Tryz.func73,Tryz.ntmps73
  go_wp2_with fail
  refine HP.out.mono ?_
  rintro e w1 ⟨v1,rfl,hR⟩
  go_wp2_with fail
  go_ret2
  exact ⟨_,rfl,hR⟩
 ·have HP:=zAA (km v lv bs l w h hl Ct Dz (by omega) (by omega))
  clear h hl Ct Dz hn hz
  go_enter Tryz.func73,Tryz.ntmps73
  go_wp2_with fail
  refine HP.out.mono ?_
  rintro e w1 ⟨v1,rfl,hR⟩
  go_wp2_with fail
  go_ret2
  exact ⟨_,rfl,hR⟩
theorem eR (tag:Nat) (ht:tag=1∨tag=2∨tag=3) (lv:Value) (l:List Nat) (w:World) (hl:Rd w 1 lv l.length (AL l)) (Ct:∀t∈l,C4 t) (hn:l.length≤1000000) :
  Calls Tryz.prog 110 #[.int .i64 (tag:Int),lv] w fun e w'=>e = .returned (.int .i64 (AO tag l))∧Below w.heap.size w w':=by
 have HP:=zAA (V4 tag ht (.slice none 0 0) lv [] l w (zBI _ _ _ _) hl Ct (fun _ k _ e=>by cases e) hn (by simp))
 have HZ:Hid (AO tag l=if q7 tag l=true then ((Fz tag l).length:Int) else -1):=rfl
 rw [zBK] at HP
 clear hl Ct hn ht
 go_enter Tryz.func110,Tryz.ntmps110
 go_wp2_with fail
 refine HP.out.mono ?_
 rintro e w1 ⟨v1,rfl,hR⟩
 have HB:Hid (Below w.heap.size w w1):=hR.Ai.below (zAD _) (fun k _ e=>by cases e)
 obtain ⟨p1,c1,DA⟩:=(Rd.Ad hR.own).shape
 subst DA
 clear hR HP
 generalize (Fz tag l).length=N at *
 cases hk:q7 tag l with
 | true=>
  have RR:=HZ.out
  rw [hk,if_pos rfl] at RR
  have HZ3:=zAA RR
  clear hk RR
  go_wp2_with fail
  go_ret
  exact ⟨by rw [HZ3.out];rfl,HB.out⟩
 | false=>
  have RR:=HZ.out
  rw [hk,if_neg (by decide)] at RR
  have HZ3:=zAA RR
  clear hk RR
  go_wp2_with fail
  go_ret
  exact ⟨by rw [HZ3.out];rfl,HB.out⟩
theorem XM (lv:Value) (l:List Nat) (w:World) (hl:Rd w 1 lv l.length (AL l)) (Ct:∀t∈l,C4 t) (hn:l.length≤1000000) :
  Calls Tryz.prog 72 #[lv] w fun e w'=>e = .returned (.int .i64 (Bl l:Int))∧Below w.heap.size w w':=by
 have HL:=zAA hl;have Km:=zAA Ct;have HN:=zAA hn
 obtain ⟨pl,cl,hv⟩:=hl.shape
 subst hv
 have HS:Hid (∀tag w1,(tag=1∨tag=2∨tag=3)→Below w.heap.size w w1→Calls Tryz.prog 110 #[.int .i64 ((tag:Nat):Int),.slice pl l.length cl] w1 fun e w'=>e = .returned (.int .i64 (AO tag l))∧Below w1.heap.size w1 w'):=fun tag w1 ht hb=>eR tag ht _ l w1 (HL.out.below hb) Km.out HN.out
 have HC:Hid (Bl l=if AO 2 l<AO 1 l then (if 0≤AO 3 l∧AO 3 l<AO 2 l then 3 else 2) else (if 0≤AO 3 l∧AO 3 l<AO 1 l then 3 else 1)):=rfl
 have h1:=Kf 1 l;have h2:=Kf 2 l;have h3:=Kf 3 l
 have H2:Hid (0≤AO 2 l):=by show _≤_;rw [AO,if_pos (show q7 2 l=true from rfl)];omega
 have Lg:Calls Tryz.prog 110 #[.int .i64 1,.slice pl l.length cl] w fun e w'=>e = .returned (.int .i64 (AO 1 l))∧Below w.heap.size w w':=HS.out 1 w (Or.inl rfl) (zAM _ _)
 have HS1:=zAA Lg
 clear hl Ct hn Lg
 generalize hA:AO 1 l=a at *
 generalize hB:AO 2 l=b at *
 generalize hD:AO 3 l=c at *
 have HA:=zAA hA;have HB:=zAA hB;have HD:=zAA hD
 clear hA hB hD
 go_enter Tryz.func72,Tryz.ntmps72
 go_wp2_with fail
 refine HS1.out.mono ?_
 rintro e w1 ⟨rfl,hB⟩
 have A6:=zAA hB
 clear hB
 go_wp2_with fail
 have sE : -1≤a∧a≤100000000:=by have:=HN.out;omega
 have hi2 : -1≤b∧b≤100000000:=by have:=HN.out;omega
 have hi3 : -1≤c∧c≤100000000:=by have:=HN.out;omega
 have HS2:Hid (∀w1,Below w.heap.size w w1→Calls Tryz.prog 110 #[.int .i64 2,.slice pl l.length cl] w1 fun e w'=>e = .returned (.int .i64 b)∧Below w1.heap.size w1 w'):=fun w1 hb=>by
  have:=HS.out 2 w1 (Or.inr (Or.inl rfl)) hb
  rw [HB.out] at this
  exact this
 have Fu:Hid (∀w1,Below w.heap.size w w1→Calls Tryz.prog 110 #[.int .i64 3,.slice pl l.length cl] w1 fun e w'=>e = .returned (.int .i64 c)∧Below w1.heap.size w1 w'):=fun w1 hb=>by
  have:=HS.out 3 w1 (Or.inr (Or.inr rfl)) hb
  rw [HD.out] at this
  exact this
 clear h1 h2 h3 HS HS1 HA HB HD
 go_loopw [3,4,5] (fun bv mv tv wr=>Hid (Below w.heap.size w wr)∧((tv = .int .i64 2∧bv = .int .i64 1∧mv = .int .i64 a)∨(tv = .int .i64 3∧((b<a∧bv = .int .i64 2∧mv = .int .i64 b)∨(¬b<a∧bv = .int .i64 1∧mv = .int .i64 a)))∨(tv = .int .i64 4∧bv = .int .i64 (Bl l:Int)))) (fun _ _ tv _=>4-(intOf tv).toNat)
 case atStart=>exact ⟨A6.out,Or.inl ⟨rfl,rfl,rfl⟩⟩
 case round=>
  obtain ⟨Dq,hrel⟩:=hrel
  rcases hrel with ⟨rfl,rfl,rfl⟩ | ⟨rfl,hrel⟩ | ⟨rfl,rfl⟩
  ·have wW:0≤b:=H2.out
   by_cases gk:b<a
   ·go_wp2_with fail
    refine (HS2.out _ Dq.out).mono ?_
    rintro e w2 ⟨rfl,hB⟩
    have AP:=zAA (Dq.out.trans (hB.mono Dq.out.size))
    clear hB
    go_wp2_with fail
    go_round
    case rel=>exact ⟨AP.out,Or.inr (Or.inl ⟨rfl,Or.inl ⟨by omega,rfl,rfl⟩⟩)⟩
    case measure=>simp [intOf]
   ·go_wp2_with fail
    refine (HS2.out _ Dq.out).mono ?_
    rintro e w2 ⟨rfl,hB⟩
    have AP:=zAA (Dq.out.trans (hB.mono Dq.out.size))
    clear hB
    go_wp2_with fail
    go_round
    case rel=>exact ⟨AP.out,Or.inr (Or.inl ⟨rfl,Or.inr ⟨by omega,rfl,rfl⟩⟩)⟩
    case measure=>simp [intOf]
  ·rcases hrel with ⟨gk,rfl,rfl⟩ | ⟨gk,rfl,rfl⟩
   ·by_cases h0:0≤c
    ·by_cases hc:c<b
     ·skip
      have HF:Hid (Bl l=3):=by show _=_;rw [HC.out];rw [if_pos gk,if_pos ⟨h0,hc⟩]
      go_wp2_with fail
      refine (Fu.out _ Dq.out).mono ?_
      rintro e w2 ⟨rfl,hB⟩
      have AP:=zAA (Dq.out.trans (hB.mono Dq.out.size))
      clear hB
      go_wp2_with fail
      go_round
      case rel=>exact ⟨AP.out,Or.inr (Or.inr ⟨rfl,by rw [HF.out];rfl⟩)⟩
      case measure=>simp [intOf]
     ·skip
      have HF:Hid (Bl l=2):=by show _=_;rw [HC.out];rw [if_pos gk,if_neg (fun h=>hc h.2)]
      go_wp2_with fail
      refine (Fu.out _ Dq.out).mono ?_
      rintro e w2 ⟨rfl,hB⟩
      have AP:=zAA (Dq.out.trans (hB.mono Dq.out.size))
      clear hB
      go_wp2_with fail
      go_round
      case rel=>exact ⟨AP.out,Or.inr (Or.inr ⟨rfl,by rw [HF.out];rfl⟩)⟩
      case measure=>simp [intOf]
    ·skip
     have HF:Hid (Bl l=2):=by show _=_;rw [HC.out];rw [if_pos gk,if_neg (fun h=>h0 h.1)]
     go_wp2_with fail
     refine (Fu.out _ Dq.out).mono ?_
     rintro e w2 ⟨rfl,hB⟩
     have AP:=zAA (Dq.out.trans (hB.mono Dq.out.size))
     clear hB
     go_wp2_with fail
     go_round
     case rel=>exact ⟨AP.out,Or.inr (Or.inr ⟨rfl,by rw [HF.out];rfl⟩)⟩
     case measure=>simp [intOf]
   ·by_cases h0:0≤c
    ·by_cases hc:c<a
     ·skip
      have HF:Hid (Bl l=3):=by show _=_;rw [HC.out];rw [if_neg gk,if_pos ⟨h0,hc⟩]
      go_wp2_with fail
      refine (Fu.out _ Dq.out).mono ?_
      rintro e w2 ⟨rfl,hB⟩
      have AP:=zAA (Dq.out.trans (hB.mono Dq.out.size))
      clear hB
      go_wp2_with fail
      go_round
      case rel=>exact ⟨AP.out,Or.inr (Or.inr ⟨rfl,by rw [HF.out];rfl⟩)⟩
      case measure=>simp [intOf]
     ·skip
      have HF:Hid (Bl l=1):=by show _=_;rw [HC.out];rw [if_neg gk,if_neg (fun h=>hc h.2)]
      go_wp2_with fail
      refine (Fu.out _ Dq.out).mono ?_
      rintro e w2 ⟨rfl,hB⟩
      have AP:=zAA (Dq.out.trans (hB.mono Dq.out.size))
      clear hB
      go_wp2_with fail
      go_round
      case rel=>exact ⟨AP.out,Or.inr (Or.inr ⟨rfl,by rw [HF.out];rfl⟩)⟩
      case measure=>simp [intOf]
    ·skip
     have HF:Hid (Bl l=1):=by show _=_;rw [HC.out];rw [if_neg gk,if_neg (fun h=>h0 h.1)]
     go_wp2_with fail
     refine (Fu.out _ Dq.out).mono ?_
     rintro e w2 ⟨rfl,hB⟩
     have AP:=zAA (Dq.out.trans (hB.mono Dq.out.size))
     clear hB
     go_wp2_with fail
     go_round
     case rel=>exact ⟨AP.out,Or.inr (Or.inr ⟨rfl,by rw [HF.out];rfl⟩)⟩
     case measure=>simp [intOf]
  ·go_wp2_with fail
   go_ret
   exact ⟨rfl,Dq.out⟩
structure F4 (w0 w:World) (tv vv:Value) (ts:List Int) (xs:List Nat):Prop where
 tr:w.ownsRow w0.heap.size 2 1 tv ts.length (A1 ts)
 vr:w.ownsRow w0.heap.size 81 1 vv xs.length (AL xs)
 ap:∀k,tv.ownBlock=some k→vv.ownBlock≠some k
 AA:Below w0.heap.size w0 w
theorem F4.pushT {w0 w w':World} {tv tv' vv:Value} {ts ts':List Int} {xs:List Nat} (h:F4 w0 w tv vv ts xs) (hr:w'.ownsRow 0 2 1 tv' ts'.length (A1 ts')) (hm:Ac (fun k=>tv.ownBlock=some k) w w') (hf:AG w.heap.size tv tv'):F4 w0 w' tv' vv ts' xs:=by
 refine ⟨Af hr (fun k hk=>?_),hm.owns h.vr (fun k hk e=>h.ap k e hk),fun k hk e=>?_,h.AA.trans (hm.below h.AA.size (fun k hk e=>by have:=(h.tr.lt k e).1;omega))⟩
 ·rcases hf k hk with e | e
  ·exact (h.tr.lt k e).1
  ·have:=h.AA.size;omega
 ·rcases hf k hk with e2 | e2
  ·exact h.ap k e2 e
  ·have:=(h.vr.lt k e).2;omega
theorem F4.pushV {w0 w w':World} {tv vv vv':Value} {ts:List Int} {xs xs':List Nat} (h:F4 w0 w tv vv ts xs) (hr:w'.ownsRow 0 81 1 vv' xs'.length (AL xs')) (hm:Ac (fun k=>vv.ownBlock=some k) w w') (hf:AG w.heap.size vv vv'):F4 w0 w' tv vv' ts xs':=by
 refine ⟨hm.owns h.tr (fun k hk e=>h.ap k hk e),Af hr (fun k hk=>?_),fun k hk e=>?_,h.AA.trans (hm.below h.AA.size (fun k hk e=>by have:=(h.vr.lt k e).1;omega))⟩
 ·rcases hf k hk with e | e
  ·exact (h.vr.lt k e).1
  ·have:=h.AA.size;omega
 ·rcases hf k e with e2 | e2
  ·exact h.ap k hk e2
  ·have:=(h.tr.lt k hk).2;omega
theorem aN (lv:Value) (l:List (Int × Nat)) (w:World) (hl:Rd w 2 lv l.length (Al l)) (hn:l.length≤1000000) :
  Calls Tryz.prog 71 #[lv] w fun e w'=>∃tv vv,e = .returned (.tuple #[tv,vv])∧w'.ownsRow w.heap.size 2 1 tv l.length (A1 (BN l))∧w'.ownsRow w.heap.size 81 1 vv l.length (AL (AQ l))∧Below w.heap.size w w':=by
 have HL:=zAA hl;have HN:=zAA hn
 obtain ⟨pl,cl,hv⟩:=hl.shape
 subst hv
 clear hl hn
 go_enter Tryz.func71,Tryz.ntmps71
 go_wp2_with fail
 go_loopw [4,5,6] (fun tv vv iv wr=>∃i:Nat,i≤l.length∧iv = .int .i64 (i:Int)∧(∃p c,tv = .slice p i c)∧(∃p c,vv = .slice p i c)∧Hid (F4 w wr tv vv (BN (l.take i)) (AQ (l.take i)))) (fun _ _ iv _=>l.length-(intOf iv).toNat)
 case atStart=>exact ⟨0,zAJ _,rfl,⟨_,_,rfl⟩,⟨_,_,rfl⟩,zBI _ _ _ _,zBI _ _ _ _,(fun k e=>by cases e),zAM _ _⟩
 case round=>
  obtain ⟨i,hi,rfl,⟨pt,ct,rfl⟩,⟨pv,cv,rfl⟩,HP⟩:=hrel
  have bQ:(i:Int)≤1000000:=by have:=HN.out;omega
  by_cases Aq:i<l.length
  ·have AF:(i:Int)<(l.length:Int):=by omega
   obtain ⟨t,x,xI⟩:∃t x,l[i]=(t,x):=⟨_,_,rfl⟩
   have hg:l[i]? = some (t,x):=by rw [zAC Aq,xI]
   obtain ⟨g1,g2⟩:=Pe l i t x hg
   obtain ⟨b,off,c',e,T3,KG,Aj⟩:=(HL.out.below HP.out.AA).at (fun e=>by have:=congrArg List.length e;rw [Eg,zBG] at this;omega)
   simp only [zAN] at e
   obtain ⟨rfl,_,rfl⟩:=e
   have h1:=Aj _ _ g1
   have h2:=Aj _ _ g2
   rw [← zDH] at h2
   have HG:Hid (∀w',Below w.heap.size w w'→w'.cell? ⟨b,off+i*2+1,none⟩=some (.int .u64 (x:Int))):=fun w' hb=>by
    obtain ⟨b2,off2,c2,e,_,_,Aj⟩:=(HL.out.below hb).at (fun e=>by have:=congrArg List.length e;rw [Eg,zBG] at this;omega)
    simp only [zAN,zCW,zGR] at e
    obtain ⟨⟨rfl,rfl,_⟩,_,rfl⟩:=e
    have:=Aj _ _ g2
    rwa [← zDH] at this
   have HT:Hid (BN (l.take (i+1))=BN (l.take i)++[t]):=by show _=_;rw [zAL,hg];simp [BN]
   have HV:Hid (AQ (l.take (i+1))=AQ (l.take i)++[x]):=by show _=_;rw [zAL,hg];simp [AQ]
   have l6:Hid ((BN (l.take i)).length=i):=by show _=_;simp [BN];omega
   have RQ:Hid ((AQ (l.take i)).length=i):=by show _=_;simp [AQ];omega
   generalize BN (l.take i)=ts at *
   generalize AQ (l.take i)=xs at *
   have C0:Hid ((i+1)*8≤140737488355328∧i+1≤maxLen):=by show _∧_;unfold maxLen;omega
   have Dd:Hid (wr.ownsRow 0 2 1 (.slice pt i ct) i (A1 ts)):=by
    have h:=Af HP.out.tr (base':=0) (fun _ _=>zAJ _)
    rw [l6.out] at h
    exact h
   clear Aj T3 KG g1 g2 hg xI h2
   go_wp2_with (at_builtin;refine AD Tryz.rY wr #[.int .i64 t] _ _ _ Dd.out rfl (CC _ rfl) C0.out rfl _ _ rfl rfl rfl ?_)
   intro v8 w8 Au AU DK
   have HP8:Hid (F4 w w8 v8 (.slice pv i cv) (ts++[t]) xs):=HP.out.pushT (by rw [zAB,l6.out,Lh];exact Au) AU DK
   obtain ⟨p8,c8,MY⟩:∃p c,v8 = .slice p (i+1) c:=(Rd.Ad Au).shape
   subst MY
   clear Au AU DK Dd h1 HP
   have h2:=HG.out w8 HP8.out.AA
   have BG:Hid (w8.ownsRow 0 81 1 (.slice pv i cv) i (AL xs)):=by
    have h:=Af HP8.out.vr (base':=0) (fun _ _=>zAJ _)
    rw [RQ.out] at h
    exact h
   go_wp2_with (at_builtin;refine AD Tryz.GJ w8 #[.int .u64 (x:Int)] _ _ _ BG.out rfl (CC _ rfl) C0.out rfl _ _ rfl rfl rfl ?_)
   intro v9 w9 Au AU DK
   have HP9:Hid (F4 w w9 (.slice p8 (i+1) c8) v9 (ts++[t]) (xs++[x])):=HP8.out.pushV (by rw [zAB,RQ.out,LB];exact Au) AU DK
   obtain ⟨p9,c9,nN⟩:∃p c,v9 = .slice p (i+1) c:=(Rd.Ad Au).shape
   subst nN
   clear Au AU DK BG h2 HP8
   go_wp2_with fail
   go_round
   case rel=>exact ⟨i+1,by omega,by go_num,⟨_,_,rfl⟩,⟨_,_,rfl⟩,by rw [HT.out,HV.out];exact HP9.out⟩
   case measure=>simp [intOf];omega
  ·have AF:¬(i:Int)<(l.length:Int):=by omega
   obtain rfl:i=l.length:=by omega
   rw [zCT] at HP
   go_wp2_with fail
   go_ret2
   have h1:=HP.out.tr;have h2:=HP.out.vr
   rw [show (BN l).length=l.length by simp [BN]] at h1
   rw [show (AQ l).length=l.length by simp [AQ]] at h2
   exact ⟨_,_,rfl,h1,h2,HP.out.AA⟩
theorem US (lv:Value) (l:List (Int × Nat)) (w:World) (hl:Rd w 2 lv l.length (Al l)) (ok:∀s∈l,EK s) (hn:l.length≤1000000) :
  Calls Tryz.prog 33 #[lv] w fun e w'=>∃r,e = .returned (.tuple #[r,.int .i64 ((B0 l).2:Int)])∧Rd w' 1 r (B0 l).1.length (B9 (B0 l).1)∧(∀k,r.ownBlock=some k→w.heap.size≤k)∧Below w.heap.size w w':=by
 have HL:=zAA hl;have HO:=zAA ok
 obtain ⟨pl,cl,hv⟩:=hl.shape
 subst hv
 have lT:=zAA (aN _ l w hl hn)
 clear hl ok
 by_cases h0:l.length=0
 ·have hz:(l.length:Int)=0:=by omega
  have HE:Hid (B0 l=([],21)):=by show _=_;rw [B0,if_pos (zAI h0)]
  clear h0 hn lT
  go_enter Tryz.func33,Tryz.ntmps33
  go_wp2_with fail
  go_ret2
  rw [HE.out]
  exact ⟨_,rfl,Rd.nil _ _,(fun k hk=>by cases hk),zAM _ _⟩
 ·have hz:¬(l.length:Int)=0:=by omega
  have hzb:((l.length:Int) == 0)=false:=by rw [zAQ];exact hz
  have BC:l≠[]:=fun e=>h0 (by rw [e];rfl)
  by_cases W8:120<l.length
  ·have m5:(120:Int)<(l.length:Int):=by omega
   have HE:Hid (B0 l=([],7)):=by show _=_;rw [B0,if_neg BC,if_pos W8]
   clear h0 hn lT BC W8
   go_enter Tryz.func33,Tryz.ntmps33
   go_wp2_with fail
   go_ret2
   rw [HE.out]
   exact ⟨_,rfl,Rd.nil _ _,(fun k hk=>by cases hk),zAM _ _⟩
  ·have m5:¬(120:Int)<(l.length:Int):=by omega
   have HE:Hid (B0 l=(Bl (AQ l)::(l.length-1)::Bi (FL (BN l)++Fz (Bl (AQ l)) (AQ l)),0)):=by show _=_;rw [B0,if_neg BC,if_neg W8]
   have HN:Hid (0<l.length∧l.length≤120):=by show _∧_;omega
   have vX:Hid (∀t∈BN l,jC t):=fun t ht=>by
    obtain ⟨s,hs,rfl⟩:=zBU.1 ht
    exact (HO.out s hs).1
   have zweA:Hid (∀x∈AQ l,C4 x):=fun x hx=>by
    obtain ⟨s,hs,rfl⟩:=zBU.1 hx
    exact (HO.out s hs).2
   have l6:Hid ((BN l).length=l.length):=by show _=_;simp [BN]
   have RQ:Hid ((AQ l).length=l.length):=by show _=_;simp [AQ]
   clear h0 hn BC W8
   generalize BN l=ts at *
   generalize AQ l=xs at *
   go_enter Tryz.func33,Tryz.ntmps33
   go_wp2_with fail
   refine lT.out.mono ?_
   rintro e w1 ⟨tv,vv,rfl,Xl,DA,hB⟩
   have A6:=zAA hB
   rw [← l6.out] at Xl
   rw [← RQ.out] at DA
   have JL:=zAA (Rd.Ad Xl)
   have vY:=zAA (Rd.Ad DA)
   have rI:Hid (∀k,vv.ownBlock=some k→k<w1.heap.size):=fun k hk=>(DA.lt k hk).2
   obtain ⟨pt,ct,he⟩:=(Rd.Ad Xl).shape
   subst he
   obtain ⟨pv,cv,he⟩:=(Rd.Ad DA).shape
   subst he
   clear Xl DA hB lT
   go_wp2_with fail
   refine (XM _ xs w1 vY.out zweA.out (by rw [RQ.out];have:=HN.out;omega)).mono ?_
   rintro e w2 ⟨rfl,hB⟩
   have AP:=zAA (A6.out.trans (hB.mono A6.out.size))
   have GA:=zAA (JL.out.below hB)
   have rH:=zAA (vY.out.below hB)
   have HVp:Hid (∀k,(Value.slice pv xs.length cv).ownBlock=some k→k<w2.heap.size):=fun k hk=>by have:=rI.out k hk;have:=hB.size;omega
   have ub:=zAA (MQ xs)
   have H02:Hid (w.heap.size≤w2.heap.size):=AP.out.size
   have bW:=zAA (kh (.slice none 0 0) _ [] ts w2 (zBI _ _ _ _) GA.out vX.out (fun _ k _ e=>by cases e) (by rw [l6.out];have:=HN.out;simp;omega))
   rw [zBK] at bW
   clear hB A6 JL vY rI
   generalize Bl xs=tag at *
   go_wp2_with fail
   refine bW.out.mono ?_
   rintro e w3 ⟨v3,rfl,hR⟩
   have Ft:=zAA hR
   have Uw:Below w2.heap.size w2 w3:=hR.Ai.below (zAD _) (fun k _ e=>by cases e)
   have BS:=zAA (AP.out.trans (Uw.mono AP.out.size))
   have vZ:=zAA (rH.out.below Uw)
   have lG:Hid (∀k,v3.ownBlock=some k→w2.heap.size≤k):=fun k hk=>by
    rcases hR.fresh k hk with e | e
    ·cases e
    ·exact e
   have fK:Hid ((FL ts).length≤8160):=by show _≤_;have:=NB ts;have:=l6.out;have:=HN.out;omega
   obtain ⟨p3,c3,he⟩:=(Rd.Ad hR.own).shape
   subst he
   have HPp:=zAA (V4 tag ub.out _ _ (FL ts) xs w3 hR.own vZ.out zweA.out (fun _ k hk e=>by have:=lG.out k e;have:=HVp.out k hk;omega) (by rw [RQ.out];have:=HN.out;omega) (by have:=fK.out;omega))
   clear hR Uw bW AP GA rH
   go_wp2_with fail
   refine HPp.out.mono ?_
   rintro e w4 ⟨v4,rfl,hR⟩
   have qT:Below w2.heap.size w3 w4:=hR.Ai.below (Ft.out.Ai.size) (fun k hk e=>by have:=lG.out k e;omega)
   have CF:=zAA (BS.out.trans (qT.mono H02.out))
   have R8:=zAA (Rd.Ad hR.own)
   have kY:Hid ((FL ts++Fz tag xs).length≤100000):=by
    show _≤_
    have:=LK tag xs;have:=fK.out;have:=RQ.out;have:=HN.out
    rw [zAB];omega
   obtain ⟨p4,c4,he⟩:=(Rd.Ad hR.own).shape
   subst he
   have htb:(tag:Int)≤3∧(1:Int)≤(tag:Int):=by have:=ub.out;omega
   obtain ⟨Xl,dF⟩:=htb
   have gB:(l.length:Int)-1=((l.length-1:Nat):Int):=by have:=HN.out;omega
   have Cg:IntKind.u8.wrap (tag:Int)=(tag:Int):=by rw [IntKind.wrap_u8];omega
   have EC:IntKind.u8.wrap ((l.length-1:Nat):Int)=((l.length-1:Nat):Int):=by rw [IntKind.wrap_u8];have:=HN.out;omega
   have F6:((l.length-1:Nat):Int)≤120:=by have:=HN.out;omega
   clear hR qT HPp BS vZ Ft lG
   generalize FL ts++Fz tag xs=B at *
   generalize l.length-1=M at *
   go_wp2_with fail
   have sw:Below w4.heap.size w4 (w4.alloc (.cells #[.int .u8 (tag:Int),.int .u8 (M:Int)] 5)):=(zAM _ _).alloc (zAD _) _
   have bV:Hid ((w4.alloc (.cells #[.int .u8 (tag:Int),.int .u8 (M:Int)] 5)).ownsRow w.heap.size 5 1 (.slice (some ⟨w4.heap.size,0,none⟩) 2 2) 2 (B9 [tag,M])):=zCZ (base:=w.heap.size) w4 #[.int .u8 (tag:Int),.int .u8 (M:Int)] 2 CF.out.size (by simp [maxLen]) (by simp)
   have KC:=zAA (CF.out.trans (sw.mono CF.out.size))
   have t8:=zAA (R8.out.below sw)
   clear sw CF R8
   generalize w4.alloc (.cells #[.int .u8 (tag:Int),.int .u8 (M:Int)] 5)=w5 at *
   generalize w4.heap.size=q4 at *
   refine (pQ _ B w5 t8.out (by have:=kY.out;omega)).mono ?_
   rintro e w6 ⟨r6,rfl,hM⟩
   have Jl:=zAA (KC.out.trans (hM.2.mono KC.out.size))
   have Jg:=zAA ((Ac.Ah hM.2 (fun _=>False)).owns bV.out (fun _ _ e=>e))
   have HP6:=zAA (Rd.Ad hM.1)
   have C0:Hid ((2+(Bi B).length)*1≤140737488355328∧2+(Bi B).length≤maxLen):=by show _∧_;have:=kY.out;rw [A9];unfold maxLen;omega
   have JD:=zAA (Af Jg.out (base':=0) (fun _ _=>zAJ _))
   clear hM t8 KC bV
   go_wp2_with (at_builtin;refine At Tryz.CG _ _ _ _ _ _ _ JD.out HP6.out (A3 _) C0.out rfl _ _ rfl rfl rfl ?_)
   intro v8 w8 Au AU DK
   have qD:Hid (Below w.heap.size w w8):=Jl.out.trans (AU.below Jl.out.size (fun k hk e=>by have:=(Jg.out.lt k e).1;omega))
   have HF8:Hid (∀k,v8.ownBlock=some k→w.heap.size≤k):=fun k hk=>by
    rcases DK k hk with e | e
    ·exact (Jg.out.lt k e).1
    ·have:=Jl.out.size;omega
   have Pv:Hid (Rd w8 1 v8 (tag::M::Bi B).length (B9 (tag::M::Bi B))):=by
    have h:=Rd.Ad Au
    have e:B9 [tag,M]++B9 (Bi B)=B9 (tag::M::Bi B):=by rw [← Cb];rfl
    rw [e,show 2+(Bi B).length=(tag::M::Bi B).length by simp;omega] at h
    exact h
   obtain ⟨p8,c8,MY⟩:=Pv.out.shape
   subst MY
   clear Au AU DK Jg JD HP6
   go_wp2_with fail
   go_ret2
   rw [HE.out]
   exact ⟨_,rfl,Pv.out,HF8.out,qD.out⟩
end Go.Proofs.YtdcgbgecbeegmaaGreatDoor
end
section
namespace Go.Proofs.YtdcgbgecbeegmaaGreatDoor
open Go Go.RowKit Go.Shelf
attribute [local go_sem] Oper.semAt_some
def PR (L:Nat):Nat:=(L+119) / 120
abbrev Pc (L:Nat):={ k:Nat // k*120<L }
def CE {L:Nat} (x:Pc L):Nat:=x.1
def Ls {L:Nat} (l:List (Pc L)):List Nat:=l.map CE
def Lq (q:Option Addr) (L k:Nat):Value:=.slice (q.map (·.add (k*120*2))) (min 120 (L-k*120)) (min 120 (L-k*120))
theorem jR (p:Option Addr) (m c:Nat) (w:World) (n:Nat) :
  CallsIn Fence.wide n Tryz.prog 194 #[.slice p m c,.int .i64 120] w fun e w'=>e = .returned (.func (.func 242) #[] #[.pointer (some ⟨w.heap.size,0,none⟩),.pointer (some ⟨w.heap.size+1,0,none⟩)])∧w'=(w.alloc (.cells #[.slice p m c] 49)).alloc (.cells #[.int .i64 120] 3):=by
 refine zCQ.2 ?_
 go_enter Tryz.func194,Tryz.ntmps194
 go_wp2_with fail
 go_ret
 exact ⟨rfl,rfl⟩
theorem Y2 (n:Nat) (hn:1≤n) (b1 b2:Nat) (q:Option Addr) (L c:Nat) (w:World) (hc:w.cell? ⟨b1,0,none⟩=some (.slice q L c)) (hd:w.cell? ⟨b2,0,none⟩=some (.int .i64 120)) (hL:L≤1000000) (hLc:L≤c) (ZE:c≤maxLen) :
  SeqStopsK Fence.wide n Tryz.prog 242 #[.pointer (some ⟨b1,0,none⟩),.pointer (some ⟨b2,0,none⟩)] (fun x:Pc L=>#[Lq q L (CE x)]) (Bs (fun k=>k=b1∨k=b2)) (fun ys=>Ls ys=List.range (PR L)) (fun _=>True) (PR L) w:=by
 intro l J Jx W hW hJ hJx hY h0
 have h1:b1<w.heap.size:=zAP w _ hc
 have h2:b2<w.heap.size:=zAP w _ hd
 have bT:Hid (Bs (fun k=>k=b1∨k=b2) w W):=fun k hk=>hW.block k (by rcases hk with e | e<;>omega)
 have HC:=zAA hc;have HD:=zAA hd
 have HJ:=zAA hJ
 have HY:=zAA hY
 have HL:Hid (L≤1000000∧L≤c∧c≤maxLen):=⟨hL,hLc,ZE⟩
 clear hc hd hJ hY h1 h2 hLc ZE
 obtain ⟨K,hK⟩:∃K:Nat→Prop,(fun k=>k=b1∨k=b2)=K:=⟨_,rfl⟩
 have bU:Hid (K b1∧K b2):=by rw [← hK];exact ⟨Or.inl rfl,Or.inr rfl⟩
 rw [hK] at bT HY
 clear hK
 refine zGC Tryz.func242 rfl trivial ?_ rfl
 simp only [Tryz.ntmps242,zCC,zAH,zBG,Nat.reduceAdd,Nat.reduceSub,zCL,zCM,zCV,zCO,zBK,zBX]
 gi_wp2
 gi_loopw [4] (fun iv wr=>∃(k:Nat) (pre:List (Pc L)),k≤PR L∧iv = .int .i64 ((k*120:Nat):Int)∧Hid (Ls pre=List.range k)∧Hid (J pre wr∧Bs K w wr)) (fun iv _=>L+120-(intOf iv).toNat)
 case atStart=>exact ⟨0,[],zAJ _,rfl,rfl,h0,bT.out⟩
 case round=>
  obtain ⟨k,pre,hk,rfl,HP,HI⟩:=hrel
  have c1:=(HI.out.2.cell bU.out.1 0).trans HC.out
  have c2:=(HI.out.2.cell bU.out.2 0).trans HD.out
  obtain ⟨i,hi⟩:∃i,k*120=i:=⟨_,rfl⟩
  have yq:=zAA hi
  rw [hi]
  clear hi
  have bQ:(i:Int)≤1000200:=by have:=yq.out;have:=HL.out;unfold PR at hk;omega
  by_cases h:i<L
  ·have Aq:(i:Int)<(L:Int):=by omega
   gi_wp2
   refine wpIn_wide.2 (Gh ?_)
   have HS:Hid (∀w':World,(w'.cell? ⟨b1,0,none⟩=some (.slice q L c)∧w'.cell? ⟨b2,0,none⟩=some (.int .i64 120)∧True)→(w'.cell? ⟨b1,0,none⟩=some (.slice q L c)∧w'.cell? ⟨b2,0,none⟩=some (.int .i64 120)∧True)):=fun _ h=>h
   refine AI (fun w':World=>w'.cell? ⟨b1,0,none⟩=some (.slice q L c)∧w'.cell? ⟨b2,0,none⟩=some (.int .i64 120)∧True) [] [0,1,2,3,4,5,6] (by kernel_rfl) (by kernel_rfl) (by kernel_rfl) ?_ ?_ ?_
   ·intro c a a' w hd h;cases h.1
   ·exact ⟨c1,c2,trivial⟩
   clear c1 c2
   simp only [Cj,zBC,zCP,zBE,zAY,zBM]
   repeat (first
        | (refine takeH_skip rfl ?_; simp only [Act.put, List.setIfInBounds_toArray, List.set_cons_succ, List.set_cons_zero])
        | (refine takeH_blind rfl rfl ?_; apply Exists.intro; refine ⟨fun w => ?_, ?_⟩; (go_simp; try with_reducible rfl); simp only [Act.put, List.setIfInBounds_toArray, List.set_cons_succ, List.set_cons_zero])
        | (refine takeH_reads rfl rfl ?_; apply Exists.intro; refine ⟨fun w' hS => ?_, ?_⟩; (obtain ⟨d0, d1, d2⟩ := HS.out w' hS; go_simp; try with_reducible rfl); simp only [Act.put, List.setIfInBounds_toArray, List.set_cons_succ, List.set_cons_zero]))
   refine takeH_blind rfl rfl ⟨_,fun w=>iX RU w q L c i (by omega) _ _ rfl rfl rfl,?_⟩
   obtain ⟨q2,c2',hs⟩:∃q2 c2',sliced q i L c 2 = .slice q2 (L-i) c2':=⟨_,_,rfl⟩
   rw [hs]
   clear hs
   simp only [Act.put,zAZ,zBT,zBL]
   repeat (first
        | (refine takeH_skip rfl ?_; simp only [Act.put, List.setIfInBounds_toArray, List.set_cons_succ, List.set_cons_zero])
        | (refine takeH_blind rfl rfl ?_; apply Exists.intro; refine ⟨fun w => ?_, ?_⟩; (go_simp; try with_reducible rfl); simp only [Act.put, List.setIfInBounds_toArray, List.set_cons_succ, List.set_cons_zero])
        | (refine takeH_reads rfl rfl ?_; apply Exists.intro; refine ⟨fun w' hS => ?_, ?_⟩; (obtain ⟨d0, d1, d2⟩ := HS.out w' hS; go_simp; try with_reducible rfl); simp only [Act.put, List.setIfInBounds_toArray, List.set_cons_succ, List.set_cons_zero]))
   obtain ⟨E,hE⟩:∃E,min 120 (L-i)=E:=⟨_,rfl⟩
   have hEm:(if ((L-i:Nat):Int)<120 then ((L-i:Nat):Int) else 120)=(E:Int):=by
    rw [← hE]
    split<;>omega
   have Gi:Hid (1≤E∧E≤120∧i+E≤L∧min 120 (L-i)=E):=by show _∧_;omega
   first | rw [hEm] | rw [show min (120:Int) ((L-i:Nat):Int)=(E:Int) by omega]
   refine Bv ⟨rfl,?_⟩
   clear hEm hE HS
   obtain ⟨wy,hwy⟩:∃wy,wr.drew=wy:=⟨_,rfl⟩
   have Ue:Hid (J pre wy∧Bs K w wy):=by
    rw [← hwy]
    exact ⟨HJ.out pre wr _ none HI.out.1 (Ld wr 1) (fun r e=>by cases e),HI.out.2⟩
   rw [hwy]
   clear hwy HI
   have c1:=(Ue.out.2.cell bU.out.1 0).trans HC.out
   have i9:(E:Int)≤120:=by have:=Gi.out;omega
   have HIE:Hid (i<i+E∧i+E≤c):=by have:=Gi.out;have:=HL.out;show _∧_;omega
   have hkc:k<PR L:=by have:=yq.out;unfold PR;omega
   obtain ⟨x,q5⟩:∃x:Pc L,CE x=k:=⟨⟨k,by rw [yq.out];exact h⟩,rfl⟩
   have HPn:Hid (Ls (pre++[x])=List.range (k+1)):=by
    show List.map CE (pre++[x])=_
    rw [zCD,zEU,show pre.map CE=List.range k from HP.out]
    simp [q5]
   have gD:pre.length<PR L:=by
    have:=congrArg List.length HP.out
    rw [Ls,zAT,zEI] at this
    omega
   have hpv:Lq q L (CE x) = .slice (q.map fun x=>x.add (i*2)) E E:=by
    rw [q5,Lq,yq.out,Gi.out.2.2.2]
   obtain ⟨fn,tmps,assign,body,jz,hR⟩:=HY.out pre x wy Ue.out.1 gD
   rw [hpv] at jz
   have li:=zAA hR
   clear hR hpv gD q5 HP
   gi_wp2_with (refine Pq rfl _ _ (Zp RU _ q L c i (i+E) HIE.out.1 HIE.out.2 _ _ _ _ rfl rfl rfl rfl rfl) ?_)
   refine li.out.mono ?_
   rintro e W3 (⟨rfl,Uv,Xf⟩ | ⟨rfl,P0⟩)
   ·have Uf:=zAA (And.intro Uv (D2 Ue.out.2 Xf))
    have c2:=(Uf.out.2.cell bU.out.2 0).trans HD.out
    clear Uv Xf c1
    gi_wp2
    go_roundw
    case rel=>exact ⟨k+1,pre++[x],by omega,by have:=yq.out;rw [show ((k+1)*120:Nat)=i+120 by omega];go_num,HPn.out,Uf.out⟩
    case measure=>simp [intOf];omega
   ·gi_wp2
    refine zCB (zDZ rfl _ _ _) rfl ?_
    exact ⟨⟨_,rfl⟩,.inr ⟨_,trivial,P0⟩⟩
  ·have Aq:¬(i:Int)<(L:Int):=by omega
   have HE:Hid (k=PR L):=by have:=yq.out;show _=_;unfold PR at hk ⊢;omega
   gi_wp2
   go_end0
   refine ⟨⟨_,rfl⟩,.inl ⟨pre,?_,HI.out.1⟩⟩
   rw [← HE.out]
   exact HP.out
end Go.Proofs.YtdcgbgecbeegmaaGreatDoor
end
section
namespace Go.Proofs.YtdcgbgecbeegmaaGreatDoor
open Go Go.RowKit
theorem iL (v:Value) (l:List (Int × Nat)) (w:World) (h:Rd w 2 v l.length (Al l)) (hn:l.length≤8796093022208) :
  Calls Tryz.prog 195 #[v] w fun e w'=>∃r,e = .returned r∧MI w w' 110 2 r l.length (Al l):=by
 have hq:∀(w:World) (a:Option Addr) (n c n' c':Nat),(binOp .eql 49 (.slice a n c) (.slice none n' c')).run Tryz.prog w = .ok (.bool a.isNone) w:=fun w a n c n' c'=>Lib.run_eql_slice_nil w _ _ a n c n' c' Tryz.underlying49
 obtain ⟨p,c,hv⟩:=h.shape
 subst hv
 cases p with
 | none=>
  obtain ⟨_,_,e,hl,_,_,EB,_⟩:=h
  simp only [zAN] at e
  obtain ⟨rfl,_,rfl⟩:=e
  obtain ⟨h0,rfl⟩:=EB rfl
  obtain rfl:l=[]:=zAI h0
  go_enter Tryz.func195,Tryz.ntmps195
  go_wp2
  go_ret
  exact ⟨_,rfl,zBI _ _ _ _,zAM _ _⟩
 | some ad=>
  have HB:Hid (Below w.heap.size w (w.alloc (.cells #[] 110))):=(zAM _ _).alloc (zAD _) _
  have HR:=zAA (h.below HB.out)
  clear h
  have HO:Hid ((w.alloc (.cells #[] 110)).ownsRow 0 110 2 (.slice (some ⟨w.heap.size,0,none⟩) 0 0) 0 []):=zCZ (base:=0) w #[] 0 (zAJ _) (by simp [maxLen]) (by simp)
  have HL:Hid ((0+l.length)*16≤140737488355328∧0+l.length≤maxLen):=by show _∧_;unfold maxLen;omega
  go_enter Tryz.func195,Tryz.ntmps195
  go_wp2_with (at_builtin;refine At RU _ _ _ _ _ _ _ HO.out HR.out (XU _) HL.out rfl _ _ rfl rfl rfl ?_)
  intro v' w1 Au AU DK
  have HM:Hid (MI w w1 110 2 v' l.length (Al l)):=by
   refine ⟨?_,HB.out.trans (AU.below HB.out.size (fun k hk e=>by simp [Value.ownBlock] at e;omega))⟩
   try simp only [zBK,zEF] at Au
   exact Af Au (fun k hk=>by
    rcases DK k hk with e | e
    ·simp [Value.ownBlock] at e;omega
    ·have:=HB.out.size;omega)
  clear Au AU DK
  go_wp2
  go_ret
  exact ⟨_,rfl,HM.out⟩
def RT (w:World) (vs:List Value) (ps:List (List (Int × Nat))):Prop:=vs.length=ps.length∧∀(i:Nat) (v:Value) (p:List (Int × Nat)),vs[i]? = some v→ps[i]? = some p→Rd w 2 v p.length (Al p)
end Go.Proofs.YtdcgbgecbeegmaaGreatDoor
end
section
namespace Go.Proofs.YtdcgbgecbeegmaaGreatDoor
open Go Go.RowKit Go.Shelf
attribute [local go_sem] Oper.semAt_some
def AS (l:List (Int × Nat)) (k:Nat):List (Int × Nat):=(l.drop (k*120)).take 120
theorem VR (l:List (Int × Nat)) (k:Nat):(AS l k).length=min 120 (l.length-k*120):=by simp [AS]
theorem WP:Cd Tryz.prog 201 49 1 24:=Cd.mk' (z:=.slice none 0 0) Tryz.underlying201 (by kernel_rfl) rfl (by decide)
theorem Qe {W W':World} {row:Option Nat} {sz:Nat} {v:Value} {n:Nat} {xs:List Value} (h:Rd W sz v n xs) (hg:W.grownBy W' row) (hr:∀r,row=some r→∃o:Obj,W.heap[r]? = some o∧o.isCells=false):Rd W' sz v n xs:=by
 refine h.N5 fun a u hu _=>?_
 have Aq:=zAP W a hu
 have BC:some a.block≠row:=fun e=>by
  obtain ⟨o,ho,hc⟩:=hr a.block e.symm
  unfold World.cell? at hu
  rw [ho] at hu
  cases o<;>first | (cases hc;done) | (cases hu;done)
 rw [← hu]
 exact World.cell?_of_block (hg.block a.block Aq BC)
theorem tm {w:World} {q:Option Addr} {L c:Nat} {l:List (Int × Nat)} (h:Rd w 2 (.slice q L c) L (Al l)) (hl:l.length=L) (k:Nat) (hk:k*120<L):Rd w 2 (Lq q L k) (AS l k).length (Al (AS l k)):=by
 obtain ⟨p,c',e,h1,h2,h3,h4,h5⟩:=h
 simp only [zAN] at e
 obtain ⟨rfl,_,rfl⟩:=e
 have hE:(AS l k).length=min 120 (L-k*120):=by rw [VR,hl]
 refine ⟨q.map (·.add (k*120*2)),min 120 (L-k*120),by rw [hE];rfl,Eg _,by omega,by omega,fun e=>?_,fun ad e j u hu=>?_⟩
 ·have:q=none:=by cases q with
   | none=>rfl
   | some a=>cases e
  have:=h4 this
  omega
 ·cases q with
  | none=>cases e
  | some a0=>
   simp only [zEV,zCW] at e
   subst e
   rw [Addr.add_add]
   refine h5 a0 rfl _ u ?_
   have hsp:l=l.take (k*120)++(AS l k++(l.drop (k*120)).drop 120):=by rw [AS,zBD,zBD]
   have Bg:(Al (l.take (k*120))).length=k*120*2:=by rw [Eg,zAR];omega
   have hj:j<(Al (AS l k)).length:=(zAE.1 hu).1
   rw [hsp,Kz,Kz,zBS (by omega),Bg,zFG,zCE hj]
   exact hu
theorem eF {w:World} {b:Nat} {u:Value} (h:Ao w b [u]):Rd w 1 (.slice (some ⟨b,0,none⟩) 1 1) 1 [u]:=by
 refine ⟨_,_,rfl,rfl,zAD _,by unfold maxLen;omega,(fun e=>by cases e),fun ad e j y hy=>?_⟩
 cases e
 have e:(⟨b,0,none⟩:Addr).add j=⟨b,j,none⟩:=by unfold Addr.add;split<;>simp_all
 rw [e,h.cell]
 exact hy
def cz (g B:Nat) (w:World) (ps:List (List (Int × Nat))) (W:World):Prop:=
 ∃v' vs,Ao W g [v']∧W.ownsRow B 49 1 v' vs.length vs∧RT W vs ps∧(∀u∈vs,∀k,u.ownBlock=some k→B≤k∧k<W.heap.size∧v'.ownBlock≠some k)∧Below g w W∧B≤W.heap.size
theorem qm {β:Type} {B' g B:Nat} {w:World} (hB:g≤B') (f:β→List (List (Int × Nat))):OwnFrom B' (fun s W=>cz g B w (f s) W):=by
 rintro s W W' row ⟨v',vs,h1,h2,h3,h4,h5,h6⟩ hg hr
 have hr':∀r,row=some r→∃o:Obj,W.heap[r]? = some o∧o.isCells=false:=fun r e=>(hr r e).2
 have Ed:=hg.size
 exact ⟨v',vs,LT g (fun _:Unit=>[v']) () W W' row h1 hg hr',GQ h2 hg hr',⟨h3.1,fun i v p hv hp=>Qe (h3.2 i v p hv hp) hg hr'⟩,(fun u hu k hk=>by have:=h4 u hu k hk;exact ⟨this.1,by omega,this.2.2⟩),h5.grown hg (by have:=h1.lt;omega) (fun j e=>zAW hB (hr j e).1),by omega⟩
theorem X0 {g B:Nat} {w W w3 w4:World} {v' v2 u:Value} {vs:List Value} {ps:List (List (Int × Nat))} {p:List (Int × Nat)} {K:Nat→Prop} (hgB:g<B) (hK:∀k,K k→g<k∧k<B)
  (h1:Ao W g [v']) (h2:W.ownsRow B 49 1 v' vs.length vs) (h3:RT W vs ps) (h4:∀u∈vs,∀k,u.ownBlock=some k→B≤k∧k<W.heap.size∧v'.ownBlock≠some k) (h5:Below g w W) (h6:B≤W.heap.size)
  (hB:Below W.heap.size W w3) (hu:Rd w3 2 u p.length (Al p)) (huf:∀k,u.ownBlock=some k→W.heap.size≤k∧k<w3.heap.size)
  (k1:w4.ownsRow 0 49 1 v2 (vs.length+1) (vs++[u])) (k2:Ac (fun k=>v'.ownBlock=some k) w3 w4) (k3:AG w3.heap.size v' v2) :
  KeepsOthers W (w4.setCell ⟨g,0,none⟩ v2)∧Bs K W (w4.setCell ⟨g,0,none⟩ v2)∧cz g B w (ps++[p]) (w4.setCell ⟨g,0,none⟩ v2):=by
 have y6:∀k,v'.ownBlock=some k→B≤k∧k<W.heap.size:=fun k hk=>h2.lt k hk
 have hs:=Ac.set (fun k=>k=g) w4 ⟨g,0,none⟩ v2 (fun _=>rfl)
 have hM:Ac (fun k=>k=g∨v'.ownBlock=some k) W (w4.setCell ⟨g,0,none⟩ v2):=
  ((Ac.Ah hB (fun k=>k=g∨v'.ownBlock=some k)).trans (k2.mono (fun _ _ e=>Or.inr e)) (fun _ _ e=>e)).trans hs (fun _ _ e=>Or.inl e)
 have qX:=hB.size
 have jt:=k2.size
 have yY:=hs.size
 have Ji:∀k,v2.ownBlock=some k→B≤k:=fun k hk=>by
  rcases k3 k hk with e | e
  ·exact (y6 k e).1
  ·omega
 refine ⟨KeepsOthers.J5 hM (fun k o e ho=>?_),fun k hk=>hM.block k (by have:=hK k hk;omega) (fun e=>?_),v2,vs++[u],?_,?_,⟨?_,fun i y r hy hr=>?_⟩,fun y hy k hk=>?_,?_,by omega⟩
 ·rcases e with rfl | e
  ·obtain ⟨t,ht⟩:=h1
   rw [ht] at ho;cases ho;rfl
  ·exact C9 h2 k o e ho
 ·have:=hK k hk
  rcases e with e | e
  ·omega
  ·have:=y6 k e;omega
 ·have b3:=h1.of_same (hB.block _ h1.lt)
  have b4:=k2.AM b3 (fun e=>by have:=y6 g e;omega)
  simpa using b4.set 0 v2
 ·rw [zAB]
  exact Af (hs.owns k1 (fun k hk e=>by have:=Ji k hk;omega)) Ji
 ·rw [zAB,zAB,h3.1];rfl
 ·by_cases hi:i<vs.length
  ·rw [zCE hi] at hy
   rw [zCE (by rw [← h3.1];exact hi)] at hr
   have hym:=zAG hy
   have r3:=(h3.2 i y r hy hr).below hB
   have r4:=r3.Ai k2 (fun k hk e=>(h4 y hym k hk).2.2 e)
   exact r4.Ai hs (fun k hk e=>by have:=(h4 y hym k hk).1;omega)
  ·rw [zBS (by omega)] at hy
   rw [zBS (by rw [← h3.1];omega),← h3.1] at hr
   have h0:i-vs.length=0:=by
    have:=(zAE.1 hy).1
    simp at this
    omega
   rw [h0] at hy hr
   simp at hy hr
   subst hy
   subst hr
   have r4:=hu.Ai k2 (fun k hk e=>by have:=huf k hk;have:=y6 k e;omega)
   exact r4.Ai hs (fun k hk e=>by have:=huf k hk;omega)
 ·rcases zBJ.1 hy with hy | hy
  ·have h:=h4 y hy k hk
   refine ⟨h.1,by omega,fun e=>?_⟩
   rcases k3 k e with e2 | e2
   ·exact h.2.2 e2
   ·omega
  ·have hyu:y=u:=by simpa using hy
   subst hyu
   have h:=huf k hk
   refine ⟨by omega,by omega,fun e=>?_⟩
   rcases k3 k e with e2 | e2
   ·have:=y6 k e2;omega
   ·omega
 ·exact h5.trans (hM.below (by have:=h1.lt;omega) (fun k hk e=>by
   rcases e with e | e
   ·omega
   ·have:=y6 k e;omega))
theorem WH (lv:Value) (l:List (Int × Nat)) (w:World) (hl:Rd w 2 lv l.length (Al l)) (hn:l.length≤1000000) :
  Calls Tryz.prog 142 #[lv] w fun e w'=>∃r vs,e = .returned r∧Rd w' 1 r vs.length vs∧RT w' vs ((List.range (PR l.length)).map (AS l))∧(∀k,r.ownBlock=some k→w.heap.size≤k∧k<w'.heap.size)∧(∀u∈vs,∀k,u.ownBlock=some k→w.heap.size≤k∧k<w'.heap.size)∧Below w.heap.size w w':=by
 obtain ⟨q,c,hv⟩:=hl.shape
 subst hv
 obtain ⟨L,hL⟩:∃L,l.length=L:=⟨_,rfl⟩
 have rl:=zAA hL
 rw [hL] at hl hn
 have HL:=zAA hl;have HN:=zAA hn
 obtain ⟨_,_,e,_,hLc,ZE,_,_⟩:=hl
 simp only [zAN] at e
 obtain ⟨rfl,_,rfl⟩:=e
 rw [hL]
 have HLc:Hid (L≤c∧c≤maxLen):=⟨hLc,ZE⟩
 clear hn hL hLc ZE
 refine (zCQ (n:=9)).1 ?_
 refine callsIn_of_wp_marks Tryz.func142 rfl trivial ?_ rfl
 simp only [Tryz.ntmps142,zCC,zAH,zBG,Nat.reduceAdd,Nat.reduceSub,zCL,zCM,zCV,zCO,zBK,zBX]
 gi_wp2_with (refine ⟨trivial,?_⟩;gi_at_call 194;refine (jR q _ c _ _).mono ?_;rintro e w' ⟨rfl,rfl⟩)
 obtain ⟨W0,Gr⟩:∃W0,((w.alloc (.cells #[.slice none 0 0] 201)).alloc (.cells #[.slice q L c] 49)).alloc (.cells #[.int .i64 120] 3)=W0:=⟨_,rfl⟩
 have NK:Below w.heap.size w (w.alloc (.cells #[.slice none 0 0] 201)):=(zAM _ w).alloc (zAD _) _
 have EP:Below w.heap.size w ((w.alloc (.cells #[.slice none 0 0] 201)).alloc (.cells #[.slice q L c] 49)):=NK.alloc (by simp) _
 have MV:Below w.heap.size w W0:=by rw [← Gr];exact EP.alloc (by simp;omega) _
 have T4:W0.heap.size=w.heap.size+3:=by rw [← Gr];simp
 have uy:Ao W0 w.heap.size [.slice none 0 0]:=by rw [← Gr];exact ((Ao.new w _ _).alloc _).alloc _
 have ZP:W0.cell? ⟨w.heap.size+1,0,none⟩=some (.slice q L c):=by
  have h:=((Ao.new (w.alloc (.cells #[.slice none 0 0] 201)) #[.slice q L c] 49).alloc (.cells #[.int .i64 120] 3)).cell 0
  rw [Gr] at h
  simpa using h
 have hx2:W0.cell? ⟨w.heap.size+1+1,0,none⟩=some (.int .i64 120):=by
  have h:=(Ao.new ((w.alloc (.cells #[.slice none 0 0] 201)).alloc (.cells #[.slice q L c] 49)) #[.int .i64 120] 3).cell 0
  rw [Gr] at h
  simpa using h
 rw [Gr]
 clear Gr NK EP
 have No:=zAA (Y2 8 (by omega) (w.heap.size+1) (w.heap.size+1+1) q L c W0 ZP hx2 HN.out HLc.out.1 HLc.out.2)
 have Vd:Hid (cz w.heap.size W0.heap.size w [] W0):=⟨_,[],uy,zBI _ _ _ _,⟨rfl,fun i v p h=>by cases h⟩,(fun u hu=>by cases hu),MV,zAD _⟩
 have R9:=zAA T4
 have HL0:=zAA (HL.out.below MV)
 clear uy MV T4 ZP hx2
 obtain ⟨K,hK⟩:∃K:Nat→Prop,(fun k=>k=w.heap.size+1∨k=w.heap.size+1+1)=K:=⟨_,rfl⟩
 have Ug:Hid (∀k,K k→w.heap.size<k∧k<W0.heap.size):=by rw [← hK];exact fun k hk=>by have:=R9.out;omega
 rw [hK] at No
 clear hK
 refine wpIn_rangeFunc_ownG rfl (by omega) (gf:=242) (lb:=#[.pointer (some ⟨w.heap.size+1,0,none⟩),.pointer (some ⟨w.heap.size+1+1,0,none⟩)]) rfl trivial (enters_of Tryz.func242 (by kernel_rfl) rfl)
  No.out (fun h k=>D2 h k) (fun W l o o' h1 h2 h3 h4=>Lj (fun k hk=>(Ug.out k hk).2) W l o o' h1 h2 h3 h4) (zAM _ _) (fun _=>rfl)
  (fun pre W=>cz w.heap.size W0.heap.size w ((Ls pre).map (AS l)) W)
  (fun _ _ _=>False)
  (qm (by have:=R9.out;omega) (fun pre:List (Pc L)=>(Ls pre).map (AS l)))
  (fun _ _ _ _ _ hs _ _=>hs)
  Vd.out
  (fun x=>{ tmps:=#[.slice q L c,undef,.slice none 0 0,.pointer (some ⟨w.heap.size,0,none⟩),Lq q L (CE x),.slice q L c,.func (.func 242) #[] #[.pointer (some ⟨w.heap.size+1,0,none⟩),.pointer (some ⟨w.heap.size+1+1,0,none⟩)],Lq q L (CE x),undef,undef,undef,undef,undef,undef],defers:=[] })
  ?assign ?body ?done ?stop
 case assign=>
  intro l x W K hK
  simp only [zEN,zEC,zED,zEA,zDP,zFA,zAZ,zBL,zBT]
  gi_wp2
  exact hK
 case body=>
  rintro r pre x W ⟨v',vs,h1,h2,h3,h4,h5,h6⟩ Bg
  have yA:Hid ((Ls (pre++[x])).map (AS l)=(Ls pre).map (AS l)++[AS l (CE x)]):=by
   show _=_
   simp [Ls]
  have y4:vs.length≤10000:=by
   have e:=h3.1
   rw [zAT,Ls,zAT] at e
   have:=HN.out
   unfold PR at Bg
   omega
  have HPt:Hid (Rd W 2 (Lq q L (CE x)) (AS l (CE x)).length (Al (AS l (CE x)))):=(tm HL.out rl.out (CE x) x.2).below h5
  obtain ⟨P,E,hpe⟩:∃P E,Lq q L (CE x) = .slice P E E:=⟨_,_,rfl⟩
  rw [hpe] at HPt
  rw [hpe]
  have TV:=zAA (iL (.slice P E E) (AS l (CE x)) W.drew HPt.out (by have:=VR l (CE x);omega))
  generalize (Ls pre).map (AS l)=ps at *
  obtain ⟨p1,c1,DA⟩:=(Rd.Ad h2).shape
  subst DA
  have Nn:Hid ((vs.length+1)*24≤140737488355328∧vs.length+1≤maxLen):=by show _∧_;unfold maxLen;omega
  have yE:Hid (w.heap.size<W0.heap.size):=by have:=R9.out;show _<_;omega
  have c0:W.drew.cell? ⟨w.heap.size,0,none⟩=some (.slice p1 vs.length c1):=by
   have:=h1.drew.cell 0
   simpa using this
  have H1:=zAA h1;have H2:=zAA h2;have H3:=zAA h3;have H4:=zAA h4;have H5:=zAA h5;have H6:=zAA h6
  clear h1 h2 h3 h4 h5 h6 Bg hpe y4
  refine wpIn_block ?_
  refine Qq (.take 1 (.two 0 2 (.one 2 (.one 3 (.one 4 (.one 5 .done)))) (.two 0 3 (.one 3 (.one 4 (.one 5 .done))) (.one 0 (.one 4 (.one 5 .done)))))) (by kernel_rfl) (by kernel_rfl) (by kernel_rfl) Fb (by simp) (fun _ _ _ _ _ h=>h) ?_
  refine j0 rfl rfl _ (fun _=>rfl) ?_
  simp only [Act.put,zAZ,zBT,zBL]
  refine az ?_ ?_
  ·refine Dh rfl rfl (fun K' hK=>?_)
   go_wp2_with fail
   try (refine hK _ _ ?_;clear hK K')
   refine Dh rfl rfl (fun K' hK=>?_)
   go_wp2_with fail
   refine TV.out.mono ?_
   rintro e w2 ⟨u,rfl,hM⟩
   have EP:Below W.heap.size W w2:=⟨hM.2.os,hM.2.tape,hM.2.output,hM.2.size,hM.2.block⟩
   have AP:=zAA EP
   have Py:=zAA (Rd.Ad hM.1)
   have Ww:Hid (∀k,u.ownBlock=some k→W.heap.size≤k∧k<w2.heap.size):=fun k hk=>hM.1.lt k hk
   have F3:Hid (w2.cell? ⟨w.heap.size,0,none⟩=some (.slice p1 vs.length c1)):=by show _=_;rw [(H1.out.of_same (EP.block _ H1.out.lt)).cell];rfl
   have c0:=F3.out
   obtain ⟨pu,cu,hue⟩:=(Rd.Ad hM.1).shape
   subst hue
   clear hM EP
   refine hK _ _ ?_
   clear hK K'
   refine Dh rfl rfl (fun K' hK=>?_)
   go_wp2_with fail
   try (refine hK _ _ ?_;clear hK K')
   have FG:Below W.heap.size W (w2.alloc (.cells #[.slice pu (AS l (CE x)).length cu] 49)):=AP.out.alloc AP.out.size _
   have Uw:Ao (w2.alloc (.cells #[.slice pu (AS l (CE x)).length cu] 49)) w2.heap.size [.slice pu (AS l (CE x)).length cu]:=Ao.new w2 _ _
   have BS:=zAA FG
   have Ew:Hid (Rd (w2.alloc (.cells #[.slice pu (AS l (CE x)).length cu] 49)) 1 (.slice (some ⟨w2.heap.size,0,none⟩) 1 1) 1 [.slice pu (AS l (CE x)).length cu]):=eF Uw
   have Vg:=zAA (Py.out.below ((zAM _ w2).alloc (zAD _) (.cells #[.slice pu (AS l (CE x)).length cu] 49)))
   have l7:Hid (∀k,(Value.slice pu (AS l (CE x)).length cu).ownBlock=some k→W.heap.size≤k∧k<(w2.alloc (.cells #[.slice pu (AS l (CE x)).length cu] 49)).heap.size):=fun k hk=>by have:=Ww.out k hk;simp;omega
   clear c0
   have c0:(w2.alloc (.cells #[.slice pu (AS l (CE x)).length cu] 49)).cell? ⟨w.heap.size,0,none⟩=some (.slice p1 vs.length c1):=by rw [(H1.out.of_same (FG.block _ H1.out.lt)).cell];rfl
   clear FG Uw AP Py Ww F3
   generalize w2.heap.size=z at *
   generalize w2.alloc (.cells #[.slice pu (AS l (CE x)).length cu] 49)=w3 at *
   clear c0
   have Yi:Hid (w3.ownsRow 0 49 1 (.slice p1 vs.length c1) vs.length vs):=Af ((Ac.Ah BS.out (fun _=>False)).owns H2.out (fun _ _ e=>e)) (fun _ _=>zAJ _)
   refine Lr WP rfl rfl (.tmp 8) (.tmp 11) rfl rfl rfl Yi.out Ew.out (by simp [Value.oneCell']) Nn.out (fun v2 w4 k1 k2 k3=>?_)
   obtain ⟨p2,c2,Ji⟩:=(Rd.Ad k1).shape
   subst Ji
   simp only [Act.put,zAZ,zBT,zBL]
   have HF:=zAA (X0 (w:=w) (K:=K) yE.out Ug.out H1.out H2.out H3.out H4.out H5.out H6.out BS.out Vg.out l7.out k1 k2 k3)
   have b4:=k2.AM (H1.out.of_same (BS.out.block _ H1.out.lt)) (fun e=>by have:=H2.out.lt _ e;have:=yE.out;omega)
   have c4:=b4.cell 0
   simp only [zAY] at c4
   have f4:=b4.free 0
   clear b4 k1 k2 k3
   refine Dh rfl rfl (fun K' hK=>?_)
   go_wp2_with fail
   try (refine hK _ _ ?_;clear hK K')
   refine Qd ?_
   refine ⟨HF.out.1.from _,HF.out.2.1,?_⟩
   show cz _ _ _ _ _
   rw [yA.out]
   exact HF.out.2.2
  ·refine Dh rfl rfl (fun K' hK=>?_)
   go_wp2_with fail
   refine TV.out.mono ?_
   rintro e w2 ⟨u,rfl,hM⟩
   have EP:Below W.heap.size W w2:=⟨hM.2.os,hM.2.tape,hM.2.output,hM.2.size,hM.2.block⟩
   have AP:=zAA EP
   have Py:=zAA (Rd.Ad hM.1)
   have Ww:Hid (∀k,u.ownBlock=some k→W.heap.size≤k∧k<w2.heap.size):=fun k hk=>hM.1.lt k hk
   have F3:Hid (w2.cell? ⟨w.heap.size,0,none⟩=some (.slice p1 vs.length c1)):=by show _=_;rw [(H1.out.of_same (EP.block _ H1.out.lt)).cell];rfl
   have c0:=F3.out
   obtain ⟨pu,cu,hue⟩:=(Rd.Ad hM.1).shape
   subst hue
   clear hM EP
   refine hK _ _ ?_
   clear hK K'
   refine az ?_ ?_
   ·refine Dh rfl rfl (fun K' hK=>?_)
    go_wp2_with fail
    try (refine hK _ _ ?_;clear hK K')
    refine Dh rfl rfl (fun K' hK=>?_)
    go_wp2_with fail
    try (refine hK _ _ ?_;clear hK K')
    have FG:Below W.heap.size W (w2.alloc (.cells #[.slice pu (AS l (CE x)).length cu] 49)):=AP.out.alloc AP.out.size _
    have Uw:Ao (w2.alloc (.cells #[.slice pu (AS l (CE x)).length cu] 49)) w2.heap.size [.slice pu (AS l (CE x)).length cu]:=Ao.new w2 _ _
    have BS:=zAA FG
    have Ew:Hid (Rd (w2.alloc (.cells #[.slice pu (AS l (CE x)).length cu] 49)) 1 (.slice (some ⟨w2.heap.size,0,none⟩) 1 1) 1 [.slice pu (AS l (CE x)).length cu]):=eF Uw
    have Vg:=zAA (Py.out.below ((zAM _ w2).alloc (zAD _) (.cells #[.slice pu (AS l (CE x)).length cu] 49)))
    have l7:Hid (∀k,(Value.slice pu (AS l (CE x)).length cu).ownBlock=some k→W.heap.size≤k∧k<(w2.alloc (.cells #[.slice pu (AS l (CE x)).length cu] 49)).heap.size):=fun k hk=>by have:=Ww.out k hk;simp;omega
    clear c0
    have c0:(w2.alloc (.cells #[.slice pu (AS l (CE x)).length cu] 49)).cell? ⟨w.heap.size,0,none⟩=some (.slice p1 vs.length c1):=by rw [(H1.out.of_same (FG.block _ H1.out.lt)).cell];rfl
    clear FG Uw AP Py Ww F3
    generalize w2.heap.size=z at *
    generalize w2.alloc (.cells #[.slice pu (AS l (CE x)).length cu] 49)=w3 at *
    clear c0
    have Yi:Hid (w3.ownsRow 0 49 1 (.slice p1 vs.length c1) vs.length vs):=Af ((Ac.Ah BS.out (fun _=>False)).owns H2.out (fun _ _ e=>e)) (fun _ _=>zAJ _)
    refine Lr WP rfl rfl (.tmp 8) (.tmp 11) rfl rfl rfl Yi.out Ew.out (by simp [Value.oneCell']) Nn.out (fun v2 w4 k1 k2 k3=>?_)
    obtain ⟨p2,c2,Ji⟩:=(Rd.Ad k1).shape
    subst Ji
    simp only [Act.put,zAZ,zBT,zBL]
    have HF:=zAA (X0 (w:=w) (K:=K) yE.out Ug.out H1.out H2.out H3.out H4.out H5.out H6.out BS.out Vg.out l7.out k1 k2 k3)
    have b4:=k2.AM (H1.out.of_same (BS.out.block _ H1.out.lt)) (fun e=>by have:=H2.out.lt _ e;have:=yE.out;omega)
    have c4:=b4.cell 0
    simp only [zAY] at c4
    have f4:=b4.free 0
    clear b4 k1 k2 k3
    refine Dh rfl rfl (fun K' hK=>?_)
    go_wp2_with fail
    try (refine hK _ _ ?_;clear hK K')
    refine Qd ?_
    refine ⟨HF.out.1.from _,HF.out.2.1,?_⟩
    show cz _ _ _ _ _
    rw [yA.out]
    exact HF.out.2.2
   ·refine Dh rfl rfl (fun K' hK=>?_)
    go_wp2_with fail
    try (refine hK _ _ ?_;clear hK K')
    have FG:Below W.heap.size W (w2.alloc (.cells #[.slice pu (AS l (CE x)).length cu] 49)):=AP.out.alloc AP.out.size _
    have Uw:Ao (w2.alloc (.cells #[.slice pu (AS l (CE x)).length cu] 49)) w2.heap.size [.slice pu (AS l (CE x)).length cu]:=Ao.new w2 _ _
    have BS:=zAA FG
    have Ew:Hid (Rd (w2.alloc (.cells #[.slice pu (AS l (CE x)).length cu] 49)) 1 (.slice (some ⟨w2.heap.size,0,none⟩) 1 1) 1 [.slice pu (AS l (CE x)).length cu]):=eF Uw
    have Vg:=zAA (Py.out.below ((zAM _ w2).alloc (zAD _) (.cells #[.slice pu (AS l (CE x)).length cu] 49)))
    have l7:Hid (∀k,(Value.slice pu (AS l (CE x)).length cu).ownBlock=some k→W.heap.size≤k∧k<(w2.alloc (.cells #[.slice pu (AS l (CE x)).length cu] 49)).heap.size):=fun k hk=>by have:=Ww.out k hk;simp;omega
    clear c0
    have c0:(w2.alloc (.cells #[.slice pu (AS l (CE x)).length cu] 49)).cell? ⟨w.heap.size,0,none⟩=some (.slice p1 vs.length c1):=by rw [(H1.out.of_same (FG.block _ H1.out.lt)).cell];rfl
    clear FG Uw AP Py Ww F3
    generalize w2.heap.size=z at *
    generalize w2.alloc (.cells #[.slice pu (AS l (CE x)).length cu] 49)=w3 at *
    refine Dh rfl rfl (fun K' hK=>?_)
    go_wp2_with fail
    try (refine hK _ _ ?_;clear hK K')
    clear c0
    have Yi:Hid (w3.ownsRow 0 49 1 (.slice p1 vs.length c1) vs.length vs):=Af ((Ac.Ah BS.out (fun _=>False)).owns H2.out (fun _ _ e=>e)) (fun _ _=>zAJ _)
    refine Lr WP rfl rfl (.tmp 8) (.tmp 11) rfl rfl rfl Yi.out Ew.out (by simp [Value.oneCell']) Nn.out (fun v2 w4 k1 k2 k3=>?_)
    obtain ⟨p2,c2,Ji⟩:=(Rd.Ad k1).shape
    subst Ji
    simp only [Act.put,zAZ,zBT,zBL]
    have HF:=zAA (X0 (w:=w) (K:=K) yE.out Ug.out H1.out H2.out H3.out H4.out H5.out H6.out BS.out Vg.out l7.out k1 k2 k3)
    have b4:=k2.AM (H1.out.of_same (BS.out.block _ H1.out.lt)) (fun e=>by have:=H2.out.lt _ e;have:=yE.out;omega)
    have c4:=b4.cell 0
    simp only [zAY] at c4
    have f4:=b4.free 0
    clear b4 k1 k2 k3
    refine Dh rfl rfl (fun K' hK=>?_)
    go_wp2_with fail
    try (refine hK _ _ ?_;clear hK K')
    refine Qd ?_
    refine ⟨HF.out.1.from _,HF.out.2.1,?_⟩
    show cz _ _ _ _ _
    rw [yA.out]
    exact HF.out.2.2
 case done=>
  rintro D zs W hD Me ⟨v',vs,h1,h2,h3,h4,h6,h5⟩ hK
  have c0:W.cell? ⟨w.heap.size,0,none⟩=some v':=by rw [h1.cell];rfl
  obtain ⟨p1,c1,DA⟩:=(Rd.Ad h2).shape
  subst DA
  have HZs:=zAA Me
  have H2:=zAA h2;have H3:=zAA h3;have H6:=zAA h6;have H4:=zAA h4
  clear h1 h2 h3 h4 h5 h6 Me No
  gi_wp2
  refine ⟨by simp,.inl ⟨_,_,rfl,run_takeDeferred hK,?_⟩⟩
  refine ⟨_,results_tmp rfl _ _ _,_,vs,rfl,?_,?_,?_,?_,H6.out.trans (belowK_b (w:=w) (zAD _) W D _ _ (by have:=R9.out;omega) hK rfl rfl)⟩
  ·exact Rd.Ad (ownsRow_putObj H2.out (.deferred none) hK rfl)
  rotate_left
  ·exact fun k hk=>by have:=H2.out.lt k hk;have:=R9.out;simp;omega
  ·exact fun u hu k hk=>by have:=H4.out u hu k hk;have:=R9.out;simp;omega
  rw [← HZs.out]
  ·refine ⟨H3.out.1,fun i v p hv hp=>Qe (row:=some D) (H3.out.2 i v p hv hp) (grownBy_putObj' _ _ _) (fun r e=>by cases e;exact ⟨_,hK,rfl⟩)⟩
 case stop=>
  rintro D c pre W _ _ h _
  exact h.elim
end Go.Proofs.YtdcgbgecbeegmaaGreatDoor
end
