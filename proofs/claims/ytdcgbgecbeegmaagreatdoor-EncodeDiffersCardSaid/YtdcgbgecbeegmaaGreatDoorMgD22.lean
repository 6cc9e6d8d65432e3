/- Texts 22. -/
import Derived.Test.YtdcgbgecbeegmaaGreatDoorMgD21
import Derived.Test.YtdcgbgecbeegmaaGreatDoorMgD6
import Derived.Test.YtdcgbgecbeegmaaGreatDoorMgD5
import Derived.Test.YtdcgbgecbeegmaaGreatDoorChecked
import Derived.WideKeyEntry
import Derived.DeepKeys5
import Derived.Maps.RangeWalk
import Derived.Test.YtdcgbgecbeegmaaGreatDoorMgD1
import Derived.Test.YtdcgbgecbeegmaaGreatDoorMgD2
import Derived.Test.YtdcgbgecbeegmaaGreatDoorMgD3
set_option linter.unusedVariables false
set_option linter.unusedSimpArgs false
section
set_option maxRecDepth 20000
namespace Go.Proofs.YtdcgbgecbeegmaaGreatDoor
open Go Go.RowKit
def LabsPut (w:World) (t:List ByteArray) (E0:List Nat) (labs:List Lab) (en:Ending) (w':World):Prop:=
 (∃r,en = .returned (.tuple #[r,.int .i64 0])∧(∀x∈labs,labIn t x)∧OwnB w w' (E0++groups labs.length++symsBytes t (stringsL labs)) r)∨
 (en = .returned (.tuple #[.slice none 0 0,.int .i64 14])∧(¬∀x∈labs,labIn t x)∧Below w.heap.size w w')
set_option maxHeartbeats 16000000 in
theorem app_labels (w wi:World) (E0:List Nat) (v tv lv:Value) (t:List ByteArray) (labs:List Lab) (h:OwnB w wi E0 v) (ht:Rd w 1 tv t.length (strs t)) (htn:t.length≤1000000) (hta:AscB ltS t) (hl:Rd w 2 lv labs.length (labCells labs)) (hln:labs.length≤1000000)
  (hE:E0.length+(groups labs.length).length+(symsBytes t (stringsL labs)).length≤1000000000) :
  Calls Tryz.prog 103 #[v,tv,lv] wi fun en w'=>Mods (fun k=>v.ownBlock=some k) wi w'∧LabsPut w t E0 labs en w':=by
 have HO:=Lib.hid h;have HT:=Lib.hid ht;have HTn:=Lib.hid htn;have HTa:=Lib.hid hta;have HL:=Lib.hid hl;have HLn:=Lib.hid hln;have HEn:=Lib.hid hE
 obtain ⟨pv,cv,hv⟩:=h.shape
 subst hv
 obtain ⟨pt,ct,hv⟩:=ht.shape
 subst hv
 obtain ⟨pl,cl,hv⟩:=hl.shape
 subst hv
 have hlm:(labs.length:Int)≤1000000:=by omega
 have hw:IntKind.u64.wrap (labs.length:Int)=(labs.length:Int):=by rw [IntKind.wrap_u64];omega
 clear h ht htn hta hl hln hE
 go_enter Tryz.func103,Tryz.ntmps103
 go_wp2_with fail
 refine (var_append13 w wi E0 _ labs.length HO.out (by omega) (by have:=HEn.out;omega)).mono ?_
 rintro en w1 ⟨r1,rfl,hO,hA⟩
 obtain ⟨L1,hL1⟩:∃L1,E0++groups labs.length=L1:=⟨_,rfl⟩
 have HL1:=Lib.hid hL1
 rw [hL1] at hO
 have HO1:=Lib.hid hO;have HA1:=Lib.hid hA
 have hL1n:Hid (L1.length=E0.length+(groups labs.length).length):=by show _=_;rw [← hL1,List.length_append]
 obtain ⟨p1,c1,hv1⟩:=hO.shape
 subst hv1
 have HSr:=Lib.hid (labStrings_any (.slice pl labs.length cl) labs w1 (HL.out.below HO1.out.bel) HLn.out)
 clear hO hA HO hL1
 go_wp2_with fail
 refine HSr.out.mono ?_
 rintro en w2 ⟨sv,rfl,hS⟩
 obtain ⟨S,hSe⟩:∃S,stringsL labs=S:=⟨_,rfl⟩
 have HSe:=Lib.hid hSe
 rw [hSe] at hS HEn
 have HO2:=Lib.hid (HO1.out.below hS.bel)
 have HA2:=Lib.hid (HA1.out.below hS.bel)
 obtain ⟨ps,cs,hsv⟩:=hS.shape
 subst hsv
 have HBs:Hid (Beside w2 1 (.slice ps S.length cs) S.length (strs S) (.slice p1 L1.length c1)):=⟨hS.rd,fun _ k hk he=>by have h1:=(hS.row.lt k hk).1;have h2:=(HO1.out.row.lt k he).2;omega⟩
 have HSn:Hid (S.length=2*labs.length):=by show _=_;rw [← hSe];exact stringsL_len labs
 have hSi:(S.length:Int)≤2000000:=by have:=HSn.out;omega
 have HRm:Hid (L1.length+(symsBytes t S).length≤1000000000):=by show _≤_;have:=HEn.out;have:=hL1n.out;omega
 have HO20:Hid (OwnB w w2 (L1++symsBytes t (S.take 0)) (.slice p1 L1.length c1)):=by
  show OwnB _ _ _ _
  rw [List.take_zero,symsBytes,List.flatMap_nil,List.append_nil]
  exact HO2.out
 clear hS hSe HSr HO1 HA1 HO2 hL1n
 go_wp2_with fail
 go_loopw [0,20] (fun vv kv wr2=>∃(k:Nat),k≤S.length∧kv = .int .i64 (k:Int)∧Hid (OwnB w wr2 (L1++symsBytes t (S.take k)) vv)∧Hid (Beside wr2 1 (.slice ps S.length cs) S.length (strs S) vv)∧Hid (∀s∈S.take k,s∈t)∧Hid (ApAt wi (.slice pv E0.length cv) wr2 vv)) (fun _ kv _=>S.length-(intOf kv).toNat)
 case atStart=>exact ⟨0,Nat.zero_le _,rfl,HO20.out,HBs.out,(by intro s hs;simp at hs),HA2.out⟩
 case round=>
  obtain ⟨k,hk,rfl,HO4,HB4,HIn,HA4⟩:=hrel
  clear HO20 HBs HA2
  have hkm:(k:Int)≤2000000:=by omega
  obtain ⟨p4,c4,hv4⟩:=HO4.out.shape
  subst hv4
  by_cases hkl:k<S.length
  ·have hkl':(k:Int)<(S.length:Int):=by omega
   obtain ⟨s,hs⟩:∃s,S[k]? = some s:=⟨_,List.getElem?_eq_getElem hkl⟩
   obtain ⟨gs,os,cs',e,_,_,hcell⟩:=HB4.out.rd.at (fun e=>by have:=congrArg List.length e;rw [strs_length] at this;rw [this] at hkl;simp at hkl)
   simp only [Value.slice.injEq] at e
   obtain ⟨rfl,_,rfl⟩:=e
   have HTk:Hid (S.take (k+1)=S.take k++[s]):=by show _=_;rw [List.take_add_one,hs];rfl
   have HSs:=Lib.hid (symsBytes_step (t:=t) hs)
   have HMs:Hid (s∈S):=List.mem_of_getElem? hs
   have HIx:=Lib.hid (fun W h=>index_met (.slice pt t.length ct) t s W h HTn.out HTa.out)
   have HTw:Hid (Rd wr 1 (.slice pt t.length ct) t.length (strs t)):=HT.out.below HO4.out.bel
   have HLm:Hid ((L1++symsBytes t (S.take k)).length≤1000000000):=by
    show _≤_
    have h1:=symsBytes_take_le t S k
    have h2:=HRm.out
    simp only [List.length_append]
    omega
   have s0:wr.cell? ⟨gs,os+k,none⟩=some (.string s):=hcell k _ (by rw [strs,List.getElem?_map,hs];rfl)
   obtain ⟨L,hL⟩:∃L,L1++symsBytes t (S.take k)=L:=⟨_,rfl⟩
   have HLe:Hid (L1++symsBytes t (S.take (k+1))=L++groups (idxT t s)):=by show _=_;rw [HSs.out,← hL,List.append_assoc L1]
   rw [hL] at HO4 HLm HB4 HA4 ⊢
   clear hs hcell hkl hL HSs
   go_wp2_with fail
   refine (HIx.out wr HTw.out).mono ?_
   rintro en w5 ⟨rfl,hB5⟩
   have HO5:=Lib.hid (HO4.out.below hB5)
   have HA5:=Lib.hid (HA4.out.below hB5)
   have HB5:=Lib.hid (HB4.out.step (Mods.of_below hB5 _) (Fresh.refl _ _))
   clear HIx s0 HO4 HB4 HA4 hB5
   by_cases hin:s∈t
   ·obtain ⟨j,hj,hjt⟩:=findS_in hin
    have hjl:=(List.getElem?_eq_some_iff.1 hjt).1
    have hji:idxT t s=j:=by rw [idxT,hj];rfl
    rw [hj,show max (j:Int) 0=(j:Int) from Int.max_eq_left (by omega),show decide ((0:Int)≤(j:Int))=true from decide_eq_true (by omega)]
    rw [hji] at HLe
    have hwj:IntKind.u64.wrap (j:Int)=(j:Int):=by rw [IntKind.wrap_u64];have:=HTn.out;omega
    have HJn:Hid (j<18446744073709551616):=by show _<_;have:=HTn.out;omega
    have HIn2:Hid (∀x∈S.take (k+1),x∈t):=by
     intro x hx
     rw [HTk.out] at hx
     rcases List.mem_append.1 hx with e | e
     ·exact HIn.out x e
     ·simp at e;subst e;exact hin
    clear hj hjt hjl hji hin
    go_wp2_with fail
    refine (var_append13 w w5 L _ j HO5.out HJn.out HLm.out).mono ?_
    rintro en w6 ⟨r6,rfl,hO,hA⟩
    obtain ⟨L2,hL2⟩:∃L2,L1++symsBytes t (S.take (k+1))=L2:=⟨_,rfl⟩
    have HL2:=Lib.hid hL2
    have HO6:Hid (OwnB w w6 L2 r6):=by show OwnB _ _ _ _;rw [← hL2,HLe.out];exact hO
    have HB6:=Lib.hid (HB5.out.step hA.mods hA.fresh)
    have HA6:=Lib.hid (HA5.out.step hA.mods hA.fresh)
    obtain ⟨p6,c6,hv6⟩:=HO6.out.shape
    subst hv6
    clear hO hA HO5 HB5 HA5 HLe HIn hL2
    go_wp2_with fail
    go_round
    case rel=>exact ⟨k+1,by omega,by go_num,(by show OwnB _ _ _ _;rw [HL2.out];exact HO6.out),HB6.out,HIn2.out,HA6.out⟩
    case measure=>simp [intOf];omega
   ·rw [findS_out hin]
    rw [show max (-1:Int) 0=0 from rfl,show decide ((0:Int)≤-1)=false from rfl]
    have HBad:Hid (¬∀x∈labs,labIn t x):=fun h=>hin (stringsL_labIn.2 h s (by show s∈stringsL labs;rw [HSe.out];exact HMs.out))
    clear hin
    go_wp2_with fail
    go_ret2
    exact ⟨HA5.out.mods,Or.inr ⟨rfl,HBad.out,HO5.out.bel⟩⟩
  ·have hkl':¬(k:Int)<(S.length:Int):=by omega
   have hte:S.take k=S:=List.take_of_length_le (by omega)
   rw [hte] at HO4 HB4 HIn HA4 ⊢
   have HLab:Hid (∀x∈labs,labIn t x):=stringsL_labIn.1 (by rw [HSe.out];exact HIn.out)
   have HE:Hid (E0++groups labs.length++symsBytes t (stringsL labs)=L1++symsBytes t S):=by show _=_;rw [HL1.out,HSe.out]
   obtain ⟨L2,hL2⟩:∃L2,L1++symsBytes t S=L2:=⟨_,rfl⟩
   rw [hL2] at HO4 HA4 HE ⊢
   clear hte hkl hk hL2
   go_wp2_with fail
   go_ret2
   exact ⟨HA4.out.mods,Or.inl ⟨_,rfl,HLab.out,by rw [HE.out];exact HO4.out⟩⟩
def LensPut (w:World) (E0:List Nat) (chs:List Int) (en:Ending) (w':World):Prop:=
 (∃r,en = .returned (.tuple #[r,.int .i64 0])∧chs≠[]∧(∀n∈chs,lenOk n)∧OwnB w w' (E0++groups chs.length++numsBytes chs) r)∨
 (en = .returned (.tuple #[.slice none 0 0,.int .i64 23])∧(¬(chs≠[]∧∀n∈chs,lenOk n))∧Below w.heap.size w w')
set_option maxHeartbeats 16000000 in
theorem app_lengths (w wi:World) (E0:List Nat) (v cv:Value) (chs:List Int) (h:OwnB w wi E0 v) (hl:Rd w 1 cv chs.length (i64s chs)) (hln:chs.length≤1000000) (hlz:∀n∈chs,-9223372036854775808≤n∧n<9223372036854775808)
  (hE:E0.length+(groups chs.length).length+(numsBytes chs).length≤1000000000) :
  Calls Tryz.prog 104 #[v,cv] wi fun en w'=>LensPut w E0 chs en w':=by
 have HO:=Lib.hid h;have HL:=Lib.hid hl;have HLn:=Lib.hid hln;have HLz:=Lib.hid hlz;have HEn:=Lib.hid hE
 obtain ⟨pv,kv,hv⟩:=h.shape
 subst hv
 obtain ⟨pc,cc,hv⟩:=hl.shape
 subst hv
 have hcm:(chs.length:Int)≤1000000:=by omega
 have hw:IntKind.u64.wrap (chs.length:Int)=(chs.length:Int):=by rw [IntKind.wrap_u64];omega
 clear h hl hln hlz hE
 by_cases hc0:chs.length=0
 ·have hci:(chs.length:Int)=0:=by omega
  have HBad:Hid (¬(chs≠[]∧∀n∈chs,lenOk n)):=fun h=>h.1 (List.eq_nil_of_length_eq_zero hc0)
  clear hc0
  go_enter Tryz.func104,Tryz.ntmps104
  go_wp2_with fail
  go_ret2
  exact Or.inr ⟨rfl,HBad.out,HO.out.bel⟩
 ·have hci:¬(chs.length:Int)=0:=by omega
  have hcb:((chs.length:Int) == 0)=false:=by rw [beq_eq_false_iff_ne];exact hci
  have HNe:Hid (chs≠[]):=fun e=>hc0 (by rw [e];rfl)
  clear hc0
  go_enter Tryz.func104,Tryz.ntmps104
  go_wp2_with fail
  refine (var_append13 w wi E0 _ chs.length HO.out (by omega) (by have:=HEn.out;omega)).mono ?_
  rintro en w1 ⟨r1,rfl,hO,_⟩
  obtain ⟨L1,hL1⟩:∃L1,E0++groups chs.length=L1:=⟨_,rfl⟩
  have HL1:=Lib.hid hL1
  rw [hL1] at hO
  have HBm:Hid (L1.length+(numsBytes chs).length≤1000000000):=by show _≤_;have:=HEn.out;rw [← hL1,List.length_append];omega
  have HO1:Hid (OwnB w w1 (L1++numsBytes (chs.take 0)) r1):=by show OwnB _ _ _ _;rw [List.take_zero,numsBytes,List.flatMap_nil,List.append_nil];exact hO
  obtain ⟨p1,c1,hv1⟩:=hO.shape
  subst hv1
  clear hO HO hL1
  go_wp2_with fail
  go_loopw [0,18] (fun vv kv wr2=>∃(k:Nat),k≤chs.length∧kv = .int .i64 (k:Int)∧Hid (OwnB w wr2 (L1++numsBytes (chs.take k)) vv)∧Hid (∀n∈chs.take k,lenOk n)) (fun _ kv _=>chs.length-(intOf kv).toNat)
  case atStart=>exact ⟨0,Nat.zero_le _,rfl,HO1.out,(by intro s hs;simp at hs)⟩
  case round=>
   obtain ⟨k,hk,rfl,HO7,HOk⟩:=hrel
   clear HO1
   have hkm:(k:Int)≤1000000:=by omega
   obtain ⟨p7,c7,hv7⟩:=HO7.out.shape
   subst hv7
   by_cases hkl:k<chs.length
   ·have hkl':(k:Int)<(chs.length:Int):=by omega
    obtain ⟨n,hn⟩:∃n,chs[k]? = some n:=⟨_,List.getElem?_eq_getElem hkl⟩
    have dc:=HL.out.below HO7.out.bel
    obtain ⟨gc,oc,cc',e,_,_,hcell⟩:=dc.at (fun e=>by have:=congrArg List.length e;rw [i64s_length] at this;rw [this] at hkl;simp at hkl)
    simp only [Value.slice.injEq] at e
    obtain ⟨rfl,_,rfl⟩:=e
    have n0:wr.cell? ⟨gc,oc+k,none⟩=some (.int .i64 n):=hcell k _ (by rw [i64s,List.getElem?_map,hn];rfl)
    have HNs:=Lib.hid (numsBytes_step hn)
    have HTk:Hid (chs.take (k+1)=chs.take k++[n]):=by show _=_;rw [List.take_add_one,hn];rfl
    have HMn:Hid (n∈chs):=List.mem_of_getElem? hn
    have HLm:Hid ((L1++numsBytes (chs.take k)).length≤1000000000):=by
     show _≤_
     have h1:=numsBytes_take_le chs k
     have h2:=HBm.out
     simp only [List.length_append]
     omega
    have HIs:=Lib.hid (is_len_int n wr)
    obtain ⟨L,hL⟩:∃L,L1++numsBytes (chs.take k)=L:=⟨_,rfl⟩
    have HLe:Hid (L1++numsBytes (chs.take (k+1))=L++groups n.toNat):=by show _=_;rw [HNs.out,← hL,List.append_assoc L1]
    rw [hL] at HO7 HLm ⊢
    clear hn hcell dc HNs hkl hL
    by_cases hok:lenOk n
    ·rw [decide_eq_true hok] at HIs
     obtain ⟨m,hm⟩:∃m:Nat,n=(m:Int):=⟨n.toNat,by have:=hok.1;omega⟩
     subst hm
     have hmi:(m:Int)≤2147483647:=hok.2
     have hwm:IntKind.u64.wrap (m:Int)=(m:Int):=by rw [IntKind.wrap_u64];omega
     have HOk2:Hid (∀x∈chs.take (k+1),lenOk x):=by
      intro x hx
      rw [HTk.out] at hx
      rcases List.mem_append.1 hx with e | e
      ·exact HOk.out x e
      ·simp only [List.mem_singleton] at e;rw [e];exact hok
     clear hok
     go_wp2_with fail
     refine HIs.out.mono ?_
     rintro en w5 ⟨rfl,rfl⟩
     clear HIs
     go_wp2_with fail
     refine (var_append13 w w5 L _ m HO7.out (by omega) HLm.out).mono ?_
     rintro en w8 ⟨r8,rfl,hO,_⟩
     obtain ⟨L2,hL2⟩:∃L2,L1++numsBytes (chs.take (k+1))=L2:=⟨_,rfl⟩
     have HL2:=Lib.hid hL2
     have HO8:Hid (OwnB w w8 L2 r8):=by show OwnB _ _ _ _;rw [← hL2,HLe.out];exact hO
     obtain ⟨p8,c8,hv8⟩:=HO8.out.shape
     subst hv8
     clear hO HO7 HLe HOk n0 hL2 hwm
     go_wp2_with fail
     go_round
     case rel=>exact ⟨k+1,by omega,by go_num,(by show OwnB _ _ _ _;rw [HL2.out];exact HO8.out),HOk2.out⟩
     case measure=>simp [intOf];omega
    ·rw [decide_eq_false hok] at HIs
     have HBad:Hid (¬(chs≠[]∧∀n∈chs,lenOk n)):=fun h=>hok (h.2 n HMn.out)
     clear hok
     go_wp2_with fail
     refine HIs.out.mono ?_
     rintro en w5 ⟨rfl,rfl⟩
     clear HIs
     go_wp2_with fail
     go_ret2
     exact Or.inr ⟨rfl,HBad.out,HO7.out.bel⟩
   ·have hkl':¬(k:Int)<(chs.length:Int):=by omega
    have hte:chs.take k=chs:=List.take_of_length_le (by omega)
    rw [hte] at HO7 HOk ⊢
    have HE:Hid (E0++groups chs.length++numsBytes chs=L1++numsBytes chs):=by show _=_;rw [HL1.out]
    obtain ⟨L2,hL2⟩:∃L2,L1++numsBytes chs=L2:=⟨_,rfl⟩
    rw [hL2] at HO7 HE ⊢
    clear hte hL2
    go_wp2_with fail
    go_ret2
    exact Or.inl ⟨_,rfl,HNe.out,HOk.out,by rw [HE.out];exact HO7.out⟩
set_option maxHeartbeats 16000000 in
theorem prg_encode13o (tv lv:Value) (t:List ByteArray) (l:List Rec) (w:World) (ht:Rd w 1 tv t.length (strs t)) (htn:t.length≤1000000) (hta:AscB ltS t) (hl:RdR w lv l) (hln:l.length≤1000000) (hlb:∀r∈l,r.1.length≤1000000∧r.2.length≤1000000) (hlz:∀r∈l,∀n∈r.2,-9223372036854775808≤n∧n<9223372036854775808) (hE:(encRc t l).length≤1000000000) :
  Calls Tryz.prog 64 #[tv,lv] w (GotBo w (encRcR t l)):=by
 have HT:=Lib.hid ht;have HTn:=Lib.hid htn;have HTa:=Lib.hid hta;have HL:=Lib.hid hl;have HLn:=Lib.hid hln;have HLb:=Lib.hid hlb;have HLz:=Lib.hid hlz;have HEn:=Lib.hid hE
 obtain ⟨pt,ct,hv⟩:=ht.shape
 subst hv
 obtain ⟨pl,cl,hv⟩:=hl.shape
 subst hv
 have hlni:(l.length:Int)≤1000000:=by omega
 have hw:IntKind.u64.wrap (l.length:Int)=(l.length:Int):=by rw [IntKind.wrap_u64];omega
 have HO0:Hid (OwnB w w [] (.slice none 0 0)):=Own1.nil w
 clear ht htn hta hl hln hlb hlz hE
 go_enter Tryz.func64,Tryz.ntmps64
 go_wp2_with fail
 refine (var_append13 w w [] _ l.length HO0.out (by omega) (by simp)).mono ?_
 rintro en w1 ⟨r1,rfl,hO,_⟩
 have HO1:Hid (OwnB w w1 (encTo t l 0) r1):=by
  show OwnB w w1 (groups l.length++(l.take 0).flatMap (recBytes t)) r1
  rw [List.take_zero,List.flatMap_nil,List.append_nil]
  simpa using hO
 obtain ⟨p1,c1,hv1⟩:=HO1.out.shape
 subst hv1
 clear hO HO0
 go_wp2_with fail
 go_loopw [6,16] (fun vv iv wr=>∃(i:Nat),i≤l.length∧iv = .int .i64 (i:Int)∧Hid (OwnB w wr (encTo t l i) vv)∧Hid (recsErr t l=recsErr t (l.drop i))) (fun _ iv _=>l.length-(intOf iv).toNat)
 case atStart=>exact ⟨0,Nat.zero_le _,rfl,HO1.out,rfl⟩
 case round=>
  obtain ⟨i,hi,rfl,HO,HE⟩:=hrel
  clear HO1
  have him:(i:Int)≤1000000:=by omega
  obtain ⟨pv,cv,hvv⟩:=HO.out.shape
  subst hvv
  by_cases hlt:i<l.length
  ·have hlt':(i:Int)<(l.length:Int):=by omega
   obtain ⟨⟨labs,chs⟩,hr⟩:∃r,l[i]? = some r:=⟨_,List.getElem?_eq_getElem hlt⟩
   obtain ⟨blk,off,h1,h2,e,⟨q1,k1,e1⟩,⟨q2,k2,e2⟩,hat⟩:=HL.out.always hr
   simp only at e1 e2
   subst e;subst e1;subst e2
   have HAt:Hid (∀w',Below w.heap.size w w'→w'.cell? ⟨blk,off+i*2,none⟩=some (.slice q1 labs.length k1)∧w'.cell? ⟨blk,off+i*2+1,none⟩=some (.slice q2 chs.length k2)∧Rd w' 2 (.slice q1 labs.length k1) labs.length (labCells labs)∧Rd w' 1 (.slice q2 chs.length k2) chs.length (i64s chs)):=fun w' hb=>by obtain ⟨a,b,c,d⟩:=hat w' hb;exact ⟨a,b,c,d⟩
   have hmem:=List.mem_of_getElem? hr
   have HRb:Hid (labs.length≤1000000∧chs.length≤1000000):=HLb.out _ hmem
   have HRz:Hid (∀n∈chs,-9223372036854775808≤n∧n<9223372036854775808):=HLz.out _ hmem
   have HRm:Hid ((encTo t l i).length+(groups labs.length).length+(symsBytes t (stringsL labs)).length+(groups chs.length).length+(numsBytes chs).length≤1000000000):=Nat.le_trans (encTo_room hr) HEn.out
   have HNx:Hid (encTo t l (i+1)=encTo t l i++groups labs.length++symsBytes t (stringsL labs)++groups chs.length++numsBytes chs):=encTo_step hr
   have HSt:Hid (recsErr t l=if recErr t (labs,chs)=0 then recsErr t (l.drop (i+1)) else recErr t (labs,chs)):=recsErr_step hr HE.out
   obtain ⟨d0,d1,_,_⟩:=HAt.out wr HO.out.bel
   have hbA:Hid (Below wr.heap.size wr (wr.alloc (.cells #[.slice q1 labs.length k1,.slice q2 chs.length k2] 146))):=(Below.refl _ wr).alloc (Nat.le_refl _) _
   have HO2:=Lib.hid (HO.out.below hbA.out)
   have HG:Hid (Blk (wr.alloc (.cells #[.slice q1 labs.length k1,.slice q2 chs.length k2] 146)) wr.heap.size [.slice q1 labs.length k1,.slice q2 chs.length k2]):=Blk.new _ _ _
   obtain ⟨E0,hE0⟩:∃E0,encTo t l i=E0:=⟨_,rfl⟩
   rw [hE0] at HO HO2 HRm HNx ⊢
   have HVg:Hid (∀k,(Value.slice pv E0.length cv).ownBlock=some k→k<wr.heap.size):=fun k hk=>(HO.out.row.lt k hk).2
   clear hr hat hmem HE hE0 HO
   go_wp2_with fail
   generalize wr.alloc (.cells #[.slice q1 labs.length k1,.slice q2 chs.length k2] 146)=w2 at *
   obtain ⟨g,hg⟩:∃g,wr.heap.size=g:=⟨_,rfl⟩
   rw [hg] at HG HVg ⊢
   have g0:w2.cell? ⟨g,0,none⟩=some (.slice q1 labs.length k1):=HG.out.cell 0
   have g1:w2.cell? ⟨g,1,none⟩=some (.slice q2 chs.length k2):=HG.out.cell 1
   have HPut:=Lib.hid (app_labels w w2 E0 _ (.slice pt t.length ct) (.slice q1 labs.length k1) t labs HO2.out HT.out HTn.out HTa.out (HAt.out w (Below.refl _ _)).2.2.1 HRb.out.1 (by have:=HRm.out;omega))
   clear hg d0 d1
   go_wp2_with fail
   refine HPut.out.mono ?_
   rintro en w3 ⟨hM,hP⟩
   have g1':w3.cell? ⟨g,1,none⟩=some (.slice q2 chs.length k2):=hM.cell g1 (fun e=>by have:=HVg.out g e;omega)
   clear HPut HG g0 g1 HVg hM
   rcases hP with ⟨r3,rfl,hIn,hO⟩ | ⟨rfl,hIn,hB⟩
   ·obtain ⟨E1,hE1⟩:∃E1,E0++groups labs.length++symsBytes t (stringsL labs)=E1:=⟨_,rfl⟩
    have HE1n:Hid (E1.length+(groups chs.length).length+(numsBytes chs).length≤1000000000):=by
     show _≤_
     have h2:=HRm.out
     rw [← hE1]
     simp only [List.length_append]
     omega
    rw [hE1] at hO HNx
    have HO3:=Lib.hid hO
    have HIn:=Lib.hid hIn
    obtain ⟨p3,c3,hv3⟩:=hO.shape
    subst hv3
    have HPut:=Lib.hid (app_lengths w w3 E1 _ (.slice q2 chs.length k2) chs HO3.out (HAt.out w (Below.refl _ _)).2.2.2 HRb.out.2 HRz.out HE1n.out)
    clear hO hIn HO2 hE1 HRm
    go_wp2_with fail
    refine HPut.out.mono ?_
    rintro en w4 hP
    clear HPut
    rcases hP with ⟨r4,rfl,hne,hok,hO⟩ | ⟨rfl,hbad,hB⟩
    ·rw [← HNx.out] at hO
     have HE9:Hid (recsErr t l=recsErr t (l.drop (i+1))):=by
      show _=_
      rw [HSt.out,if_pos (recErr_zero.2 ⟨HIn.out,hne,hok⟩)]
     have HO4:=Lib.hid hO
     obtain ⟨L2,hL2⟩:∃L2,encTo t l (i+1)=L2:=⟨_,rfl⟩
     have HL2:=Lib.hid hL2
     rw [hL2] at HO4
     obtain ⟨p4,c4,hv4⟩:=HO4.out.shape
     subst hv4
     clear hO hne hok hL2 HO3 g1'
     go_wp2_with fail
     go_round
     case rel=>exact ⟨i+1,by omega,by go_num,(by show OwnB _ _ _ _;rw [HL2.out];exact HO4.out),HE9.out⟩
     case measure=>simp [intOf];omega
    ·have HBad:Hid (encRcR t l=(23,[])):=by
      have h1:recErr t (labs,chs)=23:=by
       rw [recErr,if_pos HIn.out]
       by_cases hc:chs=[]
       ·rw [if_pos hc]
       ·rw [if_neg hc,if_neg (fun h=>hbad ⟨hc,h⟩)]
      refine encRcR_bad (by decide) ?_
      rw [HSt.out,h1];rfl
     have HBw:=Lib.hid hB
     clear hbad hB
     go_wp2_with fail
     go_ret2
     exact GotBo.fails HBw.out HBad.out
   ·have HBad:Hid (encRcR t l=(14,[])):=by
     have h1:recErr t (labs,chs)=14:=by rw [recErr,if_neg hIn]
     refine encRcR_bad (by decide) ?_
     rw [HSt.out,h1];rfl
    have HBw:=Lib.hid hB
    clear hIn hB
    go_wp2_with fail
    go_ret2
    exact GotBo.fails HBw.out HBad.out
  ·have hlt':¬(i:Int)<(l.length:Int):=by omega
   have HOf:Hid (encRcR t l=(0,encTo t l i)):=by
    have h1:=HE.out
    rw [List.drop_of_length_le (by omega)] at h1
    show _=_
    rw [encRcR,h1,encTo_all t l i (by omega)];rfl
   go_wp2_with fail
   go_ret2
   exact ⟨by rw [HOf.out];exact ⟨_,rfl,HO.out.row⟩,HO.out.bel⟩
set_option maxHeartbeats 8000000 in
theorem app_series (w wi:World) (E0:List Nat) (v sv:Value) (s:List Int) (h:OwnB w wi E0 v) (hl:Rd w 1 sv s.length (i64s s)) (hln:s.length≤1000000) (ha:AscB ltI s) (h0:∀x∈s,0≤x∧x≤9223372036854775807)
  (hE:E0.length+(groups s.length).length+(serTo s s.length).length≤1000000000) :
  Calls Tryz.prog 106 #[v,sv] wi fun en w'=>∃r,en = .returned r∧OwnB w w' (E0++groups s.length++serTo s s.length) r:=by
 have HO:=Lib.hid h;have HL:=Lib.hid hl;have HLn:=Lib.hid hln;have HA:=Lib.hid ha;have H0:=Lib.hid h0;have HEn:=Lib.hid hE
 obtain ⟨pv,kv,hv⟩:=h.shape
 subst hv
 obtain ⟨pc,cc,hv⟩:=hl.shape
 subst hv
 have hcm:(s.length:Int)≤1000000:=by omega
 have hw:IntKind.u64.wrap (s.length:Int)=(s.length:Int):=by rw [IntKind.wrap_u64];omega
 clear h hl hln ha h0 hE
 go_enter Tryz.func106,Tryz.ntmps106
 go_wp2_with fail
 refine (var_append13 w wi E0 _ s.length HO.out (by omega) (by have:=HEn.out;omega)).mono ?_
 rintro en w1 ⟨r1,rfl,hO,_⟩
 obtain ⟨L1,hL1⟩:∃L1,E0++groups s.length=L1:=⟨_,rfl⟩
 have HL1:=Lib.hid hL1
 rw [hL1] at hO
 have HBm:Hid (L1.length+(serTo s s.length).length≤1000000000):=by show _≤_;have:=HEn.out;rw [← hL1,List.length_append];omega
 have HO1:Hid (OwnB w w1 (L1++serTo s 0) r1):=by show OwnB _ _ _ _;rw [show serTo s 0=[] from rfl,List.append_nil];exact hO
 obtain ⟨p1,c1,hv1⟩:=hO.shape
 subst hv1
 clear hO HO hL1
 go_wp2_with fail
 go_loopw [0,5,15] (fun vv bv kv wr=>∃(k:Nat) (z:Int),k≤s.length∧kv = .int .i64 (k:Int)∧bv = .int .i64 z∧Hid (z=lastZ s k)∧Hid (OwnB w wr (L1++serTo s k) vv)) (fun _ _ kv _=>s.length-(intOf kv).toNat)
 case atStart=>exact ⟨0,0,Nat.zero_le _,rfl,rfl,rfl,HO1.out⟩
 case round=>
  obtain ⟨k,z,hk,rfl,rfl,HZ,HO7⟩:=hrel
  clear HO1
  have hkm:(k:Int)≤1000000:=by omega
  obtain ⟨p7,c7,hv7⟩:=HO7.out.shape
  subst hv7
  by_cases hkl:k<s.length
  ·have hkl':(k:Int)<(s.length:Int):=by omega
   obtain ⟨n,hn⟩:∃n,s[k]? = some n:=⟨_,List.getElem?_eq_getElem hkl⟩
   have dc:=HL.out.below HO7.out.bel
   obtain ⟨gc,oc,cc',e,_,_,hcell⟩:=dc.at (fun e=>by have:=congrArg List.length e;rw [i64s_length] at this;rw [this] at hkl;simp at hkl)
   simp only [Value.slice.injEq] at e
   obtain ⟨rfl,_,rfl⟩:=e
   have n0:wr.cell? ⟨gc,oc+k,none⟩=some (.int .i64 n):=hcell k _ (by rw [i64s,List.getElem?_map,hn];rfl)
   have HNs:=Lib.hid (serTo_step hn)
   have hzn:=lastZ_le hn HA.out (fun y hy=>(H0.out y hy).1)
   rw [← HZ.out] at hzn
   have hnn:=(H0.out n (List.mem_of_getElem? hn)).2
   have hz0:0≤z:=hzn.1
   have hz1:z≤n:=hzn.2
   obtain ⟨m,hm⟩:∃m:Nat,n-z=(m:Int):=⟨(n-z).toNat,by omega⟩
   have HMt:Hid (m<18446744073709551616):=by show _<_;omega
   have hwm:IntKind.u64.wrap (n-z)=(m:Int):=by rw [hm,IntKind.wrap_u64];omega
   have HZ2:Hid (n=lastZ s (k+1)):=(lastZ_succ hn).symm
   have HLm:Hid ((L1++serTo s k).length≤1000000000):=by
    show _≤_
    have h1:=serTo_top s k
    have h2:=HBm.out
    simp only [List.length_append]
    omega
   obtain ⟨L,hL⟩:∃L,L1++serTo s k=L:=⟨_,rfl⟩
   have HLe:Hid (L1++serTo s (k+1)=L++groups m):=by
    show _=_
    rw [HNs.out,← hL,List.append_assoc L1,← HZ.out,hm,Int.toNat_natCast]
   rw [hL] at HO7 HLm ⊢
   clear hn hcell dc HNs hkl hL hzn hm HZ
   go_wp2_with fail
   refine (var_append13 w wr L _ m HO7.out HMt.out HLm.out).mono ?_
   rintro en w8 ⟨r8,rfl,hO,_⟩
   obtain ⟨L2,hL2⟩:∃L2,L1++serTo s (k+1)=L2:=⟨_,rfl⟩
   have HL2:=Lib.hid hL2
   have HO8:Hid (OwnB w w8 L2 r8):=by show OwnB _ _ _ _;rw [← hL2,HLe.out];exact hO
   obtain ⟨p8,c8,hv8⟩:=HO8.out.shape
   subst hv8
   clear hO HO7 HLe n0 hL2 hwm
   go_wp2_with fail
   go_round
   case rel=>exact ⟨k+1,n,by omega,by go_num,rfl,HZ2.out,(by show OwnB _ _ _ _;rw [HL2.out];exact HO8.out)⟩
   case measure=>simp [intOf];omega
  ·have hkl':¬(k:Int)<(s.length:Int):=by omega
   obtain rfl:k=s.length:=by omega
   have HE:Hid (E0++groups s.length++serTo s s.length=L1++serTo s s.length):=by show _=_;rw [HL1.out]
   obtain ⟨L2,hL2⟩:∃L2,L1++serTo s s.length=L2:=⟨_,rfl⟩
   rw [hL2] at HO7 HE ⊢
   clear hL2
   go_wp2_with fail
   go_ret
   exact ⟨_,rfl,by rw [← List.append_assoc,HE.out];exact HO7.out⟩
set_option maxHeartbeats 16000000 in
theorem prg_encode15o (tv lv:Value) (t:List ByteArray) (l:List Ent) (w:World) (ht:Rd w 1 tv t.length (strs t)) (htn:t.length≤1000000) (hta:AscB ltS t) (hl:RdE w lv l) (hln:l.length≤1000000) (hs:∀e∈l,AscB ltI e.2∧e.2.length≤1000000∧∀x∈e.2,0≤x∧x≤9223372036854775807) (hE:(entsBytes t l).length≤1000000000) :
  Calls Tryz.prog 65 #[tv,lv] w (GotBo w (encPoR t l)):=by
 have HT:=Lib.hid ht;have HTn:=Lib.hid htn;have HTa:=Lib.hid hta;have HL:=Lib.hid hl;have HLn:=Lib.hid hln;have HS:=Lib.hid hs;have HEn:=Lib.hid hE
 obtain ⟨pt,ct,hv⟩:=ht.shape
 subst hv
 obtain ⟨pl,cl,hv⟩:=hl.shape
 subst hv
 have hlni:(l.length:Int)≤1000000:=by omega
 have hw:IntKind.u64.wrap (l.length:Int)=(l.length:Int):=by rw [IntKind.wrap_u64];omega
 have HO0:Hid (OwnB w w [] (.slice none 0 0)):=Own1.nil w
 clear ht htn hta hl hln hs hE
 go_enter Tryz.func65,Tryz.ntmps65
 go_wp2_with fail
 refine (var_append13 w w [] _ l.length HO0.out (by omega) (by simp)).mono ?_
 rintro en w1 ⟨r1,rfl,hO,_⟩
 have HO1:Hid (OwnB w w1 (encE t l 0) r1):=by
  show OwnB w w1 (groups l.length++(l.take 0).flatMap (entBytes t)) r1
  rw [List.take_zero,List.flatMap_nil,List.append_nil]
  simpa using hO
 obtain ⟨p1,c1,hv1⟩:=HO1.out.shape
 subst hv1
 clear hO HO0
 go_wp2_with fail
 go_loopw [6,19] (fun vv iv wr=>∃(i:Nat),i≤l.length∧iv = .int .i64 (i:Int)∧Hid (OwnB w wr (encE t l i) vv)∧Hid (∀e∈l.take i,labIn t e.1)) (fun _ iv _=>l.length-(intOf iv).toNat)
 case atStart=>exact ⟨0,Nat.zero_le _,rfl,HO1.out,(by intro e he;simp at he)⟩
 case round=>
  obtain ⟨i,hi,rfl,HO,HIn⟩:=hrel
  clear HO1
  have him:(i:Int)≤1000000:=by omega
  obtain ⟨pv,cv,hvv⟩:=HO.out.shape
  subst hvv
  by_cases hlt:i<l.length
  ·have hlt':(i:Int)<(l.length:Int):=by omega
   obtain ⟨⟨⟨n1,v1⟩,s⟩,hr⟩:∃r,l[i]? = some r:=⟨_,List.getElem?_eq_getElem hlt⟩
   obtain ⟨blk,off,q1,k1,e,hat⟩:=HL.out.always hr
   subst e
   simp only at hat
   have hmem:=List.mem_of_getElem? hr
   have HSe:Hid (AscB ltI s∧s.length≤1000000∧∀x∈s,0≤x∧x≤9223372036854775807):=HS.out _ hmem
   have HRs:Hid (Rd w 1 (.slice q1 s.length k1) s.length (i64s s)):=(hat w (Below.refl _ _)).2
   have HRm:Hid ((encE t l i).length+(groups (idxT t n1)).length+(groups (idxT t v1)).length+(groups s.length).length+(serTo s s.length).length≤1000000000):=Nat.le_trans (encE_room hr) HEn.out
   have HNx:Hid (encE t l (i+1)=encE t l i++groups (idxT t n1)++groups (idxT t v1)++groups s.length++serTo s s.length):=encE_step hr
   have HBad:Hid (¬labIn t (n1,v1)→encPoR t l=(14,[])):=fun h=>encPo_bad hmem h
   have HIn2:Hid (labIn t (n1,v1)→∀e∈l.take (i+1),labIn t e.1):=fun h e he=>by
    rw [List.take_add_one,hr] at he
    rcases List.mem_append.1 he with f | f
    ·exact HIn.out e f
    ·simp at f;subst f;exact h
   have HIx:=Lib.hid (fun x W h=>index_met (.slice pt t.length ct) t x W h HTn.out HTa.out)
   obtain ⟨E0,hE0⟩:∃E0,encE t l i=E0:=⟨_,rfl⟩
   rw [hE0] at HO HRm HNx ⊢
   have hbA:Below wr.heap.size wr (wr.alloc (.cells #[.string n1,.string v1,.slice q1 s.length k1] 157)):=(Below.refl _ wr).alloc (Nat.le_refl _) _
   have HO2:=Lib.hid (HO.out.below hbA)
   have HT2:Hid (Rd (wr.alloc (.cells #[.string n1,.string v1,.slice q1 s.length k1] 157)) 1 (.slice pt t.length ct) t.length (strs t)):=HT.out.below HO2.out.bel
   have HG:Hid (Blk (wr.alloc (.cells #[.string n1,.string v1,.slice q1 s.length k1] 157)) wr.heap.size [.string n1,.string v1,.slice q1 s.length k1]):=Blk.new _ _ _
   have HVg:Hid (∀k,(Value.slice pv E0.length cv).ownBlock=some k→k<wr.heap.size):=fun k hk=>(HO.out.row.lt k hk).2
   obtain ⟨⟨d0,d1,d2⟩,_⟩:=hat wr HO.out.bel
   clear hr hat hmem hE0 HIn hbA HO
   go_wp2_with fail
   generalize wr.alloc (.cells #[.string n1,.string v1,.slice q1 s.length k1] 157)=w2 at *
   obtain ⟨g,hg⟩:∃g,wr.heap.size=g:=⟨_,rfl⟩
   rw [hg] at HG HVg ⊢
   clear hg d0 d1 d2
   refine (HIx.out n1 w2 HT2.out).mono ?_
   rintro en w5 ⟨rfl,hB5⟩
   have HO5:=Lib.hid (HO2.out.below hB5)
   have HT5:Hid (Rd w5 1 (.slice pt t.length ct) t.length (strs t)):=HT2.out.below hB5
   have HG5:=Lib.hid (hB5.mono (Nat.le_refl _) |>.block g HG.out.lt |> HG.out.of_same)
   have g1:w5.cell? ⟨g,1,none⟩=some (.string v1):=HG5.out.cell 1
   clear HO2 HT2 HG hB5
   by_cases hn:n1∈t
   ·obtain ⟨jn,hjn,hjnt⟩:=findS_in hn
    have HJn:Hid (jn<18446744073709551616):=by show _<_;have:=(List.getElem?_eq_some_iff.1 hjnt).1;have:=HTn.out;omega
    have hin:idxT t n1=jn:=by rw [idxT,hjn];rfl
    have hwj:IntKind.u64.wrap (jn:Int)=(jn:Int):=by rw [IntKind.wrap_u64];have:=HJn.out;omega
    rw [hjn,show max (jn:Int) 0=(jn:Int) from Int.max_eq_left (by omega),show decide ((0:Int)≤(jn:Int))=true from decide_eq_true (by omega)]
    rw [hin] at HNx HRm
    clear hjn hjnt hin
    go_wp2_with fail
    refine (HIx.out v1 w5 HT5.out).mono ?_
    rintro en w6 ⟨rfl,hB6⟩
    have HO6:=Lib.hid (HO5.out.below hB6)
    have HG6:=Lib.hid (HG5.out.of_same (hB6.block g HG5.out.lt))
    clear HIx HT5 HO5 HG5 g1 hB6
    by_cases hvm:v1∈t
    ·obtain ⟨jv,hjv,hjvt⟩:=findS_in hvm
     have HJv:Hid (jv<18446744073709551616):=by show _<_;have:=(List.getElem?_eq_some_iff.1 hjvt).1;have:=HTn.out;omega
     have hiv:idxT t v1=jv:=by rw [idxT,hjv];rfl
     have hwv:IntKind.u64.wrap (jv:Int)=(jv:Int):=by rw [IntKind.wrap_u64];have:=HJv.out;omega
     rw [hjv,show max (jv:Int) 0=(jv:Int) from Int.max_eq_left (by omega),show decide ((0:Int)≤(jv:Int))=true from decide_eq_true (by omega)]
     rw [hiv] at HNx HRm
     have HLab:Hid (∀e∈l.take (i+1),labIn t e.1):=HIn2.out ⟨hn,hvm⟩
     clear hjv hjvt hiv hn hvm HBad HIn2
     go_wp2_with fail
     refine (var_append13 w w6 E0 _ jn HO6.out HJn.out (by have:=HRm.out;omega)).mono ?_
     rintro en w7 ⟨r7,rfl,hO,hA⟩
     obtain ⟨E1,hE1⟩:∃E1,E0++groups jn=E1:=⟨_,rfl⟩
     rw [hE1] at hO HNx
     have HRm1:Hid (E1.length+(groups jv).length+(groups s.length).length+(serTo s s.length).length≤1000000000):=by show _≤_;have:=HRm.out;rw [← hE1,List.length_append];omega
     have HO7:=Lib.hid hO
     have HG7:=Lib.hid (hA.mods.blk HG6.out (fun e=>by have:=HVg.out g e;omega))
     have HVg7:Hid (∀k,r7.ownBlock=some k→k≠g):=fun k hk=>by
      rcases hA.fresh k hk with e | e
      ·have:=HVg.out k e;omega
      ·have:=HG6.out.lt;omega
     obtain ⟨p7,c7,hv7⟩:=hO.shape
     subst hv7
     clear hO hA HO6 HG6 HVg hE1 HRm hwj
     go_wp2_with fail
     refine (var_append13 w w7 E1 _ jv HO7.out HJv.out (by have:=HRm1.out;omega)).mono ?_
     rintro en w8 ⟨r8,rfl,hO,hA⟩
     obtain ⟨E2,hE2⟩:∃E2,E1++groups jv=E2:=⟨_,rfl⟩
     rw [hE2] at hO HNx
     have HRm2:Hid (E2.length+(groups s.length).length+(serTo s s.length).length≤1000000000):=by show _≤_;have:=HRm1.out;rw [← hE2,List.length_append];omega
     have HO8:=Lib.hid hO
     have HG8:=hA.mods.blk HG7.out (fun e=>HVg7.out g e rfl)
     have g2:w8.cell? ⟨g,2,none⟩=some (.slice q1 s.length k1):=HG8.cell 2
     obtain ⟨p8,c8,hv8⟩:=hO.shape
     subst hv8
     have HAp:=Lib.hid (app_series w w8 E2 _ (.slice q1 s.length k1) s HO8.out HRs.out HSe.out.2.1 HSe.out.1 HSe.out.2.2 HRm2.out)
     rw [← HNx.out] at HAp
     clear hO hA HO7 HG7 HG8 HVg7 hE2 HRm1 hwv HRm2 HO8 HNx
     go_wp2_with fail
     refine HAp.out.mono ?_
     rintro en w9 ⟨r9,rfl,hO⟩
     obtain ⟨L2,hL2⟩:∃L2,encE t l (i+1)=L2:=⟨_,rfl⟩
     have HL2:=Lib.hid hL2
     rw [hL2] at hO
     have HO9:=Lib.hid hO
     obtain ⟨p9,c9,hv9⟩:=hO.shape
     subst hv9
     clear hO HAp hL2 g2
     go_wp2_with fail
     go_round
     case rel=>exact ⟨i+1,by omega,by go_num,(by show OwnB _ _ _ _;rw [HL2.out];exact HO9.out),HLab.out⟩
     case measure=>simp [intOf];omega
    ·rw [findS_out hvm]
     rw [show max (-1:Int) 0=0 from rfl,show decide ((0:Int)≤-1)=false from rfl]
     have HB:=Lib.hid (HBad.out (fun h=>hvm h.2))
     clear hvm hn HBad HIn2
     go_wp2_with fail
     go_ret2
     exact GotBo.fails HO6.out.bel HB.out
   ·rw [findS_out hn]
    rw [show max (-1:Int) 0=0 from rfl,show decide ((0:Int)≤-1)=false from rfl]
    have HB:=Lib.hid (HBad.out (fun h=>hn h.1))
    clear hn HBad HIn2
    go_wp2_with fail
    refine (HIx.out v1 w5 HT5.out).mono ?_
    rintro en w6 ⟨rfl,hB6⟩
    have HO6:=Lib.hid (HO5.out.below hB6)
    generalize decide (0≤findS t v1)=bb
    generalize max (findS t v1) 0=jj
    clear HIx HT5 HO5 HG5 g1 hB6
    go_wp2_with fail
    go_ret2
    exact GotBo.fails HO6.out.bel HB.out
  ·have hlt':¬(i:Int)<(l.length:Int):=by omega
   have HOf:Hid (encPoR t l=(0,encE t l i)):=by
    have hte:l.take i=l:=List.take_of_length_le (by omega)
    have h:=HIn.out
    rw [hte] at h
    show _=_
    rw [encPo_ok h,encE_all t l i (by omega)]
   go_wp2_with fail
   go_ret2
   exact ⟨by rw [HOf.out];exact ⟨_,rfl,HO.out.row⟩,HO.out.bel⟩
end Go.Proofs.YtdcgbgecbeegmaaGreatDoor
end
section
set_option maxRecDepth 20000
namespace Go.Proofs.YtdcgbgecbeegmaaGreatDoor
open Go Go.RowKit Go.Maps
open Go.WideElems (Fit rd rg rd_key rd_val rg_of rd_mk)
open Go.ChangeMaps (setBlock heap_setBlock_same heap_setBlock_other putKey notKey mem_insert_iff)
open Go.WideShapes (sorted_perm)
theorem laidOut15:laidOutB Tryz.prog=true:=by kernel_rfl
theorem rowLab15:(108 : TypeId) < Tryz.prog.types.size:=of_decide_eq_true (by kernel_rfl)
theorem wideLab15:(match Tryz.prog.underlying 108 with | some (.array _ _) | some (.struct _)=>true | _=>false)=true:=by rw [Tryz.underlying108]
theorem keyTypeLab15 : Tryz.prog.keyType 108 = true:=by kernel_rfl
theorem lawLab15:WideMaps.KeyLaw Tryz.prog 108:=deep_law_laid laidOut15 (m:=2) (by omega) rowLab15 (by kernel_rfl) wideLab15
theorem keyedLab15:Keyed Tryz.prog 108:=Keyed.of_law lawLab15
def labK (x:Lab):Value:=.agg #[.string x.1,.string x.2]
theorem labK_inj {x y:Lab} (h:labK x=labK y):x=y:=by
 unfold labK at h
 simp only [Value.agg.injEq,Array.mk.injEq,List.cons.injEq,Value.string.injEq,and_true] at h
 exact Prod.ext h.1 h.2
def klOf (x:Lab):Lit:=.string (keyBytes [.string x.1.data.toList,.string x.2.data.toList])
def LabFits (x:Lab):Prop:=x.1.size≤maxLen∧x.2.size≤maxLen
theorem keyLits_string (d:Nat) (cs:List Value) (L:List Lit) (h : Tryz.prog.keyLits (d+1) 9 cs=some L):∃s:ByteArray,cs=[.string s]∧s.size≤maxLen∧L=[.string s.data.toList]:=by
 unfold Program.keyLits at h
 rw [Tryz.underlying9] at h
 split at h<;>simp_all
theorem keyLits_string_mk (d:Nat) (s:ByteArray) (h:s.size≤maxLen) : Tryz.prog.keyLits (d+1) 9 [.string s]=some [.string s.data.toList]:=by
 unfold Program.keyLits
 rw [Tryz.underlying9]
 simp [h]
theorem cellsLab15 : Tryz.prog.cellsOf 108 = 2:=by kernel_rfl
theorem cellsStr15 : Tryz.prog.cellsOf 9 = 1:=by kernel_rfl
theorem keyOf_lab {x:Lab} (h:LabFits x):keyOf Tryz.prog 108 (labK x)=some (klOf x):=by
 obtain ⟨m,hm⟩:∃m,Tryz.prog.types.size=m+1:=⟨_,(Nat.succ_pred_eq_of_pos (Nat.lt_of_le_of_lt (Nat.zero_le _) rowLab15)).symm⟩
 have hf:(labK x).formed Tryz.prog 108 = true:=by simp [labK,Value.formed,Tryz.underlying108,cellsLab15]
 have hl : Tryz.prog.keyLits (m+1+1) 108 (labK x).cells.toList=some [.string x.1.data.toList,.string x.2.data.toList]:=by
  unfold Program.keyLits
  rw [Tryz.underlying108]
  simp [labK,Value.cells,cellsLab15,cellsStr15,keyLits_string_mk m _ h.1,keyLits_string_mk m _ h.2]
 unfold keyOf
 rw [Tryz.underlying108]
 simp only [keyTypeLab15,hf,Bool.and_self,if_true,hm,hl,Option.map_some]
 rfl
theorem keyOf_lab_inv {v:Value} {kl:Lit} (h:keyOf Tryz.prog 108 v=some kl):∃x:Lab,v=labK x∧kl=klOf x∧LabFits x:=by
 obtain ⟨xs,L,rfl,hl,rfl⟩:=keyOf_top wideLab15 h
 obtain ⟨m,hm⟩:∃m,Tryz.prog.types.size=m+1:=⟨_,(Nat.succ_pred_eq_of_pos (Nat.lt_of_le_of_lt (Nat.zero_le _) rowLab15)).symm⟩
 rw [hm] at hl
 unfold Program.keyLits at hl
 rw [Tryz.underlying108] at hl
 simp only [cellsLab15] at hl
 split at hl
 ·next hc=>
  cases xs with | mk xs=>
  match xs,hc,hl with
  | [a,b],hc,hl=>
   cases e1 : Tryz.prog.keyLits (m+1) 9 [a] with
   | none=>simp [e1,cellsStr15] at hl
   | some l1=>
    cases e2 : Tryz.prog.keyLits (m+1) 9 [b] with
    | none=>simp [e1,e2,cellsStr15] at hl
    | some l2=>
     simp [e1,e2,cellsStr15] at hl
     obtain ⟨s1,f1,g1,rfl⟩:=keyLits_string m _ _ e1
     obtain ⟨s2,f2,g2,rfl⟩:=keyLits_string m _ _ e2
     cases f1
     cases f2
     subst hl
     exact ⟨(s1,s2),rfl,rfl,g1,g2⟩
 ·cases hl
theorem klOf_inj {x y:Lab} (hx:LabFits x) (hy:LabFits y) (h:klOf x=klOf y):x=y:=labK_inj (keyedLab15.inj (h ▸ keyOf_lab hx) (keyOf_lab hy))
def R15:Value→Option (DataW Value × List MemPlace)
 | .slice p n c=>some (.held (.slice p n c),[])
 | _=>none
theorem R15_inv {v:Value} {y:DataW Value × List MemPlace} (h:R15 v=some y):y=(.held v,[])∧∃q:Option Addr × Nat × Nat,v = .slice q.1 q.2.1 q.2.2:=by
 cases v<;>simp [R15] at h
 next p n c=>exact ⟨h.symm,(p,n,c),rfl⟩
theorem R15_mk {v:Value} (h:∃p n c,v = .slice p n c):R15 v=some (.held v,[]):=by
 obtain ⟨p,n,c,rfl⟩:=h
 rfl
theorem mods_setBlock {w:World} {b:Nat} {es:Array MapEntry} {clock:Nat} (hb:w.heap[b]? = some (.map es clock)) (o:Obj):Mods (fun k=>k=b) w (setBlock w b o):=
 ⟨rfl,rfl,rfl,by simp [setBlock],fun i _ hi=>heap_setBlock_other hb _ hi⟩
structure GrpAt (w:World) (b base N:Nat) (F:Lab→List Int) (es:Array MapEntry) (clock:Nat):Prop where
 blk:w.heap[b]? = some (.map es clock)
 fit:Fit Tryz.prog 108 R15 es clock
 size:es.size≤N
 low:b<base
 own:∀x∈es.toList,∃l:Lab,LabFits l∧x.key=labK l∧F l≠[]∧w.ownsRow base 3 1 x.val (F l).length (i64s (F l))
 all:∀l,F l≠[]→∃x∈es.toList,x.key=labK l
 apart:∀x∈es.toList,∀y∈es.toList,x.key≠y.key→x.val.ownBlock=none∨x.val.ownBlock≠y.val.ownBlock
def Grp (w:World) (b base N:Nat) (F:Lab→List Int):Prop:=∃es clock,GrpAt w b base N F es clock
theorem Grp.made (w:World):Grp (w.alloc (.map #[] 0)) w.heap.size (w.heap.size+1) 0 (fun _=>[]):=
 ⟨#[],0,(MapKept.heap_alloc w _).1,⟨by simp,MapKept.stamped_empty 0,by simp⟩,Nat.le_refl _,Nat.lt_succ_self _,by simp,fun l h=>absurd rfl h,by simp⟩
theorem Grp.mods {S:Nat→Prop} {w w':World} {b base N:Nat} {F:Lab→List Int} (h:Grp w b base N F) (hm:Mods S w w') (hb:¬S b) (hs:∀k,base≤k→k<w.heap.size→¬S k):Grp w' b base N F:=by
 obtain ⟨es,clock,g⟩:=h
 refine ⟨es,clock,(hm.block b (Array.getElem?_eq_some_iff.1 g.blk).1 hb).trans g.blk,g.fit,g.size,g.low,fun x hx=>?_,g.all,g.apart⟩
 obtain ⟨l,h0,h1,h2,h3⟩:=g.own x hx
 exact ⟨l,h0,h1,h2,hm.owns h3 (fun k hk=>hs k (h3.lt k hk).1 (h3.lt k hk).2)⟩
theorem Grp.below {w w':World} {b base N:Nat} {F:Lab→List Int} (h:Grp w b base N F) (hb:Below w.heap.size w w'):Grp w' b base N F:=
 h.mods (Mods.of_below hb (fun _=>False)) (fun h=>h) (fun _ _ _ h=>h)
theorem Grp.congr {w:World} {b base N:Nat} {F G:Lab→List Int} (h:Grp w b base N F) (e:∀x,F x=G x):Grp w b base N G:=by
 obtain rfl:F=G:=funext e
 exact h
theorem grp_entry {w:World} {b base N:Nat} {F:Lab→List Int} (h:Grp w b base N F) (hN:N<maxLen) (l:Lab) (hl:LabFits l) :
  ∃(v0:Value) (st:Nat) (w1:World),(Instr.mapEntry 161 (.map (some b)) (labK l)).run Tryz.prog w = .ok (.tuple #[v0,goInt st]) w1∧w1.ownsRow base 3 1 v0 (F l).length (i64s (F l))∧Mods (fun k=>k=b) w w1∧w1.heap.size=w.heap.size∧
   ∀(w2:World) (v':Value) (n:Int),Mods (fun k=>v0.ownBlock=some k) w1 w2→w2.ownsRow base 3 1 v' (F l++[n]).length (i64s (F l++[n]))→Fresh w1.heap.size v0 v'→
    ∃w3,(Instr.entryStore 161 (.map (some b)) (goInt st) v').run Tryz.prog w2 = .ok () w3∧Grp w3 b base (N+1) (fun x=>if x=l then F l++[n] else F x)∧Mods (fun k=>k=b) w2 w3:=by
 obtain ⟨es,clock,g⟩:=h
 have ht : Tryz.prog.underlying 161 = some (.map 108 59):=Tryz.underlying161
 obtain ⟨v0,st,es1,clock1,hrun,hwho0,hst⟩:=WideElems.entry_then_store lawLab15 ht (fun u=>Tryz.zeroValue59 u) g.blk g.fit (keyOf_lab hl)
 have hblt:=(Array.getElem?_eq_some_iff.1 g.blk).1
 have hm1:Mods (fun k=>k=b) w (setBlock w b (.map es1 clock1)):=mods_setBlock g.blk _
 have hv0:w.ownsRow base 3 1 v0 (F l).length (i64s (F l))∧∀x∈es.toList,x.key≠labK l→x.val.ownBlock=none∨x.val.ownBlock≠v0.ownBlock:=by
  rcases hwho0 with ⟨e0,he0,hk0,rfl⟩ | ⟨hno,rfl⟩
  ·obtain ⟨l',h0,h1,h2,h3⟩:=g.own e0 he0
   obtain rfl:=labK_inj (hk0.symm.trans h1)
   exact ⟨h3,fun x hx hne=>g.apart x hx e0 he0 (by rw [hk0];exact hne)⟩
  ·have hF:F l=[]:=by
    by_cases e:F l=[]
    ·exact e
    ·obtain ⟨x,hx,hk⟩:=g.all l e
     exact absurd hk (hno x hx)
   rw [hF]
   refine ⟨World.ownsRow_nil _ _ _ _,fun x hx _=>?_⟩
   cases hx':x.val.ownBlock with
   | none=>exact Or.inl rfl
   | some k=>exact Or.inr (by simp [Value.ownBlock])
 obtain ⟨hown0,hap0⟩:=hv0
 have hown1:=hm1.owns hown0 (fun k hk e=>by have h1:=(hown0.lt k hk).1;have h2:=g.low;omega)
 refine ⟨v0,st,_,hrun,hown1,hm1,by simp [setBlock],fun w2 v' n hm2 hown2 hfr=>?_⟩
 have hb2:w2.heap[b]? = some (.map es1 clock1):=(hm2.block b (by simp [setBlock];exact hblt) (fun e=>by have h1:=(hown1.lt b e).1;have h2:=g.low;omega)).trans (heap_setBlock_same g.blk _)
 obtain ⟨es',clock',hrun3,hupd⟩:=hst w2 v' hb2
 have hsl:∃p n c,v' = .slice p n c:=by obtain ⟨p,c,e⟩:=(Rd.of_owns hown2).shape;exact ⟨p,_,c,e⟩
 obtain ⟨es2,clock2,hupd2,hfit,hput,_,_,hwho⟩:=Maps.fit_store (R':=R15) keyedLab15 ht g.blk g.fit (Nat.lt_of_le_of_lt g.size hN) (fun _ _ _ _ h=>h) (keyOf_lab hl) (R15_mk hsl)
 have hee:es'=es2∧clock'=clock2:=by
  rw [hupd] at hupd2
  have e1:setBlock w b (.map es' clock')=setBlock w b (.map es2 clock2):=by simpa using hupd2
  have e2:=heap_setBlock_same g.blk (.map es' clock')
  rw [e1,heap_setBlock_same g.blk] at e2
  simp only [Option.some.injEq,Obj.map.injEq] at e2
  exact ⟨e2.1.symm,e2.2.symm⟩
 obtain ⟨rfl,rfl⟩:=hee
 have hm3:Mods (fun k=>k=b) w2 (setBlock w2 b (.map es' clock')):=mods_setBlock hb2 _
 refine ⟨_,hrun3,⟨es',clock',heap_setBlock_same hb2 _,hfit,?_,g.low,?_,?_,?_⟩,hm3⟩
 ·have e1:es'.size=((es'.toList.map (rg Tryz.prog 108 R15)).foldr DataW.insert []).length:=by rw [(sorted_perm _).length_eq];simp
  rw [e1,hput,putKey,(WideShapes.insert_perm _ _).length_eq,List.length_cons]
  have e2:=List.length_filter_le (notKey (klOf l)) ((es.toList.map (rg Tryz.prog 108 R15)).foldr DataW.insert [])
  rw [(sorted_perm _).length_eq] at e2
  have e3:=g.size
  simp at e2
  omega
 ·intro x hx
  rcases hwho x hx with ⟨hx0,hne⟩ | ⟨hk,hv⟩
  ·obtain ⟨l',h0,h1,h2,h3⟩:=g.own x hx0
   have hll:l'≠l:=fun e=>hne (by rw [h1,e])
   refine ⟨l',h0,h1,by rw [if_neg hll];exact h2,?_⟩
   rw [if_neg hll]
   have k1:=hm1.owns h3 (fun k hk e=>by have a1:=(h3.lt k hk).1;have a2:=g.low;omega)
   have k2:=hm2.owns k1 (fun k hk e=>by
    rcases hap0 x hx0 hne with f | f
    ·rw [f] at hk;cases hk
    ·exact f (hk.trans e.symm))
   exact hm3.owns k2 (fun k hk e=>by have a1:=(h3.lt k hk).1;have a2:=g.low;omega)
  ·refine ⟨l,hl,hk,by rw [if_pos rfl];simp,?_⟩
   rw [if_pos rfl,hv]
   exact hm3.owns hown2 (fun k hk e=>by have a1:=(hown2.lt k hk).1;have a2:=g.low;omega)
 ·intro l' hne
  have key:∀p,p∈putKey (klOf l) (DataW.held v') ((es.toList.map (rg Tryz.prog 108 R15)).foldr DataW.insert [])→∃x∈es'.toList,keyOf Tryz.prog 108 x.key=some p.1:=fun p hp=>by
   rw [← hput,(sorted_perm _).mem_iff] at hp
   obtain ⟨x,hx,rfl⟩:=List.mem_map.1 hp
   obtain ⟨y,hy⟩:=hfit.reads x hx
   exact ⟨x,hx,by rw [rg_of hy];exact rd_key hy⟩
  by_cases e:l'=l
  ·subst e
   obtain ⟨x,hx,hk⟩:=key (klOf l',.held v') (mem_insert_iff.2 (Or.inl rfl))
   exact ⟨x,hx,keyedLab15.inj hk (keyOf_lab hl)⟩
  ·rw [if_neg e] at hne
   obtain ⟨x,hx,hk⟩:=g.all l' hne
   obtain ⟨y,hy⟩:=g.fit.reads x hx
   have hkx:=rd_key hy
   have hmem:(rg Tryz.prog 108 R15 x)∈putKey (klOf l) (DataW.held v') ((es.toList.map (rg Tryz.prog 108 R15)).foldr DataW.insert []):=by
    refine mem_insert_iff.2 (Or.inr (List.mem_filter.2 ⟨(sorted_perm _).mem_iff.2 (List.mem_map.2 ⟨x,hx,rfl⟩),?_⟩))
    rw [Maps.notKey_iff (keyedLab15.key (keyOf_lab hl)),rg_of hy]
    intro e1
    rw [e1] at hkx
    have:=keyedLab15.inj hkx (keyOf_lab hl)
    rw [hk] at this
    exact e (labK_inj this)
   obtain ⟨x',hx',hk'⟩:=key _ hmem
   rw [rg_of hy] at hk'
   exact ⟨x',hx',by rw [← hk];exact keyedLab15.inj hk' hkx⟩
 ·have hnew:∀x∈es.toList,x.key≠labK l→x.val.ownBlock=none∨x.val.ownBlock≠v'.ownBlock:=by
   intro x hx hne
   cases hx':x.val.ownBlock with
   | none=>exact Or.inl rfl
   | some k=>
    refine Or.inr (fun e1=>?_)
    rcases hfr k e1.symm with f | f
    ·rcases hap0 x hx hne with e | e
     ·rw [hx'] at e;cases e
     ·exact e (hx'.trans f.symm)
    ·obtain ⟨l',_,_,_,h3⟩:=g.own x hx
     have:=(h3.lt k hx').2
     simp [setBlock] at f
     omega
  intro x hx y hy hne
  rcases hwho x hx with ⟨hx0,hxk⟩ | ⟨hxk,hxv⟩<;>rcases hwho y hy with ⟨hy0,hyk⟩ | ⟨hyk,hyv⟩
  ·exact g.apart x hx0 y hy0 hne
  ·rw [hyv];exact hnew x hx0 hxk
  ·rw [hxv]
   cases hv':v'.ownBlock with
   | none=>exact Or.inl rfl
   | some k=>
    refine Or.inr (fun e1=>?_)
    rcases hnew y hy0 hyk with f | f
    ·rw [f] at e1;cases e1
    ·exact f (by rw [hv',e1])
  ·exact absurd (hxk.trans hyk.symm) hne
end Go.Proofs.YtdcgbgecbeegmaaGreatDoor
end
section
set_option maxRecDepth 20000
namespace Go.Proofs.YtdcgbgecbeegmaaGreatDoor
open Go Go.RowKit Go.Maps
open Go.WideElems (Fit rd rg rd_key rd_val rg_of rd_mk)
structure MapOf (w0:World) (base N:Nat) (F:Lab→List Int) (D:DataW Value):Prop where
 has:∀x,LabFits x→(Maps.has D (klOf x)=true↔F x≠[])
 at_:∀(x:Lab) (c:Value),LabFits x→(∀zd,D.atKey (klOf x) zd = .held c)→F x≠[]∧w0.ownsRow base 3 1 c (F x).length (i64s (F x))
theorem Grp.mapOf {w:World} {b base N:Nat} {F:Lab→List Int} (h:Grp w b base N F):∃D,w.ownsMap Tryz.prog 108 R15 b N D∧MapOf w base N F D:=by
 obtain ⟨es,clock,g⟩:=h
 have ht : Tryz.prog.underlying 161 = some (.map 108 59):=Tryz.underlying161
 have look:=fun (x:Lab) (hx:LabFits x)=>Maps.fit_look (w:=w) false keyedLab15 ht (Tryz.zeroValue59 w) g.blk g.fit (keyOf_lab hx)
 refine ⟨_,⟨es,clock,g.blk,g.fit,g.size,rfl⟩,⟨fun x hx=>?_,fun x c hx hat=>?_⟩⟩
 ·rcases look x hx with ⟨_,hno,hat⟩ | ⟨e0,y,he0,hk,_,_,hat,_⟩
  ·have hf:=has_false_of_atKey hat
   constructor
   ·intro e;rw [hf] at e;cases e
   ·intro e
    obtain ⟨x',hx',hk⟩:=g.all x e
    exact absurd hk (hno x' hx')
  ·have hf:=has_true_of_atKey hat
   refine ⟨fun _=>?_,fun _=>hf⟩
   obtain ⟨l,_,h1,h2,_⟩:=g.own e0 he0
   obtain rfl:=labK_inj (hk.symm.trans h1)
   exact h2
 ·rcases look x hx with ⟨_,hno,hat2⟩ | ⟨e0,y,he0,hk,_,hR,hat2,_⟩
  ·have h1:=hat (.lit (.bool true))
   rw [hat2] at h1
   cases h1
  ·obtain ⟨l,_,h1,h2,h3⟩:=g.own e0 he0
   obtain rfl:=labK_inj (hk.symm.trans h1)
   refine ⟨h2,?_⟩
   have e1:=hat .nil
   rw [hat2,(R15_inv hR).1] at e1
   simp only [DataW.held.injEq] at e1
   rw [← e1]
   exact h3
theorem mods_grown15 {w w':World} {row:Option Nat} (h:Mods (fun k=>row=some k) w w'):w.grownBy w' row:=
 ⟨h.os,h.tape,h.output,h.size,fun k hk hn=>h.block k hk (fun e=>hn e.symm)⟩
theorem EnAt.turned {t:TypeId} {S:Nat→Prop} {w wr w1:World} {M:List EntV} {v:Value} (k:EnAt t w wr M v) (hm:Mods S wr w1) (hv:∀j,v.ownBlock=some j→¬S j) (hs:∀p∈M,∀j,p.2.ownBlock=some j→¬S j) (hw:∀j,j<w.heap.size→¬S j):EnAt t w w1 M v:=
 ⟨hm.owns k.row hv,k.bel.trans (hm.below k.bel.size hw),fun p hp=>⟨(k.ser p hp).1.mods hm (hs p hp),(k.ser p hp).2⟩⟩
def ColE (D:DataW Value) (left:Lit→Bool) (ss:List Lab):Prop:=ss.Nodup∧(∀x∈ss,LabFits x)∧∀x,LabFits x→(x∈ss↔(Maps.has D (klOf x)=true∧left (klOf x)=false))
theorem ColE.start (D:DataW Value):ColE D (Maps.has D) []:=⟨List.nodup_nil,fun x h=>(by cases h),fun x _=>by cases Maps.has D (klOf x)<;>simp⟩
theorem ColE.step {D:DataW Value} {left:Lit→Bool} {ss:List Lab} (h:ColE D left ss) {x:Lab} {y:DataW Value} (hx:LabFits x) (hlk:left (klOf x)=true) (hat:∀zd,D.atKey (klOf x) zd=y):ColE D (fun z=>left z && !z.sameKey (klOf x)) (ss++[x]):=by
 have hhas:Maps.has D (klOf x)=true:=has_true_of_atKey hat
 have hnew:x∉ss:=fun hm=>by have:=((h.2.2 x hx).1 hm).2;rw [hlk] at this;cases this
 have hself:(klOf x).sameKey (klOf x)=true:=WideAt.sameKey_self (keyedLab15.key (keyOf_lab hx))
 refine ⟨List.nodup_append.2 ⟨h.1,by simp,fun a ha b hb=>by simp at hb;subst hb;exact fun e=>hnew (e ▸ ha)⟩,fun z hz=>?_,fun z hz=>?_⟩
 ·rcases List.mem_append.1 hz with e | e
  ·exact h.2.1 z e
  ·simp at e;subst e;exact hx
 ·by_cases e:z=x
  ·subst e;simp [hhas,hself]
  ·have hs:(klOf z).sameKey (klOf x)=false:=by
    cases hc:(klOf z).sameKey (klOf x) with
    | false=>rfl
    | true=>exact absurd (klOf_inj hz hx (WideAt.sameKey_eq hc)) e
   simp [h.2.2 z hz,e,hs]
theorem ColE.mem {w0:World} {base N:Nat} {F:Lab→List Int} {D:DataW Value} {left:Lit→Bool} {ss:List Lab} (h:ColE D left ss) (hk:MapOf w0 base N F D) (hl:∀kl,left kl=false) (hf:∀x,F x≠[]→LabFits x) (x:Lab):x∈ss↔F x≠[]:=by
 constructor
 ·intro hx
  have h1:=h.2.1 x hx
  exact (hk.has x h1).1 ((h.2.2 x h1).1 hx).1
 ·intro hx
  have h1:=hf x hx
  exact (h.2.2 x h1).2 ⟨(hk.has x h1).2 hx,hl _⟩
theorem posTo_ne {l:List (List Lab)} {x:Lab}:posTo l l.length x≠[]↔x∈flatTo l l.length:=by
 constructor
 ·intro h
  exact Decidable.byContradiction fun hn=>h (posTo_none hn)
 ·intro h hn
  rw [flatTo,List.take_length] at h
  obtain ⟨s,hs,hx⟩:=List.mem_flatten.1 h
  obtain ⟨j,hj,rfl⟩:=List.getElem_of_mem hs
  have hm:(j:Int)∈posTo l l.length x:=(posTo_mem _ _ _ _).2 ⟨j,rfl,hj,by rwa [List.getD_eq_getElem?_getD,List.getElem?_eq_getElem hj]⟩
  rw [hn] at hm
  cases hm
theorem built {m:List (List Lab)} {M:List EntV} (hs:M.Pairwise (fun a b=>ltE b.1.1 a.1.1=false)) (hn:(M.map fun p=>p.1.1).Nodup) (hm:∀x,x∈(M.map fun p=>p.1.1)↔posTo m m.length x≠[]) (hF:∀p∈M,p.1.2=posTo m m.length p.1.1):M.map Prod.fst=buildP m:=by
 have ha:AscB ltE (M.map fun p=>p.1.1):=by
  refine List.pairwise_map.2 ?_
  have hn':=List.pairwise_map.1 hn
  exact (hs.and hn').imp fun {a b} h=>by
   rcases Bool.eq_false_or_eq_true (ltE a.1.1 b.1.1) with e | e
   ·exact e
   ·exact absurd (ltE_ok.tot _ _ e h.1) h.2
 have hT:(M.map fun p=>p.1.1)=tabB ltE (flatTo m m.length):=ascB_ext ltE_ok.toLtPre _ _ ha (tabB_asc ltE_ok _) (fun x=>by rw [hm x,posTo_ne,tabB_mem ltE_ok])
 rw [build_idx,idxP,idxTo,← hT,List.map_map]
 refine List.map_congr_left fun p hp=>?_
 show p.1=(p.1.1,posTo m m.length p.1.1)
 rw [← hF p hp]
def rowsTo (m:List (List Lab)) (k:Nat) (s:List Lab) (j:Nat) (x:Lab):List Int:=posTo m k x++if x∈s.take j then [(k:Int)] else []
theorem rowsTo_zero (m:List (List Lab)) (k:Nat) (s:List Lab) (x:Lab):posTo m k x=rowsTo m k s 0 x:=by simp [rowsTo]
theorem rowsTo_step {m:List (List Lab)} {k j:Nat} {s:List Lab} {x:Lab} (hn:s.Nodup) (hx:s[j]? = some x) (y:Lab):(if y=x then rowsTo m k s j x++[(k:Int)] else rowsTo m k s j y)=rowsTo m k s (j+1) y:=by
 have hnew:x∉s.take j:=fun hm=>by
  obtain ⟨i,hi,e⟩:=List.mem_take_iff_getElem.1 hm
  obtain ⟨hj,e2⟩:=List.getElem?_eq_some_iff.1 hx
  exact List.pairwise_iff_getElem.1 hn i j (by omega) hj (by omega) (e.trans e2.symm)
 have hmem:∀z,z∈s.take (j+1)↔z∈s.take j∨z=x:=fun z=>by rw [List.take_add_one,hx];simp
 unfold rowsTo
 by_cases e:y=x
 ·subst e
  rw [if_pos rfl,if_neg hnew,if_pos ((hmem y).2 (Or.inr rfl)),List.append_nil]
 ·rw [if_neg e]
  have:y∈s.take (j+1)↔y∈s.take j:=by rw [hmem];simp [e]
  simp only [this]
theorem rowsTo_end {m:List (List Lab)} {k:Nat} {s:List Lab} (hs:m[k]? = some s) (j:Nat) (hj:s.length≤j) (x:Lab):rowsTo m k s j x=posTo m (k+1) x:=by
 rw [rowsTo,List.take_of_length_le hj,posTo_succ,List.getD_eq_getElem?_getD,hs];rfl
theorem rowsTo_len (m:List (List Lab)) (k:Nat) (s:List Lab) (j:Nat) (x:Lab):(rowsTo m k s j x).length≤k+1:=by
 have h:(posTo m k x).length≤k:=by
  rw [posTo,List.length_map]
  exact Nat.le_trans (List.length_filter_le _ _) (by rw [List.length_range];exact Nat.le_refl _)
 unfold rowsTo
 rw [List.length_append]
 split
 ·simp;exact h
 ·simp;omega
theorem flatTo_len {m:List (List Lab)} {k:Nat} {s:List Lab} (hs:m[k]? = some s):(flatTo m (k+1)).length=(flatTo m k).length+s.length:=by
 rw [flatTo_succ (List.getElem?_eq_some_iff.1 hs).1,List.length_append,List.getD_eq_getElem?_getD,hs];rfl
theorem flatTo_le (m:List (List Lab)) (k:Nat):(flatTo m k).length≤m.flatten.length:=by
 have:m.flatten=flatTo m k++(m.drop k).flatten:=by rw [flatTo,← List.flatten_append,List.take_append_drop]
 rw [this,List.length_append];omega
section
variable {P:Program} {ops:Array Oper} {rest:List Oper} {o:Oper} {a:Act} {Q:Exit→Act→World→Prop}
theorem wpList_mapEntry15 {w w':World} (hg:o.guard=none) (m x:Operand) (t:TypeId) (hop:o.op=Op.mapEntry t m x) {b:Nat} {key v:Value} (hrun:(Instr.mapEntry t (.map (some b)) key).run P w = .ok v w') (hm:a.eval m = .map (some b)) (hx:a.eval x=key)
  (h:wpList P ops Q rest (a.put o.dst v) w'):wpList P ops Q (o::rest) a w:=by
 refine wpList_plain hg fun K' hK'=>?_
 unfold Oper.wp
 simp [execOp,hop,hm,hx,hrun,Result.andThen]
 exact hK' _ _ h
end
end Go.Proofs.YtdcgbgecbeegmaaGreatDoor
end
