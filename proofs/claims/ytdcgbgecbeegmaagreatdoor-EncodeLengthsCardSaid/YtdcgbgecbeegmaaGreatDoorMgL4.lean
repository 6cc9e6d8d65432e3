/- Texts 4. -/
import Derived.Test.YtdcgbgecbeegmaaGreatDoorMgL2
import Derived.Test.YtdcgbgecbeegmaaGreatDoorMgL3
import Derived.Test.YtdcgbgecbeegmaaGreatDoorMgL1
import Derived.ProofKit
import Derived.OpenShut
import Derived.Deep.Slices
import Derived.SizedLaws
import Derived.RegionTactic
import Derived.Laws.Slices
import Derived.ChangeKeysEq
import Derived.OrdersHeld
set_option linter.unusedVariables false
set_option linter.unusedSimpArgs false
section
namespace Go.Proofs.YtdcgbgecbeegmaaGreatDoor
open Go Go.RowKit
theorem samCells_two (l:List Sam):samCells l=two (fun x:Sam=>Value.int .i64 x.1) (fun x:Sam=>Value.int .u64 (x.2:Int)) l:=rfl
def SerAt (w:World) (h:Value × Value) (s:Ser):Prop:=Rd w 2 h.1 s.1.length (labCells s.1)∧Rd w 2 h.2 s.2.length (samCells s.2)
theorem SerAt.below {w w':World} {h:Value × Value} {s:Ser} (k:SerAt w h s) (hb:Below w.heap.size w w'):SerAt w' h s:=⟨k.1.below hb,k.2.below hb⟩
structure RdB (w:World) (v:Value) (b:List Ser):Prop where
 ex:∃hs:List (Value × Value),Rd w 2 v hs.length (two Prod.fst Prod.snd hs)∧hs.length=b.length∧∀(i:Nat) (h:Value × Value) (s:Ser),hs[i]? = some h→b[i]? = some s→SerAt w h s
theorem RdB.below {w w':World} {v:Value} {b:List Ser} (k:RdB w v b) (hb:Below w.heap.size w w'):RdB w' v b:=by
 obtain ⟨hs,h1,h2,h3⟩:=k.ex
 exact ⟨hs,h1.below hb,h2,fun i h s hi hj=>(h3 i h s hi hj).below hb⟩
theorem RdB.shape {w:World} {v:Value} {b:List Ser} (k:RdB w v b):∃p c,v = .slice p b.length c:=by
 obtain ⟨hs,h1,h2,_⟩:=k.ex
 rw [← h2]
 exact h1.shape
theorem RdB.le {w:World} {v:Value} {b:List Ser} (k:RdB w v b):b.length≤maxLen:=by
 obtain ⟨hs,h1,h2,_⟩:=k.ex
 rw [← h2]
 exact h1.le
theorem RdB.at {w:World} {p:Option Addr} {n c:Nat} {b:List Ser} (k:RdB w (.slice p n c) b) {i:Nat} {s:Ser} (hi:b[i]? = some s) :
  ∃blk off h1 h2,p=some ⟨blk,off,none⟩∧w.cell? ⟨blk,off+i*2,none⟩=some h1∧w.cell? ⟨blk,off+i*2+1,none⟩=some h2∧SerAt w (h1,h2) s:=by
 obtain ⟨hs,h1,h2,h3⟩:=k.ex
 have hlt:=(List.getElem?_eq_some_iff.1 hi).1
 obtain ⟨h,hh⟩:∃h,hs[i]? = some h:=⟨_,List.getElem?_eq_getElem (by omega)⟩
 obtain ⟨p',c',e⟩:=h1.shape
 simp only [Value.slice.injEq] at e
 obtain ⟨rfl,rfl,rfl⟩:=e
 obtain ⟨blk,off,rfl⟩:=rd2_at h1 hh
 obtain ⟨c1,c2⟩:=rd2_cell h1 hh
 exact ⟨blk,off,h.1,h.2,rfl,c1,c2,h3 i h s hh hi⟩
theorem RdB.always {w:World} {p:Option Addr} {n c:Nat} {b:List Ser} (k:RdB w (.slice p n c) b) {i:Nat} {s:Ser} (hi:b[i]? = some s) :
  ∃blk off h1 h2,p=some ⟨blk,off,none⟩∧(∃p1 c1,h1 = .slice p1 s.1.length c1)∧(∃p2 c2,h2 = .slice p2 s.2.length c2)∧
   ∀w',Below w.heap.size w w'→w'.cell? ⟨blk,off+i*2,none⟩=some h1∧w'.cell? ⟨blk,off+i*2+1,none⟩=some h2∧SerAt w' (h1,h2) s:=by
 obtain ⟨blk,off,h1,h2,e,c1,c2,hs⟩:=k.at hi
 exact ⟨blk,off,h1,h2,e,hs.1.shape,hs.2.shape,fun w' hb=>⟨(hb.cell (World.block_lt_of_cell? w _ c1)).trans c1,(hb.cell (World.block_lt_of_cell? w _ c2)).trans c2,hs.below hb⟩⟩
def SerSized (s:Ser):Prop:=(∀x∈s.1,x.1.size≤9223372036854775807∧x.2.size≤9223372036854775807)∧∀x∈s.2,sampleOk x
def Sized (b:List Ser):Prop:=∀s∈b,SerSized s
structure Small (b:List Ser):Prop where
 len:b.length≤300
 sam:samplesB b≤3000
 lab:∀s∈b,s.1.length≤200
theorem Small.mem {b:List Ser} (h:Small b) {s:Ser} (hs:s∈b):s.2.length≤3000:=Nat.le_trans (samplesB_mem hs) h.sam
structure Mid (b:List Ser):Prop where
 len:b.length≤20000
 sam:samplesB b≤1000000
 flat:(b.map Prod.fst).flatten.length≤60000
theorem flat_mem17 {α:Type} {l:List (List α)} {x:List α} (h:x∈l):x.length≤l.flatten.length:=by
 induction l with
 | nil=>cases h
 | cons y l ih=>
  rw [List.flatten_cons,List.length_append]
  rcases List.mem_cons.1 h with rfl | h
  ·omega
  ·have:=ih h;omega
theorem Mid.lab {b:List Ser} (h:Mid b):∀s∈b,s.1.length≤60000:=fun s hs=>Nat.le_trans (flat_mem17 (List.mem_map.2 ⟨s,hs,rfl⟩)) h.flat
theorem Mid.mem {b:List Ser} (h:Mid b) {s:Ser} (hs:s∈b):s.2.length≤1000000:=Nat.le_trans (samplesB_mem hs) h.sam
theorem Small.mid {b:List Ser} (h:Small b):Mid b:=by
 have key:∀(b:List Ser),(∀s∈b,s.1.length≤200)→(b.map Prod.fst).flatten.length≤b.length*200:=by
  intro b
  induction b with
  | nil=>intro _;simp
  | cons s b ih=>
   intro h
   rw [List.map_cons,List.flatten_cons,List.length_append,List.length_cons]
   have:=h s (by simp)
   have:=ih (fun t ht=>h t (by simp [ht]))
   omega
 have h1:=key b h.lab
 have h2:=h.len
 exact ⟨by omega,by have:=h.sam;omega,by omega⟩
end Go.Proofs.YtdcgbgecbeegmaaGreatDoor
end
section
set_option maxRecDepth 20000
namespace Go.Proofs.YtdcgbgecbeegmaaGreatDoor
open Go Go.RowKit
theorem drewN_two (w:World) (m n:Nat):(w.drewN m).drewN n=w.drewN (m+n):=World.drewN_drewN ..
theorem samplesB_step {b:List Ser} {i:Nat} {s:Ser} (h:b[i]? = some s):samplesB (b.take (i+1))=samplesB (b.take i)+s.2.length:=by
 rw [List.take_add_one,h,samplesB_append];simp [samplesB]
theorem ref_samples12 (bv:Value) (b:List Ser) (w:World) (h:RdB w bv b) (hn:b.length≤1000000) (hs:samplesB b≤1000000000) :
  Calls Tryz.prog 68 #[bv] w fun e w'=>e = .returned (.int .i64 (samplesB b:Int))∧w'=w:=by
 have H:=Lib.hid h;have HS:=Lib.hid hs
 obtain ⟨p,c,hv⟩:=h.shape
 subst hv
 have hmx:(b.length:Int)≤1000000:=by omega
 clear h hs hn
 go_enter Tryz.func68,Tryz.ntmps68
 go_wp2_with fail
 go_loop [3,4] (fun nv iv=>∃(i N:Nat),i≤b.length∧iv = .int .i64 (i:Int)∧nv = .int .i64 (N:Int)∧Hid (samplesB (b.take i)=N)) (fun _ iv=>b.length-(intOf iv).toNat)
 case atStart=>exact ⟨0,0,Nat.zero_le _,rfl,rfl,by show _=_;simp [samplesB]⟩
 case round=>
  obtain ⟨i,N,hi,rfl,rfl,HN⟩:=hrel
  have him:(i:Int)≤1000000:=by omega
  have hNm:(N:Int)≤1000000000:=by have:=HN.out;have:=samplesB_take_le b i;have:=HS.out;omega
  by_cases hlt:i<b.length
  ·have hlt':(i:Int)<(b.length:Int):=by omega
   obtain ⟨s,hx⟩:∃s,b[i]? = some s:=⟨_,List.getElem?_eq_getElem hlt⟩
   obtain ⟨blk,off,h1,h2,e,c1,c2,hsr⟩:=H.out.at hx
   subst e
   obtain ⟨p2,k2,e⟩:=hsr.2.shape
   simp only at e
   subst e
   have HN2:Hid (samplesB (b.take (i+1))=N+s.2.length):=by show _=_;rw [samplesB_step hx,HN.out]
   have hsum:(N:Int)+(s.2.length:Int)≤1000000000:=by have:=HN2.out;have:=samplesB_take_le b (i+1);have:=HS.out;omega
   clear hx hsr c1
   generalize s.2.length=m at *
   go_wp2_with fail
   go_round
   case rel=>exact ⟨i+1,N+m,by omega,by go_num,by go_num,HN2.out⟩
   case measure=>simp [intOf];omega
  ·have hlt':¬(i:Int)<(b.length:Int):=by omega
   have HE:Hid (samplesB b=N):=by have:=HN.out;rw [List.take_of_length_le (by omega)] at this;exact this
   go_wp2_with fail
   go_ret
   exact ⟨by rw [HE.out];rfl,rfl⟩
theorem ref_large12 (bv:Value) (b:List Ser) (w:World) (h:RdB w bv b) (hs:Mid b) :
  Calls Tryz.prog 29 #[bv] w fun e w'=>e = .returned (.bool false)∧w'=w:=by
 have HS:=Lib.hid (ref_samples12 bv b w h (by have:=hs.len;omega) (by have:=hs.sam;omega))
 obtain ⟨p,c,hv⟩:=h.shape
 subst hv
 have h1:¬(1048576:Int)<(b.length:Int):=by have:=hs.len;omega
 have h2:¬(16777216:Int)<(samplesB b:Int):=by have:=hs.sam;omega
 clear h hs
 generalize samplesB b=N at *
 go_enter Tryz.func29,Tryz.ntmps29
 go_wp2_with fail
 refine HS.out.mono ?_
 rintro e w1 ⟨rfl,rfl⟩
 have hd:decide ((16777216:Int)<(N:Int))=false:=decide_eq_false (by omega)
 clear h2
 go_wp2_with fail
 go_ret
 exact ⟨by simp,rfl⟩
theorem times_step {l:List Sam} {i:Nat} {x y:Sam} (hx:l[i]? = some x) (hy:l[i+1]? = some y) (h:timesL l=timesFrom x.1 (l.drop (i+1))) :
  timesL l=if y.1=x.1 then 20 else if y.1<x.1 then 16 else timesFrom y.1 (l.drop (i+2)):=by
 have hd:l.drop (i+1)=y::l.drop (i+2):=by
  have:=List.drop_eq_getElem_cons (List.getElem?_eq_some_iff.1 hy).1
  rw [(List.getElem?_eq_some_iff.1 hy).2] at this
  exact this
 rw [h,hd,timesFrom]
set_option maxHeartbeats 1000000 in
theorem ref_times12 (lv:Value) (l:List Sam) (w:World) (h:Rd w 2 lv l.length (samCells l)) (hn:l.length≤1000000) :
  Calls Tryz.prog 31 #[lv] w fun e w'=>e = .returned (.int .i64 (timesL l:Int))∧∃q,w'=w.drewN q:=by
 have H:=Lib.hid h
 obtain ⟨p,c,hv⟩:=h.shape
 subst hv
 have hmx:(l.length:Int)≤1000000:=by omega
 clear h hn
 go_enter Tryz.func31,Tryz.ntmps31
 go_wp2_with fail
 go_loopw [3] (fun iv wr=>∃(i k q:Nat),i=k+1∧(i≤l.length∨k=0)∧iv = .int .i64 (i:Int)∧Hid (l=[]∨∃x,l[k]? = some x∧timesL l=timesFrom x.1 (l.drop i))∧wr=w.drewN q) (fun iv _=>l.length+1-(intOf iv).toNat)
 case atStart=>
  refine ⟨1,0,0,rfl,Or.inr rfl,rfl,?_,rfl⟩
  show _∨_
  cases l with
  | nil=>exact Or.inl rfl
  | cons x l=>exact Or.inr ⟨x,rfl,rfl⟩
 case round=>
  obtain ⟨i,k,q,hik,hi,rfl,HP,rfl⟩:=hrel
  by_cases hlt:i<l.length
  ·have hlt':(i:Int)<(l.length:Int):=by omega
   have hi1:(i:Int)-1=(k:Int):=by omega
   have hkl:(k:Int)<(l.length:Int):=by omega
   obtain ⟨x,hx,hT⟩:∃x,l[k]? = some x∧timesL l=timesFrom x.1 (l.drop i):=by
    rcases HP.out with e | e
    ·rw [e] at hlt;simp at hlt
    ·exact e
   obtain ⟨y,hy⟩:∃y,l[i]? = some y:=⟨_,List.getElem?_eq_getElem hlt⟩
   have HSt:Hid (timesL l=if y.1=x.1 then 20 else if y.1<x.1 then 16 else timesFrom y.1 (l.drop (i+1))):=by
    subst hik
    exact times_step hx hy hT
   obtain ⟨b0,o0,e⟩:=rd2_at (samCells_two l ▸ H.out) hx
   subst e
   have cx:=(rd2_cell (samCells_two l ▸ H.out) hx).1
   have cy:=(rd2_cell (samCells_two l ▸ H.out) hy).1
   have cx':(w.drewN q).cell? ⟨b0,o0+k*2,none⟩=some (.int .i64 x.1):=cx
   have cy':(w.drewN q).cell? ⟨b0,o0+i*2,none⟩=some (.int .i64 y.1):=cy
   have HY:=Lib.hid hy
   have HIK:=Lib.hid hik
   clear hx hT hy HP hik hi cx cy
   obtain ⟨x1,x2⟩:=x
   obtain ⟨y1,y2⟩:=y
   simp only at cx' cy' HSt
   obtain ⟨wq,hwq⟩:∃wq,w.drewN q=wq:=⟨_,rfl⟩
   have HWq:=Lib.hid hwq
   rw [hwq] at cx' cy' ⊢
   clear hwq
   by_cases e1:y1=x1
   ·have HR:Hid (timesL l=20):=by have:=HSt.out;rw [if_pos e1] at this;exact this
    subst e1
    go_wp2_with fail
    go_quiet (fail)
    have HW2:Hid (∃q,wq.drewN nq=w.drewN q):=⟨q+nq,by rw [← HWq.out,drewN_two]⟩
    clear cx' cy'
    generalize wq.drewN nq=w2 at *
    go_wp2_with fail
    go_ret
    exact ⟨by rw [HR.out];rfl,HW2.out⟩
   ·have he1:(y1 == x1)=false:=by rw [beq_eq_false_iff_ne];exact e1
    have HSt2:Hid (timesL l=if y1<x1 then 16 else timesFrom y1 (l.drop (i+1))):=by have:=HSt.out;rw [if_neg e1] at this;exact this
    clear HSt
    go_wp2_with fail
    go_quiet (fail)
    have HW2:Hid (∃q,wq.drewN nq=w.drewN q):=⟨q+nq,by rw [← HWq.out,drewN_two]⟩
    have cx2:(wq.drewN nq).cell? ⟨b0,o0+k*2,none⟩=some (.int .i64 x1):=cx'
    have cy2:(wq.drewN nq).cell? ⟨b0,o0+i*2,none⟩=some (.int .i64 y1):=cy'
    clear cx' cy' e1 he1 HWq
    generalize wq.drewN nq=w2 at *
    by_cases e2:y1<x1
    ·have HR:Hid (timesL l=16):=by have:=HSt2.out;rw [if_pos e2] at this;exact this
     clear HSt2
     go_wp2_with fail
     go_quiet (fail)
     have HW3:Hid (∃q,w2.drewN nq=w.drewN q):=by obtain ⟨q,hq⟩:=HW2.out;exact ⟨q+nq,by rw [hq,drewN_two]⟩
     clear cx2 cy2 HW2
     generalize w2.drewN nq=w3 at *
     go_wp2_with fail
     go_ret
     exact ⟨by rw [HR.out];rfl,HW3.out⟩
    ·have HR:Hid (timesL l=timesFrom y1 (l.drop (i+1))):=by have:=HSt2.out;rw [if_neg e2] at this;exact this
     clear HSt2
     go_wp2_with fail
     go_quiet (fail)
     obtain ⟨q3,hq3⟩:∃q,w2.drewN nq=w.drewN q:=by obtain ⟨q,hq⟩:=HW2.out;exact ⟨q+nq,by rw [hq,drewN_two]⟩
     have HQ3:=Lib.hid hq3
     clear cx2 cy2 HW2 hq3
     generalize w2.drewN nq=w3 at *
     go_wp2_with fail
     go_roundw
     case rel=>exact ⟨i+1,i,q3,rfl,Or.inl (by omega),by go_num,Or.inr ⟨_,HY.out,HR.out⟩,HQ3.out⟩
     case measure=>simp [intOf];omega
  ·have hlt':¬(i:Int)<(l.length:Int):=by omega
   have HE:Hid (timesL l=0):=by
    rcases HP.out with e | ⟨x,_,e⟩
    ·show _=_;rw [e];rfl
    ·show _=_;rw [e,List.drop_of_length_le (by omega)];rfl
   clear hik hi
   obtain ⟨wq,hwq⟩:∃wq,w.drewN q=wq:=⟨_,rfl⟩
   have HWq:=Lib.hid hwq
   rw [hwq]
   clear hwq
   go_wp2_with fail
   go_ret
   exact ⟨by rw [HE.out];rfl,q,HWq.out.symm⟩
abbrev OwnL:=Own2 108 (fun x:Lab=>Value.string x.1) (fun x:Lab=>Value.string x.2)
theorem empty_size (n:ByteArray):n.toList.isEmpty=decide (n.size=0):=by
 rw [ByteArray.toList_eq]
 cases n with
 | mk d=>cases d with
  | mk l=>cases l<;>simp [ByteArray.size]
end Go.Proofs.YtdcgbgecbeegmaaGreatDoor
end
section
namespace Go.Proofs.YtdcgbgecbeegmaaGreatDoor
open Go Go.RowKit
theorem strs_one (l:List ByteArray):∀u∈strs l,u.oneCell'=true:=by
 intro u hu
 simp only [strs,List.mem_map] at hu
 obtain ⟨n,_,rfl⟩:=hu
 rfl
theorem Tryz.infoStr:(Tryz.prog.info? 9).map (fun i=>(i.zero,i.size,i.bytes))=some (some (.string ⟨#[]⟩),1,16):=by kernel_rfl
theorem Tryz.elemStr:Elem Tryz.prog 44 9 1 16:=Elem.mk' Tryz.underlying44 Tryz.infoStr rfl (by decide)
end Go.Proofs.YtdcgbgecbeegmaaGreatDoor
end
section
namespace Go.Proofs.YtdcgbgecbeegmaaGreatDoor
open Go Go.RowKit Go.ChangeShapes
def Flat (P:Program) (e:TypeId) (sz:Nat) {α:Type} (f:α→List Value) (ok:α→Prop):Prop:=
 P.cellsOf e=sz∧∀(H:Type) (enc:TypeId × Value→H) (w:World) (base:Nat) (spare:Nat→Bool) (held:Bool) (fuel:Nat) (cs:List Value) (x:DataW H × List MemPlace),
  DataW.trod enc P w base spare held fuel e cs=some x→∃a,ok a∧cs=f a
theorem Flat.map {P:Program} {e:TypeId} {sz:Nat} {α β:Type} {f:α→List Value} {ok:α→Prop} (h:Flat P e sz f ok) {g:β→List Value} {ok':β→Prop} (hm:∀a,ok a→∃b,ok' b∧f a=g b):Flat P e sz g ok':=
 ⟨h.1,fun H enc w base spare held fuel cs x hx=>by
  obtain ⟨a,ha,rfl⟩:=h.2 H enc w base spare held fuel cs x hx
  exact hm a ha⟩
theorem flat_int {P:Program} {e:TypeId} {k:IntKind} (he:P.underlying e=some (.int k)) (hc:P.cellsOf e=1):Flat P e 1 (fun z:Int=>[Value.int k z]) (fun z=>(Lit.int k z).wf=true):=
 ⟨hc,fun H enc w base spare held fuel cs x hx=>by
  obtain ⟨n,rfl,_,hw⟩:=DataW.trod_int he hx
  exact ⟨n,hw,rfl⟩⟩
theorem flat_string {P:Program} {e:TypeId} (he:P.underlying e=some .string) (hc:P.cellsOf e=1):Flat P e 1 (fun s:ByteArray=>[Value.string s]) (fun s=>s.size≤maxLen):=
 ⟨hc,fun H enc w base spare held fuel cs x hx=>by
  obtain ⟨s,rfl,_,hs⟩:=DataW.trod_string he hx
  exact ⟨s,hs,rfl⟩⟩
theorem flat_struct2 {P:Program} {e:TypeId} {f0 f1:Field} {s0 s1:Nat} {α β:Type} {g0:α→List Value} {g1:β→List Value} {k0:α→Prop} {k1:β→Prop}
  (he:P.underlying e=some (.struct #[f0,f1])) (hc:P.cellsOf e=s0+s1) (o0:f0.offset=0) (o1:f1.offset=s0) (h0:Flat P f0.type s0 g0 k0) (h1:Flat P f1.type s1 g1 k1) :
  Flat P e (s0+s1) (fun a:α × β=>g0 a.1++g1 a.2) (fun a=>k0 a.1∧k1 a.2):=
 ⟨hc,fun H enc w base spare held fuel cs x hx=>by
  obtain ⟨y0,y1,n,_,hl,t0,t1⟩:=trod_struct2 he hx
  rw [o0,h0.1] at t0
  rw [o1,h1.1] at t1
  obtain ⟨a,ha,ea⟩:=h0.2 H enc w base spare held n _ _ t0
  obtain ⟨b,hb,eb⟩:=h1.2 H enc w base spare held n _ _ t1
  refine ⟨(a,b),⟨ha,hb⟩,?_⟩
  show cs=g0 a++g1 b
  rw [← ea,← eb]
  simp only [List.drop_zero]
  rw [List.take_of_length_le (l:=cs.drop s0) (by rw [List.length_drop,hl,hc];omega),List.take_append_drop]⟩
theorem cells_get {w:World} {base:Nat} {a:Addr} {n:Nat} {cs:List Value} (h:w.cells? base a n=some cs):cs.length=n∧∀(j:Nat) (u:Value),cs[j]? = some u→w.cell? (a.add j)=some u:=by
 unfold World.cells? at h
 split at h
 ·have key:∀(l:List Nat) (cs:List Value),l.mapM (fun i=>w.cell? (a.add i))=some cs→cs.length=l.length∧∀(j:Nat) (u:Value),cs[j]? = some u→∃i,l[j]? = some i∧w.cell? (a.add i)=some u:=by
   intro l
   induction l with
   | nil=>intro cs h;simp at h;subst h;simp
   | cons i l ih=>
    intro cs h
    rw [List.mapM_cons] at h
    simp only [Option.bind_eq_bind,Option.bind_eq_some_iff,Option.pure_def,Option.some.injEq] at h
    obtain ⟨x,hx,ys,hys,rfl⟩:=h
    obtain ⟨h1,h2⟩:=ih ys hys
    refine ⟨by simp [h1],fun j u hu=>?_⟩
    cases j with
    | zero=>simp at hu;subst hu;exact ⟨i,rfl,hx⟩
    | succ j=>simp at hu;obtain ⟨i',hi',hc⟩:=h2 j u hu;exact ⟨i',by simpa using hi',hc⟩
  obtain ⟨h1,h2⟩:=key _ _ h
  refine ⟨by simpa using h1,fun j u hu=>?_⟩
  obtain ⟨i,hi,hc⟩:=h2 j u hu
  rw [List.getElem?_range (by rcases Nat.lt_or_ge j n with hj | hj;exact hj;simp [List.getElem?_eq_none (show cs.length≤j by rw [h1];simpa using hj)] at hu)] at hi
  simp at hi
  subst hi
  exact hc
 ·cases h
theorem flatMap_get {α β:Type} {sz:Nat} (f:α→List β) (l:List α) (hf:∀a∈l,(f a).length=sz) (i k:Nat) (hk:k<sz) (u:β) (h:(l.flatMap f)[i*sz+k]? = some u):∃a,l[i]? = some a∧(f a)[k]? = some u:=by
 induction l generalizing i with
 | nil=>simp at h
 | cons a l ih=>
  have ha:=hf a (by simp)
  rw [List.flatMap_cons] at h
  cases i with
  | zero=>
   rw [Nat.zero_mul,Nat.zero_add,List.getElem?_append_left (by omega)] at h
   exact ⟨a,rfl,h⟩
  | succ i=>
   rw [List.getElem?_append_right (by rw [ha,Nat.add_mul];omega),ha,show (i+1)*sz+k-sz=i*sz+k by rw [Nat.add_mul];omega] at h
   obtain ⟨b,hb,hu⟩:=ih (fun a ha=>hf a (by simp [ha])) i h
   exact ⟨b,by simpa using hb,hu⟩
theorem flatMap_len {α β:Type} {sz:Nat} (f:α→List β) (l:List α) (hf:∀a∈l,(f a).length=sz):(l.flatMap f).length=l.length*sz:=by
 induction l with
 | nil=>simp
 | cons a l ih=>rw [List.flatMap_cons,List.length_append,hf a (by simp),ih (fun a ha=>hf a (by simp [ha])),List.length_cons,Nat.add_mul];omega
theorem flat_u64 {P:Program} {e:TypeId} (he:P.underlying e=some (.int .u64)) (hc:P.cellsOf e=1):Flat P e 1 (fun n:Nat=>[Value.int .u64 (n:Int)]) (fun n=>n<18446744073709551616):=
 (flat_int he hc).map fun z hz=>by
  have:=bounds_u64 hz
  exact ⟨z.toNat,by omega,by rw [Int.toNat_of_nonneg (by omega)]⟩
theorem flat_i64 {P:Program} {e:TypeId} (he:P.underlying e=some (.int .i64)) (hc:P.cellsOf e=1):Flat P e 1 (fun z:Int=>[Value.int .i64 z]) (fun z=>-9223372036854775808≤z∧z<9223372036854775808):=
 (flat_int he hc).map fun z hz=>by
  have:=bounds_i64 hz
  exact ⟨z,by omega,rfl⟩
end Go.Proofs.YtdcgbgecbeegmaaGreatDoor
end
section
namespace Go.Proofs.YtdcgbgecbeegmaaGreatDoor
open Go Go.RowKit
structure Own1 (t:TypeId) {α:Type} (f:α→Value) (w wr:World) (d:List α) (v:Value):Prop where
 row:wr.ownsRow w.heap.size t 1 v d.length (d.map f)
 bel:Below w.heap.size w wr
variable {t:TypeId} {α:Type} {f:α→Value}
theorem Own1.nil (w:World):Own1 t f w w [] (.slice none 0 0):=⟨World.ownsRow_nil _ _ _ _,Below.refl _ _⟩
theorem Own1.drewN {w wr:World} {d:List α} {v:Value} (h:Own1 t f w wr d v) (n:Nat):Own1 t f w (wr.drewN n) d v:=
 ⟨(Mods.drewN (fun _=>False) wr n).owns h.row (fun _ _ e=>e),h.bel.trans ((Mods.drewN (fun _=>False) wr n).below h.bel.size (fun _ _ e=>e))⟩
theorem Own1.below {w wr w1:World} {d:List α} {v:Value} (h:Own1 t f w wr d v) (hb:Below wr.heap.size wr w1):Own1 t f w w1 d v:=
 ⟨(Mods.of_below hb (fun _=>False)).owns h.row (fun _ _ e=>e),h.bel.trans (hb.mono h.bel.size)⟩
theorem Own1.pushed {w wr w1:World} {d:List α} {v v1:Value} {x:α} (h:Own1 t f w wr d v) (k:w1.ownsRow 0 t 1 v1 (d.length+1) (d.map f++[f x])) (m:Mods (fun k=>v.ownBlock=some k) wr w1) (hf:Fresh wr.heap.size v v1):Own1 t f w w1 (d++[x]) v1:=by
 refine ⟨?_,h.bel.trans (m.below h.bel.size (fun k hk e=>by have:=(h.row.lt k e).1;omega))⟩
 rw [List.length_append,List.map_append]
 refine owns_rebase k (fun k hk=>?_)
 rcases hf k hk with e | e
 ·exact (h.row.lt k e).1
 ·have:=h.bel.size;omega
theorem Own1.extended {w wr w1:World} {d e:List α} {v v1:Value} (h:Own1 t f w wr d v) (k:w1.ownsRow 0 t 1 v1 (d.length+e.length) (d.map f++e.map f)) (m:Mods (fun k=>v.ownBlock=some k) wr w1) (hf:Fresh wr.heap.size v v1):Own1 t f w w1 (d++e) v1:=by
 refine ⟨?_,h.bel.trans (m.below h.bel.size (fun k hk e=>by have:=(h.row.lt k e).1;omega))⟩
 rw [List.length_append,List.map_append]
 refine owns_rebase k (fun k hk=>?_)
 rcases hf k hk with e | e
 ·exact (h.row.lt k e).1
 ·have:=h.bel.size;omega
theorem Own1.shape {w wr:World} {d:List α} {v:Value} (h:Own1 t f w wr d v):∃p c,v = .slice p d.length c:=(Rd.of_owns h.row).shape
theorem Own1.rd {w wr:World} {d:List α} {v:Value} (h:Own1 t f w wr d v):Rd wr 1 v d.length (d.map f):=Rd.of_owns h.row
theorem Own1.base0 {w wr:World} {d:List α} {v:Value} (h:Own1 t f w wr d v):wr.ownsRow 0 t 1 v d.length (d.map f):=owns_rebase h.row (fun _ _=>Nat.zero_le _)
theorem Own1.stored {w wr:World} {d e:List α} {g n c i:Nat} {y:α} (h:Own1 t f w wr d (.slice (some ⟨g,0,none⟩) n c)) (he:d.set i y=e):Own1 t f w (wr.setCell ⟨g,i,none⟩ (f y)) e (.slice (some ⟨g,0,none⟩) n c):=by
 subst he
 have hn:n=d.length:=by
  obtain ⟨p,c',h'⟩:=(Rd.of_owns h.row).shape
  simp only [Value.slice.injEq] at h'
  exact h'.2.1
 subst hn
 have hm:Mods (fun k=>k=g) wr (wr.setCell ⟨g,i,none⟩ (f y)):=Mods.set _ _ _ _ (fun _=>rfl)
 have hg:=(h.row.lt g rfl).1
 refine ⟨?_,h.bel.trans (hm.below h.bel.size (fun k hk e=>by omega))⟩
 rw [List.length_set,List.map_set]
 exact (h.row.stored i _).1
theorem Own1.cell {w wr:World} {d:List α} {g n c i:Nat} (h:Own1 t f w wr d (.slice (some ⟨g,0,none⟩) n c)) (hi:i<d.length):wr.cell? ⟨g,i,none⟩=some (f d[i])∧wr.frozen? ⟨g,i,none⟩=false:=by
 have hn:n=d.length:=by
  obtain ⟨p,c',h'⟩:=(Rd.of_owns h.row).shape
  simp only [Value.slice.injEq] at h'
  exact h'.2.1
 subst hn
 refine ⟨?_,h.row.frozenAt _⟩
 rw [h.row.cellAt i (by omega)]
 simp [hi]
theorem rd1_cell {w:World} {b off c n:Nat} {d:List α} (h:Rd w 1 (.slice (some ⟨b,off,none⟩) n c) n (d.map f)) {i:Nat} (hi:i<d.length):w.cell? ⟨b,off+i,none⟩=some (f d[i]):=by
 obtain ⟨b2,o2,c2,e,_,_,hc⟩:=h.at (fun e=>by have:=congrArg List.length e;simp at this;subst this;simp at hi)
 simp only [Value.slice.injEq,Option.some.injEq,Addr.mk.injEq] at e
 obtain ⟨⟨rfl,rfl,_⟩,_,rfl⟩:=e
 exact hc i _ (by simp [hi])
theorem shift_setG (d:List α) (k:Nat) (y z:α) (hk:k≤d.length):(d.take k++y::d.drop k).set k z=d.take k++z::d.drop k:=by
 have hl:(d.take k).length=k:=by rw [List.length_take];omega
 rw [List.set_append_right _ _ (by omega),hl,Nat.sub_self,List.set_cons_zero]
theorem shift_eqG (d:List α) (k:Nat) (hk:k<d.length) (z:α) (hz:d[k]=z):d.take (k+1)++z::d.drop (k+1)=d.take k++z::d.drop k:=by
 have e:d.drop k=z::d.drop (k+1):=by rw [← hz,List.getElem_cons_drop]
 rw [List.take_add_one,List.getElem?_eq_getElem hk,hz,e,List.append_assoc]
 rfl
end Go.Proofs.YtdcgbgecbeegmaaGreatDoor
end
section
namespace Go.Proofs.YtdcgbgecbeegmaaGreatDoor
open Go Go.RowKit
def orderB (md:Region.Mode) (ops:Array Oper) (calls:List Nat):List Nat→Array Bool→Bool
 | [],listed=>(Region.ready md ops listed).isEmpty
 | i::rest,listed=>(if calls.contains i then Region.ready md ops listed == [i] else Region.free md ops listed i&&(Region.ready md ops listed).contains i)&&orderB md ops calls rest (listed.setIfInBounds i true)
def taken (l:List Oper) (L:List Nat):List (Nat × Oper):=L.map fun i=>(i,(l[i]?).getD { dst:=none,op:=.move (.tmp 0),type:=0,pos:= "",after:=#[],guard:=none })
theorem put_defers (a:Act) (d:Option Tmp) (v:Value):(a.put d v).defers=a.defers:=by cases d<;>rfl
section
variable {P:Program} {l:List Oper} {Q:Exit→Act→World→Prop} {md:Region.Mode} {calls:List Nat}
variable {ops:Array Oper}
end
end Go.Proofs.YtdcgbgecbeegmaaGreatDoor
end
section
namespace Go.Proofs.YtdcgbgecbeegmaaGreatDoor
open Go Go.RowKit
theorem Addr.add_add (ad:Addr) (i j:Nat):(ad.add i).add j=ad.add (i+j):=by
 unfold Addr.add
 by_cases hi:i=0
 ·simp [hi]
 ·by_cases hj:j=0
  ·simp [hi,hj]
  ·simp [hi,hj,Nat.add_assoc]
theorem Rd.from {w:World} {sz:Nat} {p:Option Addr} {n c:Nat} {vs:List Value} (h:Rd w sz (.slice p n c) n vs) (i:Nat) (hi:i≤n) :
  Rd w sz (sliced p i n c sz) (n-i) (vs.drop (i*sz)):=by
 obtain ⟨p',c',e,h1,h2,h3,h4,h5⟩:=h
 cases e
 refine ⟨_,_,rfl,by rw [List.length_drop,h1,Nat.sub_mul],by omega,by omega,?_,?_⟩
 ·intro hp
  split at hp
  ·obtain ⟨rfl,rfl⟩:=h4 hp;simp
  ·cases p with
   | none=>obtain ⟨rfl,rfl⟩:=h4 rfl;simp
   | some a=>simp at hp
 ·intro ad had j u hu
  rw [List.getElem?_drop] at hu
  split at had
  ·next hc=>
   have hlt:=(List.getElem?_eq_some_iff.1 hu).1
   rw [h1] at hlt
   have:n=i:=by omega
   subst this
   omega
  ·cases p with
   | none=>simp at had
   | some a=>
    simp only [Option.map_some,Option.some.injEq] at had
    subst had
    rw [Addr.add_add]
    exact h5 a rfl _ u hu
theorem Rd.upto {w:World} {sz:Nat} {p:Option Addr} {n c:Nat} {vs:List Value} (h:Rd w sz (.slice p n c) n vs) (i:Nat) (hi:i≤n) :
  Rd w sz (.slice p i c) i (vs.take (i*sz)):=by
 obtain ⟨p',c',e,h1,h2,h3,h4,h5⟩:=h
 cases e
 refine ⟨_,_,rfl,?_,by omega,by omega,fun e=>?_,?_⟩
 ·rw [List.length_take,h1]
  exact Nat.min_eq_left (Nat.mul_le_mul_right _ hi)
 ·obtain ⟨rfl,rfl⟩:=h4 e;exact ⟨by omega,rfl⟩
 ·intro ad had j u hu
  refine h5 ad had j u ?_
  rw [List.getElem?_take] at hu
  split at hu
  ·exact hu
  ·cases hu
theorem Rd.fromTo {w:World} {sz:Nat} {p:Option Addr} {n c:Nat} {vs:List Value} (h:Rd w sz (.slice p n c) n vs) (i k:Nat) (hi:i≤k) (hk:k≤n) :
  Rd w sz (sliced p i k c sz) (k-i) ((vs.take (k*sz)).drop (i*sz)):=(h.upto k hk).from i hi
section
variable {P:Program}
end
end Go.Proofs.YtdcgbgecbeegmaaGreatDoor
end
section
namespace Go.Proofs.YtdcgbgecbeegmaaGreatDoor
open Go Go.RowKit
def wpTakeH (P : Program) (ops : Array Oper) (Q : Exit → Act → World → Prop) (calls : List Nat) (S : World → Prop) : List (Nat × Oper) → Act → World → Prop
  | [], a, w => Q .normal a w
  | (i, o) :: rest, a, w => if Region.wanted o (yielded ops a.tmps) = true then
        (if calls.contains i = true then o.wp P a w (fun a' w' => S w' ∧ wpTakeH P ops Q calls S rest a' w') Q else ∃ v, (∀ w, S w → (execOp a.eval o).run P w = .ok (.value v) w) ∧ wpTakeH P ops Q calls S rest (a.put o.dst v) w)
      else wpTakeH P ops Q calls S rest (a.put o.dst undef) w
section
variable {P:Program} {l:List Oper} {Q:Exit→Act→World→Prop} {md:Region.Mode} {calls:List Nat} {S:World→Prop}
theorem wpAnyH_of_take (hs:Region.noSelect l.toArray=true) (hQ:∀c (a a':Act) w,a.defers=a'.defers→Q (.panic c) a w→Q (.panic c) a' w):∀(L:List Nat) (listed:Array Bool) (a:Act) (w:World) (fuel:Nat),L.length≤fuel→
  (∀i∈L,i<l.length)→orderB md l.toArray calls L listed=true→S w→wpTakeH P l.toArray Q calls S (taken l L) a w→wpAnyH P md l.toArray Q S fuel listed a w
 | [],listed,a,w,fuel,_,_,hB,_,h=>wpAnyH_done (by simpa [orderB] using hB) h fuel
 | i::rest,listed,a,w,0,hf,_,_,_,_=>by simp at hf
 | i::rest,listed,a,w,fuel+1,hf,hl,hB,hS,h=>by
  have hf':rest.length≤fuel:=by simpa using hf
  have hl':∀j∈rest,j<l.length:=fun j hj=>hl j (by simp [hj])
  have hi:i<l.length:=hl i (by simp)
  unfold orderB at hB
  rw [Bool.and_eq_true] at hB
  obtain ⟨h1,h2⟩:=hB
  have ho:l.toArray[i]? = some l[i]:=by simp [hi]
  have e:taken l (i::rest)=(i,l[i])::taken l rest:=by simp [taken,hi]
  rw [e] at h
  unfold wpTakeH at h
  generalize l[i]=o at *
  by_cases hc:calls.contains i=true
  ·rw [if_pos hc] at h1 h
   have hr:Region.ready md l.toArray listed=[i]:=by simpa using h1
   refine wpAnyH_all hr (by simp) (fun j hj=>?_)
   obtain rfl:j=i:=by simpa using hj
   unfold wpOp
   simp only [ho]
   split
   ·next hw=>
    rw [if_pos hw] at h
    exact .inl (Oper.wp_mono (fun a w h=>⟨h.1,wpAnyH_of_take hs hQ rest _ a w fuel hf' hl' h2 h.1 h.2⟩) h)
   ·next hw=>
    rw [if_neg hw] at h
    exact ⟨hS,wpAnyH_of_take hs hQ rest _ _ w fuel hf' hl' h2 hS h⟩
  ·rw [if_neg hc] at h1 h
   rw [Bool.and_eq_true] at h1
   by_cases hw:Region.wanted o (yielded l.toArray a.tmps)=true
   ·rw [if_pos hw] at h
    obtain ⟨v,hv,h⟩:=h
    exact wpAnyH_take ho hs h1.1 h1.2 (fun c a w h=>hQ c _ _ w (put_defers _ _ _) h) (.inl ⟨hw,hv⟩) hS (wpAnyH_of_take hs hQ rest _ _ w fuel hf' hl' h2 hS h)
   ·rw [if_neg hw] at h
    exact wpAnyH_take ho hs h1.1 h1.2 (fun c a w h=>hQ c _ _ w (put_defers _ _ _) h) (.inr ⟨by simpa using hw,rfl⟩) hS (wpAnyH_of_take hs hQ rest _ _ w fuel hf' hl' h2 hS h)
theorem wp_region_takeH {id:Nat} {a:Act} {w:World} (S:World→Prop) (calls L:List Nat) (hm:P.follows .mixedOrders=true) (hs:Region.noSelect l.toArray=true) (hB:(decide (L.length≤l.length)&&(L.all (fun i=>decide (i<l.length))&&orderB .any l.toArray calls L (Array.replicate l.length false)))=true)
  (hQ:∀c (a a':Act) w,a.defers=a'.defers→Q (.panic c) a w→Q (.panic c) a' w) (hS:S w.drew) (h:wpTakeH P l.toArray Q calls S (taken l L) a w.drew):(Code.region id l.toArray true).wp P Q a w:=by
 rw [Bool.and_eq_true,Bool.and_eq_true] at hB
 refine wp_region_held hm (wpAnyH_of_take hs hQ L _ a _ _ (by simpa using hB.1) (by simpa using hB.2.1) (by simpa using hB.2.2) hS h)
variable {ops:Array Oper}
theorem takeH_nil {a:Act} {w:World} (h:Q .normal a w):wpTakeH P ops Q calls S [] a w:=h
theorem takeH_skip {i:Nat} {o:Oper} {rest:List (Nat × Oper)} {a:Act} {w:World} (hw:Region.wanted o (yielded ops a.tmps)=false) (h:wpTakeH P ops Q calls S rest (a.put o.dst undef) w):wpTakeH P ops Q calls S ((i,o)::rest) a w:=by
 unfold wpTakeH
 simp only [hw]
 exact h
theorem takeH_blind {i:Nat} {o:Oper} {rest:List (Nat × Oper)} {a:Act} {w:World} (hc:calls.contains i=false) (hw:Region.wanted o (yielded ops a.tmps)=true)
  (h:∃v,(∀w,(execOp a.eval o).run P w = .ok (.value v) w)∧wpTakeH P ops Q calls S rest (a.put o.dst v) w):wpTakeH P ops Q calls S ((i,o)::rest) a w:=by
 unfold wpTakeH
 simp only [hw,hc]
 obtain ⟨v,h1,h2⟩:=h
 exact ⟨v,fun w _=>h1 w,h2⟩
theorem takeH_read {i:Nat} {o:Oper} {rest:List (Nat × Oper)} {a:Act} {w:World} (hc:calls.contains i=false) (hw:Region.wanted o (yielded ops a.tmps)=true) (v:Value)
  (h1:∀w,S w→(execOp a.eval o).run P w = .ok (.value v) w) (h:wpTakeH P ops Q calls S rest (a.put o.dst v) w):wpTakeH P ops Q calls S ((i,o)::rest) a w:=by
 unfold wpTakeH
 simp only [hw,hc]
 exact ⟨v,h1,h⟩
theorem takeH_call {i:Nat} {o:Oper} {rest:List (Nat × Oper)} {a:Act} {w:World} (hc:calls.contains i=true) (hw:Region.wanted o (yielded ops a.tmps)=true)
  (h:∀K:Act→World→Prop,(∀a w,S w→wpTakeH P ops Q calls S rest a w→K a w)→o.wp P a w K Q):wpTakeH P ops Q calls S ((i,o)::rest) a w:=by
 unfold wpTakeH
 simp only [hw,hc]
 exact h (fun a' w'=>S w'∧wpTakeH P ops Q calls S rest a' w') (fun _ _ h1 h2=>⟨h1,h2⟩)
theorem exec_from {t e:TypeId} {sz bytes:Nat} (hE:Elem P t e sz bytes) (w:World) (p:Option Addr) (n c i:Nat) (hi:i≤n) {o:Oper} {a:Act} (s x:Operand) (ho:o.op = .slice t s (some x) none none)
  (hs:a.eval s = .slice p n c) (hx:a.eval x = .int .i64 (i:Int)):(execOp a.eval o).run P w = .ok (.value (sliced p i n c sz)) w:=by
 obtain ⟨inf,z,hinf,hz,hsize,hby,hzs⟩:=hE.hi
 have helem:P.elem t=e:=by simp [Program.elem,hE.ht]
 have hu:P.underlying t=some (.slice (P.elem t)):=by rw [helem];exact hE.ht
 have hcell:P.cellsOf (P.elem t)=sz:=by rw [helem];simp [Program.cellsOf,hinf,hsize]
 have hr:(Instr.sliceAt t (.slice p n c) (some (.int .i64 (i:Int))) none none).run P w = .ok (sliced p i n c sz) w:=by
  have hsz:=run_sizeOf (w:=w) (show P.info? (P.elem t)=some inf by rw [helem];exact hinf)
  rw [run_sliceAt_slice (h:=hu),run_slice_l (ht:=hu) (h0:=by omega) (h1:=by omega),hsz,hcell]
  simp [Result.andThen]
 unfold execOp
 simp only [ho,Sem.run_bind,Sem.run_pure,Result.andThen_ok,hs,hx,hr,Option.map_some,Option.map_none]
end
end Go.Proofs.YtdcgbgecbeegmaaGreatDoor
end
section
namespace Go.Proofs.YtdcgbgecbeegmaaGreatDoor
open Go Go.RowKit
section
variable {P:Program} {ops:Array Oper} {Q:Exit→Act→World→Prop} {calls:List Nat} {S:World→Prop}
theorem takeH_reads {i:Nat} {o:Oper} {rest:List (Nat × Oper)} {a:Act} {w:World} (hc:calls.contains i=false) (hw:Region.wanted o (yielded ops a.tmps)=true)
  (h:∃v,(∀w,S w→(execOp a.eval o).run P w = .ok (.value v) w)∧wpTakeH P ops Q calls S rest (a.put o.dst v) w):wpTakeH P ops Q calls S ((i,o)::rest) a w:=by
 obtain ⟨v,h1,h2⟩:=h
 exact takeH_read hc hw v h1 h2
theorem takeH_run {i:Nat} {o:Oper} {rest:List (Nat × Oper)} {a:Act} {w:World} (hc:calls.contains i=true) (hw:Region.wanted o (yielded ops a.tmps)=true) (v:Value) (w2:World) (h1:(execOp a.eval o).run P w = .ok (.value v) w2) (hS:S w2)
  (h:wpTakeH P ops Q calls S rest (a.put o.dst v) w2):wpTakeH P ops Q calls S ((i,o)::rest) a w:=by
 unfold wpTakeH
 simp only [hw,hc]
 show o.wp P a w (fun a' w'=>S w'∧wpTakeH P ops Q calls S rest a' w') Q
 unfold Oper.wp
 rw [h1]
 exact ⟨hS,h⟩
theorem exec_fromTo {t e:TypeId} {sz bytes:Nat} (hE:Elem P t e sz bytes) (w:World) (p:Option Addr) (n c i k:Nat) (hi:i≤k) (hk:k≤c) {o:Oper} {a:Act} (s x y:Operand) (ho:o.op = .slice t s (some x) (some y) none)
  (hs:a.eval s = .slice p n c) (hx:a.eval x = .int .i64 (i:Int)) (hy:a.eval y = .int .i64 (k:Int)):(execOp a.eval o).run P w = .ok (.value (sliced p i k c sz)) w:=by
 obtain ⟨inf,z,hinf,hz,hsize,hby,hzs⟩:=hE.hi
 have helem:P.elem t=e:=by simp [Program.elem,hE.ht]
 have hu:P.underlying t=some (.slice (P.elem t)):=by rw [helem];exact hE.ht
 have hcell:P.cellsOf (P.elem t)=sz:=by rw [helem];simp [Program.cellsOf,hinf,hsize]
 have hr:(Instr.sliceAt t (.slice p n c) (some (.int .i64 (i:Int))) (some (.int .i64 (k:Int))) none).run P w = .ok (sliced p i k c sz) w:=by
  have hsz:=run_sizeOf (w:=w) (show P.info? (P.elem t)=some inf by rw [helem];exact hinf)
  rw [run_sliceAt_slice (h:=hu),run_slice_lh (ht:=hu) (h0:=by omega) (h1:=by omega) (h2:=by omega),hsz,hcell]
  simp [Result.andThen]
 unfold execOp
 simp only [ho,Sem.run_bind,Sem.run_pure,Result.andThen_ok,hs,hx,hy,hr,Option.map_some,Option.map_none]
theorem exec_extend {t e:TypeId} {sz bytes:Nat} (hE:Elem P t e sz bytes) (w:World) (v v2:Value) (n m:Nat) (xs news:List Value) (hown:w.ownsRow 0 e sz v n xs) (hr:Rd w sz v2 m news) (h1:∀u∈news,u.oneCell'=true) (hb:(n+m)*bytes≤140737488355328∧n+m≤maxLen)
  {o:Oper} {a:Act} (s x:Operand) (ho:o.op = .call { callee:=.builtin .append,args:=#[s,x],argTypes:=#[t,t] }) (hs:a.eval s=v) (hx:a.eval x=v2) :
  ∃v' w',(execOp a.eval o).run P w = .ok (.value v') w'∧w'.ownsRow 0 e sz v' (n+m) (xs++news)∧Mods (fun k=>v.ownBlock=some k) w w'∧Fresh w.heap.size v v':=by
 obtain ⟨i,z,hi,hz,hsize,hby,hzs⟩:=hE.hi
 obtain ⟨p,c,rfl,hl,hc1,hc2,hnil,hcell⟩:=hr
 cases p with
 | none=>
  obtain ⟨rfl,rfl⟩:=hnil rfl
  obtain rfl:news=[]:=List.eq_nil_of_length_eq_zero (by simpa using hl)
  have hr:=run_append_owned_none (P:=P) w 0 t o.type e i sz hE.ht hi v n xs hown
  refine ⟨v,w,?_,by simpa using hown,Mods.refl _ _,Fresh.refl _ _⟩
  unfold execOp
  simp only [ho,resolve,invoke,builtin,Sem.run_bind,Sem.run_pure,Result.andThen_ok,List.map_toArray,List.map_cons,List.map_nil,hs,hx,hr]
 | some ad=>
  obtain ⟨v',w',hr,h2,h3,h4⟩:=run_app (P:=P) w t o.type e i z sz bytes hE.ht hi hz hsize hby hzs hE.pos v n xs hown ad m c news hl (hcell ad rfl) h1 hb.2 hb.1
  refine ⟨v',w',?_,h2,h3,h4⟩
  unfold execOp
  simp only [ho,resolve,invoke,builtin,Sem.run_bind,Sem.run_pure,Result.andThen_ok,List.map_toArray,List.map_cons,List.map_nil,hs,hx,hr]
theorem takeH_extend {t e:TypeId} {sz bytes:Nat} (hE:Elem P t e sz bytes) {i:Nat} {o:Oper} {rest:List (Nat × Oper)} {a:Act} {w:World} (hc:calls.contains i=true) (hw:Region.wanted o (yielded ops a.tmps)=true) (s x:Operand)
  (ho:o.op = .call { callee:=.builtin .append,args:=#[s,x],argTypes:=#[t,t] }) {v v2:Value} (hs:a.eval s=v) (hx:a.eval x=v2) {n m:Nat} {xs news:List Value} (hown:w.ownsRow 0 e sz v n xs) (hr:Rd w sz v2 m news) (h1:∀u∈news,u.oneCell'=true) (hb:(n+m)*bytes≤140737488355328∧n+m≤maxLen)
  (h:∀v' w',w'.ownsRow 0 e sz v' (n+m) (xs++news)→Mods (fun k=>v.ownBlock=some k) w w'→Fresh w.heap.size v v'→S w'∧wpTakeH P ops Q calls S rest (a.put o.dst v') w'):wpTakeH P ops Q calls S ((i,o)::rest) a w:=by
 obtain ⟨v',w',hrun,h2,h3,h4⟩:=exec_extend hE w v v2 n m xs news hown hr h1 hb s x ho hs hx
 obtain ⟨h5,h6⟩:=h v' w' h2 h3 h4
 exact takeH_run hc hw v' w' hrun h5 h6
end
end Go.Proofs.YtdcgbgecbeegmaaGreatDoor
end
section
namespace Go.Proofs.YtdcgbgecbeegmaaGreatDoor
open Go Go.RowKit
theorem stringsL_len (l:List Lab):(stringsL l).length=2*l.length:=by
 induction l with
 | nil=>rfl
 | cons x l ih=>rw [stringsL,List.flatMap_cons,List.length_append,← stringsL,ih,List.length_cons];simp;omega
theorem stringsL_step {l:List Lab} {i:Nat} {x:Lab} (hx:l[i]? = some x):stringsL (l.take (i+1))=stringsL (l.take i)++[x.1,x.2]:=by
 rw [List.take_add_one,hx];simp [stringsL]
end Go.Proofs.YtdcgbgecbeegmaaGreatDoor
end
section
set_option maxRecDepth 20000
namespace Go.Proofs.YtdcgbgecbeegmaaGreatDoor
open Go Go.RowKit
set_option maxHeartbeats 2000000 in
theorem ref_strings11 (lv:Value) (l:List Lab) (w:World) (hl:Rd w 2 lv l.length (labCells l)) (hn:l.length≤1000000) :
  Calls Tryz.prog 47 #[lv] w fun e w'=>∃r,e = .returned r∧Own1 9 Value.string w w' (stringsL l) r:=by
 have HL:=Lib.hid hl
 obtain ⟨pl,cl,hv⟩:=hl.shape
 subst hv
 have hmx:(l.length:Int)≤1000000:=by omega
 clear hl hn
 go_enter Tryz.func47,Tryz.ntmps47
 go_wp2_with fail
 go_loopw [3,4] (fun vv iv wr=>∃(i:Nat),i≤l.length∧iv = .int .i64 (i:Int)∧Hid (Own1 9 Value.string w wr (stringsL (l.take i)) vv)) (fun _ iv _=>l.length-(intOf iv).toNat)
 case atStart=>exact ⟨0,Nat.zero_le _,rfl,Own1.nil w⟩
 case round=>
  obtain ⟨i,hi,rfl,HO⟩:=hrel
  have him:(i:Int)≤1000000:=by omega
  by_cases hlt:i<l.length
  ·have hlt':(i:Int)<(l.length:Int):=by omega
   obtain ⟨⟨yn,yv⟩,hx⟩:∃x,l[i]? = some x:=⟨_,List.getElem?_eq_getElem hlt⟩
   obtain ⟨b,off,e⟩:=rd2_at HL.out hx
   subst e
   obtain ⟨c0,c1⟩:=rd2_cell (HL.out.below HO.out.bel) hx
   have HSt:=Lib.hid (stringsL_step hx)
   have hl1:(stringsL (l.take i)).length≤2000000:=by rw [stringsL_len,List.length_take];omega
   have HXx:=Lib.hid hx
   clear hx
   obtain ⟨pv,cv,hvv⟩:=HO.out.shape
   subst hvv
   have HBd:Hid (((stringsL (l.take i)).length+2)*16≤140737488355328∧(stringsL (l.take i)).length+2≤maxLen):=by show _∧_;unfold maxLen;omega
   clear hl1
   have HLit:Hid (Rd (wr.alloc (.cells #[.string yn,.string yv] 9)) 1 (.slice (some ⟨wr.heap.size,0,none⟩) 2 2) 2 (strs [yn,yv])):=
    Rd.of_owns (World.ownsRow_lit (base:=0) wr #[.string yn,.string yv] 2 (Nat.zero_le _) (by simp [maxLen]) (by simp))
   generalize stringsL (l.take i)=acc at *
   have HC:Hid (∀w':World,(w'.cell? ⟨b,off+i*2,none⟩=some (.string yn)∧w'.cell? ⟨b,off+i*2+1,none⟩=some (.string yv)∧True)→(w'.cell? ⟨b,off+i*2,none⟩=some (.string yn)∧w'.cell? ⟨b,off+i*2+1,none⟩=some (.string yv)∧True)):=fun _ h=>h
   have HCc:Hid (∀w',Below w.heap.size w w'→w'.cell? ⟨b,off+i*2,none⟩=some (.string yn)∧w'.cell? ⟨b,off+i*2+1,none⟩=some (.string yv)∧True):=fun w' hb=>⟨(rd2_cell (HL.out.below hb) HXx.out).1,(rd2_cell (HL.out.below hb) HXx.out).2,trivial⟩
   clear c0 c1
   go_wp2_with fail
   refine wp_region_takeH (fun w'=>w'.cell? ⟨b,off+i*2,none⟩=some (.string yn)∧w'.cell? ⟨b,off+i*2+1,none⟩=some (.string yv)∧True) [11,12] [0,1,2,3,4,5,6,7,8,9,10,11,12,13] (by kernel_rfl) (by kernel_rfl) (by kernel_rfl) ?_ ?_ ?_
   ·intro c a a' w hd h;exact ⟨hd ▸ h.1,h.2⟩
   ·exact HCc.out _ (HO.out.bel.trans ⟨rfl,rfl,rfl,Nat.le_refl _,fun _ _=>rfl⟩)
   simp only [taken,List.map_cons,List.map_nil,List.getElem?_cons_succ,List.getElem?_cons_zero,Option.getD_some]
   repeat (first
        | (refine takeH_skip rfl ?_; simp only [Act.put, List.setIfInBounds_toArray, List.set_cons_succ, List.set_cons_zero])
        | (refine takeH_blind rfl rfl ?_; apply Exists.intro; refine ⟨fun w => ?_, ?_⟩; (go_simp; try with_reducible rfl); simp only [Act.put, List.setIfInBounds_toArray, List.set_cons_succ, List.set_cons_zero])
        | (refine takeH_reads rfl rfl ?_; apply Exists.intro; refine ⟨fun w' hS => ?_, ?_⟩; (obtain ⟨d0, d1, d2⟩ := HC.out w' hS; go_simp; try with_reducible rfl); simp only [Act.put, List.setIfInBounds_toArray, List.set_cons_succ, List.set_cons_zero]))
   have HB3:Hid (Below wr.heap.size wr (wr.alloc (.cells #[.string yn,.string yv] 9)).drew):=((Below.refl _ wr).alloc (Nat.le_refl _) _).trans ⟨rfl,rfl,rfl,Nat.le_refl _,fun _ _=>rfl⟩
   have HO3:=Lib.hid (HO.out.below HB3.out)
   have HLd:Hid (Rd (wr.alloc (.cells #[.string yn,.string yv] 9)).drew 1 (.slice (some ⟨wr.heap.size,0,none⟩) 2 2) 2 (strs [yn,yv])):=HLit.out.mods (Mods.drew (fun _=>False) _) (fun _ _ e=>e)
   refine takeH_run rfl rfl (.slice (some ⟨wr.heap.size,0,none⟩) 2 2) (wr.alloc (.cells #[.string yn,.string yv] 9)).drew (by go_simp;try rfl) (HCc.out _ HO3.out.bel) ?_
   simp only [Act.put,List.setIfInBounds_toArray,List.set_cons_succ,List.set_cons_zero]
   have HOb:=Lib.hid HO3.out.base0
   generalize (wr.alloc (.cells #[.string yn,.string yv] 9)).drew=w2 at *
   refine takeH_extend Tryz.elemStr rfl rfl _ _ rfl rfl rfl HOb.out HLd.out (strs_one _) HBd.out ?_
   intro v3 w3 k1 k2 k3
   have HO4:Hid (Own1 9 Value.string w w3 (stringsL (l.take (i+1))) v3):=by show Own1 _ _ _ _ _ _;rw [HSt.out];exact HO3.out.extended (e:=[yn,yv]) k1 k2 k3
   refine ⟨HCc.out _ HO4.out.bel,?_⟩
   obtain ⟨p3,c3,hv3⟩:∃p c,v3 = .slice p (acc.length+2) c:=(Rd.of_owns k1).shape
   subst hv3
   clear k1 k2 k3 HOb HLd HLit HO3 HCc
   repeat (first
        | (refine takeH_skip rfl ?_; simp only [Act.put, List.setIfInBounds_toArray, List.set_cons_succ, List.set_cons_zero])
        | (refine takeH_blind rfl rfl ?_; apply Exists.intro; refine ⟨fun w => ?_, ?_⟩; (go_simp; try with_reducible rfl); simp only [Act.put, List.setIfInBounds_toArray, List.set_cons_succ, List.set_cons_zero]))
   refine takeH_nil ?_
   go_wp2_with fail
   go_round
   case rel=>exact ⟨i+1,by omega,by go_num,HO4.out⟩
   case measure=>simp [intOf];omega
  ·have hlt':¬(i:Int)<(l.length:Int):=by omega
   rw [List.take_of_length_le (by omega)] at HO
   obtain ⟨pv,cv,hvv⟩:=HO.out.shape
   subst hvv
   go_wp2_with fail
   go_ret
   exact ⟨_,rfl,HO.out⟩
end Go.Proofs.YtdcgbgecbeegmaaGreatDoor
end
section
namespace Go.Proofs.YtdcgbgecbeegmaaGreatDoor
open Go Go.RowKit
abbrev OwnS:=Own1 9 Value.string
structure GotL (w:World) (l:List ByteArray) (r:Value) (w':World):Prop where
 rd:Rd w' 1 r l.length (strs l)
 far:∀k,r.ownBlock=some k→w.heap.size≤k
 bel:Below w.heap.size w w'
theorem tabS_snoc (l:List ByteArray) (x:ByteArray):tabS (l++[x])=insB ltS x (tabS l):=tabB_snoc l x
set_option maxRecDepth 20000 in
set_option maxHeartbeats 4000000 in
theorem ref_table10 (lv:Value) (l:List ByteArray) (w:World) (hl:Rd w 1 lv l.length (strs l)) (hn:l.length≤1000000000) :
  Calls Tryz.prog 48 #[lv] w fun e w'=>∃v,e = .returned v∧OwnS w w' (tabS l) v:=by
 have HL:=Lib.hid hl;have HNn:=Lib.hid hn
 obtain ⟨pl,cl,hv⟩:=hl.shape
 subst hv
 clear hl hn
 go_enter Tryz.func48,Tryz.ntmps48
 go_wp2_with fail
 go_loopw [3,4] (fun vv iv wr=>∃(j:Nat),j≤l.length∧iv = .int .i64 (j:Int)∧Hid (OwnS w wr (tabS (l.take j)) vv)) (fun _ iv _=>l.length-(intOf iv).toNat)
 case atStart=>exact ⟨0,by omega,rfl,Own1.nil w⟩
 case round=>
  obtain ⟨j,hj,rfl,HO⟩:=hrel
  by_cases hlt:j<l.length
  ·have hlt':(j:Int)<(l.length:Int):=by omega
   have hji:(j:Int)≤1000000000:=by have:=HNn.out;omega
   obtain ⟨b,off,c',e,_,_,_⟩:=HL.out.at (fun e=>by have:=congrArg List.length e;rw [strs_length] at this;simp at this;subst this;simp at hlt)
   simp only [Value.slice.injEq] at e
   obtain ⟨rfl,_,rfl⟩:=e
   obtain ⟨x,hx⟩:∃x,l[j]=x:=⟨_,rfl⟩
   have HCt:Hid (∀w',Below w.heap.size w w'→w'.cell? ⟨b,off+j,none⟩=some (.string x)):=fun w' hb=>by
    rw [← hx];exact rd1_cell (HL.out.below hb) hlt
   have HSt:Hid (tabS (l.take (j+1))=insB ltS x (tabS (l.take j))):=by show _=_;rw [List.take_add_one,List.getElem?_eq_getElem hlt,hx];exact tabS_snoc _ _
   have hDl:(tabS (l.take j)).length≤1000000000:=by have:=tabB_len (lt:=ltS) (l.take j);rw [List.length_take] at this;have:=HNn.out;unfold tabS;omega
   have HA:Hid (AscB ltS (tabS (l.take j))):=tabB_asc ltS_ok (l.take j)
   clear hx
   generalize tabS (l.take j)=d at *
   obtain ⟨pv,cv,hvv⟩:=(Rd.of_owns HO.out.row).shape
   subst hvv
   obtain ⟨N,hN⟩:∃N,d.length=N:=⟨_,rfl⟩
   rw [hN] at hDl HO ⊢
   have HNe:Hid (d.length=N):=hN
   clear hN
   have HD:=Lib.hid hDl
   have hNi:(N:Int)≤1000000000:=by omega
   clear hDl
   go_wp2_with fail
   go_loopw [5] (fun kv wr2=>∃(k:Nat),k≤N∧kv = .int .i64 (k:Int)∧Hid (∀z∈d.take k,ltS z x=true)∧Hid (OwnS w wr2 d (.slice pv N cv))) (fun kv _=>N-(intOf kv).toNat)
   case atStart=>exact ⟨0,Nat.zero_le _,rfl,(by intro z hz;simp at hz),HO.out⟩
   case round=>
    obtain ⟨k,hkN,rfl,HLo,HO2⟩:=hrel
    have hki:(k:Int)≤1000000000:=by omega
    have hcx:=HCt.out wr HO2.out.bel
    by_cases hk:k<N
    ·have hk':(k:Int)<(N:Int):=by omega
     obtain ⟨g0,cap0,hv0⟩:∃g cap,(Value.slice pv N cv) = .slice (some ⟨g,0,none⟩) N cap:=by
      rcases owns_cases HO2.out.row with ⟨_,h0,_⟩ | ⟨g,cap,hv,_⟩
      ·have:=HNe.out;omega
      ·rw [HNe.out] at hv;exact ⟨g,cap,hv⟩
     simp only [Value.slice.injEq] at hv0
     obtain ⟨rfl,_,rfl⟩:=hv0
     obtain ⟨y,hy⟩:∃y,d[k]'(by have:=HNe.out;omega)=y:=⟨_,rfl⟩
     have hcy:wr.cell? ⟨g0,k,none⟩=some (.string y):=by rw [← hy];exact (HO2.out.cell (i:=k) (by have:=HNe.out;omega)).1
     have HY:Hid (d[k]'(by have:=HNe.out;omega)=y):=hy
     have HYd:Hid (d.drop k=y::d.drop (k+1)):=by show _=_;rw [← hy,List.getElem_cons_drop]
     have HYt:Hid (d.take (k+1)=d.take k++[y]):=by show _=_;rw [List.take_add_one,List.getElem?_eq_getElem (by have:=HNe.out;omega),hy];rfl
     clear hy
     by_cases hyx:ltS y x=true
     ·have hcmp:Op.bytesLess y.toList x.toList=true:=hyx
      have HLo2:Hid (∀z∈d.take (k+1),ltS z x=true):=by
       show ∀z∈_,_
       rw [HYt.out]
       intro z hz
       rcases List.mem_append.1 hz with e | e
       ·exact HLo.out z e
       ·simp only [List.mem_singleton] at e;subst e;exact hyx
      clear hyx
      go_wp2_with fail
      go_quiet (fail)
      have HO3:=Lib.hid (HO2.out.drewN nq)
      clear hcx hcy HO2 HLo
      generalize wr.drewN nq=wn at *
      go_wp2_with fail
      go_round
      case rel=>exact ⟨k+1,by omega,by go_num,HLo2.out,HO3.out⟩
      case measure=>simp [intOf];omega
     ·have hcmp0:ltS y x=false:=by simpa using hyx
      have hcmp:Op.bytesLess y.toList x.toList=false:=hcmp0
      have HYX:=Lib.hid hcmp0
      clear hcmp0
      clear hyx
      by_cases heq:y=x
      ·subst heq
       have HS2:Hid (tabS (l.take (j+1))=d):=by
        show _=_
        rw [HSt.out]
        have e:=insB_at ltS_ok.toLtPre y (d.take k) (d.drop (k+1)) HLo.out
        rw [← HYd.out,List.take_append_drop] at e
        exact e
       have hse:(y.toList == y.toList)=true:=by simp
       go_wp2_with fail
       go_quiet (fail)
       have HO3:=Lib.hid (HO2.out.drewN nq)
       have hcx2:(wr.drewN nq).cell? ⟨b,off+j,none⟩=some (.string y):=hcx
       have hcy2:(wr.drewN nq).cell? ⟨g0,k,none⟩=some (.string y):=hcy
       clear hcx hcy HO2
       generalize wr.drewN nq=wn at *
       go_wp2_with fail
       go_quiet (fail)
       have HO4:=Lib.hid (HO3.out.drewN nq)
       clear hcx2 hcy2 HO3
       generalize wn.drewN nq=wq at *
       go_wp2_with fail
       go_round
       case rel=>exact ⟨j+1,by omega,by go_num,by rw [HS2.out];exact HO4.out⟩
       case measure=>simp [intOf];omega
      ·have hse:(y.toList == x.toList)=false:=by rw [eqS];simpa using heq
       have HHi:Hid (∀z,(d.drop k).head? = some z→ltS x z=true):=by
        intro z hz
        rw [HYd.out] at hz
        cases hz
        rcases Bool.eq_false_or_eq_true (ltS x y) with e | e
        ·exact e
        ·exact absurd (ltS_ok.tot y x HYX.out e) heq
       clear heq
       go_wp2_with fail
       go_quiet (fail)
       have HO3:=Lib.hid (HO2.out.drewN nq)
       have hcx2:(wr.drewN nq).cell? ⟨b,off+j,none⟩=some (.string x):=hcx
       have hcy2:(wr.drewN nq).cell? ⟨g0,k,none⟩=some (.string y):=hcy
       clear hcx hcy HO2
       generalize wr.drewN nq=wn at *
       go_wp2_with fail
       go_quiet (fail)
       have HOb:=Lib.hid (HO3.out.drewN nq)
       clear hcx2 hcy2 HO3
       generalize wn.drewN nq=wb at *
       have HP:Hid (insB ltS x d=d.take k++x::d.drop k):=by
        have e:=insB_parts ltS_ok.toLtPre x (d.take k) (d.drop k) HLo.out HHi.out
        rwa [List.take_append_drop] at e
       have HLb:Hid ((N+1)*16≤140737488355328∧N+1≤maxLen):=by show _∧_;have:=HD.out;unfold maxLen;omega
       have HOv:Hid (wb.ownsRow 0 9 1 (.slice (some ⟨g0,0,none⟩) N cv) N (strs d)):=by
        have h:=owns_rebase HOb.out.row (base':=0) (fun _ _=>Nat.zero_le _)
        rw [HNe.out] at h
        exact h
       go_wp2_with (at_builtin;refine wpList_push Tryz.elemStr _ #[.string ⟨#[]⟩] _ _ _ HOv.out rfl (one_cell _ rfl) HLb.out rfl _ _ rfl rfl rfl ?_)
       intro v1 w1 k1 m1 f1
       have HO1:Hid (OwnS w w1 (d++[⟨#[]⟩]) v1):=HOb.out.pushed (by rw [HNe.out];exact k1) m1 f1
       obtain ⟨g,c1,hv1⟩:∃g cap,v1 = .slice (some ⟨g,0,none⟩) (N+1) cap:=by
        rcases owns_cases k1 with ⟨_,h0,_⟩ | ⟨g,cap,hv,_⟩
        ·omega
        ·exact ⟨g,cap,hv⟩
       subst hv1
       clear k1 m1 f1 HOv HOb
       go_wp2_with fail
       go_loopw [6] (fun mv wr2=>∃(m:Nat) (y:ByteArray),k≤m∧m≤N∧mv = .int .i64 (m:Int)∧Hid (OwnS w wr2 (d.take m++y::d.drop m) (.slice (some ⟨g,0,none⟩) (N+1) c1))) (fun mv _=>(intOf mv).toNat)
       case atStart=>exact ⟨N,⟨#[]⟩,hkN,Nat.le_refl _,rfl,by
        show OwnS _ _ _ _
        rw [List.drop_of_length_le (by have:=HNe.out;omega),List.take_of_length_le (by have:=HNe.out;omega)]
        exact HO1.out⟩
       case round=>
        obtain ⟨m,y,hkm,hmN,rfl,HO2⟩:=hrel
        have hlen:(d.take m++y::d.drop m).length=N+1:=by
         rw [List.length_append,List.length_cons,List.length_take,List.length_drop];have:=HNe.out;omega
        have HLen:=Lib.hid hlen
        have hmi:(m:Int)≤1000000000:=by have:=HD.out;omega
        have hmN':(m:Int)<(N:Int)+1:=by omega
        have hfm:=(HO2.out.cell (i:=m) (by have:=HLen.out;omega)).2
        have hcm:=(HO2.out.cell (i:=m) (by have:=HLen.out;omega)).1
        have hcx:=HCt.out wr HO2.out.bel
        generalize (d.take m++y::d.drop m)[m]=yy at hcm
        clear hlen
        by_cases hmk:k<m
        ·have hmk':(k:Int)<(m:Int):=by omega
         obtain ⟨q,rfl⟩:∃q,m=q+1:=⟨m-1,by omega⟩
         obtain ⟨z,hz⟩:∃z,d[q]? = some z:=⟨_,List.getElem?_eq_getElem (by have:=HNe.out;omega)⟩
         have HZe:=Lib.hid hz
         have hcz:wr.cell? ⟨g,q,none⟩=some (.string z):=by
          rw [(HO2.out.cell (i:=q) (by have:=HLen.out;omega)).1,← (List.getElem?_eq_some_iff.1 hz).2]
          congr 2
          rw [List.getElem_append_left (by rw [List.length_take];have:=HNe.out;omega),List.getElem_take]
         have hqs:((q+1:Nat):Int)-1=(q:Int):=by omega
         have hq0:(0:Int)≤(q:Int):=by omega
         have HKM:Hid (k≤q+1∧k<q+1∧q+1≤N):=⟨hkm,hmk,hmN⟩
         have hqi:(q:Int)≤999999999:=by omega
         clear hz hkm hmk hmN hmi
         have HDn:Hid (OwnS w (wr.setCell ⟨g,q+1,none⟩ (.string z)) (d.take q++z::d.drop q) (.slice (some ⟨g,0,none⟩) (N+1) c1)):=by
          show OwnS _ _ _ _
          rw [← shift_eqG d q (by have:=HNe.out;have:=HKM.out;omega) z (List.getElem?_eq_some_iff.1 HZe.out).2]
          exact HO2.out.stored (shift_setG d (q+1) y z (by have:=HNe.out;have:=HKM.out;omega))
         clear HO2
         go_wp2_with fail
         go_round
         case rel=>exact ⟨q,z,by have:=HKM.out;omega,by have:=HKM.out;omega,by go_num,HDn.out⟩
         case measure=>simp [intOf]
        ·have hmk2:m=k:=by omega
         have hmk':¬(k:Int)<(m:Int):=by omega
         have HOk:Hid (OwnS w wr (d.take k++y::d.drop k) (.slice (some ⟨g,0,none⟩) (N+1) c1)):=by
          have h:=HO2.out
          rw [hmk2] at h
          exact h
         clear hcm hfm
         have hlen:(d.take k++y::d.drop k).length=N+1:=by have h:=HLen.out;rw [hmk2] at h;exact h
         have hfk:=(HOk.out.cell (i:=k) (by omega)).2
         have hck:=(HOk.out.cell (i:=k) (by omega)).1
         have hkN2:(k:Int)<(N:Int)+1:=by omega
         generalize (d.take k++y::d.drop k)[k]=yk at hck
         have HDn:Hid (OwnS w (wr.setCell ⟨g,k,none⟩ (.string x)) (insB ltS x d) (.slice (some ⟨g,0,none⟩) (N+1) c1)):=by
          show OwnS _ _ _ _
          rw [HP.out]
          exact HOk.out.stored (shift_setG d k y x (by have:=HNe.out;omega))
         clear hmk2 hlen HOk hkm hmk hmN
         clear HO2
         go_wp2_with fail
         go_round
         case rel=>exact ⟨j+1,by omega,by go_num,by rw [HSt.out];exact HDn.out⟩
         case measure=>simp [intOf];omega
    ·obtain rfl:N=k:=by omega
     have hk':¬(N:Int)<(N:Int):=by omega
     have HHi:Hid (∀z,(d.drop N).head? = some z→ltS x z=true):=by
      intro z hz
      rw [List.drop_of_length_le (by have:=HNe.out;omega)] at hz
      cases hz
     go_wp2_with fail
     go_quiet (fail)
     have HO3:=Lib.hid (HO2.out.drewN nq)
     clear hcx HO2
     generalize wr.drewN nq=wn at *
     go_wp2_with fail
     go_quiet (fail)
     have HOb:=Lib.hid (HO3.out.drewN nq)
     clear HO3
     generalize wn.drewN nq=wb at *
     have HP:Hid (insB ltS x d=d.take N++x::d.drop N):=by
      have e:=insB_parts ltS_ok.toLtPre x (d.take N) (d.drop N) HLo.out HHi.out
      rwa [List.take_append_drop] at e
     have HLb:Hid ((N+1)*16≤140737488355328∧N+1≤maxLen):=by show _∧_;have:=HD.out;unfold maxLen;omega
     have HOv:Hid (wb.ownsRow 0 9 1 (.slice pv N cv) N (strs d)):=by
      have h:=owns_rebase HOb.out.row (base':=0) (fun _ _=>Nat.zero_le _)
      rw [HNe.out] at h
      exact h
     go_wp2_with (at_builtin;refine wpList_push Tryz.elemStr _ #[.string ⟨#[]⟩] _ _ _ HOv.out rfl (one_cell _ rfl) HLb.out rfl _ _ rfl rfl rfl ?_)
     intro v1 w1 k1 m1 f1
     have HO1:Hid (OwnS w w1 (d++[⟨#[]⟩]) v1):=HOb.out.pushed (by rw [HNe.out];exact k1) m1 f1
     obtain ⟨g,c1,hv1⟩:∃g cap,v1 = .slice (some ⟨g,0,none⟩) (N+1) cap:=by
      rcases owns_cases k1 with ⟨_,h0,_⟩ | ⟨g,cap,hv,_⟩
      ·omega
      ·exact ⟨g,cap,hv⟩
     subst hv1
     clear k1 m1 f1 HOv HOb
     go_wp2_with fail
     go_loopw [6] (fun mv wr2=>∃(m:Nat) (y:ByteArray),N≤m∧m≤N∧mv = .int .i64 (m:Int)∧Hid (OwnS w wr2 (d.take m++y::d.drop m) (.slice (some ⟨g,0,none⟩) (N+1) c1))) (fun mv _=>(intOf mv).toNat)
     case atStart=>exact ⟨N,⟨#[]⟩,Nat.le_refl _,Nat.le_refl _,rfl,by
      show OwnS _ _ _ _
      rw [List.drop_of_length_le (by have:=HNe.out;omega),List.take_of_length_le (by have:=HNe.out;omega)]
      exact HO1.out⟩
     case round=>
      obtain ⟨m,y,hNm,hmN,rfl,HO2⟩:=hrel
      have hlen:(d.take m++y::d.drop m).length=N+1:=by
       rw [List.length_append,List.length_cons,List.length_take,List.length_drop];have:=HNe.out;omega
      have HLen:=Lib.hid hlen
      have hmi:(m:Int)≤1000000000:=by have:=HD.out;omega
      have hmN':(m:Int)<(N:Int)+1:=by omega
      have hfm:=(HO2.out.cell (i:=m) (by have:=HLen.out;omega)).2
      have hcm:=(HO2.out.cell (i:=m) (by have:=HLen.out;omega)).1
      have hcx:=HCt.out wr HO2.out.bel
      generalize (d.take m++y::d.drop m)[m]=yy at hcm
      clear hlen
      by_cases hmk:N<m
      ·exfalso;omega
      ·have hmk2:m=N:=by omega
       have hmk':¬(N:Int)<(m:Int):=by omega
       have HOk:Hid (OwnS w wr (d.take N++y::d.drop N) (.slice (some ⟨g,0,none⟩) (N+1) c1)):=by
        have h:=HO2.out
        rw [hmk2] at h
        exact h
       clear hcm hfm
       have hlen:(d.take N++y::d.drop N).length=N+1:=by have h:=HLen.out;rw [hmk2] at h;exact h
       have hfk:=(HOk.out.cell (i:=N) (by omega)).2
       have hck:=(HOk.out.cell (i:=N) (by omega)).1
       have hkN2:(N:Int)<(N:Int)+1:=by omega
       generalize (d.take N++y::d.drop N)[N]=yk at hck
       have HDn:Hid (OwnS w (wr.setCell ⟨g,N,none⟩ (.string x)) (insB ltS x d) (.slice (some ⟨g,0,none⟩) (N+1) c1)):=by
        show OwnS _ _ _ _
        rw [HP.out]
        exact HOk.out.stored (shift_setG d N y x (by have:=HNe.out;omega))
       clear hmk2 hlen HOk hNm hmk hmN
       clear HO2
       go_wp2_with fail
       go_round
       case rel=>exact ⟨j+1,by omega,by go_num,by rw [HSt.out];exact HDn.out⟩
       case measure=>simp [intOf];omega
  ·have hlt':¬(j:Int)<(l.length:Int):=by omega
   rw [List.take_of_length_le (by omega)] at HO
   obtain ⟨pv,cv,hvv⟩:=(Rd.of_owns HO.out.row).shape
   subst hvv
   go_wp2_with fail
   go_ret
   exact ⟨_,rfl,HO.out⟩
end Go.Proofs.YtdcgbgecbeegmaaGreatDoor
end
section
set_option maxRecDepth 20000
namespace Go.Proofs.YtdcgbgecbeegmaaGreatDoor
open Go Go.RowKit
def symsB (b:List Ser):List ByteArray:=b.flatMap fun s=>stringsL s.1
theorem symsB_step {b:List Ser} {i:Nat} {s:Ser} (h:b[i]? = some s):symsB (b.take (i+1))=symsB (b.take i)++stringsL s.1:=by
 rw [symsB,List.take_add_one,h,List.flatMap_append];simp [symsB]
theorem symsB_flat (b:List Ser):(symsB b).length=2*(b.map Prod.fst).flatten.length:=by
 induction b with
 | nil=>rfl
 | cons s b ih=>
  have e:symsB (s::b)=stringsL s.1++symsB b:=rfl
  rw [e,List.length_append,ih,stringsL_len,List.map_cons,List.flatten_cons,List.length_append]
  omega
theorem symsB_mid {b:List Ser} (h:Mid b) (i:Nat):(symsB (b.take i)).length≤120000:=by
 rw [symsB_flat]
 have h1:((b.take i).map Prod.fst).flatten.length≤(b.map Prod.fst).flatten.length:=by
  have e:(b.map Prod.fst).flatten=((b.take i).map Prod.fst).flatten++((b.drop i).map Prod.fst).flatten:=by rw [← List.flatten_append,← List.map_append,List.take_append_drop]
  rw [e,List.length_append]
  omega
 have:=h.flat
 omega
set_option maxHeartbeats 2000000 in
theorem ref_symbols12 (bv:Value) (b:List Ser) (w:World) (h:RdB w bv b) (hs:Mid b) :
  Calls Tryz.prog 21 #[bv] w fun e w'=>∃v,e = .returned v∧OwnS w w' (tabS (symsB b)) v:=by
 have H:=Lib.hid h;have HSm:=Lib.hid hs
 obtain ⟨p,c,hv⟩:=h.shape
 subst hv
 have hmx:(b.length:Int)≤20000:=by have:=hs.len;omega
 clear h hs
 go_enter Tryz.func21,Tryz.ntmps21
 go_wp2_with fail
 go_loopw [3,4] (fun vv iv wr=>∃(i:Nat),i≤b.length∧iv = .int .i64 (i:Int)∧Hid (OwnS w wr (symsB (b.take i)) vv)) (fun _ iv _=>b.length-(intOf iv).toNat)
 case atStart=>exact ⟨0,Nat.zero_le _,rfl,Own1.nil w⟩
 case round=>
  obtain ⟨i,hi,rfl,HO⟩:=hrel
  have him:(i:Int)≤20000:=by omega
  obtain ⟨pv,cv,hvv⟩:=HO.out.shape
  subst hvv
  by_cases hlt:i<b.length
  ·have hlt':(i:Int)<(b.length:Int):=by omega
   obtain ⟨⟨ls,ss⟩,hx⟩:∃s,b[i]? = some s:=⟨_,List.getElem?_eq_getElem hlt⟩
   obtain ⟨blk,off,h1,h2,e,⟨p1,k1,e1⟩,_,hal⟩:=H.out.always hx
   subst e
   simp only at e1
   subst e1
   have hll:=HSm.out.lab _ (List.mem_of_getElem? hx)
   have HL1:Hid (ls.length≤60000):=hll
   have HSt:=Lib.hid (symsB_step hx)
   have HLn:Hid ((symsB (b.take i)).length≤120000):=by show _≤_;exact symsB_mid HSm.out i
   obtain ⟨c1,_,hsr⟩:=hal wr HO.out.bel
   have HStr:=Lib.hid (ref_strings11 _ ls wr hsr.1 (by have:=HL1.out;omega))
   have HSl:=Lib.hid (stringsL_len ls)
   clear hx hal hsr hll
   generalize symsB (b.take i)=D at *
   obtain ⟨dl,hdl⟩:∃dl,D.length=dl:=⟨_,rfl⟩
   have HDl:=Lib.hid hdl
   rw [hdl] at HO HLn ⊢
   clear hdl
   go_wp2_with fail
   refine HStr.out.mono ?_
   rintro e w2 ⟨r,rfl,hS⟩
   obtain ⟨p2,c2,hv2⟩:=hS.shape
   subst hv2
   have HO2:=Lib.hid (HO.out.below hS.bel)
   have HS2:=Lib.hid hS.rd
   generalize stringsL ls=E at *
   obtain ⟨el,hel⟩:∃el,E.length=el:=⟨_,rfl⟩
   have HEl:=Lib.hid hel
   rw [hel] at HS2 HSl ⊢
   clear hS HO c1 hel
   have HOv:Hid (w2.ownsRow 0 9 1 (.slice pv dl cv) dl (strs D)):=by
    have h:=HO2.out.base0
    rw [HDl.out] at h
    exact h
   have HLb:Hid ((dl+el)*16≤140737488355328∧dl+el≤maxLen):=by show _∧_;have:=HSl.out;have:=HL1.out;have:=HLn.out;unfold maxLen;omega
   go_wp2_with (at_builtin;refine wpList_extend Tryz.elemStr _ _ _ _ _ _ _ HOv.out HS2.out (strs_one E) HLb.out rfl _ _ rfl rfl rfl ?_)
   intro v3 w3 k1 m1 f1
   have HO3:Hid (OwnS w w3 (symsB (b.take (i+1))) v3):=by
    show OwnS _ _ _ _
    rw [HSt.out]
    exact HO2.out.extended (by rw [HDl.out,HEl.out];exact k1) m1 f1
   obtain ⟨p3,c3,hv3⟩:=(Rd.of_owns k1).shape
   subst hv3
   clear k1 m1 f1 HO2 HOv
   go_wp2_with fail
   go_round
   case rel=>exact ⟨i+1,by omega,by go_num,HO3.out⟩
   case measure=>simp [intOf];omega
  ·have hlt':¬(i:Int)<(b.length:Int):=by omega
   have HE:Hid (b.take i=b):=List.take_of_length_le (by omega)
   have HLn:Hid ((symsB (b.take i)).length≤120000):=by show _≤_;exact symsB_mid HSm.out i
   have HT:=Lib.hid (ref_table10 _ (symsB (b.take i)) wr HO.out.rd (by have:=HLn.out;omega))
   have HBel:=Lib.hid HO.out.bel
   rw [HE.out] at HT HO HLn ⊢
   clear HE HO
   go_wp2_with fail
   refine HT.out.mono ?_
   rintro e w2 ⟨r,rfl,hO⟩
   have HO2:Hid (OwnS w w2 (tabS (symsB b)) r):=⟨owns_rebase hO.row (fun k hk=>by have:=(hO.row.lt k hk).1;have:=HBel.out.size;omega),HBel.out.trans (hO.bel.mono HBel.out.size)⟩
   obtain ⟨p2,c2,hv2⟩:=hO.shape
   subst hv2
   clear hO HT
   go_wp2_with fail
   go_ret
   exact ⟨_,rfl,HO2.out⟩
end Go.Proofs.YtdcgbgecbeegmaaGreatDoor
end
