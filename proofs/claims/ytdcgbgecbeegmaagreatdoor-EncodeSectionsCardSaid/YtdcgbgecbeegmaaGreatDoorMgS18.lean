/- Texts 18. -/
import Derived.Test.YtdcgbgecbeegmaaGreatDoorMgSA
import Derived.Test.YtdcgbgecbeegmaaGreatDoorMgS17
import Derived.Laws.Rows
import Derived.Laws.PanicsMore
set_option linter.unusedVariables false
set_option linter.unusedSimpArgs false
set_option maxHeartbeats 400000000
set_option maxRecDepth 100000
section
namespace Go.Proofs.YtdcgbgecbeegmaaGreatDoor
open Go Go.RowKit
def KV (S:Nat→Prop) (h:Hd) (s:DT):Prop:=(s.1≠[]→∀k,h.1.ownBlock=some k→¬S k)∧(s.2≠[]→∀k,h.2.ownBlock=some k→¬S k)
theorem sQ {l:List Int} (h:A1 l≠[]):l≠[]:=fun e=>h (by subst e;rfl)
theorem nP {l:List Int} (h:l≠[]):A1 l≠[]:=fun e=>h (zAI (by have:=congrArg List.length e;rw [Ce,zBG] at this;omega))
theorem FV.Ai {S:Nat→Prop} {w w':World} {h:Hd} {s:DT} (k:FV w h s) (hm:Ac S w w') (ho:KV S h s):FV w' h s:=
 ⟨k.1.FZ hm (fun e=>ho.1 (CO e)),k.2.FZ hm (fun e=>ho.2 (sQ e))⟩
theorem FV.lt {w:World} {h:Hd} {s:DT} (k:FV w h s):(s.1≠[]→∀j,h.1.ownBlock=some j→j<w.heap.size)∧(s.2≠[]→∀j,h.2.ownBlock=some j→j<w.heap.size):=
 ⟨fun e=>k.1.lt (F9 e),fun e=>k.2.lt (nP e)⟩
structure mb (t:TypeId) (w wr:World) (hs:List Hd) (b:List DT) (v:Value):Prop where
 row:ER t (Prod.fst:Hd→Value) Prod.snd w wr hs v
 len:hs.length=b.length
 KO:∀(i:Nat) (h:Hd) (s:DT),hs[i]? = some h→b[i]? = some s→FV wr h s∧KV (fun k=>v.ownBlock=some k) h s
theorem mb.B5 {t:TypeId} {w wr w1:World} {hs:List Hd} {b:List DT} {v v1:Value} {h:Hd} {s:DT} (k:mb t w wr hs b v) (Jw:FV wr h s) (ho:KV (fun j=>v.ownBlock=some j) h s)
  (k1:w1.ownsRow 0 t 2 v1 (hs.length+1) (two Prod.fst Prod.snd hs++[h.1,h.2])) (m:Ac (fun j=>v.ownBlock=some j) wr w1) (hf:AG wr.heap.size v v1):mb t w w1 (hs++[h]) (b++[s]) v1:=by
 have ZJ:∀(h:Hd) (s:DT),FV wr h s→KV (fun j=>v.ownBlock=some j) h s→FV w1 h s∧KV (fun j=>v1.ownBlock=some j) h s:=fun h s a b=>by
  refine ⟨a.Ai m b,fun e j hj hv=>?_,fun e j hj hv=>?_⟩
  ·rcases hf j hv with f | f
   ·exact b.1 e j hj f
   ·have:=a.lt.1 e j hj;omega
  ·rcases hf j hv with f | f
   ·exact b.2 e j hj f
   ·have:=a.lt.2 e j hj;omega
 refine ⟨k.row.B5 k1 m hf,by simp [k.len],fun i h' s' hi hj=>?_⟩
 rcases Dk hi with e | ⟨e,rfl⟩
 ·rcases Dk hj with f | ⟨f,_⟩
  ·exact ZJ _ _ (k.KO i h' s' e f).1 (k.KO i h' s' e f).2
  ·have:=(zAE.1 e).1;have:=k.len;omega
 ·rcases Dk hj with f | ⟨_,rfl⟩
  ·have:=(zAE.1 f).1;have:=k.len;omega
  ·exact ZJ _ _ Jw ho
section
def DN:TypeDesc→Bool
 | .struct _ | .array _ _=>true
 | _=>false
structure Re (P:Program) (t e:TypeId) (n:Nat) (z:Value):Prop where
 ht:P.underlying t=some (.array n e)
 hi:∃i,P.info? t=some i∧i.zero=some (.agg (List.replicate n z).toArray)∧i.size=n
 he:∃i,P.info? e=some i∧i.size=1
 hl:∃d,P.underlying e=some d∧DN d=false
theorem Re.mk' {P:Program} {t e:TypeId} {n:Nat} {z:Value} (ht:P.underlying t=some (.array n e)) (hi:(P.info? t).map (fun i=>(i.zero,i.size))=some (some (.agg (List.replicate n z).toArray),n)) (he:(P.info? e).map (·.size)=some 1)
  {d:TypeDesc} (hd:P.underlying e=some d) (hl:DN d=false):Re P t e n z:=by
 obtain ⟨i,h1,h2⟩:=zDN.1 hi
 obtain ⟨j,h3,h4⟩:=zDN.1 he
 simp only [zHD] at h2
 exact ⟨ht,⟨i,h1,h2.1,h2.2⟩,⟨j,h3,h4⟩,⟨d,hd,hl⟩⟩
theorem QW (w:World) (g:Nat) (cs:Array Value):Ac (fun k=>k=g) w (w.setRow g cs):=
 ⟨rfl,rfl,rfl,by simp,fun k _ hs=>setRow_other w g k cs hs⟩
section
variable {P:Program} {ops:Array Oper} {rest:List Oper} {o:Oper} {a:Act} {w:World} {Q:Exit→Act→World→Prop} {t e:TypeId} {n:Nat} {z:Value}
theorem GX (hg:o.guard=none) (t:TypeId) (x:Operand) (ho:o.op = .box t x) (cs:List Value) (hx:a.eval x = .agg cs.toArray)
  (h:∀w',Ao w' w.heap.size cs→Below w.heap.size w w'→w'.heap.size=w.heap.size+1→wpList P ops Q rest (a.put o.dst (.pointer (some ⟨w.heap.size,0,none⟩))) w'):wpList P ops Q (o::rest) a w:=by
 refine zGQ hg fun K hK=>?_
 unfold Oper.wp execOp
 simp only [ho,hx,zCK,Instr.box,newVar,newRow,run_newObj_alloc,zDM,zCG]
 exact hK _ _ (h _ (by simpa [Value.cells] using Ao.new w cs.toArray t) ((zAM _ _).alloc (zAD _) _) (by simp))
theorem BU (hA:Re P t e n z) (hg:o.guard=none) (ho:o.op = .alloc t)
  (h:∀w',Ao w' w.heap.size (List.replicate n z)→Below w.heap.size w w'→w'.heap.size=w.heap.size+1→wpList P ops Q rest (a.put o.dst (.pointer (some ⟨w.heap.size,0,none⟩))) w'):wpList P ops Q (o::rest) a w:=by
 obtain ⟨i,hi,hz,hs⟩:=hA.hi
 refine zGQ hg fun K hK=>?_
 have hzv:(zeroValue t).run P w = .ok (.agg (List.replicate n z).toArray) w:=by simp [zeroValue,typeInfo,hi,hz]
 unfold Oper.wp execOp
 simp only [ho,zCK,Instr.alloc,hzv,newVar,newRow,run_newObj_alloc,zDM,zCG]
 exact hK _ _ (h _ (by simpa [Value.cells] using Ao.new w (List.replicate n z).toArray t) ((zAM _ _).alloc (zAD _) _) (by simp))
theorem Gc (hA:Re P t e n z) (BT:o.guard=none) (x:Operand) (ho:o.op = .load t x) (g:Nat) (hx:a.eval x = .pointer (some ⟨g,0,none⟩)) (cs:List Value) (hb:Ao w g cs) (hl:cs.length=n)
  (h:wpList P ops Q rest (a.put o.dst (.agg cs.toArray)) w):wpList P ops Q (o::rest) a w:=by
 obtain ⟨u,hg⟩:=hb
 obtain ⟨i,hi,_,hs⟩:=hA.hi
 exact wpList_load_row BT t x ho g hx u cs.toArray (0,0) _ hg hA.ht rfl (by rw [hi];simp [hs,hl]) h
theorem Cv (hA:Re P t e n z) (BT:o.guard=none) (x y:Operand) (ho:o.op = .store t x y) (g:Nat) (hx:a.eval x = .pointer (some ⟨g,0,none⟩)) (cs old:List Value) (hy:a.eval y = .agg cs.toArray)
  (hb:Ao w g old) (xy:old.length=n) (hl:cs.length=n) (h1:∀u∈cs,u.oneCell'=true)
  (h:∀w',Ao w' g cs→Ac (fun k=>k=g) w w'→w'.heap.size=w.heap.size→wpList P ops Q rest (a.put o.dst undef) w'):wpList P ops Q (o::rest) a w:=by
 obtain ⟨u,hg⟩:=hb
 obtain ⟨i,hi,_,hs⟩:=hA.hi
 refine wpList_store_row BT t x y ho g cs.toArray hx hy u old.toArray hg (by rw [hi];simp [hs,hl]) (by simp [xy,hl]) (by simpa using h1) ?_
 exact h _ ⟨u,setRow_heap w g _ _ u _ hg⟩ (QW w g _) (by simp)
theorem Fr (hA:Re P t e n z) (BT:o.guard=none) (x y:Operand) (ho:o.op = .index t x y) (cs:List Value) (hx:a.eval x = .agg cs.toArray) (i:Nat) (hy:a.eval y = .int .i64 (i:Int)) (hi:i<n) (v:Value) (hv:cs[i]? = some v)
  (h:wpList P ops Q rest (a.put o.dst v) w):wpList P ops Q (o::rest) a w:=by
 obtain ⟨ie,hie,hs⟩:=hA.he
 obtain ⟨d,hd,qV⟩:=hA.hl
 refine zGQ BT fun K hK=>?_
 have hag:(isAgg e).run P w = .ok false w:=by
  unfold isAgg
  rw [zCK,zDG hd w]
  cases d<;>simp_all [DN]
 have hr:(Instr.index t (.agg cs.toArray) (.int .i64 (i:Int))).run P w = .ok v w:=by
  have hp:(part e cs.toArray i).run P w = .ok v w:=by
   unfold part
   simp [zCK,hag,hv]
  simp [Instr.index,asIntOf,zCK,zDG hA.ht w,sizeOf,typeInfo,hie,hs,hp]
  exact fun hn=>absurd hn (by omega)
 unfold Oper.wp execOp
 simp only [ho,hx,hy,zCK,hr,zCG]
 exact hK _ _ h
theorem aT (hA:Re P t e n z) {fn:Func} {p:Tmp} (h:fn.results = #[.cell p t]) (tmps:Array Value) (g:Nat) (hp:tmps.getD p undef = .pointer (some ⟨g,0,none⟩)) (cs:List Value) (hb:Ao w g cs) (hl:cs.length=n) :
  (results fn tmps).run P w = .ok (.agg cs.toArray) w:=by
 obtain ⟨u,hg⟩:=hb
 obtain ⟨i,hi,_,hs⟩:=hA.hi
 exact results_cell_row h tmps w g u cs.toArray (0,0) _ hp hg hA.ht rfl (by rw [hi];simp [hs,hl])
end
end
theorem Tryz.infoU8:(Tryz.prog.info? 5).map (fun i=>(i.zero,i.size,i.bytes))=some (some (.int .u8 0),1,1):=by kernel_rfl
theorem Tryz.CG:Cd Tryz.prog 25 5 1 1:=Cd.mk' Tryz.underlying25 Tryz.infoU8 rfl (by decide)
theorem Z3 (w:World) (cs:Array Value) (fr:Nat × Nat) (l:List Nat) (n:Nat) (h:cs.toList=B9 l) (hl:l.length=n) (hn:n≤maxLen):Rd (w.alloc (.cells cs 5 fr)) 1 (.slice (some ⟨w.heap.size,0,none⟩) n n) l.length (B9 l):=by
 subst hl
 refine ⟨_,_,rfl,by simp [Fg],zAD _,hn,(fun e=>by cases e),fun ad e j u hu=>?_⟩
 cases e
 have e1:(⟨w.heap.size,0,none⟩:Addr).add j=⟨w.heap.size,j,none⟩:=by unfold Addr.add;split<;>simp_all
 rw [e1,World.cell?_alloc_mark,← zEJ,h]
 exact hu
abbrev AR:=Cp 5 (fun c:Nat=>Value.int .u8 (c:Int))
structure YB (w:World) (o:Nat × List Nat) (e:Ending) (w':World):Prop where
 res:∃r,e = .returned (.tuple #[r,.int .i64 (o.1:Int)])∧Rd w' 1 r o.2.length (B9 o.2)∧(∀k,r.ownBlock=some k→w.heap.size≤k)
 AA:Below w.heap.size w w'
theorem DE (x:Nat) (hx:x<18446744073709551616) (w:World) :
  Calls Tryz.prog 76 #[.int .u64 (x:Int)] w fun e w'=>∃r,e = .returned r∧MI w w' 5 1 r (Ab x).length (B9 (Ab x)):=by
 induction x using Nat.strongRecOn generalizing w with
 | _ x ih=>
  by_cases h:x<128
  ·have Aq:(x:Int)<128:=by omega
   rw [AZ h]
   clear ih
   go_enter Tryz.func76,Tryz.ntmps76
   go_wp2
   go_ret
   exact ⟨_,rfl,zCZ (base:=w.heap.size) w #[.int .u8 (x:Int)] 1 (zAD _) (by simp [maxLen]) (by simp),(zAM _ _).alloc (zAD _) _⟩
  ·have Aq:¬(x:Int)<128:=by omega
   have HI:=zAA (ih (x / 128) (by omega) (by omega))
   have Bg:=SA 8 (x / 128) (by omega)
   have hd:((x / 128:Nat):Int)=(x:Int) / 128:=by omega
   have HD:=zAA hd
   clear ih hd
   go_enter Tryz.func76,Tryz.ntmps76
   go_wp2_with fail
   rw [← HD.out]
   refine (HI.out _).mono ?_
   rintro e w' ⟨r,rfl,hM⟩
   obtain ⟨rp,rc,hr⟩:=(Rd.Ad hM.1).shape
   subst hr
   have HR:=zAA (Rd.Ad hM.1)
   have hB:Below w.heap.size w w':=((zAM _ w).alloc (zAD _) _).trans (hM.2.mono (by simp))
   have HB:=zAA hB
   have HO:Hid (w'.ownsRow 0 5 1 (.slice (some ⟨w.heap.size,0,none⟩) 1 1) 1 [.int .u8 ((x:Int) % 128+128)]):=
    (Ac.Ah hM.2 (fun _=>False)).owns (zCZ (base:=0) w #[.int .u8 ((x:Int) % 128+128)] 1 (zAJ _) (by simp [maxLen]) (by simp)) (fun _ _ e=>e)
   have HL:Hid ((1+(Ab (x / 128)).length)*1≤140737488355328∧1+(Ab (x / 128)).length≤maxLen):=by show _∧_;unfold maxLen;omega
   clear hM hB
   go_wp2_with (at_builtin;refine At Tryz.CG _ _ _ _ _ _ _ HO.out HR.out (A3 _) HL.out rfl _ _ rfl rfl rfl ?_)
   intro v' w2 Au AU DK
   have HM:Hid (MI w w2 5 1 v' (Ab x).length (B9 (Ab x))):=by
    refine ⟨?_,HB.out.trans (AU.below HB.out.size (fun k hk e=>by simp [Value.ownBlock] at e;omega))⟩
    have h2:=Af Au (base':=w.heap.size) (fun k hk=>by
     rcases DK k hk with e | e
     ·simp [Value.ownBlock] at e;omega
     ·have:=HB.out.size;omega)
    rw [C8 h,zAH,Nat.add_comm]
    simpa [B9] using h2
   clear Au AU DK
   go_wp2
   go_ret
   exact ⟨_,rfl,HM.out⟩
end Go.Proofs.YtdcgbgecbeegmaaGreatDoor
end
