/- Texts 5. -/
import Derived.Test.YtdcgbgecbeegmaaGreatDoorMgD4
import Derived.OrdersHeld
import Derived.Test.YtdcgbgecbeegmaaGreatDoorMgD2
import Derived.Test.YtdcgbgecbeegmaaGreatDoorMgD3
import Derived.Test.YtdcgbgecbeegmaaGreatDoorMgD1
import Derived.Laws.Rows
import Derived.Laws.PanicsMore
set_option linter.unusedVariables false
set_option linter.unusedSimpArgs false
section
namespace Go.Proofs.YtdcgbgecbeegmaaGreatDoor
open Go Go.RowKit
def wpTakeH (P : Program) (ops : Array Oper) (Q : Exit → Act → World → Prop) (calls : List Nat) (S : World → Prop) : List (Nat × Oper) → Act → World → Prop
  | [], a, w => Q .normal a w
  | (i, o) :: rest, a, w => if Region.wanted o (yielded ops a.tmps) = true then
        (if calls.contains i = true then o.wp P a w (fun a' w' => S w' ∧ wpTakeH P ops Q calls S rest a' w') Q else ∃ v, (∀ w, S w → (execOp a.eval o).run P w = .ok (.value v) w) ∧ wpTakeH P ops Q calls S rest (a.put o.dst v) w)
      else wpTakeH P ops Q calls S rest (a.put o.dst undef) w
section
variable {P:Program} {l:List Oper} {Q:Exit→Act→World→Prop} {md:Region.Mode} {calls:List Nat} {S:World→Prop}
theorem wpAnyH_of_take (hs:Region.noSelect l.toArray=true) (hQ:∀c (a a':Act) w,a.defers=a'.defers→Q (.panic c) a w→Q (.panic c) a' w):∀(L:List Nat) (listed:Array Bool) (a:Act) (w:World) (fuel:Nat),L.length≤fuel→
  (∀i∈L,i<l.length)→orderB md l.toArray calls L listed=true→S w→wpTakeH P l.toArray Q calls S (taken l L) a w→wpAnyH P md l.toArray Q S fuel listed a w
 | [],listed,a,w,fuel,_,_,hB,_,h=>wpAnyH_done (by simpa [orderB] using hB) h fuel
 | i::rest,listed,a,w,0,hf,_,_,_,_=>by simp at hf
 | i::rest,listed,a,w,fuel+1,hf,hl,hB,hS,h=>by
  have hf':rest.length≤fuel:=by simpa using hf
  have hl':∀j∈rest,j<l.length:=fun j hj=>hl j (by simp [hj])
  have hi:i<l.length:=hl i (by simp)
  unfold orderB at hB
  rw [Bool.and_eq_true] at hB
  obtain ⟨h1,h2⟩:=hB
  have ho:l.toArray[i]? = some l[i]:=by simp [hi]
  have e:taken l (i::rest)=(i,l[i])::taken l rest:=by simp [taken,hi]
  rw [e] at h
  unfold wpTakeH at h
  generalize l[i]=o at *
  by_cases hc:calls.contains i=true
  ·rw [if_pos hc] at h1 h
   have hr:Region.ready md l.toArray listed=[i]:=by simpa using h1
   refine wpAnyH_all hr (by simp) (fun j hj=>?_)
   obtain rfl:j=i:=by simpa using hj
   unfold wpOp
   simp only [ho]
   split
   ·next hw=>
    rw [if_pos hw] at h
    exact .inl (Oper.wp_mono (fun a w h=>⟨h.1,wpAnyH_of_take hs hQ rest _ a w fuel hf' hl' h2 h.1 h.2⟩) h)
   ·next hw=>
    rw [if_neg hw] at h
    exact ⟨hS,wpAnyH_of_take hs hQ rest _ _ w fuel hf' hl' h2 hS h⟩
  ·rw [if_neg hc] at h1 h
   rw [Bool.and_eq_true] at h1
   by_cases hw:Region.wanted o (yielded l.toArray a.tmps)=true
   ·rw [if_pos hw] at h
    obtain ⟨v,hv,h⟩:=h
    exact wpAnyH_take ho hs h1.1 h1.2 (fun c a w h=>hQ c _ _ w (put_defers _ _ _) h) (.inl ⟨hw,hv⟩) hS (wpAnyH_of_take hs hQ rest _ _ w fuel hf' hl' h2 hS h)
   ·rw [if_neg hw] at h
    exact wpAnyH_take ho hs h1.1 h1.2 (fun c a w h=>hQ c _ _ w (put_defers _ _ _) h) (.inr ⟨by simpa using hw,rfl⟩) hS (wpAnyH_of_take hs hQ rest _ _ w fuel hf' hl' h2 hS h)
theorem wp_region_takeH {id:Nat} {a:Act} {w:World} (S:World→Prop) (calls L:List Nat) (hm:P.follows .mixedOrders=true) (hs:Region.noSelect l.toArray=true) (hB:(decide (L.length≤l.length)&&(L.all (fun i=>decide (i<l.length))&&orderB .any l.toArray calls L (Array.replicate l.length false)))=true)
  (hQ:∀c (a a':Act) w,a.defers=a'.defers→Q (.panic c) a w→Q (.panic c) a' w) (hS:S w.drew) (h:wpTakeH P l.toArray Q calls S (taken l L) a w.drew):(Code.region id l.toArray true).wp P Q a w:=by
 rw [Bool.and_eq_true,Bool.and_eq_true] at hB
 refine wp_region_held hm (wpAnyH_of_take hs hQ L _ a _ _ (by simpa using hB.1) (by simpa using hB.2.1) (by simpa using hB.2.2) hS h)
variable {ops:Array Oper}
theorem takeH_nil {a:Act} {w:World} (h:Q .normal a w):wpTakeH P ops Q calls S [] a w:=h
theorem takeH_skip {i:Nat} {o:Oper} {rest:List (Nat × Oper)} {a:Act} {w:World} (hw:Region.wanted o (yielded ops a.tmps)=false) (h:wpTakeH P ops Q calls S rest (a.put o.dst undef) w):wpTakeH P ops Q calls S ((i,o)::rest) a w:=by
 unfold wpTakeH
 simp only [hw]
 exact h
theorem takeH_blind {i:Nat} {o:Oper} {rest:List (Nat × Oper)} {a:Act} {w:World} (hc:calls.contains i=false) (hw:Region.wanted o (yielded ops a.tmps)=true)
  (h:∃v,(∀w,(execOp a.eval o).run P w = .ok (.value v) w)∧wpTakeH P ops Q calls S rest (a.put o.dst v) w):wpTakeH P ops Q calls S ((i,o)::rest) a w:=by
 unfold wpTakeH
 simp only [hw,hc]
 obtain ⟨v,h1,h2⟩:=h
 exact ⟨v,fun w _=>h1 w,h2⟩
theorem takeH_read {i:Nat} {o:Oper} {rest:List (Nat × Oper)} {a:Act} {w:World} (hc:calls.contains i=false) (hw:Region.wanted o (yielded ops a.tmps)=true) (v:Value)
  (h1:∀w,S w→(execOp a.eval o).run P w = .ok (.value v) w) (h:wpTakeH P ops Q calls S rest (a.put o.dst v) w):wpTakeH P ops Q calls S ((i,o)::rest) a w:=by
 unfold wpTakeH
 simp only [hw,hc]
 exact ⟨v,h1,h⟩
theorem takeH_call {i:Nat} {o:Oper} {rest:List (Nat × Oper)} {a:Act} {w:World} (hc:calls.contains i=true) (hw:Region.wanted o (yielded ops a.tmps)=true)
  (h:∀K:Act→World→Prop,(∀a w,S w→wpTakeH P ops Q calls S rest a w→K a w)→o.wp P a w K Q):wpTakeH P ops Q calls S ((i,o)::rest) a w:=by
 unfold wpTakeH
 simp only [hw,hc]
 exact h (fun a' w'=>S w'∧wpTakeH P ops Q calls S rest a' w') (fun _ _ h1 h2=>⟨h1,h2⟩)
theorem exec_from {t e:TypeId} {sz bytes:Nat} (hE:Elem P t e sz bytes) (w:World) (p:Option Addr) (n c i:Nat) (hi:i≤n) {o:Oper} {a:Act} (s x:Operand) (ho:o.op = .slice t s (some x) none none)
  (hs:a.eval s = .slice p n c) (hx:a.eval x = .int .i64 (i:Int)):(execOp a.eval o).run P w = .ok (.value (sliced p i n c sz)) w:=by
 obtain ⟨inf,z,hinf,hz,hsize,hby,hzs⟩:=hE.hi
 have helem:P.elem t=e:=by simp [Program.elem,hE.ht]
 have hu:P.underlying t=some (.slice (P.elem t)):=by rw [helem];exact hE.ht
 have hcell:P.cellsOf (P.elem t)=sz:=by rw [helem];simp [Program.cellsOf,hinf,hsize]
 have hr:(Instr.sliceAt t (.slice p n c) (some (.int .i64 (i:Int))) none none).run P w = .ok (sliced p i n c sz) w:=by
  have hsz:=run_sizeOf (w:=w) (show P.info? (P.elem t)=some inf by rw [helem];exact hinf)
  rw [run_sliceAt_slice (h:=hu),run_slice_l (ht:=hu) (h0:=by omega) (h1:=by omega),hsz,hcell]
  simp [Result.andThen]
 unfold execOp
 simp only [ho,Sem.run_bind,Sem.run_pure,Result.andThen_ok,hs,hx,hr,Option.map_some,Option.map_none]
end
end Go.Proofs.YtdcgbgecbeegmaaGreatDoor
end
section
namespace Go.Proofs.YtdcgbgecbeegmaaGreatDoor
open Go Go.RowKit
section
variable {P:Program} {ops:Array Oper} {Q:Exit→Act→World→Prop} {calls:List Nat} {S:World→Prop}
theorem takeH_reads {i:Nat} {o:Oper} {rest:List (Nat × Oper)} {a:Act} {w:World} (hc:calls.contains i=false) (hw:Region.wanted o (yielded ops a.tmps)=true)
  (h:∃v,(∀w,S w→(execOp a.eval o).run P w = .ok (.value v) w)∧wpTakeH P ops Q calls S rest (a.put o.dst v) w):wpTakeH P ops Q calls S ((i,o)::rest) a w:=by
 obtain ⟨v,h1,h2⟩:=h
 exact takeH_read hc hw v h1 h2
theorem takeH_run {i:Nat} {o:Oper} {rest:List (Nat × Oper)} {a:Act} {w:World} (hc:calls.contains i=true) (hw:Region.wanted o (yielded ops a.tmps)=true) (v:Value) (w2:World) (h1:(execOp a.eval o).run P w = .ok (.value v) w2) (hS:S w2)
  (h:wpTakeH P ops Q calls S rest (a.put o.dst v) w2):wpTakeH P ops Q calls S ((i,o)::rest) a w:=by
 unfold wpTakeH
 simp only [hw,hc]
 show o.wp P a w (fun a' w'=>S w'∧wpTakeH P ops Q calls S rest a' w') Q
 unfold Oper.wp
 rw [h1]
 exact ⟨hS,h⟩
theorem exec_fromTo {t e:TypeId} {sz bytes:Nat} (hE:Elem P t e sz bytes) (w:World) (p:Option Addr) (n c i k:Nat) (hi:i≤k) (hk:k≤c) {o:Oper} {a:Act} (s x y:Operand) (ho:o.op = .slice t s (some x) (some y) none)
  (hs:a.eval s = .slice p n c) (hx:a.eval x = .int .i64 (i:Int)) (hy:a.eval y = .int .i64 (k:Int)):(execOp a.eval o).run P w = .ok (.value (sliced p i k c sz)) w:=by
 obtain ⟨inf,z,hinf,hz,hsize,hby,hzs⟩:=hE.hi
 have helem:P.elem t=e:=by simp [Program.elem,hE.ht]
 have hu:P.underlying t=some (.slice (P.elem t)):=by rw [helem];exact hE.ht
 have hcell:P.cellsOf (P.elem t)=sz:=by rw [helem];simp [Program.cellsOf,hinf,hsize]
 have hr:(Instr.sliceAt t (.slice p n c) (some (.int .i64 (i:Int))) (some (.int .i64 (k:Int))) none).run P w = .ok (sliced p i k c sz) w:=by
  have hsz:=run_sizeOf (w:=w) (show P.info? (P.elem t)=some inf by rw [helem];exact hinf)
  rw [run_sliceAt_slice (h:=hu),run_slice_lh (ht:=hu) (h0:=by omega) (h1:=by omega) (h2:=by omega),hsz,hcell]
  simp [Result.andThen]
 unfold execOp
 simp only [ho,Sem.run_bind,Sem.run_pure,Result.andThen_ok,hs,hx,hy,hr,Option.map_some,Option.map_none]
theorem exec_extend {t e:TypeId} {sz bytes:Nat} (hE:Elem P t e sz bytes) (w:World) (v v2:Value) (n m:Nat) (xs news:List Value) (hown:w.ownsRow 0 e sz v n xs) (hr:Rd w sz v2 m news) (h1:∀u∈news,u.oneCell'=true) (hb:(n+m)*bytes≤140737488355328∧n+m≤maxLen)
  {o:Oper} {a:Act} (s x:Operand) (ho:o.op = .call { callee:=.builtin .append,args:=#[s,x],argTypes:=#[t,t] }) (hs:a.eval s=v) (hx:a.eval x=v2) :
  ∃v' w',(execOp a.eval o).run P w = .ok (.value v') w'∧w'.ownsRow 0 e sz v' (n+m) (xs++news)∧Mods (fun k=>v.ownBlock=some k) w w'∧Fresh w.heap.size v v':=by
 obtain ⟨i,z,hi,hz,hsize,hby,hzs⟩:=hE.hi
 obtain ⟨p,c,rfl,hl,hc1,hc2,hnil,hcell⟩:=hr
 cases p with
 | none=>
  obtain ⟨rfl,rfl⟩:=hnil rfl
  obtain rfl:news=[]:=List.eq_nil_of_length_eq_zero (by simpa using hl)
  have hr:=run_append_owned_none (P:=P) w 0 t o.type e i sz hE.ht hi v n xs hown
  refine ⟨v,w,?_,by simpa using hown,Mods.refl _ _,Fresh.refl _ _⟩
  unfold execOp
  simp only [ho,resolve,invoke,builtin,Sem.run_bind,Sem.run_pure,Result.andThen_ok,List.map_toArray,List.map_cons,List.map_nil,hs,hx,hr]
 | some ad=>
  obtain ⟨v',w',hr,h2,h3,h4⟩:=run_app (P:=P) w t o.type e i z sz bytes hE.ht hi hz hsize hby hzs hE.pos v n xs hown ad m c news hl (hcell ad rfl) h1 hb.2 hb.1
  refine ⟨v',w',?_,h2,h3,h4⟩
  unfold execOp
  simp only [ho,resolve,invoke,builtin,Sem.run_bind,Sem.run_pure,Result.andThen_ok,List.map_toArray,List.map_cons,List.map_nil,hs,hx,hr]
theorem takeH_extend {t e:TypeId} {sz bytes:Nat} (hE:Elem P t e sz bytes) {i:Nat} {o:Oper} {rest:List (Nat × Oper)} {a:Act} {w:World} (hc:calls.contains i=true) (hw:Region.wanted o (yielded ops a.tmps)=true) (s x:Operand)
  (ho:o.op = .call { callee:=.builtin .append,args:=#[s,x],argTypes:=#[t,t] }) {v v2:Value} (hs:a.eval s=v) (hx:a.eval x=v2) {n m:Nat} {xs news:List Value} (hown:w.ownsRow 0 e sz v n xs) (hr:Rd w sz v2 m news) (h1:∀u∈news,u.oneCell'=true) (hb:(n+m)*bytes≤140737488355328∧n+m≤maxLen)
  (h:∀v' w',w'.ownsRow 0 e sz v' (n+m) (xs++news)→Mods (fun k=>v.ownBlock=some k) w w'→Fresh w.heap.size v v'→S w'∧wpTakeH P ops Q calls S rest (a.put o.dst v') w'):wpTakeH P ops Q calls S ((i,o)::rest) a w:=by
 obtain ⟨v',w',hrun,h2,h3,h4⟩:=exec_extend hE w v v2 n m xs news hown hr h1 hb s x ho hs hx
 obtain ⟨h5,h6⟩:=h v' w' h2 h3 h4
 exact takeH_run hc hw v' w' hrun h5 h6
end
end Go.Proofs.YtdcgbgecbeegmaaGreatDoor
end
section
namespace Go.Proofs.YtdcgbgecbeegmaaGreatDoor
open Go Go.RowKit
theorem stringsL_len (l:List Lab):(stringsL l).length=2*l.length:=by
 induction l with
 | nil=>rfl
 | cons x l ih=>rw [stringsL,List.flatMap_cons,List.length_append,← stringsL,ih,List.length_cons];simp;omega
theorem stringsL_step {l:List Lab} {i:Nat} {x:Lab} (hx:l[i]? = some x):stringsL (l.take (i+1))=stringsL (l.take i)++[x.1,x.2]:=by
 rw [List.take_add_one,hx];simp [stringsL]
end Go.Proofs.YtdcgbgecbeegmaaGreatDoor
end
section
set_option maxRecDepth 20000
namespace Go.Proofs.YtdcgbgecbeegmaaGreatDoor
open Go Go.RowKit
set_option maxHeartbeats 2000000 in
theorem ref_strings11 (lv:Value) (l:List Lab) (w:World) (hl:Rd w 2 lv l.length (labCells l)) (hn:l.length≤1000000) :
  Calls Tryz.prog 47 #[lv] w fun e w'=>∃r,e = .returned r∧Own1 9 Value.string w w' (stringsL l) r:=by
 have HL:=Lib.hid hl
 obtain ⟨pl,cl,hv⟩:=hl.shape
 subst hv
 have hmx:(l.length:Int)≤1000000:=by omega
 clear hl hn
 go_enter Tryz.func47,Tryz.ntmps47
 go_wp2_with fail
 go_loopw [3,4] (fun vv iv wr=>∃(i:Nat),i≤l.length∧iv = .int .i64 (i:Int)∧Hid (Own1 9 Value.string w wr (stringsL (l.take i)) vv)) (fun _ iv _=>l.length-(intOf iv).toNat)
 case atStart=>exact ⟨0,Nat.zero_le _,rfl,Own1.nil w⟩
 case round=>
  obtain ⟨i,hi,rfl,HO⟩:=hrel
  have him:(i:Int)≤1000000:=by omega
  by_cases hlt:i<l.length
  ·have hlt':(i:Int)<(l.length:Int):=by omega
   obtain ⟨⟨yn,yv⟩,hx⟩:∃x,l[i]? = some x:=⟨_,List.getElem?_eq_getElem hlt⟩
   obtain ⟨b,off,e⟩:=rd2_at HL.out hx
   subst e
   obtain ⟨c0,c1⟩:=rd2_cell (HL.out.below HO.out.bel) hx
   have HSt:=Lib.hid (stringsL_step hx)
   have hl1:(stringsL (l.take i)).length≤2000000:=by rw [stringsL_len,List.length_take];omega
   have HXx:=Lib.hid hx
   clear hx
   obtain ⟨pv,cv,hvv⟩:=HO.out.shape
   subst hvv
   have HBd:Hid (((stringsL (l.take i)).length+2)*16≤140737488355328∧(stringsL (l.take i)).length+2≤maxLen):=by show _∧_;unfold maxLen;omega
   clear hl1
   have HLit:Hid (Rd (wr.alloc (.cells #[.string yn,.string yv] 9)) 1 (.slice (some ⟨wr.heap.size,0,none⟩) 2 2) 2 (strs [yn,yv])):=
    Rd.of_owns (World.ownsRow_lit (base:=0) wr #[.string yn,.string yv] 2 (Nat.zero_le _) (by simp [maxLen]) (by simp))
   generalize stringsL (l.take i)=acc at *
   have HC:Hid (∀w':World,(w'.cell? ⟨b,off+i*2,none⟩=some (.string yn)∧w'.cell? ⟨b,off+i*2+1,none⟩=some (.string yv)∧True)→(w'.cell? ⟨b,off+i*2,none⟩=some (.string yn)∧w'.cell? ⟨b,off+i*2+1,none⟩=some (.string yv)∧True)):=fun _ h=>h
   have HCc:Hid (∀w',Below w.heap.size w w'→w'.cell? ⟨b,off+i*2,none⟩=some (.string yn)∧w'.cell? ⟨b,off+i*2+1,none⟩=some (.string yv)∧True):=fun w' hb=>⟨(rd2_cell (HL.out.below hb) HXx.out).1,(rd2_cell (HL.out.below hb) HXx.out).2,trivial⟩
   clear c0 c1
   go_wp2_with fail
   refine wp_region_takeH (fun w'=>w'.cell? ⟨b,off+i*2,none⟩=some (.string yn)∧w'.cell? ⟨b,off+i*2+1,none⟩=some (.string yv)∧True) [11,12] [0,1,2,3,4,5,6,7,8,9,10,11,12,13] (by kernel_rfl) (by kernel_rfl) (by kernel_rfl) ?_ ?_ ?_
   ·intro c a a' w hd h;exact ⟨hd ▸ h.1,h.2⟩
   ·exact HCc.out _ (HO.out.bel.trans ⟨rfl,rfl,rfl,Nat.le_refl _,fun _ _=>rfl⟩)
   simp only [taken,List.map_cons,List.map_nil,List.getElem?_cons_succ,List.getElem?_cons_zero,Option.getD_some]
   repeat (first
        | (refine takeH_skip rfl ?_; simp only [Act.put, List.setIfInBounds_toArray, List.set_cons_succ, List.set_cons_zero])
        | (refine takeH_blind rfl rfl ?_; apply Exists.intro; refine ⟨fun w => ?_, ?_⟩; (go_simp; try with_reducible rfl); simp only [Act.put, List.setIfInBounds_toArray, List.set_cons_succ, List.set_cons_zero])
        | (refine takeH_reads rfl rfl ?_; apply Exists.intro; refine ⟨fun w' hS => ?_, ?_⟩; (obtain ⟨d0, d1, d2⟩ := HC.out w' hS; go_simp; try with_reducible rfl); simp only [Act.put, List.setIfInBounds_toArray, List.set_cons_succ, List.set_cons_zero]))
   have HB3:Hid (Below wr.heap.size wr (wr.alloc (.cells #[.string yn,.string yv] 9)).drew):=((Below.refl _ wr).alloc (Nat.le_refl _) _).trans ⟨rfl,rfl,rfl,Nat.le_refl _,fun _ _=>rfl⟩
   have HO3:=Lib.hid (HO.out.below HB3.out)
   have HLd:Hid (Rd (wr.alloc (.cells #[.string yn,.string yv] 9)).drew 1 (.slice (some ⟨wr.heap.size,0,none⟩) 2 2) 2 (strs [yn,yv])):=HLit.out.mods (Mods.drew (fun _=>False) _) (fun _ _ e=>e)
   refine takeH_run rfl rfl (.slice (some ⟨wr.heap.size,0,none⟩) 2 2) (wr.alloc (.cells #[.string yn,.string yv] 9)).drew (by go_simp;try rfl) (HCc.out _ HO3.out.bel) ?_
   simp only [Act.put,List.setIfInBounds_toArray,List.set_cons_succ,List.set_cons_zero]
   have HOb:=Lib.hid HO3.out.base0
   generalize (wr.alloc (.cells #[.string yn,.string yv] 9)).drew=w2 at *
   refine takeH_extend Tryz.elemStr rfl rfl _ _ rfl rfl rfl HOb.out HLd.out (strs_one _) HBd.out ?_
   intro v3 w3 k1 k2 k3
   have HO4:Hid (Own1 9 Value.string w w3 (stringsL (l.take (i+1))) v3):=by show Own1 _ _ _ _ _ _;rw [HSt.out];exact HO3.out.extended (e:=[yn,yv]) k1 k2 k3
   refine ⟨HCc.out _ HO4.out.bel,?_⟩
   obtain ⟨p3,c3,hv3⟩:∃p c,v3 = .slice p (acc.length+2) c:=(Rd.of_owns k1).shape
   subst hv3
   clear k1 k2 k3 HOb HLd HLit HO3 HCc
   repeat (first
        | (refine takeH_skip rfl ?_; simp only [Act.put, List.setIfInBounds_toArray, List.set_cons_succ, List.set_cons_zero])
        | (refine takeH_blind rfl rfl ?_; apply Exists.intro; refine ⟨fun w => ?_, ?_⟩; (go_simp; try with_reducible rfl); simp only [Act.put, List.setIfInBounds_toArray, List.set_cons_succ, List.set_cons_zero]))
   refine takeH_nil ?_
   go_wp2_with fail
   go_round
   case rel=>exact ⟨i+1,by omega,by go_num,HO4.out⟩
   case measure=>simp [intOf];omega
  ·have hlt':¬(i:Int)<(l.length:Int):=by omega
   rw [List.take_of_length_le (by omega)] at HO
   obtain ⟨pv,cv,hvv⟩:=HO.out.shape
   subst hvv
   go_wp2_with fail
   go_ret
   exact ⟨_,rfl,HO.out⟩
end Go.Proofs.YtdcgbgecbeegmaaGreatDoor
end
section
namespace Go.Proofs.YtdcgbgecbeegmaaGreatDoor
open Go Go.RowKit
abbrev OwnS:=Own1 9 Value.string
structure GotL (w:World) (l:List ByteArray) (r:Value) (w':World):Prop where
 rd:Rd w' 1 r l.length (strs l)
 far:∀k,r.ownBlock=some k→w.heap.size≤k
 bel:Below w.heap.size w w'
end Go.Proofs.YtdcgbgecbeegmaaGreatDoor
end
section
set_option maxRecDepth 20000
namespace Go.Proofs.YtdcgbgecbeegmaaGreatDoor
open Go Go.RowKit
def symsB (b:List Ser):List ByteArray:=b.flatMap fun s=>stringsL s.1
theorem symsB_step {b:List Ser} {i:Nat} {s:Ser} (h:b[i]? = some s):symsB (b.take (i+1))=symsB (b.take i)++stringsL s.1:=by
 rw [symsB,List.take_add_one,h,List.flatMap_append];simp [symsB]
theorem symsB_flat (b:List Ser):(symsB b).length=2*(b.map Prod.fst).flatten.length:=by
 induction b with
 | nil=>rfl
 | cons s b ih=>
  have e:symsB (s::b)=stringsL s.1++symsB b:=rfl
  rw [e,List.length_append,ih,stringsL_len,List.map_cons,List.flatten_cons,List.length_append]
  omega
theorem symsB_mid {b:List Ser} (h:Mid b) (i:Nat):(symsB (b.take i)).length≤120000:=by
 rw [symsB_flat]
 have h1:((b.take i).map Prod.fst).flatten.length≤(b.map Prod.fst).flatten.length:=by
  have e:(b.map Prod.fst).flatten=((b.take i).map Prod.fst).flatten++((b.drop i).map Prod.fst).flatten:=by rw [← List.flatten_append,← List.map_append,List.take_append_drop]
  rw [e,List.length_append]
  omega
 have:=h.flat
 omega
end Go.Proofs.YtdcgbgecbeegmaaGreatDoor
end
section
namespace Go.Proofs.YtdcgbgecbeegmaaGreatDoor
open Go Go.RowKit
def winE (l:List Sam):List (List Sam):=(List.range ((l.length+119) / 120)).map fun k=>(l.drop (120*k)).take 120
def winTo (l:List Sam) (k:Nat):List (List Sam):=(List.range k).map fun k=>(l.drop (120*k)).take 120
theorem winTo_all (l:List Sam):winTo l ((l.length+119) / 120)=winE l:=rfl
theorem winTo_step (l:List Sam) (k:Nat):winTo l (k+1)=winTo l k++[(l.drop (120*k)).take 120]:=by
 rw [winTo,List.range_succ,List.map_append];rfl
theorem winE_join (l:List Sam):(winE l).flatten=l:=by
 have h:∀k,(winTo l k).flatten=l.take (120*k):=by
  intro k
  induction k with
  | zero=>simp [winTo]
  | succ k ih=>
   rw [winTo_step,List.flatten_append,ih,show 120*(k+1)=120*k+120 by omega,List.take_add]
   simp
 rw [← winTo_all,h,List.take_of_length_le (by omega)]
theorem winE_mem {l:List Sam} {c:List Sam} (h:c∈winE l):c≠[]∧c.length≤120∧∀s∈c,s∈l:=by
 obtain ⟨k,hk,rfl⟩:=List.mem_map.1 h
 have hk':=List.mem_range.1 hk
 refine ⟨fun e=>?_,by rw [List.length_take];omega,fun s hs=>List.mem_of_mem_drop (List.mem_of_mem_take hs)⟩
 have:=congrArg List.length e
 rw [List.length_take,List.length_drop,List.length_nil] at this
 omega
def lensE (l:List Sam):List Int:=(winE l).map fun c=>((encC c).1.length:Int)
def recE (s:Ser):Rec:=(s.1,lensE s.2)
def bytesE (l:List Sam):List Nat:=(winE l).flatMap fun c=>(encC c).1
def chunksB (b:List Ser):List Nat:=b.flatMap fun s=>bytesE s.2
def tabE (b:List Ser):List ByteArray:=tabS (symsB b)
def secsE (b:List Ser):List (List Nat):=[(encSyR (tabE b)).2,(encRcR (tabE b) (b.map recE)).2,chunksB b,(encPoR (tabE b) (buildP (b.map Prod.fst))).2]
def encBl (b:List Ser):Nat × List Nat:=if checkB b=0 then (0,asmL (secsE b)) else (checkB b,[])
theorem secsE_four (b:List Ser):(secsE b).length=4:=rfl
theorem chunksB_step {b:List Ser} {i:Nat} {s:Ser} (h:b[i]? = some s):chunksB (b.take (i+1))=chunksB (b.take i)++bytesE s.2:=by
 rw [chunksB,List.take_add_one,h,List.flatMap_append];simp [chunksB]
theorem fManyS_append {α σ:Type} (f:σ→α→List Nat) (nx:σ→α→σ) (a b:List α):∀s,fManyS f nx s (a++b)=fManyS f nx s a++fManyS f nx (a.foldl nx s) b:=by
 induction a with
 | nil=>intro s;rfl
 | cons x a ih=>intro s;rw [List.cons_append,fManyS,fManyS,ih,List.append_assoc];rfl
def serTo (l:List Int) (k:Nat):List Nat:=fManyS serB (fun _ x=>some x) none (l.take k)
def lastZ (l:List Int):Nat→Int
 | 0=>0
 | k+1=>l.getD k 0
theorem lastZ_succ {l:List Int} {k:Nat} {x:Int} (h:l[k]? = some x):lastZ l (k+1)=x:=by rw [lastZ,List.getD_eq_getElem?_getD,h];rfl
theorem lastO (l:List Int) (k:Nat) (h:k≤l.length):((l.take k).foldl (fun (_:Option Int) x=>some x) none).getD 0=lastZ l k:=by
 cases k with
 | zero=>rfl
 | succ k=>
  obtain ⟨x,hx⟩:∃x,l[k]? = some x:=⟨_,List.getElem?_eq_getElem (by omega)⟩
  rw [List.take_add_one,hx,List.foldl_append,lastZ_succ hx]
  rfl
theorem serTo_step {l:List Int} {k:Nat} {x:Int} (h:l[k]? = some x):serTo l (k+1)=serTo l k++groups (x-lastZ l k).toNat:=by
 rw [serTo,List.take_add_one,h,fManyS_append]
 simp only [Option.toList_some,fManyS,List.append_nil,serB]
 rw [lastO l k (Nat.le_of_lt (List.getElem?_eq_some_iff.1 h).1)]
 rfl
theorem serTo_le (l:List Int) (k:Nat):(serTo l k).length≤(fManyS serB (fun _ x=>some x) none l).length:=by
 have h:fManyS serB (fun (_:Option Int) x=>some x) none l=serTo l k++fManyS serB (fun _ x=>some x) ((l.take k).foldl (fun (_:Option Int) x=>some x) none) (l.drop k):=by
  rw [serTo,← fManyS_append,List.take_append_drop]
 rw [h,List.length_append];omega
theorem serTo_top (l:List Int) (k:Nat):(serTo l k).length≤(serTo l l.length).length:=by
 have h:=serTo_le l k
 rwa [show fManyS serB (fun (_:Option Int) x=>some x) none l=serTo l l.length by rw [serTo,List.take_length]] at h
theorem serBytes_to (l:List Int):serBytes l=groups l.length++serTo l l.length:=by rw [serTo,List.take_length];rfl
theorem lastZ_le {l:List Int} {k:Nat} {x:Int} (h:l[k]? = some x) (ha:AscB ltI l) (h0:∀y∈l,0≤y):0≤lastZ l k∧lastZ l k≤x:=by
 have hx:=h0 x (List.mem_of_getElem? h)
 cases k with
 | zero=>exact ⟨Int.le_refl _,hx⟩
 | succ k=>
  obtain ⟨hl,e⟩:=List.getElem?_eq_some_iff.1 h
  obtain ⟨y,hy⟩:∃y,l[k]? = some y:=⟨_,List.getElem?_eq_getElem (by omega)⟩
  rw [lastZ_succ hy]
  refine ⟨h0 y (List.mem_of_getElem? hy),?_⟩
  unfold AscB at ha
  rw [List.pairwise_iff_getElem] at ha
  obtain ⟨hl2,e2⟩:=List.getElem?_eq_some_iff.1 hy
  have:=ha k (k+1) hl2 hl (by omega)
  rw [e,e2] at this
  simp only [ltI,decide_eq_true_eq] at this
  omega
def encE (t:List ByteArray) (l:List Ent) (i:Nat):List Nat:=groups l.length++(l.take i).flatMap (entBytes t)
theorem encE_step {t:List ByteArray} {l:List Ent} {i:Nat} {n v:ByteArray} {s:List Int} (h:l[i]? = some ((n,v),s)):encE t l (i+1)=encE t l i++groups (idxT t n)++groups (idxT t v)++groups s.length++serTo s s.length:=by
 rw [encE,List.take_add_one,h,List.flatMap_append,encE]
 simp [entBytes,labBytes,serBytes_to]
theorem encE_all (t:List ByteArray) (l:List Ent) (i:Nat) (h:l.length≤i):encE t l i=entsBytes t l:=by rw [encE,List.take_of_length_le h];rfl
theorem encE_le (t:List ByteArray) (l:List Ent) (i:Nat):(encE t l i).length≤(entsBytes t l).length:=by
 have:entsBytes t l=encE t l i++(l.drop i).flatMap (entBytes t):=by
  rw [encE,List.append_assoc,← List.flatMap_append,List.take_append_drop];rfl
 rw [this,List.length_append];omega
theorem encE_room {t:List ByteArray} {l:List Ent} {i:Nat} {n v:ByteArray} {s:List Int} (h:l[i]? = some ((n,v),s)):(encE t l i).length+(groups (idxT t n)).length+(groups (idxT t v)).length+(groups s.length).length+(serTo s s.length).length≤(entsBytes t l).length:=by
 have h1:=encE_le t l (i+1)
 rw [encE_step h] at h1
 simp only [List.length_append] at h1
 omega
theorem encPo_bad {t:List ByteArray} {l:List Ent} {e:Ent} (he:e∈l) (h:¬labIn t e.1):encPoR t l=(14,[]):=by rw [encPoR,if_neg (fun k=>h (k e he))]
theorem encPo_ok {t:List ByteArray} {l:List Ent} (h:∀e∈l,labIn t e.1):encPoR t l=(0,entsBytes t l):=by rw [encPoR,if_pos h]
theorem ser_len (l:List Int) (h:∀x∈l,0≤x∧x<1000000000):∀s:Option Int,0≤s.getD 0→(fManyS serB (fun _ x=>some x) s l).length≤10*l.length:=by
 induction l with
 | nil=>intro s _;simp [fManyS]
 | cons x l ih=>
  intro s hs
  have hx:=h x (by simp)
  rw [fManyS,List.length_append,List.length_cons]
  have h1:=ih (fun y hy=>h y (by simp [hy])) (some x) hx.1
  have h2:(serB s x).length≤10:=groups_ten (by omega)
  omega
theorem flat_len {α:Type} (f:α→List Nat) (k:Nat) (l:List α) (h:∀x∈l,(f x).length≤k):(l.flatMap f).length≤l.length*k:=by
 induction l with
 | nil=>simp
 | cons x l ih=>
  rw [List.flatMap_cons,List.length_append,List.length_cons,Nat.add_mul,Nat.one_mul]
  have h1:=ih (fun y hy=>h y (by simp [hy]))
  have h2:=h x (by simp)
  omega
theorem findS_le (t:List ByteArray) (s:ByteArray):(findS t s).toNat≤t.length:=by
 by_cases h:s∈t
 ·obtain ⟨j,hj,hjt⟩:=findS_in h
  have:=(List.getElem?_eq_some_iff.1 hjt).1
  omega
 ·rw [findS_out h];simp
end Go.Proofs.YtdcgbgecbeegmaaGreatDoor
end
section
set_option maxRecDepth 20000
namespace Go.Proofs.YtdcgbgecbeegmaaGreatDoor
open Go Go.RowKit
theorem tabS_asc (l:List ByteArray):AscB ltS (tabS l):=tabB_asc ltS_ok l
theorem tabS_mem (l:List ByteArray) (s:ByteArray):s∈tabS l↔s∈l:=tabB_mem ltS_ok l s
theorem tabS_fits {l:List ByteArray} (h:∀s∈l,s.size≤65535):Fits (tabS l):=fun s hs=>h s ((tabS_mem l s).1 hs)
end Go.Proofs.YtdcgbgecbeegmaaGreatDoor
end
section
namespace Go.Proofs.YtdcgbgecbeegmaaGreatDoor
open Go Go.RowKit
theorem labs_in_table (m:List (List Lab)):∀e∈buildP m,labIn (tabS (m.flatMap stringsL)) e.1:=by
 intro e he
 rw [build_idx] at he
 obtain ⟨y,hy,hx⟩:=List.mem_flatten.1 (idx_mem he).1
 have h1:e.1.1∈stringsL y:=List.mem_flatMap.2 ⟨e.1,hx,by simp⟩
 have h2:e.1.2∈stringsL y:=List.mem_flatMap.2 ⟨e.1,hx,by simp⟩
 exact ⟨(tabS_mem _ _).2 (List.mem_flatMap.2 ⟨y,hy,h1⟩),(tabS_mem _ _).2 (List.mem_flatMap.2 ⟨y,hy,h2⟩)⟩
theorem asc_cons2 {α:Type} {lt:α→α→Bool} (tr:∀a b c,lt a b=true→lt b c=true→lt a c=true) {a b:α} {l:List α} (h:lt a b=true) (hl:AscB lt (b::l)):AscB lt (a::b::l):=by
 obtain ⟨h1,h2⟩:=List.pairwise_cons.1 hl
 refine List.pairwise_cons.2 ⟨fun c hc=>?_,hl⟩
 rcases List.mem_cons.1 hc with rfl | hc
 ·exact h
 ·exact tr _ _ _ h (h1 c hc)
theorem check_from_zero:∀(l:List Lab) (p:Option ByteArray),checkFrom p l=0→(∀x∈l,oneL x=0)∧AscB ltN l∧∀n,p=some n→∀x,l.head? = some x→ltS n x.1=true
 | [],p,_=>⟨fun x hx=>(by cases hx),List.Pairwise.nil,fun n _ x hx=>by cases hx⟩
 | x::l,p,h=>by
  unfold checkFrom at h
  by_cases ho:oneL x=0
  ·rw [if_neg (not_not_intro ho)] at h
   have key:checkFrom (some x.1) l=0∧∀n,p=some n→ltS n x.1=true:=by
    cases p with
    | none=>exact ⟨h,fun n e=>by cases e⟩
    | some n=>
     simp only at h
     by_cases hx:x.1=n
     ·rw [if_pos hx] at h;cases h
     ·rw [if_neg hx] at h
      cases hl:ltS x.1 n with
      | true=>rw [hl,if_pos rfl] at h;cases h
      | false=>
       rw [hl,if_neg (by decide)] at h
       refine ⟨h,fun m e=>?_⟩
       cases e
       cases hn:ltS n x.1 with
       | true=>rfl
       | false=>exact absurd (ltS_ok.tot _ _ hl hn) hx
   obtain ⟨h1,h2,h3⟩:=check_from_zero l _ key.1
   refine ⟨fun y hy=>?_,?_,fun n e y hy=>?_⟩
   ·rcases List.mem_cons.1 hy with rfl | hy
    ·exact ho
    ·exact h1 y hy
   ·cases l with
    | nil=>exact List.pairwise_cons.2 ⟨fun y hy=>(by cases hy),List.Pairwise.nil⟩
    | cons y l=>exact asc_cons2 ltN_ok.tr (h3 x.1 rfl y rfl) h2
   ·cases hy
    exact key.2 n e
  ·rw [if_pos ho] at h;exact absurd h ho
theorem block_of_check {b:List Ser} (h:checkB b=0):Block b:=by
 have key:∀(l:List Ser) (p:Option (List Lab)),checkBFrom p l=0→(∀s∈l,serErr s=0)∧AscB ltB l∧∀q,p=some q→∀s,l.head? = some s→cmpLabs q s.1 = -1:=by
  intro l
  induction l with
  | nil=>intro p _;exact ⟨fun s hs=>(by cases hs),List.Pairwise.nil,fun q _ s hs=>by cases hs⟩
  | cons s l ih=>
   intro p h
   unfold checkBFrom at h
   by_cases hs:serErr s=0
   ·rw [if_neg (not_not_intro hs)] at h
    have hk:checkBFrom (some s.1) l=0∧∀q,p=some q→cmpLabs q s.1 = -1:=by
     cases p with
     | none=>exact ⟨h,fun q e=>by cases e⟩
     | some q=>
      simp only at h
      by_cases h0:cmpLabs q s.1=0
      ·rw [if_pos h0] at h;cases h
      ·rw [if_neg h0] at h
       by_cases h1:0<cmpLabs q s.1
       ·rw [if_pos h1] at h;cases h
       ·rw [if_neg h1] at h
        refine ⟨h,fun q' e=>?_⟩
        cases e
        have:=cmpLabs_ok.dom q s.1
        omega
    obtain ⟨k1,k2,k3⟩:=ih _ hk.1
    refine ⟨fun t ht=>?_,?_,fun q e t ht=>by cases ht;exact hk.2 q e⟩
    ·rcases List.mem_cons.1 ht with rfl | ht
     ·exact hs
     ·exact k1 t ht
    ·cases l with
     | nil=>exact List.pairwise_cons.2 ⟨fun y hy=>(by cases hy),List.Pairwise.nil⟩
     | cons t l=>exact asc_cons2 ltB_ok.tr (by simpa [ltB] using k3 s.1 rfl t rfl) k2
   ·rw [if_pos hs] at h;exact absurd h hs
 obtain ⟨h1,h2,_⟩:=key b none h
 have one:∀s∈b,checkL s.1=0∧s.2≠[]∧timesL s.2=0:=fun s hs=>by
  have h:=h1 s hs
  unfold serErr at h
  by_cases hc:checkL s.1=0
  ·rw [if_neg (not_not_intro hc)] at h
   by_cases h0:s.2=[]
   ·rw [if_pos h0] at h;cases h
   ·rw [if_neg h0] at h;exact ⟨hc,h0,h⟩
  ·rw [if_pos hc] at h;exact absurd h hc
 exact ⟨fun s hs=>⟨(check_from_zero _ _ (one s hs).1).2.1,(check_from_zero _ _ (one s hs).1).1⟩,fun s hs=>(one s hs).2.1,fun s hs=>(timesL_zero _).1 (one s hs).2.2,h2⟩
theorem tabE_fits {b:List Ser} (h:Block b):Fits (tabE b):=tabS_fits fun z hz=>by
 obtain ⟨s,hs,hz⟩:=List.mem_flatMap.1 hz
 obtain ⟨x,hx,hz⟩:=List.mem_flatMap.1 hz
 have ho:=(h.lab s hs).2 x hx
 unfold oneL at ho
 split at ho
 ·cases ho
 ·split at ho
  ·cases ho
  ·simp only [List.mem_cons,List.not_mem_nil,or_false] at hz
   rcases hz with rfl | rfl<;>omega
theorem tabE_in {b:List Ser} {s:Ser} (hs:s∈b):∀x∈s.1,labIn (tabE b) x:=fun x hx=>
 ⟨(tabS_mem _ _).2 (List.mem_flatMap.2 ⟨s,hs,List.mem_flatMap.2 ⟨x,hx,by simp⟩⟩),(tabS_mem _ _).2 (List.mem_flatMap.2 ⟨s,hs,List.mem_flatMap.2 ⟨x,hx,by simp⟩⟩)⟩
theorem encSy_block {b:List Ser} (h:Block b):encSyR (tabE b)=(0,encSy (tabE b)):=by
 rw [encSyR,if_neg (not_not_intro (tabE_fits h)),if_neg (not_not_intro (show AscB ltS (tabE b) from tabS_asc _))]
theorem encPo_block (b:List Ser):encPoR (tabE b) (buildP (b.map Prod.fst))=(0,entsBytes (tabE b) (buildP (b.map Prod.fst))):=by
 have e:tabE b=tabS ((b.map Prod.fst).flatMap stringsL):=by rw [tabE,symsB,List.flatMap_map]
 rw [encPoR,e,if_pos (labs_in_table _)]
theorem encC_chunk {c:List Sam} (h0:c≠[]) (h1:c.length≤120):(encC c).2=0∧2≤(encC c).1.length:=by
 rw [encC,if_neg h0,if_neg (by omega)]
 exact ⟨rfl,by simp⟩
theorem winE_ne {l:List Sam} (h:l≠[]):winE l≠[]:=fun e=>h (by rw [← winE_join l,e];rfl)
theorem lensE_ok {l:List Sam} (hlen:∀c∈winE l,(encC c).1.length≤2147483647):∀n∈lensE l,lenOk n:=fun n hn=>by
 obtain ⟨c,hc,rfl⟩:=List.mem_map.1 hn
 obtain ⟨a0,a1,_⟩:=winE_mem hc
 have h2:=(encC_chunk a0 a1).2
 have h3:=hlen c hc
 exact ⟨by omega,by omega⟩
theorem recs_block {b:List Ser} (h:Block b) (hlen:∀c:List Sam,(encC c).1.length≤2147483647):recsErr (tabE b) (b.map recE)=0:=by
 rw [recsErr_zero]
 intro r hr
 obtain ⟨s,hs,rfl⟩:=List.mem_map.1 hr
 refine recErr_zero.2 ⟨tabE_in hs,?_,lensE_ok fun c _=>hlen c⟩
 show lensE s.2≠[]
 intro e
 exact winE_ne (h.ne s hs) (List.map_eq_nil_iff.1 e)
theorem encRc_block {b:List Ser} (h:Block b) (hlen:∀c:List Sam,(encC c).1.length≤2147483647):encRcR (tabE b) (b.map recE)=(0,encRc (tabE b) (b.map recE)):=by
 rw [encRcR,if_pos (recs_block h hlen)]
theorem secs_block {b:List Ser} (h:Block b) (hlen:∀c:List Sam,(encC c).1.length≤2147483647) :
  secsE b=[encSy (tabE b),encRc (tabE b) (b.map recE),chunksB b,entsBytes (tabE b) (buildP (b.map Prod.fst))]:=by
 rw [secsE,encSy_block h,encRc_block h hlen,encPo_block]
theorem codes_split:∀(L M:List (List Sam)) (x y:List Nat),L.map (fun c=>((encC c).1.length:Int))=M.map (fun c=>((encC c).1.length:Int))→(L.flatMap fun c=>(encC c).1)++x=(M.flatMap fun c=>(encC c).1)++y→L.map (fun c=>(encC c).1)=M.map (fun c=>(encC c).1)∧x=y
 | [],[],x,y,_,h=>⟨rfl,by simpa using h⟩
 | [],d::M,x,y,hl,_=>by cases hl
 | c::L,[],x,y,hl,_=>by cases hl
 | c::L,d::M,x,y,hl,h=>by
  simp only [List.map_cons,List.cons.injEq] at hl
  simp only [List.flatMap_cons,List.append_assoc] at h
  obtain ⟨h1,h2⟩:=List.append_inj h (by omega)
  obtain ⟨h3,h4⟩:=codes_split L M x y hl.2 h2
  exact ⟨by rw [List.map_cons,List.map_cons,h1,h3],h4⟩
structure SzE (b:List Ser):Prop where
 blk:Block b
 tab:(tabE b).length<18446744073709551616
 lens:recLens (b.map recE)
 sam:∀s∈b,∀x∈s.2,sampleOk x
theorem codes_inj:∀(L M:List (List Sam)),(∀c∈L,c≠[]∧c.length≤120∧∀s∈c,sampleOk s)→(∀c∈M,c≠[]∧c.length≤120∧∀s∈c,sampleOk s)→L.map (fun c=>(encC c).1)=M.map (fun c=>(encC c).1)→L=M
 | [],[],_,_,_=>rfl
 | [],d::M,_,_,h=>by cases h
 | c::L,[],_,_,h=>by cases h
 | c::L,d::M,hL,hM,h=>by
  simp only [List.map_cons,List.cons.injEq] at h
  obtain ⟨c0,c1,c2⟩:=hL c (by simp)
  obtain ⟨d0,d1,d2⟩:=hM d (by simp)
  have e1:=decC_back c c0 c1 c2
  rw [h.1,decC_back d d0 d1 d2] at e1
  have e2:d=c:=congrArg Prod.fst e1
  rw [e2,codes_inj L M (fun x hx=>hL x (by simp [hx])) (fun x hx=>hM x (by simp [hx])) h.2]
theorem sers_inj:∀(a b:List Ser) (x y:List Nat),(∀s∈a,∀z∈s.2,sampleOk z)→(∀s∈b,∀z∈s.2,sampleOk z)→a.map recE=b.map recE→chunksB a++x=chunksB b++y→a=b
 | [],[],_,_,_,_,_,_=>rfl
 | [],t::b,_,_,_,_,h,_=>by cases h
 | s::a,[],_,_,_,_,h,_=>by cases h
 | s::a,t::b,x,y,ha,hb,hr,hc=>by
  simp only [List.map_cons,List.cons.injEq] at hr
  simp only [chunksB,List.flatMap_cons,List.append_assoc] at hc
  have hl:s.1=t.1:=congrArg (fun r:Rec=>r.1) hr.1
  have hn:lensE s.2=lensE t.2:=congrArg (fun r:Rec=>r.2) hr.1
  obtain ⟨h1,h2⟩:=codes_split (winE s.2) (winE t.2) _ _ hn hc
  have ok:∀(u:Ser),(∀z∈u.2,sampleOk z)→∀c∈winE u.2,c≠[]∧c.length≤120∧∀z∈c,sampleOk z:=fun u hu c hc=>by
   obtain ⟨k0,k1,k2⟩:=winE_mem hc
   exact ⟨k0,k1,fun z hz=>hu z (k2 z hz)⟩
  have hw:=codes_inj _ _ (ok s (ha s (by simp))) (ok t (hb t (by simp))) h1
  have hs:s.2=t.2:=by rw [← winE_join s.2,← winE_join t.2,hw]
  have he:s=t:=Prod.ext hl hs
  rw [he,sers_inj a b x y (fun u hu=>ha u (by simp [hu])) (fun u hu=>hb u (by simp [hu])) hr.2 h2]
theorem secs_inj17 {a b:List Ser} (ha:SzE a) (hb:SzE b) (hlen:∀c:List Sam,(encC c).1.length≤2147483647) (h:secsE a=secsE b):a=b:=by
 rw [secs_block ha.blk hlen,secs_block hb.blk hlen] at h
 simp only [List.cons.injEq,and_true] at h
 obtain ⟨h1,h2,h3,_⟩:=h
 have t1:=decSy_back (tabE a) (tabS_asc _) (tabE_fits ha.blk) ha.tab
 have t2:=decSy_back (tabE b) (tabS_asc _) (tabE_fits hb.blk) hb.tab
 rw [h1,t2] at t1
 have ht:tabE b=tabE a:=congrArg Prod.snd t1
 have r1:=decRc_back (t:=tabE a) (tabS_asc _) ha.tab (recs_block ha.blk hlen) ha.lens
 have r2:=decRc_back (t:=tabE b) (tabS_asc _) hb.tab (recs_block hb.blk hlen) hb.lens
 rw [ht] at r2 h2
 rw [h2,r2] at r1
 have hr:b.map recE=a.map recE:=congrArg Prod.snd r1
 exact sers_inj a b [] [] ha.sam hb.sam hr.symm (by rw [h3])
theorem enc_inj17 {a b:List Ser} (ha:SzE a) (hb:SzE b) (hlen:∀c:List Sam,(encC c).1.length≤2147483647) (oa:okS4 (secsE a)) (ob:okS4 (secsE b)) (la:(asmL (secsE a)).length<18446744073709551616) (lb:(asmL (secsE b)).length<18446744073709551616) :
  asmL (secsE a)=asmL (secsE b)↔a=b:=by
 constructor
 ·intro h
  have k1:=lay_back (secsE_four a) oa la
  have k2:=lay_back (secsE_four b) ob lb
  rw [h,k2] at k1
  exact (secs_inj17 hb ha hlen (congrArg Prod.fst k1)).symm
 ·rintro rfl;rfl
theorem encC_lt17 (l:List Sam):∀x∈(encC l).1,x<256:=by
 rw [encC]
 split
 ·intro x hx;cases hx
 ·split
  ·intro x hx;cases hx
  ·next h=>
   intro x hx
   rcases List.mem_cons.1 hx with e | hx
   ·rcases choose_tag (valuesC l) with h | h | h<;>omega
   ·rcases List.mem_cons.1 hx with e | hx
    ·omega
    ·exact pack_lt _ x hx
theorem encC_len17 (l:List Sam):(encC l).1.length≤100000:=by
 rw [encC]
 split
 ·simp
 ·split
  ·simp
  ·next h=>
   have h1:=bitsC_len (chooseC (valuesC l)) (valuesC l)
   have h2:=encT_len (timesC l)
   have e1:(timesC l).length=l.length:=by simp [timesC]
   have e2:(valuesC l).length=l.length:=by simp [valuesC]
   rw [List.length_cons,List.length_cons,pack_length,List.length_append]
   omega
theorem encC_small17 (l:List Sam):(encC l).1.length≤2147483647:=by have:=encC_len17 l;omega
theorem chunksB_lt (b:List Ser):∀c∈chunksB b,c<256:=fun c hc=>by
 obtain ⟨s,_,hc⟩:=List.mem_flatMap.1 hc
 obtain ⟨w,_,hc⟩:=List.mem_flatMap.1 hc
 exact encC_lt17 w c hc
theorem idx_ok17 {b:List Ser} (hn:(buildP (b.map Prod.fst)).length<18446744073709551616) (hm:∀e∈buildP (b.map Prod.fst),e.2.length<18446744073709551616):okEnts (tabE b) (b.length:Int) (buildP (b.map Prod.fst)):=by
 have e:tabE b=tabS ((b.map Prod.fst).flatMap stringsL):=by rw [tabE,symsB,List.flatMap_map]
 refine okEnts_iff.2 ⟨?_,by rw [e];exact labs_in_table _,hn,hm⟩
 rw [build_idx]
 have h:=idx_is (b.map Prod.fst)
 rwa [List.length_map] at h
theorem secs_lt17 {b:List Ser} (h:SzE b) (hb:b.length<9223372036854775808) (hn:(buildP (b.map Prod.fst)).length<18446744073709551616) (hm:∀e∈buildP (b.map Prod.fst),e.2.length<18446744073709551616):∀d∈secsE b,∀c∈d,c<256:=by
 rw [secs_block h.blk encC_small17]
 intro d hd
 simp only [List.mem_cons,List.not_mem_nil,or_false] at hd
 rcases hd with rfl | rfl | rfl | rfl
 ·exact encSy_lt _
 ·exact encRc_lt (tabS_asc _) h.tab (recs_block h.blk encC_small17) h.lens
 ·exact chunksB_lt b
 ·exact encPo_lt (tabS_asc _) h.tab (by omega) (idx_ok17 hn hm)
def i64s (l:List Int):List Value:=l.map fun x=>.int .i64 x
theorem i64s_length (l:List Int):(i64s l).length=l.length:=by simp [i64s]
theorem i64s_append (a b:List Int):i64s (a++b)=i64s a++i64s b:=by simp [i64s]
def RecAt (w:World) (h:Value × Value) (s:Rec):Prop:=Rd w 2 h.1 s.1.length (labCells s.1)∧Rd w 1 h.2 s.2.length (i64s s.2)
theorem RecAt.below {w w':World} {h:Value × Value} {s:Rec} (k:RecAt w h s) (hb:Below w.heap.size w w'):RecAt w' h s:=⟨k.1.below hb,k.2.below hb⟩
structure RdR (w:World) (v:Value) (b:List Rec):Prop where
 ex:∃hs:List (Value × Value),Rd w 2 v hs.length (two Prod.fst Prod.snd hs)∧hs.length=b.length∧∀(i:Nat) (h:Value × Value) (s:Rec),hs[i]? = some h→b[i]? = some s→RecAt w h s
theorem RdR.below {w w':World} {v:Value} {b:List Rec} (k:RdR w v b) (hb:Below w.heap.size w w'):RdR w' v b:=by
 obtain ⟨hs,h1,h2,h3⟩:=k.ex
 exact ⟨hs,h1.below hb,h2,fun i h s hi hj=>(h3 i h s hi hj).below hb⟩
theorem RdR.shape {w:World} {v:Value} {b:List Rec} (k:RdR w v b):∃p c,v = .slice p b.length c:=by
 obtain ⟨hs,h1,h2,_⟩:=k.ex
 rw [← h2]
 exact h1.shape
theorem RdR.at {w:World} {p:Option Addr} {n c:Nat} {b:List Rec} (k:RdR w (.slice p n c) b) {i:Nat} {s:Rec} (hi:b[i]? = some s) :
  ∃blk off h1 h2,p=some ⟨blk,off,none⟩∧w.cell? ⟨blk,off+i*2,none⟩=some h1∧w.cell? ⟨blk,off+i*2+1,none⟩=some h2∧RecAt w (h1,h2) s:=by
 obtain ⟨hs,h1,h2,h3⟩:=k.ex
 have hlt:=(List.getElem?_eq_some_iff.1 hi).1
 obtain ⟨h,hh⟩:∃h,hs[i]? = some h:=⟨_,List.getElem?_eq_getElem (by omega)⟩
 obtain ⟨p',c',e⟩:=h1.shape
 simp only [Value.slice.injEq] at e
 obtain ⟨rfl,rfl,rfl⟩:=e
 obtain ⟨blk,off,rfl⟩:=rd2_at h1 hh
 obtain ⟨c1,c2⟩:=rd2_cell h1 hh
 exact ⟨blk,off,h.1,h.2,rfl,c1,c2,h3 i h s hh hi⟩
theorem RdR.always {w:World} {p:Option Addr} {n c:Nat} {b:List Rec} (k:RdR w (.slice p n c) b) {i:Nat} {s:Rec} (hi:b[i]? = some s) :
  ∃blk off h1 h2,p=some ⟨blk,off,none⟩∧(∃p1 c1,h1 = .slice p1 s.1.length c1)∧(∃p2 c2,h2 = .slice p2 s.2.length c2)∧
   ∀w',Below w.heap.size w w'→w'.cell? ⟨blk,off+i*2,none⟩=some h1∧w'.cell? ⟨blk,off+i*2+1,none⟩=some h2∧RecAt w' (h1,h2) s:=by
 obtain ⟨blk,off,h1,h2,e,c1,c2,hs⟩:=k.at hi
 exact ⟨blk,off,h1,h2,e,hs.1.shape,hs.2.shape,fun w' hb=>⟨(hb.cell (World.block_lt_of_cell? w _ c1)).trans c1,(hb.cell (World.block_lt_of_cell? w _ c2)).trans c2,hs.below hb⟩⟩
end Go.Proofs.YtdcgbgecbeegmaaGreatDoor
end
section
set_option maxRecDepth 20000
namespace Go.Proofs.YtdcgbgecbeegmaaGreatDoor
open Go Go.RowKit
abbrev Hd:=Value × Value
theorem labCells_ne {l:List Lab} (h:labCells l≠[]):l≠[]:=fun e=>h (by subst e;rfl)
theorem labCells_ne' {l:List Lab} (h:l≠[]):labCells l≠[]:=fun e=>h (List.eq_nil_of_length_eq_zero (by have:=congrArg List.length e;rw [labCells_length,List.length_nil] at this;omega))
end Go.Proofs.YtdcgbgecbeegmaaGreatDoor
end
section
namespace Go.Proofs.YtdcgbgecbeegmaaGreatDoor
open Go Go.RowKit
def manyCells:TypeDesc→Bool
 | .struct _ | .array _ _=>true
 | _=>false
structure Arr (P:Program) (t e:TypeId) (n:Nat) (z:Value):Prop where
 ht:P.underlying t=some (.array n e)
 hi:∃i,P.info? t=some i∧i.zero=some (.agg (List.replicate n z).toArray)∧i.size=n
 he:∃i,P.info? e=some i∧i.size=1
 hl:∃d,P.underlying e=some d∧manyCells d=false
theorem Arr.mk' {P:Program} {t e:TypeId} {n:Nat} {z:Value} (ht:P.underlying t=some (.array n e)) (hi:(P.info? t).map (fun i=>(i.zero,i.size))=some (some (.agg (List.replicate n z).toArray),n)) (he:(P.info? e).map (·.size)=some 1)
  {d:TypeDesc} (hd:P.underlying e=some d) (hl:manyCells d=false):Arr P t e n z:=by
 obtain ⟨i,h1,h2⟩:=Option.map_eq_some_iff.1 hi
 obtain ⟨j,h3,h4⟩:=Option.map_eq_some_iff.1 he
 simp only [Prod.mk.injEq] at h2
 exact ⟨ht,⟨i,h1,h2.1,h2.2⟩,⟨j,h3,h4⟩,⟨d,hd,hl⟩⟩
theorem mods_setRow (w:World) (g:Nat) (cs:Array Value):Mods (fun k=>k=g) w (w.setRow g cs):=
 ⟨rfl,rfl,rfl,by simp,fun k _ hs=>setRow_other w g k cs hs⟩
section
variable {P:Program} {ops:Array Oper} {rest:List Oper} {o:Oper} {a:Act} {w:World} {Q:Exit→Act→World→Prop} {t e:TypeId} {n:Nat} {z:Value}
theorem wpList_boxA (hg:o.guard=none) (t:TypeId) (x:Operand) (ho:o.op = .box t x) (cs:List Value) (hx:a.eval x = .agg cs.toArray)
  (h:∀w',Blk w' w.heap.size cs→Below w.heap.size w w'→w'.heap.size=w.heap.size+1→wpList P ops Q rest (a.put o.dst (.pointer (some ⟨w.heap.size,0,none⟩))) w'):wpList P ops Q (o::rest) a w:=by
 refine wpList_plain hg fun K hK=>?_
 unfold Oper.wp execOp
 simp only [ho,hx,Sem.run_bind,Instr.box,newVar,newRow,run_newObj_alloc,Sem.run_pure,Result.andThen_ok]
 exact hK _ _ (h _ (by simpa [Value.cells] using Blk.new w cs.toArray t) ((Below.refl _ _).alloc (Nat.le_refl _) _) (by simp))
theorem wpList_allocA (hA:Arr P t e n z) (hg:o.guard=none) (ho:o.op = .alloc t)
  (h:∀w',Blk w' w.heap.size (List.replicate n z)→Below w.heap.size w w'→w'.heap.size=w.heap.size+1→wpList P ops Q rest (a.put o.dst (.pointer (some ⟨w.heap.size,0,none⟩))) w'):wpList P ops Q (o::rest) a w:=by
 obtain ⟨i,hi,hz,hs⟩:=hA.hi
 refine wpList_plain hg fun K hK=>?_
 have hzv:(zeroValue t).run P w = .ok (.agg (List.replicate n z).toArray) w:=by simp [zeroValue,typeInfo,hi,hz]
 unfold Oper.wp execOp
 simp only [ho,Sem.run_bind,Instr.alloc,hzv,newVar,newRow,run_newObj_alloc,Sem.run_pure,Result.andThen_ok]
 exact hK _ _ (h _ (by simpa [Value.cells] using Blk.new w (List.replicate n z).toArray t) ((Below.refl _ _).alloc (Nat.le_refl _) _) (by simp))
theorem wpList_loadA (hA:Arr P t e n z) (hgd:o.guard=none) (x:Operand) (ho:o.op = .load t x) (g:Nat) (hx:a.eval x = .pointer (some ⟨g,0,none⟩)) (cs:List Value) (hb:Blk w g cs) (hl:cs.length=n)
  (h:wpList P ops Q rest (a.put o.dst (.agg cs.toArray)) w):wpList P ops Q (o::rest) a w:=by
 obtain ⟨u,hg⟩:=hb
 obtain ⟨i,hi,_,hs⟩:=hA.hi
 exact wpList_load_row hgd t x ho g hx u cs.toArray (0,0) _ hg hA.ht rfl (by rw [hi];simp [hs,hl]) h
theorem wpList_storeA (hA:Arr P t e n z) (hgd:o.guard=none) (x y:Operand) (ho:o.op = .store t x y) (g:Nat) (hx:a.eval x = .pointer (some ⟨g,0,none⟩)) (cs old:List Value) (hy:a.eval y = .agg cs.toArray)
  (hb:Blk w g old) (hold:old.length=n) (hl:cs.length=n) (h1:∀u∈cs,u.oneCell'=true)
  (h:∀w',Blk w' g cs→Mods (fun k=>k=g) w w'→w'.heap.size=w.heap.size→wpList P ops Q rest (a.put o.dst undef) w'):wpList P ops Q (o::rest) a w:=by
 obtain ⟨u,hg⟩:=hb
 obtain ⟨i,hi,_,hs⟩:=hA.hi
 refine wpList_store_row hgd t x y ho g cs.toArray hx hy u old.toArray hg (by rw [hi];simp [hs,hl]) (by simp [hold,hl]) (by simpa using h1) ?_
 exact h _ ⟨u,setRow_heap w g _ _ u _ hg⟩ (mods_setRow w g _) (by simp)
theorem wpList_indexA (hA:Arr P t e n z) (hgd:o.guard=none) (x y:Operand) (ho:o.op = .index t x y) (cs:List Value) (hx:a.eval x = .agg cs.toArray) (i:Nat) (hy:a.eval y = .int .i64 (i:Int)) (hi:i<n) (v:Value) (hv:cs[i]? = some v)
  (h:wpList P ops Q rest (a.put o.dst v) w):wpList P ops Q (o::rest) a w:=by
 obtain ⟨ie,hie,hs⟩:=hA.he
 obtain ⟨d,hd,hnd⟩:=hA.hl
 refine wpList_plain hgd fun K hK=>?_
 have hag:(isAgg e).run P w = .ok false w:=by
  unfold isAgg
  rw [Sem.run_bind,run_underlying hd w]
  cases d<;>simp_all [manyCells]
 have hr:(Instr.index t (.agg cs.toArray) (.int .i64 (i:Int))).run P w = .ok v w:=by
  have hp:(part e cs.toArray i).run P w = .ok v w:=by
   unfold part
   simp [Sem.run_bind,hag,hv]
  simp [Instr.index,asIntOf,Sem.run_bind,run_underlying hA.ht w,sizeOf,typeInfo,hie,hs,hp]
  exact fun hn=>absurd hn (by omega)
 unfold Oper.wp execOp
 simp only [ho,hx,hy,Sem.run_bind,hr,Result.andThen_ok]
 exact hK _ _ h
theorem resultsA (hA:Arr P t e n z) {fn:Func} {p:Tmp} (h:fn.results = #[.cell p t]) (tmps:Array Value) (g:Nat) (hp:tmps.getD p undef = .pointer (some ⟨g,0,none⟩)) (cs:List Value) (hb:Blk w g cs) (hl:cs.length=n) :
  (results fn tmps).run P w = .ok (.agg cs.toArray) w:=by
 obtain ⟨u,hg⟩:=hb
 obtain ⟨i,hi,_,hs⟩:=hA.hi
 exact results_cell_row h tmps w g u cs.toArray (0,0) _ hp hg hA.ht rfl (by rw [hi];simp [hs,hl])
end
end Go.Proofs.YtdcgbgecbeegmaaGreatDoor
end
section
namespace Go.Proofs.YtdcgbgecbeegmaaGreatDoor
open Go Go.RowKit
abbrev OwnB:=Own1 5 (fun c:Nat=>Value.int .u8 (c:Int))
structure GotB (w:World) (o:Nat × List Nat) (e:Ending) (w':World):Prop where
 res:∃r,e = .returned (.tuple #[r,.int .i64 (o.1:Int)])∧Rd w' 1 r o.2.length (u8s o.2)∧(∀k,r.ownBlock=some k→w.heap.size≤k)
 bel:Below w.heap.size w w'
end Go.Proofs.YtdcgbgecbeegmaaGreatDoor
end
section
set_option maxRecDepth 20000
namespace Go.Proofs.YtdcgbgecbeegmaaGreatDoor
open Go Go.RowKit
def natI (l:List Nat):List Value:=l.map fun n:Nat=>.int .i64 (n:Int)
theorem natI_length (l:List Nat):(natI l).length=l.length:=by simp [natI]
theorem natI_get {l:List Nat} {i x:Nat} (h:l[i]? = some x):(natI l)[i]? = some (.int .i64 (x:Int)):=by simp [natI,h]
structure RdS (w:World) (vs:List Value) (S:List (List Nat)):Prop where
 len:vs.length=S.length
 at_:∀(i:Nat) (v:Value) (d:List Nat),vs[i]? = some v→S[i]? = some d→Rd w 1 v d.length (u8s d)
theorem RdS.below {w w':World} {vs:List Value} {S:List (List Nat)} (h:RdS w vs S) (hb:Below w.heap.size w w'):RdS w' vs S:=⟨h.len,fun i v d h1 h2=>(h.at_ i v d h1 h2).below hb⟩
theorem RdS.get {w:World} {vs:List Value} {S:List (List Nat)} (h:RdS w vs S) {i:Nat} {d:List Nat} (hd:S[i]? = some d):∃p c,vs[i]? = some (.slice p d.length c)∧Rd w 1 (.slice p d.length c) d.length (u8s d):=by
 have hi:=(List.getElem?_eq_some_iff.1 hd).1
 obtain ⟨v,hv⟩:∃v,vs[i]? = some v:=⟨_,List.getElem?_eq_getElem (by rw [h.len];exact hi)⟩
 have hr:=h.at_ i v d hv hd
 obtain ⟨p,c,rfl⟩:=hr.shape
 exact ⟨p,c,hv,hr⟩
theorem list4_of {α:Type} {l:List α} (h:l.length=4):∃a b c d,l=[a,b,c,d]:=by
 match l,h with
 | [a,b,c,d],_=>exact ⟨a,b,c,d,rfl⟩
theorem contents_step {l:List Nat} {i x:Nat} (h:l[i]? = some x):contents (l.take (i+1))=contents (l.take i)++groups x:=by
 rw [List.take_add_one,h];simp [contents]
end Go.Proofs.YtdcgbgecbeegmaaGreatDoor
end
section
set_option maxRecDepth 20000
namespace Go.Proofs.YtdcgbgecbeegmaaGreatDoor
open Go Go.RowKit
variable {w wi w1 W W':World} {Z q g:Nat} {hs:List Hd} {acc:List Rec} {lv sv sv0 labv cv:Value} {out:List Nat} {lens:List Int}
end Go.Proofs.YtdcgbgecbeegmaaGreatDoor
end
section
set_option maxRecDepth 20000
namespace Go.Proofs.YtdcgbgecbeegmaaGreatDoor
open Go Go.RowKit
theorem flat_sum17 {α:Type} (f:α→List Nat) (g:α→Nat) (l:List α) (h:∀x∈l,(f x).length≤g x):(l.flatMap f).length≤(l.map g).sum:=by
 induction l with
 | nil=>simp
 | cons x l ih=>
  rw [List.flatMap_cons,List.length_append,List.map_cons,List.sum_cons]
  have:=h x (by simp)
  have:=ih (fun y hy=>h y (by simp [hy]))
  omega
theorem sum_add17 {α:Type} (f g:α→Nat) (l:List α):(l.map fun x=>f x+g x).sum=(l.map f).sum+(l.map g).sum:=by
 induction l with
 | nil=>rfl
 | cons x l ih=>rw [List.map_cons,List.map_cons,List.map_cons,List.sum_cons,List.sum_cons,List.sum_cons,ih];omega
theorem sum_mul17 {α:Type} (c:Nat) (f:α→Nat) (l:List α):(l.map fun x=>c*f x).sum=c*(l.map f).sum:=by
 induction l with
 | nil=>rfl
 | cons x l ih=>rw [List.map_cons,List.map_cons,List.sum_cons,List.sum_cons,ih,Nat.mul_add]
theorem sum_const17 {α:Type} (c:Nat) (l:List α):(l.map fun _=>c).sum=c*l.length:=by
 induction l with
 | nil=>rfl
 | cons x l ih=>rw [List.map_cons,List.sum_cons,List.length_cons,ih,Nat.mul_add];omega
theorem labs_sum17 (b:List Ser):(b.map fun s=>s.1.length).sum=(b.map Prod.fst).flatten.length:=by
 induction b with
 | nil=>rfl
 | cons s b ih=>rw [List.map_cons,List.sum_cons,List.map_cons,List.flatten_cons,List.length_append,ih]
theorem posTo_len17 (l:List (List Lab)) (k:Nat) (x:Lab):(posTo l k x).length≤k:=by
 unfold posTo
 rw [List.length_map]
 refine Nat.le_trans (List.length_filter_le _ _) ?_
 rw [List.length_range]
 exact Nat.le_refl _
theorem nodup_in17 {α:Type} [DecidableEq α] (s:List α):∀(l:List α) (p:α→Bool),l.Nodup→(∀x,p x=true→x∈s)→(l.filter p).length≤s.length:=by
 induction s with
 | nil=>
  intro l p _ hp
  rw [List.filter_eq_nil_iff.2 (fun x _ hx=>by cases hp x hx)]
  simp
 | cons y s ih=>
  intro l p hl hp
  have h1:=ih l (fun x=>p x && !(decide (x=y))) hl (fun x hx=>by
   simp only [Bool.and_eq_true,Bool.not_eq_true',decide_eq_false_iff_not] at hx
   rcases List.mem_cons.1 (hp x hx.1) with e | e
   ·exact absurd e hx.2
   ·exact e)
  rw [List.length_cons]
  have h2:(l.filter p).length≤(l.filter fun x=>p x && !(decide (x=y))).length+1:=by
   clear h1 ih hp
   induction l with
   | nil=>simp
   | cons x l ih=>
    obtain ⟨hx,hl'⟩:=List.nodup_cons.1 hl
    by_cases e:x=y
    ·subst e
     have hs:(l.filter p)=(l.filter fun z=>p z && !(decide (z=x))):=List.filter_congr (fun z hz=>by
      have hzx:¬z=x:=fun e=>hx (e ▸ hz)
      rw [decide_eq_false hzx];simp)
     have h3:((x::l).filter fun z=>p z && !(decide (z=x)))=(l.filter fun z=>p z && !(decide (z=x))):=by rw [List.filter_cons];simp
     rw [h3,← hs]
     rw [List.filter_cons]
     split<;>simp
    ·have:=ih hl'
     rw [List.filter_cons,List.filter_cons]
     by_cases f:p x=true
     ·rw [if_pos f,if_pos (by rw [f,decide_eq_false e];rfl),List.length_cons,List.length_cons];omega
     ·rw [if_neg f,if_neg (by simp [f])];omega
  omega
theorem asc_nodup17 {l:List Lab} (h:AscB ltE l):l.Nodup:=List.Pairwise.imp (fun {a b} h e=>by
 subst e
 rw [ltE_ok.irr a] at h
 cases h) h
theorem idx_sum17 (m:List (List Lab)) (k:Nat) (hk:k≤m.length) (T:List Lab) (hT:T.Nodup):(T.map fun x=>(posTo m k x).length).sum≤(flatTo m k).length:=by
 induction k with
 | zero=>
  have e:(T.map fun x=>(posTo m 0 x).length)=T.map fun _=>0:=List.map_congr_left (fun x _=>rfl)
  rw [e,sum_const17];simp
 | succ k ih=>
  have h1:=ih (by omega)
  have e:(T.map fun x=>(posTo m (k+1) x).length)=T.map fun x=>(posTo m k x).length+(if x∈m.getD k [] then 1 else 0):=List.map_congr_left (fun x _=>by
   rw [posTo_succ,List.length_append]
   split<;>rfl)
  have e2:(T.map fun x=>if x∈m.getD k [] then 1 else 0).sum=(T.filter fun x=>decide (x∈m.getD k [])).length:=by
   clear hT ih h1 e
   induction T with
   | nil=>rfl
   | cons x T ih=>
    rw [List.map_cons,List.sum_cons,ih,List.filter_cons]
    by_cases hx:x∈m.getD k []
    ·simp only [hx,if_true,decide_true,List.length_cons];omega
    ·simp only [hx,if_false,decide_false,Bool.false_eq_true];omega
  have h2:=nodup_in17 (m.getD k []) T (fun x=>decide (x∈m.getD k [])) hT (fun x hx=>by simpa using hx)
  rw [e,sum_add17,e2,flatTo_succ (by omega),List.length_append]
  omega
theorem idx17 {b:List Ser} (h:Mid b):(buildP (b.map Prod.fst)).length≤60000∧(∀e∈buildP (b.map Prod.fst),AscB ltI e.2∧e.2.length≤20000∧∀x∈e.2,0≤x∧x<20000)∧((buildP (b.map Prod.fst)).map fun e=>e.2.length).sum≤60000:=by
 have h1:(b.map Prod.fst).length≤20000:=by rw [List.length_map];exact h.len
 have h2:=h.flat
 have e2:flatTo (b.map Prod.fst) (b.map Prod.fst).length=(b.map Prod.fst).flatten:=by unfold flatTo;rw [List.take_length]
 have hn:=asc_nodup17 (tabB_asc ltE_ok (flatTo (b.map Prod.fst) (b.map Prod.fst).length))
 have hs:=idx_sum17 (b.map Prod.fst) (b.map Prod.fst).length (Nat.le_refl _) _ hn
 rw [e2] at hs
 rw [build_idx]
 refine ⟨?_,fun e he=>?_,?_⟩
 ·have e1:(idxP (b.map Prod.fst)).length=(tabB ltE (flatTo (b.map Prod.fst) (b.map Prod.fst).length)).length:=by unfold idxP idxTo;rw [List.length_map]
  rw [e1]
  refine Nat.le_trans (tabB_len _) ?_
  rw [e2]
  exact h2
 ·obtain ⟨_,h3⟩:=idx_mem he
  rw [h3]
  refine ⟨posTo_asc _ _ _,Nat.le_trans (posTo_len17 _ _ _) h1,fun x hx=>?_⟩
  have:=posTo_lt _ _ _ x hx
  omega
 ·have e3:((idxP (b.map Prod.fst)).map fun e=>e.2.length)=(tabB ltE (b.map Prod.fst).flatten).map fun x=>(posTo (b.map Prod.fst) (b.map Prod.fst).length x).length:=by
   unfold idxP idxTo
   rw [e2,List.map_map]
   rfl
  rw [e3]
  omega
theorem sets17 {b:List Ser} (h:Mid b):(b.map Prod.fst).length≤20000∧(b.map Prod.fst).flatten.length≤60000:=⟨by rw [List.length_map];exact h.len,h.flat⟩
theorem tab17 {b:List Ser} (h:Mid b):(tabE b).length≤120000:=by
 have h1:=symsB_mid h b.length
 rw [List.take_length] at h1
 have h3:(tabE b).length≤(symsB b).length:=tabB_len _
 omega
theorem lensTo17 (l:List Sam) (k:Nat):(winTo l k).length=k:=by rw [winTo,List.length_map,List.length_range]
theorem lensE_len17 (l:List Sam):(lensE l).length=(l.length+119) / 120:=by rw [lensE,List.length_map,winE,List.length_map,List.length_range]
theorem lensE_in17 {l:List Sam} {n:Int} (h:n∈lensE l):0≤n∧n≤100000:=by
 obtain ⟨c,_,rfl⟩:=List.mem_map.1 h
 have:=encC_len17 c
 omega
theorem bytesTo17 (l:List Sam) (k:Nat):((winTo l k).flatMap fun c=>(encC c).1).length≤k*100000:=by
 have h:=flat_len (fun c=>(encC c).1) 100000 (winTo l k) (fun c _=>encC_len17 c)
 rw [lensTo17] at h
 exact h
theorem chunks17 {b:List Ser} (h:Mid b) (i:Nat):(chunksB (b.take i)).length≤102000000000:=by
 have h1:=flat_sum17 (fun s:Ser=>bytesE s.2) (fun s=>100000*(1+s.2.length)) (b.take i) (fun s hs=>by
  have h3:=bytesTo17 s.2 ((s.2.length+119) / 120)
  rw [winTo_all] at h3
  show (bytesE s.2).length≤_
  unfold bytesE
  omega)
 have h4:((b.take i).map fun s:Ser=>100000*(1+s.2.length)).sum≤100000*(20000+1000000):=by
  rw [sum_mul17,sum_add17,sum_const17]
  have h5:=samplesB_take_le b i
  have h6:((b.take i).map fun s:Ser=>s.2.length).sum=samplesB (b.take i):=rfl
  have h7:=h.sam
  have h8:=h.len
  have h9:(b.take i).length≤b.length:=by rw [List.length_take];omega
  rw [h6]
  omega
 show (List.flatMap _ _).length≤_
 omega
theorem chunksAll17 {b:List Ser} (h:Mid b):(chunksB b).length≤102000000000:=by have:=chunks17 h b.length;rwa [List.take_length] at this
theorem recs17 {b:List Ser} (h:Mid b):(b.map recE).length≤20000∧∀r∈b.map recE,r.1.length≤60000∧r.2.length≤8335∧∀n∈r.2,0≤n∧n≤100000:=by
 refine ⟨by rw [List.length_map];exact h.len,fun r hr=>?_⟩
 obtain ⟨s,hs,rfl⟩:=List.mem_map.1 hr
 refine ⟨h.lab s hs,?_,fun n hn=>lensE_in17 hn⟩
 show (lensE s.2).length≤8335
 rw [lensE_len17]
 have:=h.mem hs
 omega
theorem idxT17 (t:List ByteArray) (s:ByteArray):idxT t s≤t.length:=findS_le t s
theorem encRc17 {b:List Ser} (h:Mid b):(encRc (tabE b) (b.map recE)).length≤100000000:=by
 obtain ⟨h1,h2⟩:=recs17 h
 have ht:=tab17 h
 have h3:((b.map recE).flatMap (recBytes (tabE b))).length≤(b.map fun s=>(20+20*s.1.length)+10*(1+s.2.length)).sum:=by
  have h4:=flat_sum17 (fun s:Ser=>recBytes (tabE b) (recE s)) (fun s=>(20+20*s.1.length)+10*(1+s.2.length)) b (fun s hs=>by
   obtain ⟨a1,a2,a3⟩:=h2 (recE s) (List.mem_map.2 ⟨s,hs,rfl⟩)
   have b1:=groups_ten (x:=(recE s).1.length) (by omega)
   have b2:=groups_ten (x:=(recE s).2.length) (by omega)
   have c1:=flat_len (labBytes (tabE b)) 20 (recE s).1 (fun x _=>by
    rw [labBytes,List.length_append]
    have:=groups_ten (x:=idxT (tabE b) x.1) (by have:=idxT17 (tabE b) x.1;omega)
    have:=groups_ten (x:=idxT (tabE b) x.2) (by have:=idxT17 (tabE b) x.2;omega)
    omega)
   have c2:=flat_len (fun n:Int=>groups n.toNat) 10 (recE s).2 (fun n hn=>groups_ten (by have:=a3 n hn;omega))
   have c3:(recE s).2.length=(s.2.length+119) / 120:=lensE_len17 s.2
   have c4:(recE s).1.length=s.1.length:=rfl
   rw [recBytes,labsBytes,lensBytes,List.length_append,List.length_append,List.length_append]
   omega)
  rw [List.flatMap_map]
  exact h4
 rw [sum_add17,sum_add17,sum_const17,sum_mul17,sum_mul17,sum_add17,sum_const17,labs_sum17] at h3
 have h5:(b.map fun s:Ser=>s.2.length).sum=samplesB b:=rfl
 rw [h5] at h3
 have h6:=h.len;have h7:=h.flat;have h8:=h.sam
 have h0:=groups_ten (x:=(b.map recE).length) (by omega)
 rw [encRc,List.length_append]
 omega
theorem ents17 {b:List Ser} (h:Mid b):(entsBytes (tabE b) (buildP (b.map Prod.fst))).length≤100000000:=by
 obtain ⟨h1,h2,h4⟩:=idx17 h
 have ht:=tab17 h
 have h3:=flat_sum17 (entBytes (tabE b)) (fun e:Ent=>30+10*e.2.length) (buildP (b.map Prod.fst)) (fun e he=>by
  obtain ⟨a1,a2,a3⟩:=h2 e he
  have c1:=ser_len e.2 (fun x hx=>by have:=a3 x hx;omega) none (by simp)
  have g1:=groups_ten (x:=idxT (tabE b) e.1.1) (by have:=idxT17 (tabE b) e.1.1;omega)
  have g2:=groups_ten (x:=idxT (tabE b) e.1.2) (by have:=idxT17 (tabE b) e.1.2;omega)
  have g3:=groups_ten (x:=e.2.length) (by omega)
  rw [entBytes,serBytes,labBytes]
  simp only [List.length_append]
  omega)
 rw [sum_add17,sum_const17,sum_mul17] at h3
 have h0:=groups_ten (x:=(buildP (b.map Prod.fst)).length) (by omega)
 rw [entsBytes,List.length_append]
 omega
theorem encSy17 {b:List Ser} (h:Mid b) (hb:Block b):(encSy (tabE b)).length≤10000000000:=by
 have ht:=tab17 h
 have hf:=tabE_fits hb
 have h3:=flat_len (fun s=>bytesOf (numsOf s)) 70000 (tabE b) (fun s hs=>by
  have h4:=hf s hs
  have h5:(numsOf s).length=s.size:=numsOf_length s
  have g:=groups_ten (x:=(numsOf s).length) (by omega)
  show (bytesOf (numsOf s)).length≤_
  rw [bytesOf_length]
  omega)
 have h0:=groups_ten (x:=(tabE b).length) (by omega)
 rw [encSy,List.length_append]
 omega
theorem sze17 {b:List Ser} (h:Mid b) (hz:Sized b) (hb:Block b):SzE b:=
 ⟨hb,by have:=tab17 h;omega,⟨by have:=(recs17 h).1;omega,fun r hr=>by have:=(recs17 h).2 r hr;omega⟩,fun s hs x hx=>(hz s hs).2 x hx⟩
theorem frame_len17 (id:Nat) (d:List Nat):(frameOf id d).length=5+(groups d.length).length+d.length:=by
 rw [frameOf,withCrc_length,List.length_cons,bytesOf,List.length_append];omega
theorem asm17 {S:List (List Nat)} (h4:S.length=4) (hM:∀d∈S,d.length≤10000000000000):(asmL S).length≤140737488352000:=by
 obtain ⟨a,b,c,d,rfl⟩:=list4_of h4
 have ha:=hM a (by simp);have hb:=hM b (by simp);have hc:=hM c (by simp);have hd:=hM d (by simp)
 have ga:=groups_ten (x:=a.length) (by omega);have gb:=groups_ten (x:=b.length) (by omega);have gc:=groups_ten (x:=c.length) (by omega);have gd:=groups_ten (x:=d.length) (by omega)
 have fa:=frame_len17 1 a;have fb:=frame_len17 2 b;have fc:=frame_len17 3 c;have fd:=frame_len17 4 d
 have hput:(putS 1 [a,b,c,d]).length=(frameOf 1 a).length+(frameOf 2 b).length+(frameOf 3 c).length+(frameOf 4 d).length:=by simp [putS];omega
 have hC:(contents (offs 1 5 [a,b,c,d])).length=1+(groups (5+(frameOf 1 a).length)).length+(groups (5+(frameOf 1 a).length+(frameOf 2 b).length)).length+(groups (5+(frameOf 1 a).length+(frameOf 2 b).length+(frameOf 3 c).length)).length:=by
  simp [contents,offs,groups_small];omega
 have g2:=groups_ten (x:=5+(frameOf 1 a).length) (by omega)
 have g3:=groups_ten (x:=5+(frameOf 1 a).length+(frameOf 2 b).length) (by omega)
 have g4:=groups_ten (x:=5+(frameOf 1 a).length+(frameOf 2 b).length+(frameOf 3 c).length) (by omega)
 have ft:=frame_len17 5 (contents (offs 1 5 [a,b,c,d]))
 rw [groups_small (x:=(contents (offs 1 5 [a,b,c,d])).length) (by omega)] at ft
 have hl:(asmL [a,b,c,d]).length=5+(putS 1 [a,b,c,d]).length+(frameOf 5 (contents (offs 1 5 [a,b,c,d]))).length+8:=by
  rw [asmL,List.length_append,withCrc_length,bodyL,List.length_append,List.length_append]
  show 5+_+_+4+4=_
  omega
 simp only [List.length_singleton] at ft
 omega
theorem secs_len17 {b:List Ser} (h:Mid b) (hb:Block b):∀d∈secsE b,d.length≤1000000000000:=by
 rw [secs_block hb encC_small17]
 intro d hd
 simp only [List.mem_cons,List.not_mem_nil,or_false] at hd
 rcases hd with rfl | rfl | rfl | rfl
 ·have:=encSy17 h hb;omega
 ·have:=encRc17 h;omega
 ·have:=chunksAll17 h;omega
 ·have:=ents17 h;omega
theorem ok17 {b:List Ser} (h:Mid b) (hz:Sized b) (hb:checkB b=0):okS4 (secsE b)∧(asmL (secsE b)).length≤140737488352000:=by
 have hk:=block_of_check hb
 have hl:=secs_len17 h hk
 have hi:=idx17 h
 refine ⟨fun d hd=>⟨secs_lt17 (sze17 h hz hk) (by have:=h.len;omega) (by omega) (fun e he=>by have:=(hi.2.1 e he).2.1;omega) d hd,by have:=hl d hd;omega⟩,asm17 (secsE_four b) (fun d hd=>by have:=hl d hd;omega)⟩
end Go.Proofs.YtdcgbgecbeegmaaGreatDoor
end
