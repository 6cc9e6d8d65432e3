/- Texts 21. -/
import Derived.Test.YtdcgbgecbeegmaaGreatDoorMgD5
import Derived.Test.YtdcgbgecbeegmaaGreatDoorMgD6
import Derived.OrdersIn
import Derived.Test.YtdcgbgecbeegmaaGreatDoorMgD4
import Derived.Test.YtdcgbgecbeegmaaGreatDoorMgD8
import Derived.Test.YtdcgbgecbeegmaaGreatDoorMgD20
import Derived.Laws.ResultCell
import Derived.Test.YtdcgbgecbeegmaaGreatDoorMgD3
import Derived.Shelf.Spec.SearchS
import Derived.Test.YtdcgbgecbeegmaaGreatDoorMgD1
import Derived.Test.YtdcgbgecbeegmaaGreatDoorMgD2
import Derived.StillTailTactics
import Derived.Shelf.SlicesE.IndexFunc
set_option linter.unusedVariables false
set_option linter.unusedSimpArgs false
section
namespace Go.Proofs.YtdcgbgecbeegmaaGreatDoor
open Go Go.RowKit
section
variable {P:Program} {ops:Array Oper} {Q:Exit→Act→World→Prop} {md:Region.Mode} {S:World→Prop} {n:Nat}
theorem yieldsIf_opI {i:Nat} {o:Oper} {v:Value} {a:Act} (hi:ops[i]? = some o) (hy:YieldsIf P ops S o v a) {K:Act→World→Prop} {w:World} (hS:S w) (h:K (a.put o.dst v) w):wpOpIn Fence.wide n P ops Q i K a w:=by
 unfold wpOpIn
 simp only [hi]
 rcases hy with ⟨hw,hv⟩ | ⟨hw,rfl⟩
 ·rw [if_pos hw]
  refine ⟨fun _ _=>trivial,?_⟩
  show o.uponIn _ n P a _ Q ((o.semAt none a.eval).run P w)
  rw [Oper.semAt_none,hv w hS]
  exact h
 ·rw [if_neg (by rw [hw];decide)]
  exact ⟨fun _ _=>trivial,h⟩
theorem wpOpI_putIf {j:Nat} {oi oj:Oper} {v:Value} (hj:ops[j]? = some oj) (hap:oi.apart ops oj=true)
  (hsi:∀cs b,oi.op≠.select cs b) (hsj:∀cs b,oj.op≠.select cs b)
  (hQ:∀c a w,Q (.panic c) (a.put oi.dst v) w→Q (.panic c) a w) {K:Act→World→Prop} {a:Act} {w:World}
  (hy:YieldsIf P ops S oi v a) (h:wpOpIn Fence.wide n P ops Q j K (a.put oi.dst v) w) :
  wpOpIn Fence.wide n P ops Q j (fun a' w'=>YieldsIf P ops S oi v a'∧K (a'.put oi.dst v) w') a w:=by
 obtain ⟨h1,h2,h3⟩:=Oper.apart_spec hap
 have keep:∀(a:Act),YieldsIf P ops S oi v a→∀u,YieldsIf P ops S oi v (a.put oj.dst u):=fun a hy u=>
  hy.of_same (execOp_put oi hsi a oj.dst u h3) (wanted_put oi a oj.dst u h3)
 have keepD:∀d,YieldsIf P ops S oi v { a with defers:=d::a.defers }:=fun d=>hy.of_same rfl rfl
 unfold wpOpIn at *
 simp only [hj] at *
 rw [wanted_put oj a oi.dst v h1] at h
 split
 ·next hw=>
  rw [if_pos hw] at h
  obtain ⟨_,h⟩:=h
  refine ⟨fun _ _=>trivial,?_⟩
  have h:oj.uponIn Fence.wide n P (a.put oi.dst v) K Q ((oj.semAt none (a.put oi.dst v).eval).run P w):=h
  show oj.uponIn Fence.wide n P a _ Q ((oj.semAt none a.eval).run P w)
  rw [Oper.semAt_none] at h ⊢
  rw [execOp_put oj hsj a oi.dst v h1] at h
  generalize (execOp a.eval oj).run P w=r at *
  cases r with
  | ok x w'=>
   cases x<;>simp only [Oper.uponIn] at h ⊢
   case value u=>exact ⟨keep a hy u,by rw [← Act.put_comm a v u h2];exact h⟩
   case skip=>exact ⟨keep a hy _,by rw [← Act.put_comm a v undef h2];exact h⟩
   case defer d=>
    refine ⟨keep _ (keepD d) _,?_⟩
    rw [← Act.put_comm _ v undef h2,← Act.put_defers]
    exact h
   case enter f args=>
    refine ⟨h.1,CallsIn.mono h.2 fun e w'' he=>?_⟩
    cases e with
    | returned u=>exact ⟨keep a hy u,by rw [← Act.put_comm a v u h2];exact he⟩
    | panicked c=>exact hQ _ _ _ he
    | outgrown=>exact he
   case row row args=>exact ⟨h.1,RowsIn.mono h.2 fun u w'' he=>⟨keep a hy u,by rw [← Act.put_comm a v u h2];exact he⟩⟩
   case round l f tmps assign body=>
    refine ⟨h.1,RoundIn.mono h.2 fun e w'' he=>?_⟩
    cases e with
    | returned u=>exact ⟨keep a hy u,by rw [← Act.put_comm a v u h2];exact he⟩
    | panicked c=>exact hQ _ _ _ he
    | outgrown=>exact he
  | halt x w'=>
   cases x<;>simp only [Oper.uponIn] at h ⊢
   case panic u=>exact hQ _ _ _ h
 ·next hw=>
  rw [if_neg hw] at h
  exact ⟨fun _ _=>trivial,keep a hy _,by rw [← Act.put_comm a v undef h2];exact h.2⟩
def depB (md:Region.Mode) (ops:Array Oper):Nat→Nat→Nat→Bool
 | 0,_,_=>false
 | f+1,c,i=>match ops[c]? with
  | none=>false
  | some o=>o.after.any fun e=>Region.binds md e&&(e.on == i || depB md ops f e.on i)
def Closed (md:Region.Mode) (ops:Array Oper) (listed:Array Bool):Prop:=∀k o,ops[k]? = some o→listed.getD k false=true→∀e∈o.after,Region.binds md e=true→listed.getD e.on false=true
theorem closed_none:Closed md ops (Array.replicate ops.size false):=fun k o _ h=>by
 simp [Array.getElem?_replicate] at h
 split at h<;>simp at h
theorem closed_set {listed:Array Bool} {i:Nat} (h:Closed md ops listed) (hi:i∈Region.ready md ops listed):Closed md ops (listed.setIfInBounds i true):=fun k o ho hk e he hb=>by
 by_cases hki:i=k
 ·subst hki
  obtain ⟨_,o2,ho2,hall⟩:=mem_ready.1 hi
  rw [ho] at ho2
  cases ho2
  exact getD_set_true (hall e he hb)
 ·exact getD_set_true (h k o ho (by rwa [getD_set_ne false hki] at hk) e he hb)
theorem dep_listed {listed:Array Bool} (h:Closed md ops listed) (i:Nat):∀(f c:Nat),(∀o,ops[c]? = some o→∀e∈o.after,Region.binds md e=true→listed.getD e.on false=true)→depB md ops f c i=true→listed.getD i false=true
 | 0,_,_,hd=>by cases hd
 | f+1,c,hc,hd=>by
  unfold depB at hd
  cases ho:ops[c]? with
  | none=>rw [ho] at hd;cases hd
  | some o=>
   rw [ho] at hd
   obtain ⟨e,he,h2⟩:=Array.any_eq_true'.1 hd
   simp only [Bool.and_eq_true,Bool.or_eq_true,beq_iff_eq] at h2
   have hl:=hc o ho e he h2.1
   rcases h2.2 with e1 | e1
   ·rw [← e1];exact hl
   ·exact dep_listed h i f e.on (fun o2 ho2=>h e.on o2 ho2 hl) e1
theorem unlisted {listed:Array Bool} {i:Nat} (h:listed.getD i true=false):listed.getD i false=false:=by
 rcases Nat.lt_or_ge i listed.size with h' | h'
 ·simp [h'] at h ⊢;exact h
 ·simp [Array.getElem?_eq_none h'] at h
def wpAnyHC (n:Nat) (P:Program) (md:Region.Mode) (ops:Array Oper) (Q:Exit→Act→World→Prop) (c:Nat) (S:World→Prop):Nat→Array Bool→Act→World→Prop
 | 0,listed,a,w=>Region.ready md ops listed=[]∧Q .normal a w
 | fuel+1,listed,a,w=>
  (Region.ready md ops listed=[]→Q .normal a w)∧
  ∀i∈Region.ready md ops listed,wpOpIn Fence.wide n P ops Q i (fun a' w'=>((listed.setIfInBounds i true).getD c false=true∨S w')∧wpAnyHC n P md ops Q c S fuel (listed.setIfInBounds i true) a' w') a w
theorem wpAnyIn_of_heldC {c:Nat}:∀(fuel:Nat) (listed:Array Bool) (a:Act) (w:World),wpAnyHC n P md ops Q c S fuel listed a w→wpAnyIn Fence.wide n P md ops Q fuel listed a w
 | 0,_,_,_,h=>h
 | fuel+1,_,_,_,h=>⟨h.1,fun i hi=>wpOpIn_mono (fun a' w' h'=>wpAnyIn_of_heldC fuel _ a' w' h'.2) (h.2 i hi)⟩
theorem wpAnyHC_first {i c:Nat} {oi:Oper} {v:Value} {S':World→Prop} (hi:ops[i]? = some oi) (hic:i≠c) (hsel:∀(j:Nat) (o:Oper) cs b,ops[j]? = some o→o.op≠.select cs b)
  (hQ:∀c a w,Q (.panic c) (a.put oi.dst v) w→Q (.panic c) a w) (hS':(∀w,S' w)∨(depB md ops ops.size c i=true∧∀w,S w→S' w)) :
  ∀(fuel:Nat) (listed:Array Bool) (a:Act) (w:World),
   (∀j oj,ops[j]? = some oj→j≠i→listed.getD j true=false→(∀e∈oj.after,Region.binds md e=true→e.on≠i)→oi.apart ops oj=true)→Closed md ops listed→
   i∈Region.ready md ops listed→YieldsIf P ops S' oi v a→S' w→(listed.getD c false=true∨S w)→
   wpAnyHC n P md ops Q c S fuel (listed.setIfInBounds i true) (a.put oi.dst v) w→wpAnyHC n P md ops Q c S (fuel+1) listed a w:=by
 intro fuel
 induction fuel with
 | zero=>
  intro listed a w _ hcl hr hy hS hcs H
  refine ⟨fun h=>(by rw [h] at hr;cases hr),fun j hj=>?_⟩
  by_cases hji:j=i
  ·subst hji
   exact yieldsIf_opI hi hy hS ⟨hcs.imp (fun h=>getD_set_true h) id,H⟩
  ·have:=ready_mono hj hji
   rw [H.1] at this
   cases this
 | succ fuel ih=>
  intro listed a w hfree hcl hr hy hS hcs H
  refine ⟨fun h=>(by rw [h] at hr;cases hr),fun j hj=>?_⟩
  by_cases hji:j=i
  ·subst hji
   exact yieldsIf_opI hi hy hS ⟨hcs.imp (fun h=>getD_set_true h) id,H⟩
  ·have h1:=H.2 j (ready_mono hj hji)
   obtain ⟨hjun,oj,hoj,hall⟩:=mem_ready.1 hj
   have hnot:∀e∈oj.after,Region.binds md e=true→e.on≠i:=fun e he hb heq=>by
    have h1:=hall e he hb
    rw [heq,unlisted (mem_ready.1 hr).1] at h1
    cases h1
   have hclj:=closed_set hcl hj
   have hiun:(listed.setIfInBounds j true).getD i false=false:=by rw [getD_set_ne false hji];exact unlisted (mem_ready.1 hr).1
   have h2:=wpOpI_putIf hoj (hfree j oj hoj hji hjun hnot) (fun cs b=>hsel i oi cs b hi) (fun cs b=>hsel j oj cs b hoj) hQ hy h1
   have hfree':∀k ok,ops[k]? = some ok→k≠i→(listed.setIfInBounds j true).getD k true=false→
     (∀e∈ok.after,Region.binds md e=true→e.on≠i)→oi.apart ops ok=true:=fun k ok hk hki hun hno=>by
    refine hfree k ok hk hki ?_ hno
    by_cases hjk:j=k
    ·subst hjk;exact hjun
    ·rw [getD_set_ne true hjk] at hun;exact hun
   have hcond:∀w',(((listed.setIfInBounds i true).setIfInBounds j true).getD c false=true∨S w')→((listed.setIfInBounds j true).getD c false=true∨S w'):=fun w' h=>h.imp (fun h=>by
    rw [Array.setIfInBounds_comm _ _ (Ne.symm hji),getD_set_ne false hic] at h
    exact h) id
   have hSn:∀w',((listed.setIfInBounds j true).getD c false=true∨S w')→S' w':=fun w' h=>by
    rcases hS' with e | ⟨hd,e⟩
    ·exact e w'
    ·rcases h with h | h
     ·have:=dep_listed hclj i ops.size c (fun o ho e he hb=>hclj c o ho h e he hb) hd
      rw [hiun] at this
      cases this
     ·exact e w' h
   refine wpOpIn_mono (fun a' w' h3=>?_) h2
   have hc3:=hcond w' h3.2.1
   refine ⟨hc3,ih (listed.setIfInBounds j true) a' w' hfree' hclj (ready_mono hr (Ne.symm hji)) h3.1 (hSn w' hc3) hc3 ?_⟩
   rw [Array.setIfInBounds_comm _ _ hji]
   exact h3.2.2
end
def runsN (P:Program) (ops:Array Oper) (S:World→Prop):List (Nat × Oper)→(Act→Prop)→Act→Prop
 | [],K,a=>K a
 | (_,o)::rest,K,a=>if Region.wanted o (yielded ops a.tmps)=true then ∃v,(∀w,S w→(execOp a.eval o).run P w = .ok (.value v) w)∧runsN P ops S rest K (a.put o.dst v)
   else runsN P ops S rest K (a.put o.dst undef)
def orderN (md:Region.Mode) (ops:Array Oper) (c:Nat) (R:List Nat):List Nat→Array Bool→Bool
 | [],listed=>Region.ready md ops listed == [c]&&orderB md ops [] R (listed.setIfInBounds c true)
 | i::rest,listed=>Region.free md ops listed i&&(Region.ready md ops listed).contains i&&(depB md ops ops.size c i&&(i != c&&orderN md ops c R rest (listed.setIfInBounds i true)))
section
variable {P:Program} {l:List Oper} {Q:Exit→Act→World→Prop} {md:Region.Mode} {S:World→Prop} {n c:Nat}
theorem wpAnyHC_rest (hs:Region.noSelect l.toArray=true) (hQ:∀c (a a':Act) w,a.defers=a'.defers→Q (.panic c) a w→Q (.panic c) a' w):∀(R:List Nat) (listed:Array Bool) (a:Act) (w:World) (fuel:Nat),R.length≤fuel→
  (∀i∈R,i<l.length)→c∉R→orderB md l.toArray [] R listed=true→Closed md l.toArray listed→listed.getD c false=true→runsN P l.toArray (fun _=>True) (taken l R) (fun a'=>Q .normal a' w) a→wpAnyHC n P md l.toArray Q c S fuel listed a w
 | [],listed,a,w,fuel,_,_,_,hB,_,_,h=>by
  have hr:Region.ready md l.toArray listed=[]:=by simpa [orderB] using hB
  cases fuel with
  | zero=>exact ⟨hr,h⟩
  | succ fuel=>exact ⟨fun _=>h,by rw [hr];simp⟩
 | i::rest,listed,a,w,0,hf,_,_,_,_,_,_=>by simp at hf
 | i::rest,listed,a,w,fuel+1,hf,hl,hc,hB,hcl,hcs,h=>by
  have hf':rest.length≤fuel:=by simpa using hf
  have hl':∀j∈rest,j<l.length:=fun j hj=>hl j (by simp [hj])
  have hc':c∉rest:=fun e=>hc (by simp [e])
  have hic:i≠c:=fun e=>hc (by simp [e])
  have hi:i<l.length:=hl i (by simp)
  unfold orderB at hB
  simp only [List.contains_nil,Bool.false_eq_true,if_false,Bool.and_eq_true] at hB
  obtain ⟨h1,h2⟩:=hB
  have ho:l.toArray[i]? = some l[i]:=by simp [hi]
  have e:taken l (i::rest)=(i,l[i])::taken l rest:=by simp [taken,hi]
  rw [e] at h
  unfold runsN at h
  generalize l[i]=o at *
  have hmem:i∈Region.ready md l.toArray listed:=by simpa using h1.2
  have hcl2:=closed_set hcl hmem
  have hcs2:(listed.setIfInBounds i true).getD c false=true:=getD_set_true hcs
  by_cases hw:Region.wanted o (yielded l.toArray a.tmps)=true
  ·rw [if_pos hw] at h
   obtain ⟨v,hv,h⟩:=h
   exact wpAnyHC_first (S':=fun _=>True) ho hic (Region.noSelect_spec hs) (fun c a w h=>hQ c _ _ w (put_defers _ _ _) h) (.inl (fun _=>trivial)) fuel listed a w (Region.free_spec ho h1.1) hcl hmem (.inl ⟨hw,hv⟩) trivial (.inl hcs) (wpAnyHC_rest hs hQ rest _ _ w fuel hf' hl' hc' h2 hcl2 hcs2 h)
  ·rw [if_neg hw] at h
   exact wpAnyHC_first (S':=fun _=>True) ho hic (Region.noSelect_spec hs) (fun c a w h=>hQ c _ _ w (put_defers _ _ _) h) (.inl (fun _=>trivial)) fuel listed a w (Region.free_spec ho h1.1) hcl hmem (.inr ⟨by simpa using hw,rfl⟩) trivial (.inl hcs) (wpAnyHC_rest hs hQ rest _ _ w fuel hf' hl' hc' h2 hcl2 hcs2 h)
theorem wpAnyHC_of_take {o:Oper} (hoc:l.toArray[c]? = some o) (hs:Region.noSelect l.toArray=true) (hQ:∀c (a a':Act) w,a.defers=a'.defers→Q (.panic c) a w→Q (.panic c) a' w) (R:List Nat) (hR:∀i∈R,i<l.length) (hcR:c∉R):∀(L:List Nat) (listed:Array Bool) (a:Act) (w:World) (fuel:Nat),L.length+1+R.length≤fuel→
  (∀i∈L,i<l.length)→orderN md l.toArray c R L listed=true→Closed md l.toArray listed→S w→
  runsN P l.toArray S (taken l L) (fun a1=>Region.wanted o (yielded l.toArray a1.tmps)=true∧o.wpIn Fence.wide n P a1 w (fun a2 w2=>runsN P l.toArray (fun _=>True) (taken l R) (fun a3=>Q .normal a3 w2) a2) Q) a→wpAnyHC n P md l.toArray Q c S fuel listed a w
 | [],listed,a,w,0,hf,_,_,_,_,_=>by simp at hf
 | [],listed,a,w,fuel+1,hf,_,hB,hcl,hS,h=>by
  unfold orderN at hB
  rw [Bool.and_eq_true] at hB
  have hr:Region.ready md l.toArray listed=[c]:=by simpa using hB.1
  refine ⟨fun h0=>absurd (hr ▸ h0) (by simp),fun j hj=>?_⟩
  have hmem:=hj
  rw [hr] at hj
  obtain rfl:j=c:=by simpa using hj
  have hcs:(listed.setIfInBounds j true).getD j false=true:=by
   have h1:=(mem_ready.1 hmem).1
   rcases Nat.lt_or_ge j listed.size with h' | h'
   ·simp [h']
   ·simp [Array.getElem?_eq_none h'] at h1
  unfold wpOpIn
  simp only [hoc]
  obtain ⟨hw,h⟩:=h
  rw [if_pos hw]
  exact Oper.wpIn_mono (fun a w h=>⟨.inl hcs,wpAnyHC_rest hs hQ R _ a w fuel (by simp at hf;omega) hR hcR hB.2 (closed_set hcl hmem) hcs h⟩) h
 | i::rest,listed,a,w,0,hf,_,_,_,_,_=>by simp at hf
 | i::rest,listed,a,w,fuel+1,hf,hl,hB,hcl,hS,h=>by
  have hf':rest.length+1+R.length≤fuel:=by simp at hf;omega
  have hl':∀j∈rest,j<l.length:=fun j hj=>hl j (by simp [hj])
  have hi:i<l.length:=hl i (by simp)
  unfold orderN at hB
  simp only [Bool.and_eq_true,bne_iff_ne] at hB
  obtain ⟨⟨hfr,hrd⟩,hdep,hic,h2⟩:=hB
  have ho:l.toArray[i]? = some l[i]:=by simp [hi]
  have e:taken l (i::rest)=(i,l[i])::taken l rest:=by simp [taken,hi]
  rw [e] at h
  unfold runsN at h
  generalize l[i]=o' at *
  have hmem:i∈Region.ready md l.toArray listed:=by simpa using hrd
  have hcl2:=closed_set hcl hmem
  by_cases hw:Region.wanted o' (yielded l.toArray a.tmps)=true
  ·rw [if_pos hw] at h
   obtain ⟨v,hv,h⟩:=h
   exact wpAnyHC_first (S':=S) ho hic (Region.noSelect_spec hs) (fun c a w h=>hQ c _ _ w (put_defers _ _ _) h) (.inr ⟨hdep,fun _ h=>h⟩) fuel listed a w (Region.free_spec ho hfr) hcl hmem (.inl ⟨hw,hv⟩) hS (.inr hS) (wpAnyHC_of_take hoc hs hQ R hR hcR rest _ _ w fuel hf' hl' h2 hcl2 hS h)
  ·rw [if_neg hw] at h
   exact wpAnyHC_first (S':=S) ho hic (Region.noSelect_spec hs) (fun c a w h=>hQ c _ _ w (put_defers _ _ _) h) (.inr ⟨hdep,fun _ h=>h⟩) fuel listed a w (Region.free_spec ho hfr) hcl hmem (.inr ⟨by simpa using hw,rfl⟩) hS (.inr hS) (wpAnyHC_of_take hoc hs hQ R hR hcR rest _ _ w fuel hf' hl' h2 hcl2 hS h)
theorem wpIn_region_takeN {id:Nat} {a:Act} {w:World} (S:World→Prop) (L:List Nat) (c:Nat) (R:List Nat) {o:Oper} (hoc:l.toArray[c]? = some o) (hm:P.follows .mixedOrders=true) (hs:Region.noSelect l.toArray=true)
  (hB:(decide (L.length+1+R.length≤l.length)&&(L.all (fun i=>decide (i<l.length))&&(R.all (fun i=>decide (i<l.length)&&i != c)&&orderN .any l.toArray c R L (Array.replicate l.length false))))=true)
  (hS:S w.drew) (h:runsN P l.toArray S (taken l L) (fun a1=>Region.wanted o (yielded l.toArray a1.tmps)=true∧∀K:Act→World→Prop,(∀a2 w2,runsN P l.toArray (fun _=>True) (taken l R) (fun a3=>Q .normal a3 w2) a2→K a2 w2)→o.wpIn Fence.wide n P a1 w.drew K (fun e a w=>e = .normal∧Q .normal a w)) a):(Code.region id l.toArray true).wpIn Fence.wide n P Q a w:=by
 simp only [Bool.and_eq_true,List.all_eq_true,decide_eq_true_eq,bne_iff_ne] at hB
 obtain ⟨h1,h2,h3,h4⟩:=hB
 refine Code.wpIn_mono (Q:=fun e a w=>e = .normal∧Q .normal a w) (fun _ _ _ h=>h.1 ▸ h.2) ?_
 refine wpIn_region_any hm (wpAnyIn_of_heldC (c:=c) (S:=S) _ _ _ _ (wpAnyHC_of_take hoc hs (fun c a a' w _ h=>by cases h.1) R (fun i hi=>(h3 i hi).1) (fun e=>(h3 c e).2 rfl) L _ a _ _ (by simpa using h1) h2 (by simpa using h4) (by have:=closed_none (md:=.any) (ops:=l.toArray);simpa using this) hS ?_))
 have hmono:∀(L:List (Nat × Oper)) (S:World→Prop) (K K':Act→Prop) (a:Act),(∀a,K a→K' a)→runsN P l.toArray S L K a→runsN P l.toArray S L K' a:=by
  intro L
  induction L with
  | nil=>intro S K K' a hk h;exact hk a h
  | cons x rest ih=>
   intro S K K' a hk h
   obtain ⟨i,o⟩:=x
   unfold runsN at h ⊢
   split
   ·next hw=>
    rw [if_pos hw] at h
    obtain ⟨v,hv,h⟩:=h
    exact ⟨v,hv,ih S K K' _ hk h⟩
   ·next hw=>
    rw [if_neg hw] at h
    exact ih S K K' _ hk h
 exact hmono _ _ _ _ _ (fun a1 h=>⟨h.1,h.2 _ (fun a2 w2 h2=>hmono _ _ _ _ _ (fun a3 h=>⟨rfl,h⟩) h2)⟩) h
variable {ops:Array Oper} {K:Act→Prop}
theorem takeN_nil {a:Act} (h:K a):runsN P ops S [] K a:=h
theorem takeN_blind {i:Nat} {o:Oper} {rest:List (Nat × Oper)} {a:Act} (_:true=true) (hw:Region.wanted o (yielded ops a.tmps)=true)
  (h:∃v,(∀w,(execOp a.eval o).run P w = .ok (.value v) w)∧runsN P ops S rest K (a.put o.dst v)):runsN P ops S ((i,o)::rest) K a:=by
 unfold runsN
 rw [if_pos hw]
 obtain ⟨v,h1,h2⟩:=h
 exact ⟨v,fun w _=>h1 w,h2⟩
theorem takeN_reads {i:Nat} {o:Oper} {rest:List (Nat × Oper)} {a:Act} (_:true=true) (hw:Region.wanted o (yielded ops a.tmps)=true)
  (h:∃v,(∀w,S w→(execOp a.eval o).run P w = .ok (.value v) w)∧runsN P ops S rest K (a.put o.dst v)):runsN P ops S ((i,o)::rest) K a:=by
 unfold runsN
 rw [if_pos hw]
 exact h
end
end Go.Proofs.YtdcgbgecbeegmaaGreatDoor
end
section
set_option maxRecDepth 100000
namespace Go.Proofs.YtdcgbgecbeegmaaGreatDoor
open Go Go.RowKit Go.Shelf
attribute [local go_sem] Oper.semAt_some
def neighS (l:List ByteArray):List (ByteArray × ByteArray):=l.zip l.tail
theorem neighS_length (l:List ByteArray):(neighS l).length=l.length-1:=by rw [neighS,List.length_zip,List.length_tail];omega
theorem neighS_get (l:List ByteArray) (k:Nat) (h:k+1<l.length):(neighS l)[k]? = some (l[k],l[k+1]):=by
 have hk:k<(neighS l).length:=by rw [neighS_length];omega
 rw [List.getElem?_eq_getElem hk]
 simp [neighS,List.getElem_zip,List.getElem_tail]
theorem new_neighbors (p:Option Addr) (m c:Nat) (w:World) (n:Nat) :
  CallsIn Fence.wide n Tryz.prog 144 #[.slice p m c] w fun e w'=>e = .returned (.func (.func 196) #[] #[.pointer (some ⟨w.heap.size,0,none⟩)])∧w'=w.alloc (.cells #[.slice p m c] 44):=by
 refine callsIn_wide.2 ?_
 go_enter Tryz.func144,Tryz.ntmps144
 go_wp2_with fail
 go_ret
 exact ⟨rfl,rfl⟩
set_option maxHeartbeats 1000000 in
theorem neighbors_gives (n:Nat) (hn:1≤n) (b:Nat) (lv:Value) (ls:List ByteArray) (w:World) (hc:w.cell? ⟨b,0,none⟩=some lv) (hl:Rd w 1 lv ls.length (strs ls)) :
  SeqStopsK Fence.wide n Tryz.prog 196 #[.pointer (some ⟨b,0,none⟩)] (fun x:ByteArray × ByteArray=>#[.string x.1,.string x.2]) (KeepAt (KeepB b lv ls)) (fun ys=>ys=neighS ls) (fun pre=>∃i,pre=(neighS ls).take i) (neighS ls).length w:=by
 intro l J Jx W hW hJ hJx hY h0
 have hb:b<w.heap.size:=World.block_lt_of_cell? w _ hc
 have HK0:Hid (KeepAt (KeepB b lv ls) w W):=fun k hk=>hW.block k (keepB_lt hb hl k hk)
 have HC:=Lib.hid hc;have HL:=Lib.hid hl
 have HJ:=Lib.hid hJ;have HY:=Lib.hid hY
 have hmax:(ls.length:Int)≤9223372036854775807:=by have:=hl.le;unfold maxLen at this;omega
 clear hc hJ hY
 obtain ⟨p,c,hv⟩:=hl.shape
 subst hv
 clear hl
 obtain ⟨K,hK⟩:∃K:Nat→Prop,KeepB b (.slice p ls.length c) ls=K:=⟨_,rfl⟩
 have HKb:Hid (K b):=by rw [← hK];exact Or.inl rfl
 have HKv:Hid (ls≠[]→∀k,(Value.slice p ls.length c).ownBlock=some k→K k):=by rw [← hK];exact fun h k hk=>Or.inr ⟨h,hk⟩
 rw [hK] at HK0 HY
 clear hK
 refine callsIn_of_wp Tryz.func196 rfl trivial ?_ rfl
 simp only [Tryz.ntmps196,List.size_toArray,List.length_cons,List.length_nil,Nat.reduceAdd,Nat.reduceSub,Array.replicate_succ,Array.replicate_zero,List.push_toArray,List.append_toArray,List.nil_append,List.cons_append]
 gi_wp2
 gi_loopw [3] (fun iv wr=>∃(i k:Nat),i=k+1∧(i≤ls.length∨k=0)∧iv = .int .i64 (i:Int)∧Hid (J ((neighS ls).take k) wr∧KeepAt K w wr)) (fun iv _=>ls.length+1-(intOf iv).toNat)
 case atStart=>exact ⟨1,0,rfl,Or.inr rfl,rfl,by simpa using h0,HK0.out⟩
 case round=>
  obtain ⟨i,k,hik,hi,rfl,HI⟩:=hrel
  have cb:=(HI.out.2.cell HKb.out 0).trans HC.out
  by_cases h:i<ls.length
  ·have hlt:(i:Int)<(ls.length:Int):=by omega
   have hi1:(i:Int)-1=(k:Int):=by omega
   have hkl:(k:Int)<(ls.length:Int):=by omega
   have hne:ls≠[]:=fun e=>by rw [e] at h;simp at h
   have HR:=Lib.hid (HI.out.2.rd HL.out (HKv.out hne))
   obtain ⟨b0,off,c',e,_,_,hcl⟩:=HR.out.at (fun e=>hne (by have:=congrArg List.length e;rw [strs_length] at this;exact List.eq_nil_of_length_eq_zero this))
   simp only [Value.slice.injEq] at e
   obtain ⟨rfl,_,rfl⟩:=e
   have c1:=hcl i (.string ls[i]) (strs_get ls i h)
   have c2:=hcl k (.string (ls[k]'(by omega))) (strs_get ls k (by omega))
   have HLi:Hid ((neighS ls).take (k+1)=(neighS ls).take k++[(ls[k]'(by omega),ls[i])]):=by
    show _=_
    rw [List.take_add_one,neighS_get ls k (by omega)]
    simp only [hik]
    rfl
   have hkn:((neighS ls).take k).length<(neighS ls).length:=by rw [List.length_take,neighS_length];omega
   generalize ls[i]=t at *
   generalize ls[k]'(by omega)=s at *
   have HIK:=Lib.hid hik
   have hwk:IntKind.i64.wrap (k:Int)=(k:Int):=IntWalk.i64_in _ (by omega)
   clear hcl HR hik hi
   gi_wp2
   have HS:Hid (∀w':World,(w'.cell? ⟨b,0,none⟩=some (.slice (some ⟨b0,off,none⟩) ls.length c)∧w'.cell? ⟨b0,off+k,none⟩=some (.string s)∧w'.cell? ⟨b0,off+i,none⟩=some (.string t))→(w'.cell? ⟨b,0,none⟩=some (.slice (some ⟨b0,off,none⟩) ls.length c)∧w'.cell? ⟨b0,off+k,none⟩=some (.string s)∧w'.cell? ⟨b0,off+i,none⟩=some (.string t))):=fun _ h=>h
   refine wpIn_region_takeN (fun w':World=>w'.cell? ⟨b,0,none⟩=some (.slice (some ⟨b0,off,none⟩) ls.length c)∧w'.cell? ⟨b0,off+k,none⟩=some (.string s)∧w'.cell? ⟨b0,off+i,none⟩=some (.string t)) [0,1,2,3,4,5,6,7,8,9] 10 [11] rfl (by kernel_rfl) (by kernel_rfl) (by kernel_rfl) ⟨cb,c2,c1⟩ ?_
   clear cb c1 c2
   simp only [taken,List.map_cons,List.map_nil,List.getElem?_cons_succ,List.getElem?_cons_zero,Option.getD_some]
   repeat (first
        | (refine takeN_skip rfl ?_; simp only [Act.put, List.setIfInBounds_toArray, List.set_cons_succ, List.set_cons_zero])
        | (refine takeN_blind rfl rfl ?_; apply Exists.intro; refine ⟨fun w => ?_, ?_⟩; (go_simp; try with_reducible rfl); simp only [Act.put, List.setIfInBounds_toArray, List.set_cons_succ, List.set_cons_zero])
        | (refine takeN_reads rfl rfl ?_; apply Exists.intro; refine ⟨fun w' hS => ?_, ?_⟩; (obtain ⟨d0, d1, d2⟩ := HS.out w' hS; go_simp; try with_reducible rfl); simp only [Act.put, List.setIfInBounds_toArray, List.set_cons_succ, List.set_cons_zero]))
   refine takeN_nil ?_
   refine ⟨rfl,fun K' hK'=>?_⟩
   have HI2:Hid (J ((neighS ls).take k) wr.drew∧KeepAt K w wr.drew):=⟨HJ.out _ wr _ none HI.out.1 (grown_drewN wr 1) (fun r e=>by cases e),HI.out.2⟩
   clear HI hi1 hkl
   obtain ⟨fn,tmps,assign,body,hyl,hR⟩:=HY.out ((neighS ls).take k) (s,t) wr.drew HI2.out.1 hkn
   have hRH:=Lib.hid hR
   clear hR hkn
   generalize wr.drew=wy at *
   gi_wp2
   refine hRH.out.mono ?_
   rintro e W3 (⟨rfl,hJ3,hk3⟩ | ⟨rfl,hJx3⟩)
   ·have HI3:Hid (J ((neighS ls).take (k+1)) W3∧KeepAt K w W3):=⟨by rw [HLi.out];exact hJ3,keepAt_t HI2.out.2 hk3⟩
    clear hJ3 hk3
    refine hK' _ _ ?_
    clear hK' K'
    repeat (first
        | (refine takeN_skip rfl ?_; simp only [Act.put, List.setIfInBounds_toArray, List.set_cons_succ, List.set_cons_zero])
        | (refine takeN_blind rfl rfl ?_; apply Exists.intro; refine ⟨fun w => ?_, ?_⟩; (go_simp; try with_reducible rfl); simp only [Act.put, List.setIfInBounds_toArray, List.set_cons_succ, List.set_cons_zero])
        | (refine takeN_reads rfl rfl ?_; apply Exists.intro; refine ⟨fun w' hS => ?_, ?_⟩; (obtain ⟨d0, d1, d2⟩ := HS.out w' hS; go_simp; try with_reducible rfl); simp only [Act.put, List.setIfInBounds_toArray, List.set_cons_succ, List.set_cons_zero]))
    refine takeN_nil ?_
    gi_wp2
    go_roundw
    case rel=>exact ⟨i+1,k+1,by have:=HIK.out;omega,Or.inl (by omega),by go_num,HI3.out⟩
    case measure=>simp [intOf];omega
   ·refine hK' _ _ ?_
    clear hK' K'
    repeat (first
        | (refine takeN_skip rfl ?_; simp only [Act.put, List.setIfInBounds_toArray, List.set_cons_succ, List.set_cons_zero])
        | (refine takeN_blind rfl rfl ?_; apply Exists.intro; refine ⟨fun w => ?_, ?_⟩; (go_simp; try with_reducible rfl); simp only [Act.put, List.setIfInBounds_toArray, List.set_cons_succ, List.set_cons_zero])
        | (refine takeN_reads rfl rfl ?_; apply Exists.intro; refine ⟨fun w' hS => ?_, ?_⟩; (obtain ⟨d0, d1, d2⟩ := HS.out w' hS; go_simp; try with_reducible rfl); simp only [Act.put, List.setIfInBounds_toArray, List.set_cons_succ, List.set_cons_zero]))
    refine takeN_nil ?_
    gi_wp2
    refine bodyPost_ret (results_none rfl _ _ _) rfl ?_
    exact ⟨⟨_,rfl⟩,.inr ⟨_,⟨k+1,HLi.out.symm⟩,hJx3⟩⟩
  ·have hlt:¬(i:Int)<(ls.length:Int):=by omega
   have HE:Hid ((neighS ls).take k=neighS ls):=List.take_of_length_le (by rw [neighS_length];omega)
   clear hik hi
   gi_wp2
   go_end0
   refine ⟨⟨_,rfl⟩,.inl ?_⟩
   have:=HI.out.1
   rw [HE.out] at this
   exact this
theorem neighS_cons (a b:ByteArray) (l:List ByteArray):neighS (a::b::l)=(a,b)::neighS (b::l):=rfl
theorem asc_neigh (t:List ByteArray):AscB ltS t↔∀x∈neighS t,ltS x.1 x.2=true:=by
 induction t with
 | nil=>exact ⟨(fun _ x h=>by cases h),fun _=>List.Pairwise.nil⟩
 | cons a l ih=>
  cases l with
  | nil=>exact ⟨(fun _ x h=>by cases h),fun _=>List.pairwise_singleton _ _⟩
  | cons b l=>
   rw [neighS_cons]
   constructor
   ·intro h x hx
    obtain ⟨h1,h2⟩:=List.pairwise_cons.1 h
    rcases List.mem_cons.1 hx with rfl | hx
    ·exact h1 b (by simp)
    ·exact ih.1 h2 x hx
   ·intro h
    have h2:=ih.2 (fun x hx=>h x (List.mem_cons_of_mem _ hx))
    have hab:ltS a b=true:=h (a,b) (by simp)
    refine List.pairwise_cons.2 ⟨fun y hy=>?_,h2⟩
    rcases List.mem_cons.1 hy with rfl | hy
    ·exact hab
    ·exact ltS_ok.tr _ _ _ hab ((List.pairwise_cons.1 h2).1 y hy)
theorem leq_S (T:TypeId) (s b:ByteArray):binOp .leq T (.string s) (.string b)=pure (.bool (!ltS b s)):=by
 have h:(Op.bytesLess s.toList b.toList || s.toList == b.toList) = !ltS b s:=by
  rw [eqS]
  show (ltS s b || decide (s=b)) = !ltS b s
  by_cases e:s=b
  ·subst e;simp [ltS_ok.irr]
  ·rw [decide_eq_false e,Bool.or_false]
   rcases Bool.eq_false_or_eq_true (ltS s b) with h1 | h1
   ·rw [h1,ltS_ok.asy h1];rfl
   ·rcases Bool.eq_false_or_eq_true (ltS b s) with h2 | h2
    ·rw [h1,h2];rfl
    ·exact absurd (ltS_ok.tot _ _ h1 h2) e
 rw [← h]
 simp [binOp,Op.stringOp]
theorem own_asc {β:Type} {B r:Nat} {w:World} (hB:w.heap.size≤B) (p:β→Prop) (u:Value):OwnFrom B (fun s W=>Blk W r [u]∧Below w.heap.size w W∧p s):=by
 rintro s W W' row ⟨h1,h2,h3⟩ hg hr
 have hr':∀r,row=some r→∃o:Obj,W.heap[r]? = some o∧o.isCells=false:=fun r e=>(hr r e).2
 exact ⟨own_blk r (fun _:Unit=>[u]) () W W' row h1 hg hr',h2.grown hg h2.size (fun j e=>Nat.le_trans hB (hr j e).1),h3⟩
set_option maxHeartbeats 2000000 in
theorem is_ascending (tv:Value) (t:List ByteArray) (w:World) (h:Rd w 1 tv t.length (strs t)) :
  Calls Tryz.prog 101 #[tv] w fun e w'=>e = .returned (.bool (decide (AscB ltS t)))∧Below w.heap.size w w':=by
 have H:=Lib.hid h
 obtain ⟨p,c,hv⟩:=h.shape
 subst hv
 clear h
 refine (callsIn_wide (n:=9)).1 ?_
 refine callsIn_of_wp_marks Tryz.func101 rfl trivial ?_ rfl
 simp only [Tryz.ntmps101,List.size_toArray,List.length_cons,List.length_nil,Nat.reduceAdd,Nat.reduceSub,Array.replicate_succ,Array.replicate_zero,List.push_toArray,List.append_toArray,List.nil_append,List.cons_append]
 gi_wp2_with (refine ⟨trivial,?_⟩;gi_at_call 144;refine (new_neighbors _ _ c _ _).mono ?_;rintro e w' ⟨rfl,rfl⟩)
 obtain ⟨w1,hw1⟩:∃w1,w.alloc (.cells #[.bool false] 4)=w1:=⟨_,rfl⟩
 have hs1:w1.heap.size=w.heap.size+1:=by rw [← hw1];simp
 have hB1:Below w.heap.size w w1:=by rw [← hw1];exact (Below.refl _ w).alloc (Nat.le_refl _) _
 have hx1:Blk w1 w.heap.size [.bool false]:=by rw [← hw1];exact Blk.new w _ _
 rw [hw1]
 clear hw1
 obtain ⟨W0,hW0⟩:∃W0,w1.alloc (.cells #[.slice p t.length c] 44)=W0:=⟨_,rfl⟩
 have hs0:W0.heap.size=w1.heap.size+1:=by rw [← hW0];simp
 have hB0:Below w1.heap.size w1 W0:=by rw [← hW0];exact (Below.refl _ w1).alloc (Nat.le_refl _) _
 have hx0:W0.cell? ⟨w1.heap.size,0,none⟩=some (.slice p t.length c):=by
  have:=(Blk.new w1 #[.slice p t.length c] 44).cell 0
  rw [hW0] at this
  simpa using this
 rw [hs1] at hx0
 rw [hW0]
 clear hW0
 have hBB:Below w.heap.size w W0:=hB1.trans (hB0.mono hB1.size)
 have hR0:=H.out.below hBB
 have HX0:Hid (Blk W0 w.heap.size [.bool false]):=hx1.of_same (hB0.block _ hx1.lt)
 have HKW:Hid (∀k,KeepB (w.heap.size+1) (.slice p t.length c) t k→k<W0.heap.size∧k≠w.heap.size):=fun k hk=>by
  rcases hk with e | ⟨hne,e⟩
  ·omega
  ·have:=H.out.lt (fun e=>hne (by have:=congrArg List.length e;rw [strs_length] at this;exact List.eq_nil_of_length_eq_zero this)) k e
   omega
 have HGV:=Lib.hid (neighbors_gives 8 (by omega) (w.heap.size+1) _ t W0 hx0 hR0)
 have HS0:Hid (W0.heap.size=w.heap.size+2):=by show _=_;omega
 have HBB:=Lib.hid hBB
 clear hx0 hs0 hB0 hs1 hB1 hx1 hBB hR0
 obtain ⟨K,hK⟩:∃K:Nat→Prop,KeepB (w.heap.size+1) (.slice p t.length c) t=K:=⟨_,rfl⟩
 rw [hK] at HGV HKW
 clear hK
 have HAN:=Lib.hid (asc_neigh t)
 obtain ⟨ys,hys⟩:∃ys,neighS t=ys:=⟨_,rfl⟩
 rw [hys] at HGV HAN
 clear hys
 refine wpIn_rangeFunc_ownG rfl (by omega) (gf:=196) (lb:=#[.pointer (some ⟨w.heap.size+1,0,none⟩)]) rfl trivial (enters_of Tryz.func196 (by kernel_rfl) rfl)
  HGV.out (fun h k=>keepAt_t h k) (fun W l o o' h1 h2 h3 h4=>keepAt_b (fun k hk=>(HKW.out k hk).1) W l o o' h1 h2 h3 h4) (Below.refl _ _) (fun _=>rfl)
  (fun pre W=>Blk W w.heap.size [.bool false]∧Below w.heap.size w W∧∀x∈pre,ltS x.1 x.2=true)
  (fun c pre W=>Blk W w.heap.size [.bool false]∧Below w.heap.size w W∧(c = .ret∧∃x∈pre,ltS x.1 x.2=false))
  (own_asc (by have:=HS0.out;omega) (fun pre:List (ByteArray × ByteArray)=>∀x∈pre,ltS x.1 x.2=true) _)
  (fun c=>own_asc (by have:=HS0.out;omega) (fun pre:List (ByteArray × ByteArray)=>c = .ret∧∃x∈pre,ltS x.1 x.2=false) _)
  ⟨HX0.out,HBB.out,fun x hx=>by cases hx⟩
  (fun x=>{ tmps:=#[.slice p t.length c,undef,.pointer (some ⟨w.heap.size,0,none⟩),.string x.1,.string x.2,.slice p t.length c,.func (.func 196) #[] #[.pointer (some ⟨w.heap.size+1,0,none⟩)],.string x.1,.string x.2,undef,undef,undef],defers:=[] }) ?assign ?body ?done ?stop
 case assign=>
  intro l x W K hK
  simp only [List.zip_toArray,List.zip_cons_cons,List.zip_nil_right,List.foldl_toArray,List.foldl_cons,List.foldl_nil,List.setIfInBounds_toArray,List.set_cons_zero,List.set_cons_succ]
  gi_wp2
  exact hK
 case body=>
  rintro l pre ⟨b,s⟩ W ⟨h1,h2,h3⟩ hlen
  have hle:=leq_S 9 s b
  have H1:=Lib.hid h1;have H2:=Lib.hid h2;have H3:=Lib.hid h3
  clear h1 h2 h3 hlen
  cases hlt:ltS b s with
  | true=>
   rw [hlt] at hle
   have HL:=Lib.hid hlt
   clear hlt
   gi_wp2_with fail
   exact ⟨KeepsFrom.refl _ _,fun _ _=>rfl,H1.out,H2.out,fun x hx=>by
    rcases List.mem_append.1 hx with e | e
    ·exact H3.out x e
    ·rw [List.mem_singleton.1 e];exact HL.out⟩
  | false=>
   rw [hlt] at hle
   have HL:=Lib.hid hlt
   clear hlt
   have c0:W.cell? ⟨w.heap.size,0,none⟩=some (.bool false):=by rw [H1.out.cell];rfl
   have f0:=H1.out.free 0
   have HM:Hid (Mods (fun k=>k=w.heap.size) W (W.setCell ⟨w.heap.size,0,none⟩ (.bool false))):=Mods.set _ _ _ _ (fun _=>rfl)
   have HX:Hid (Blk (W.setCell ⟨w.heap.size,0,none⟩ (.bool false)) w.heap.size [.bool false]):=Lib.hid (by simpa using H1.out.set 0 (.bool false))
   gi_wp2_with fail
   refine ⟨(KeepsOthers.of_mods HM.out (fun k o e ho=>?_)).from _,HX.out,H2.out.trans (HM.out.below (by have:=H2.out.size;omega) (fun k hk e=>by omega)),?_⟩
   ·subst e
    obtain ⟨t,ht⟩:=H1.out
    rw [ht] at ho;cases ho;rfl
   ·exact ⟨rfl,(b,s),by simp,HL.out⟩
 case done=>
  rintro D zs W hD rfl ⟨h1,h2,h3⟩ hK
  have HAs:Hid (decide (AscB ltS t)=true):=decide_eq_true (HAN.out.2 h3)
  have c0:W.cell? ⟨w.heap.size,0,none⟩=some (.bool false):=by rw [h1.cell];rfl
  have f0:=h1.free 0
  have HM:Hid (Mods (fun k=>k=w.heap.size) W (W.setCell ⟨w.heap.size,0,none⟩ (.bool true))):=Mods.set _ _ _ _ (fun _=>rfl)
  have HX:Hid (Blk (W.setCell ⟨w.heap.size,0,none⟩ (.bool true)) w.heap.size [.bool true]):=Lib.hid (by simpa using h1.set 0 (.bool true))
  have HKo:Hid ((W.setCell ⟨w.heap.size,0,none⟩ (.bool true)).heap[D]? = some (.deferred (some []))):=(HM.out.block D (Array.getElem?_eq_some_iff.1 hK).1 (by have:=HS0.out;omega)).trans hK
  have H2:=Lib.hid h2
  clear h1 h2 h3 hK HGV
  gi_wp2
  refine ⟨by simp,.inl ⟨_,_,rfl,run_takeDeferred HKo.out,?_⟩⟩
  have hg:=grownBy_putObj' (W.setCell ⟨w.heap.size,0,none⟩ (.bool true)) D (.deferred none)
  have hx5:Blk ((W.setCell ⟨w.heap.size,0,none⟩ (.bool true)).putObj D (.deferred none)) w.heap.size [.bool true]:=HX.out.of_same (hg.block _ HX.out.lt (by have:=HS0.out;simp;omega))
  have hc5:((W.setCell ⟨w.heap.size,0,none⟩ (.bool true)).putObj D (.deferred none)).cell? ⟨w.heap.size,0,none⟩=some (.bool true):=by rw [hx5.cell];rfl
  refine ⟨.bool true,?_,by rw [HAs.out],?_⟩
  ·simp [results,Tryz.f101,go_sem,hc5]
  ·exact (H2.out.trans (HM.out.below (by have:=H2.out.size;omega) (fun k hk e=>by omega))).trans (belowK_b (w:=w) (Nat.le_refl _) _ D _ _ (by have:=HS0.out;omega) HKo.out rfl rfl)
 case stop=>
  rintro D c pre W hD hpre ⟨h1,h2,rfl,x,hx,hlt⟩ hK
  have HAs:Hid (decide (AscB ltS t)=false):=decide_eq_false (fun h=>by
   obtain ⟨i,hi⟩:=hpre
   have:=HAN.out.1 h x (by rw [hi] at hx;exact List.mem_of_mem_take hx)
   rw [hlt] at this
   cases this)
  have H1:=Lib.hid h1;have H2:=Lib.hid h2;have HK:=Lib.hid hK
  clear h1 h2 hpre hx hlt hK HGV
  gi_wp2
  refine ⟨by simp,.inl ⟨_,_,rfl,run_takeDeferred HK.out,?_⟩⟩
  have hg:=grownBy_putObj' W D (.deferred none)
  have hx5:Blk (W.putObj D (.deferred none)) w.heap.size [.bool false]:=H1.out.of_same (hg.block _ H1.out.lt (by have:=HS0.out;simp;omega))
  have hc5:(W.putObj D (.deferred none)).cell? ⟨w.heap.size,0,none⟩=some (.bool false):=by rw [hx5.cell];rfl
  refine ⟨.bool false,?_,by rw [HAs.out],?_⟩
  ·simp [results,Tryz.f101,go_sem,hc5]
  ·exact H2.out.trans (belowK_b (w:=w) (Nat.le_refl _) _ D _ _ (by have:=HS0.out;omega) HK.out rfl rfl)
end Go.Proofs.YtdcgbgecbeegmaaGreatDoor
end
section
set_option maxRecDepth 20000
namespace Go.Proofs.YtdcgbgecbeegmaaGreatDoor
open Go Go.RowKit
def renSearchS:Go.Shelf.Ren:=⟨fun | 26=>146 | 33=>197 | 34=>198 | 38=>243 | n=>n,fun | 0=>0 | 3=>3 | 4=>4 | 9=>9 | 24=>44 | 40=>177 | n=>n,fun n=>n⟩
theorem laysSearchS:Go.Proofs.Lays2.n26 Tryz.prog renSearchS:={ mixed:=by kernel_rfl,f26:=Tryz.func146.trans (congrArg some (by kernel_rfl)),f33:=Tryz.func197.trans (congrArg some (by kernel_rfl)),f34:=Tryz.func198.trans (congrArg some (by kernel_rfl)),f38:=Tryz.func243.trans (congrArg some (by kernel_rfl)),t0:=Tryz.underlying0,a0:=Tryz.isAgg0,z0:=Tryz.sizeOf0,v0:=Tryz.zeroValue0,t3:=Tryz.underlying3,a3:=Tryz.isAgg3,z3:=Tryz.sizeOf3,v3:=Tryz.zeroValue3,t4:=Tryz.underlying4,a4:=Tryz.isAgg4,z4:=Tryz.sizeOf4,v4:=Tryz.zeroValue4,t9:=Tryz.underlying9,a9:=Tryz.isAgg9,z9:=Tryz.sizeOf9,v9:=Tryz.zeroValue9,t24:=Tryz.underlying44,a24:=Tryz.isAgg44,z24:=Tryz.sizeOf44,v24:=Tryz.zeroValue44,t40:=Tryz.underlying177,a40:=Tryz.isAgg177,z40:=Tryz.sizeOf177,v40:=Tryz.zeroValue177 }
theorem search_row (tv:Value) (t:List ByteArray) (s:ByteArray) (w:World) (h:Rd w 1 tv t.length (strs t)) (hn:t.length≤1000000) (ha:AscB ltS t) :
  Calls Tryz.prog 146 #[tv,.string s] w fun e w'=>∃k:Nat,e = .returned (.tuple #[.int .i64 (k:Int),.bool (decide (0≤findS t s))])∧(0≤findS t s→(k:Int)=findS t s)∧∃q,w'=w.drewN q:=by
 by_cases h0:t=[]
 ·subst h0
  obtain ⟨p,c,hv⟩:=h.shape
  subst hv
  refine (Any2.slices_BinarySearch_string_empty laysSearchS p c s w).mono ?_
  rintro e w' ⟨rfl,rfl⟩
  exact ⟨0,rfl,(fun h=>absurd (show (0:Int)≤-1 from h) (by decide)),0,rfl⟩
 ·obtain ⟨b,off,c,rfl,_,_,hc⟩:=h.at (fun e=>h0 (by have:=congrArg List.length e;rw [strs_length] at this;exact List.eq_nil_of_length_eq_zero this))
  have h1:=Any2.slices_BinarySearch_string laysSearchS b off t.length c (atOr t s) s w (by omega) (fun j hj=>hc j _ (by rw [strs,List.getElem?_map,List.getElem?_eq_getElem hj,atOr,List.getElem?_eq_getElem hj];rfl))
  have hk:Lib.bsGo (fun j=>Op.bytesLess (atOr t s j).toList s.toList) t.length 0 t.length=posS t s:=
   Lib.bsGo_spec _ _ (fun j hj=>posS_low j hj) (fun j hj=>posS_high ha j hj) _ _ _ (by omega) (by omega) (posS_le t s)
  rw [hk] at h1
  refine h1.mono ?_
  rintro e w' ⟨rfl,q,rfl⟩
  by_cases hf:posS t s<t.length∧atOr t s (posS t s)=s
  ·obtain ⟨hf1,hf2⟩:=hf
   rw [atOr,List.getElem?_eq_getElem hf1,Option.getD_some] at hf2
   have hF:findS t s=(posS t s:Int):=firstI_at (fun y hy=>by
    obtain ⟨j,hj,he⟩:=List.getElem_of_mem hy
    rw [List.length_take] at hj
    rw [List.getElem_take] at he
    have:=posS_low (t:=t) (s:=s) j (by omega)
    rw [atOr,List.getElem?_eq_getElem (by omega),Option.getD_some,he] at this
    rw [decide_eq_false]
    intro e
    rw [e,ltS_ok.irr] at this
    cases this) (by rw [List.getElem?_eq_getElem hf1]) (by rw [hf2];simp)
   rw [hF]
   refine ⟨posS t s,?_,fun _=>rfl,q,rfl⟩
   rw [decide_eq_true (show posS t s<t.length∧atOr t s (posS t s)=s from ⟨hf1,by rw [atOr,List.getElem?_eq_getElem hf1];exact hf2⟩),decide_eq_true (by omega)]
  ·have hF:findS t s = -1:=firstI_none (fun y hy=>by
    rw [decide_eq_false]
    intro e
    subst e
    obtain ⟨j,hj,he⟩:=List.getElem_of_mem hy
    have hj1:posS t y≤j:=by
     rcases Nat.lt_or_ge j (posS t y) with hlt | hge
     ·have:=posS_low (t:=t) (s:=y) j hlt
      rw [atOr,List.getElem?_eq_getElem hj,Option.getD_some,he,ltS_ok.irr] at this
      cases this
     ·exact hge
    have hk2:posS t y<t.length:=by omega
    refine hf ⟨hk2,?_⟩
    rcases Nat.lt_or_eq_of_le hj1 with e | e
    ·have h2:=ascB_get ha e hj
     have h3:=posS_high ha (s:=y) (posS t y) (Nat.le_refl _)
     rw [atOr,List.getElem?_eq_getElem hk2,Option.getD_some] at h3
     rw [he,h3] at h2
     cases h2
    ·rw [atOr,List.getElem?_eq_getElem hk2,Option.getD_some]
     simp only [e]
     exact he)
   rw [hF]
   exact ⟨posS t s,by rw [decide_eq_false hf];rfl,fun h=>absurd h (by decide),q,rfl⟩
end Go.Proofs.YtdcgbgecbeegmaaGreatDoor
end
section
namespace Go.Proofs.YtdcgbgecbeegmaaGreatDoor
open Go Go.RowKit Go.Shelf
attribute [local go_sem] Oper.semAt_some
theorem new_groups (x:Nat) (w:World) (n:Nat) :
  CallsIn Fence.wide n Tryz.prog 123 #[.int .u64 x] w fun e w'=>e = .returned (.func (.func 170) #[] #[.pointer (some ⟨w.heap.size,0,none⟩)])∧w'=w.alloc (.cells #[.int .u64 x] 81):=by
 refine callsIn_wide.2 ?_
 go_enter Tryz.func123,Tryz.ntmps123
 go_wp2
 go_ret
 exact ⟨rfl,rfl⟩
set_option maxRecDepth 100000 in
set_option maxHeartbeats 1000000 in
theorem groups_gives (n:Nat) (hn:1≤n) (b x:Nat) (hx:x<18446744073709551616) (w:World) (hb:b<w.heap.size) (hc:w.cell? ⟨b,0,none⟩=some (.int .u64 x)) :
  SeqStopsK Fence.wide n Tryz.prog 170 #[.pointer (some ⟨b,0,none⟩)] (fun c:Nat=>#[.int .u8 (c:Int)]) KeepsWalks (fun ys=>ys=groups x) (fun _=>True) (groups x).length w:=by
 intro l J Jx W hW hJ hJx hY h0
 have hc':W.cell? ⟨b,0,none⟩=some (.int .u64 x):=(hW.cell (p:=⟨b,0,none⟩) hb).trans hc
 refine callsIn_of_wp Tryz.func170 rfl trivial ?_ rfl
 simp only [Tryz.ntmps170,List.size_toArray,List.length_cons,List.length_nil,Nat.reduceAdd,Nat.reduceSub,Array.replicate_succ,Array.replicate_zero,List.push_toArray,List.append_toArray,List.nil_append,List.cons_append]
 gi_wp2
 gi_loopw [3] (fun r wr=>∃(pre:List Nat) (y:Nat),y<18446744073709551616∧r = .int .u64 y∧groups x=pre++groups y∧J pre wr) (fun r _=>(intOf r).toNat)
 case atStart=>exact ⟨[],x,hx,rfl,rfl,h0⟩
 case round=>
  obtain ⟨pre,y,hy,rfl,hg,hJs⟩:=hrel
  by_cases h:y<128
  ·have hlt:(y:Int)<128:=by omega
   obtain ⟨fn,tmps,assign,body,hyl,hR⟩:=hY pre y wr hJs (by rw [hg,groups_small h];simp)
   rw [groups_small h] at hg
   gi_wp2
   refine hR.mono ?_
   rintro e W3 (⟨rfl,hJ3,hk3⟩ | ⟨rfl,hJx3⟩)
   ·gi_wp2
    go_end0
    exact ⟨⟨_,rfl⟩,.inl ⟨_,hg.symm,hJ3⟩⟩
   ·gi_wp2
    go_end0
    exact ⟨⟨_,rfl⟩,.inr ⟨_,trivial,hJx3⟩⟩
  ·have hlt:¬(y:Int)<128:=by omega
   obtain ⟨fn,tmps,assign,body,hyl,hR⟩:=hY pre (y % 128+128) wr hJs (by rw [hg,groups_big h];simp)
   rw [show ((y % 128+128:Nat):Int)=(y:Int) % 128+128 from by omega] at hyl
   rw [groups_big h] at hg
   gi_wp2
   refine hR.mono ?_
   rintro e W3 (⟨rfl,hJ3,hk3⟩ | ⟨rfl,hJx3⟩)
   ·gi_wp2
    go_roundw
    case rel=>exact ⟨pre++[y % 128+128],y / 128,by omega,by go_num,by rw [hg];simp,hJ3⟩
    case measure=>simp [intOf];omega
   ·gi_wp2
    refine bodyPost_ret (results_none rfl _ _ _) rfl ?_
    exact ⟨⟨_,rfl⟩,.inr ⟨_,trivial,hJx3⟩⟩
structure AppPost (v:Value) (n:Nat) (out:List Nat) (w:World) (v':Value) (w':World):Prop where
 own:w'.ownsRow 0 5 1 v' n (u8s out)
 mods:Mods (fun k=>v.ownBlock=some k) w w'
 fresh:Fresh w.heap.size v v'
theorem AppPost.below {v:Value} {n:Nat} {out:List Nat} {w:World} {v':Value} {w':World} (h:AppPost v n out w v' w') {B:Nat} (hB:B≤w.heap.size) (hv:∀k,v.ownBlock=some k→B≤k):Below B w w':=
 h.mods.below hB (fun k hk e=>by have:=hv k e;omega)
theorem AppPost.made {v:Value} {n:Nat} {out:List Nat} {w:World} {v':Value} {w':World} (h:AppPost v n out w v' w') {B:Nat} (hB:B≤w.heap.size) (hv:∀k,v.ownBlock=some k→B≤k):w'.ownsRow B 5 1 v' n (u8s out):=
 owns_rebase h.own (fun k hk=>by
  rcases h.fresh k hk with e | e
  ·exact hv k e
  ·omega)
theorem nil_block {B:Nat}:∀k,(Value.slice none 0 0).ownBlock=some k→B≤k:=fun k e=>by simp [Value.ownBlock] at e
set_option maxRecDepth 100000 in
set_option maxHeartbeats 1000000 in
theorem append_any (v:Value) (n:Nat) (l:List Nat) (x:Nat) (hx:x<18446744073709551616) (w:World) (h:w.ownsRow 0 5 1 v n (u8s l)) (hn:n+10≤140737488355328) :
  Calls Tryz.prog 86 #[v,.int .u64 x] w fun e w'=>∃v',e = .returned v'∧AppPost v (n+(groups x).length) (l++groups x) w v' w':=by
 have hten:=groups_ten hx
 obtain ⟨p,c,hv⟩:=(Rd.of_owns h).shape
 subst hv
 refine (callsIn_wide (n:=9)).1 ?_
 refine callsIn_of_wp_marks Tryz.func86 rfl trivial ?_ rfl
 simp only [Tryz.ntmps86,List.size_toArray,List.length_cons,List.length_nil,Nat.reduceAdd,Nat.reduceSub,Array.replicate_succ,Array.replicate_zero,List.push_toArray,List.append_toArray,List.nil_append,List.cons_append]
 have H:=Lib.hid h;clear h
 gi_wp2_with (refine ⟨trivial,?_⟩;gi_at_call 123;refine (new_groups x _ _).mono ?_;rintro e w' ⟨rfl,rfl⟩)
 obtain ⟨W0,hW0⟩:∃W0,(w.alloc (.cells #[.slice p n c] 25)).alloc (.cells #[.int .u64 x] 81)=W0:=⟨_,rfl⟩
 have hs0:W0.heap.size=w.heap.size+2:=by rw [← hW0];simp
 have hx0:W0.cell? ⟨w.heap.size+1,0,none⟩=some (.int .u64 x):=by
  have:=(Blk.new (w.alloc (.cells #[.slice p n c] 25)) #[.int .u64 x] 81).cell 0
  rw [hW0] at this
  simpa using this
 have hI0:Holds 5 1 w.heap.size (.slice p n c) (n+0) (u8s (l++[])) w W0:=by
  have hm:Mods (fun k=>(Value.slice p n c).ownBlock=some k) w W0:=by rw [← hW0];exact (Mods.alloc _ _ _).trans (Mods.alloc (fun _=>False) _ _) (fun _ _ e=>e.elim)
  refine ⟨_,?_,?_,Fresh.refl _ _,fun e=>by have:=owns_lt H.out _ e;omega,hm⟩
  ·rw [← hW0];exact (Blk.new w _ _).alloc _
  ·rw [← hW0,List.append_nil];exact (H.out.alloc _).alloc _
 rw [hW0]
 clear hW0
 refine wpIn_rangeFunc_ownG rfl (by omega) (gf:=170) (lb:=#[.pointer (some ⟨w.heap.size+1,0,none⟩)]) rfl trivial (enters_of Tryz.func170 (by kernel_rfl) rfl)
  (groups_gives _ (by omega) (w.heap.size+1) x hx W0 (by omega) hx0) walksK_t walksK_b (Below.refl _ _) (fun _=>rfl)
  (fun pre W=>Holds 5 1 w.heap.size (.slice p n c) (n+pre.length) (u8s (l++pre)) w W)
  (fun _ _ _=>False)
  (ownFrom_holds (by omega) _ _ _ _ _ _)
  (fun _ _ _ _ _ hs _ _=>hs)
  hI0
  (fun k=>{ tmps:=#[.slice p n c,.int .u64 x,.pointer (some ⟨w.heap.size,0,none⟩),undef,.slice none 0 0,.int .u8 (k:Int),.int .u64 x,.func (.func 170) #[] #[.pointer (some ⟨w.heap.size+1,0,none⟩)],.int .u8 (k:Int),undef,undef,undef,undef,undef],defers:=[] }) ?assign ?body ?done ?stop
 case assign=>
  intro l k W K hK
  simp only [List.zip_toArray,List.zip_cons_cons,List.zip_nil_right,List.foldl_toArray,List.foldl_cons,List.foldl_nil,List.setIfInBounds_toArray,List.set_cons_zero,List.set_cons_succ]
  gi_wp2
  exact hK
 case body=>
  rintro r pre k W ⟨v1,h1,h2,h3,h4,h5⟩ hlen
  have c0:W.cell? ⟨w.heap.size,0,none⟩=some v1:=by rw [h1.cell];rfl
  have f0:=h1.free 0
  have hb:(n+pre.length+1)*1≤140737488355328∧n+pre.length+1≤maxLen:=by unfold maxLen;omega
  have H2:=Lib.hid h2;have HB:=Lib.hid hb
  obtain ⟨p1,c1,hv1⟩:=(Rd.of_owns h2).shape
  subst hv1
  clear h2 hb
  refine wpIn_block ?_
  refine wpIn_region_list ?_
  refine wpListIn_round not_letsOut_body _ _ _ (by simp) ?_
  go_wp2_with (at_builtin;refine wpList_push Tryz.elemU8 W #[.int .u8 (k:Int)] _ _ _ H2.out rfl (one_cell _ rfl) HB.out rfl _ _ rfl rfl rfl ?_)
  intro v2 w1 k1 k2 k3
  obtain ⟨q1,q2⟩:=Holds.pushed (Nat.le_refl _) h1 H2.out h3 h4 h5 k1 k2 k3
  have b1:=k2.blk h1 h4
  have c1':w1.cell? ⟨w.heap.size,0,none⟩=some (.slice p1 (n+pre.length) c1):=by rw [b1.cell];rfl
  have f1':=b1.free 0
  obtain ⟨p2,c2,hv2⟩:=(Rd.of_owns k1).shape
  subst hv2
  have Q1:=Lib.hid q1;have Q2:=Lib.hid q2
  clear k1 k2 k3 q1 q2
  go_wp2
  refine ⟨Q2.out.from _,Q2.out.walks,?_⟩
  have q:=Q1.out
  simpa [u8s,Nat.add_assoc] using q
 case done=>
  rintro D ys W hD rfl ⟨v1,h1,h2,h3,h4,h5⟩ hK
  have c0:W.cell? ⟨w.heap.size,0,none⟩=some v1:=by rw [h1.cell];rfl
  obtain ⟨p1,c1,hv1⟩:=(Rd.of_owns h2).shape
  subst hv1
  have H2:=Lib.hid h2;clear h2
  gi_wp2
  refine ⟨by simp,.inl ⟨_,_,rfl,run_takeDeferred hK,?_⟩⟩
  refine ⟨_,results_tmp rfl _ _ _,?_⟩
  exact ⟨.slice p1 (n+(groups x).length) c1,rfl,⟨ownsRow_putObj H2.out _ hK rfl,h5.putObj (by omega) _,h3⟩⟩
 case stop=>
  rintro D c pre W _ _ h _
  exact h.elim
end Go.Proofs.YtdcgbgecbeegmaaGreatDoor
end
section
set_option maxRecDepth 20000
namespace Go.Proofs.YtdcgbgecbeegmaaGreatDoor
open Go Go.RowKit
set_option maxHeartbeats 1000000 in
theorem append_bytes (v:Value) (n:Nat) (l:List Nat) (s:ByteArray) (w:World) (h:w.ownsRow 0 5 1 v n (u8s l)) (hn:n+s.size≤140737488350100) :
  Calls Tryz.prog 102 #[v,.string s] w fun en w'=>∃v',en = .returned v'∧AppPost v (n+(bytesOf (numsOf s)).length) (l++bytesOf (numsOf s)) w v' w':=by
 have hten:=groups_ten (x:=s.size) (by omega)
 have HL:Hid ((n+(groups s.size).length+s.size)*1≤140737488355328∧n+(groups s.size).length+s.size≤maxLen):=by show _∧_;unfold maxLen;omega
 have HW:Hid (bytesOf (numsOf s)=groups s.size++numsOf s):=by show _=_;rw [bytesOf,numsOf_length]
 have hw:IntKind.u64.wrap (s.size:Int)=(s.size:Int):=by rw [IntKind.wrap_u64];omega
 have H:=Lib.hid h
 obtain ⟨q0,c0,hv⟩:=(Rd.of_owns h).shape
 subst hv
 clear h
 go_enter Tryz.func102,Tryz.ntmps102
 go_wp2_with fail
 refine (append_any _ _ l s.size (by omega) _ H.out (by omega)).mono ?_
 rintro e w1 ⟨r,rfl,hP⟩
 obtain ⟨p,c,hr⟩:=(Rd.of_owns hP.own).shape
 subst hr
 have HO:=Lib.hid hP.own
 have HM:=Lib.hid hP.mods
 have HF:=Lib.hid hP.fresh
 clear hP
 go_wp2_with (at_builtin;refine wpList_extendStr Tryz.elemU8 Tryz.underlying9 _ _ _ _ HO.out s HL.out rfl _ _ rfl rfl rfl ?_)
 intro v2 w2 hown hmods hfr
 have HP2:Hid (AppPost (.slice q0 n c0) (n+(bytesOf (numsOf s)).length) (l++bytesOf (numsOf s)) w v2 w2):=by
  refine ⟨?_,HM.out.trans hmods (fun j hj e=>?_),fun k hk=>?_⟩
  ·rw [HW.out,List.length_append,numsOf_length,← Nat.add_assoc,← List.append_assoc,u8s_append]
   exact hown
  ·rcases HF.out j e with h | h
   ·exact h
   ·omega
  ·rcases hfr k hk with h | h
   ·exact HF.out k h
   ·have:=HM.out.size;exact Or.inr (by omega)
 clear hown hmods hfr
 go_wp2_with fail
 go_ret
 exact ⟨_,rfl,HP2.out⟩
theorem index_met (tv:Value) (t:List ByteArray) (s:ByteArray) (w:World) (h:Rd w 1 tv t.length (strs t)) (hn:t.length≤1000000) (ha:AscB ltS t) :
  Calls Tryz.prog 105 #[tv,.string s] w fun e w'=>e = .returned (.tuple #[.int .i64 (max (findS t s) 0),.bool (decide (0≤findS t s))])∧Below w.heap.size w w':=by
 have HS:=Lib.hid (search_row tv t s w h hn ha)
 obtain ⟨p,c,hv⟩:=h.shape
 subst hv
 clear h ha
 by_cases hf:0≤findS t s
 ·have hd:decide (0≤findS t s)=true:=decide_eq_true hf
  have HMx:Hid (max (findS t s) 0=findS t s):=Int.max_eq_left hf
  have HF:=Lib.hid hf
  rw [HMx.out,hd]
  rw [hd] at HS
  clear hf hd HMx
  go_enter Tryz.func105,Tryz.ntmps105
  go_wp2_with fail
  refine HS.out.mono ?_
  rintro e w1 ⟨k,rfl,hk,q,rfl⟩
  have HK:=Lib.hid (hk HF.out)
  clear hk HS
  go_wp2_with fail
  go_ret2
  exact ⟨by rw [HK.out];rfl,rfl,rfl,rfl,Nat.le_refl _,fun _ _=>rfl⟩
 ·have hd:decide (0≤findS t s)=false:=decide_eq_false hf
  have HMx:Hid (max (findS t s) 0=0):=Int.max_eq_right (by omega)
  rw [HMx.out,hd]
  rw [hd] at HS
  clear hf hd HMx
  go_enter Tryz.func105,Tryz.ntmps105
  go_wp2_with fail
  refine HS.out.mono ?_
  rintro e w1 ⟨k,rfl,hk,q,rfl⟩
  clear hk HS
  go_wp2_with fail
  go_ret2
  exact ⟨rfl,rfl,rfl,rfl,Nat.le_refl _,fun _ _=>rfl⟩
def renContainsS:Go.Shelf.Ren:=⟨fun | 6=>143 | 8=>99 | n=>n,fun | 0=>0 | 3=>3 | 4=>4 | 22=>44 | 23=>9 | 25=>152 | n=>n,fun n=>n⟩
theorem laysContainsS:Go.Proofs.SlLaysH.n8 Tryz.prog renContainsS:={ mixed:=by kernel_rfl,f6:=⟨ "slices.IndexFunc[[]string,string]",by decide,Tryz.func143.trans (congrArg some (by kernel_rfl))⟩,f8:=⟨ "slices.ContainsFunc[[]string,string]",by decide,Tryz.func99.trans (congrArg some (by kernel_rfl))⟩,t0:=Tryz.underlying0,a0:=Tryz.isAgg0,z0:=Tryz.sizeOf0,v0:=Tryz.zeroValue0,t3:=Tryz.underlying3,a3:=Tryz.isAgg3,z3:=Tryz.sizeOf3,v3:=Tryz.zeroValue3,t4:=Tryz.underlying4,a4:=Tryz.isAgg4,z4:=Tryz.sizeOf4,v4:=Tryz.zeroValue4,t22:=Tryz.underlying44,a22:=Tryz.isAgg44,z22:=Tryz.sizeOf44,v22:=Tryz.zeroValue44,a23:=Tryz.isAgg9,z23:=Tryz.sizeOf9,t25:=Tryz.underlying152,a25:=Tryz.isAgg152,z25:=Tryz.sizeOf152,v25:=Tryz.zeroValue152 }
theorem too_long (x:ByteArray) (w:World):Calls Tryz.prog 100 #[.string x] w fun e w'=>e = .returned (.bool (decide (65535<x.size)))∧w'=w:=by
 by_cases h:65535<x.size
 ·have h':(65535:Int)<(x.size:Int):=by omega
  have HD:Hid (decide (65535<x.size)=true):=decide_eq_true h
  clear h
  go_enter Tryz.func100,Tryz.ntmps100
  go_wp2_with fail
  go_ret
  exact ⟨by rw [HD.out];simp,rfl⟩
 ·have h':¬(65535:Int)<(x.size:Int):=by omega
  have HD:Hid (decide (65535<x.size)=false):=decide_eq_false h
  clear h
  go_enter Tryz.func100,Tryz.ntmps100
  go_wp2_with fail
  go_ret
  exact ⟨by rw [HD.out];simp,rfl⟩
theorem any_long (t:List ByteArray):(t.any fun x=>decide (65535<x.size))=decide (¬Fits t):=by
 by_cases h:Fits t
 ·rw [decide_eq_false (not_not_intro h),List.any_eq_false]
  intro x hx
  have:=h x hx
  simp;omega
 ·rw [decide_eq_true h,List.any_eq_true]
  have h2:∃x,x∈t∧¬x.size≤65535:=Classical.byContradiction fun e=>h fun x hx=>Classical.byContradiction fun e2=>e ⟨x,hx,e2⟩
  obtain ⟨x,hx,hs⟩:=h2
  exact ⟨x,hx,by simp;omega⟩
theorem contains_long (tv:Value) (t:List ByteArray) (w:World) (h:Rd w 1 tv t.length (strs t)) (hn:t.length≤1000000) :
  Calls Tryz.prog 99 #[tv,.func (.func 100) #[] #[]] w fun e w'=>e = .returned (.bool (decide (¬Fits t)))∧Below w.heap.size w w':=by
 rw [← any_long]
 by_cases h0:t=[]
 ·subst h0
  obtain ⟨p,c,hv⟩:=h.shape
  subst hv
  refine (AnyE.slices_ContainsFunc_empty laysContainsS p c _ w).mono ?_
  rintro e w' ⟨rfl,rfl⟩
  exact ⟨rfl,Below.refl _ _⟩
 ·obtain ⟨b,off,c,rfl,_,_,hc⟩:=h.at (fun e=>h0 (by have:=congrArg List.length e;rw [strs_length] at this;exact List.eq_nil_of_length_eq_zero this))
  have h1:=AnyE.slices_ContainsFunc laysContainsS Value.string (fun x=>decide (65535<x.size)) 100 #[] (fun _ _=>rfl) b off t.length c t w
   (fun W x _=>(too_long x W).mono fun e w' h=>⟨h.1,0,h.2⟩) (Nat.le_refl _) (by omega) (fun j hj=>hc j _ (by rw [strs_get t j hj,getElem!_pos t j hj]))
  rw [List.take_length] at h1
  refine h1.mono ?_
  rintro e w' ⟨rfl,q,rfl⟩
  exact ⟨rfl,rfl,rfl,rfl,Nat.le_refl _,fun _ _=>rfl⟩
set_option maxHeartbeats 1000000 in
theorem encode_met (tv:Value) (t:List ByteArray) (w:World) (h:Rd w 1 tv t.length (strs t)) (hn:t.length≤1000000) :
  Calls Tryz.prog 63 #[tv] w (GotB w (encSyR t)):=by
 have HL:=Lib.hid h;have HN:=Lib.hid hn
 have HC:=Lib.hid (contains_long tv t w h hn)
 obtain ⟨p,c,hv⟩:=h.shape
 subst hv
 clear h hn
 by_cases hf:Fits t
 ·rw [decide_eq_false (not_not_intro hf)] at HC
  have HF:=Lib.hid hf
  clear hf
  by_cases ha:AscB ltS t
  ·have HR:Hid (encSyR t=(0,encSy t)):=encSyR_of HF.out ha
   have hd:decide (AscB ltS t)=true:=decide_eq_true ha
   have htm:(t.length:Int)≤1000000:=by have:=HN.out;omega
   have hw:IntKind.u64.wrap (t.length:Int)=(t.length:Int):=by rw [IntKind.wrap_u64];omega
   clear ha
   go_enter Tryz.func63,Tryz.ntmps63
   go_wp2_with fail
   refine HC.out.mono ?_
   rintro e w1 ⟨rfl,hB⟩
   have HB:=Lib.hid hB
   have HA:=Lib.hid (is_ascending _ t w1 (HL.out.below hB))
   rw [hd] at HA
   clear hd hB HC
   go_wp2_with fail
   refine HA.out.mono ?_
   rintro e w2 ⟨rfl,hB⟩
   have HB2:Hid (Below w.heap.size w w2):=HB.out.trans (hB.mono HB.out.size)
   clear hB HA HB
   go_wp2_with fail
   refine (append_any _ 0 [] t.length (by omega) w2 (World.ownsRow_nil _ _ _ _) (by omega)).mono ?_
   rintro e w3 ⟨r,rfl,hP⟩
   have HO3:Hid (OwnB w w3 (encPre t 0) r):=by
    have h1:=hP.made HB2.out.size nil_block
    rw [show encPre t 0=groups t.length from by simp [encPre]]
    rw [Nat.zero_add,List.nil_append] at h1
    exact ⟨h1,HB2.out.trans (hP.below HB2.out.size nil_block)⟩
   obtain ⟨p1,c1,hr⟩:=HO3.out.shape
   subst hr
   have hn0:0+(groups t.length).length=(encPre t 0).length:=by simp [encPre]
   clear hP HB2
   first | rw [hn0] | skip
   go_wp2_with fail
   go_loopw [4,18] (fun vv iv wr=>∃(i:Nat),i≤t.length∧iv = .int .i64 (i:Int)∧Hid (OwnB w wr (encPre t i) vv)) (fun _ iv _=>t.length-(intOf iv).toNat)
   case atStart=>exact ⟨0,Nat.zero_le _,rfl,HO3.out⟩
   case round=>
    obtain ⟨i,hi,rfl,HO⟩:=hrel
    have him:(i:Int)≤1000000:=by omega
    obtain ⟨pv,cv,hvv⟩:=HO.out.shape
    subst hvv
    by_cases hlt:i<t.length
    ·have hlt':(i:Int)<(t.length:Int):=by omega
     obtain ⟨b,off,c',e,_,_,_⟩:=HL.out.at (fun e=>by have:=congrArg List.length e;rw [strs_length] at this;simp at this;subst this;simp at hlt)
     simp only [Value.slice.injEq] at e
     obtain ⟨rfl,_,rfl⟩:=e
     obtain ⟨x,hx⟩:∃x,t[i]? = some x:=⟨_,List.getElem?_eq_getElem hlt⟩
     have hcx:wr.cell? ⟨b,off+i,none⟩=some (.string x):=by rw [← (List.getElem?_eq_some_iff.1 hx).2];exact rd1_cell (HL.out.below HO.out.bel) hlt
     have HNx:=Lib.hid (encPre_step hx)
     have hxs:x.size≤65535:=HF.out x (List.mem_of_getElem? hx)
     have HAp:=Lib.hid (append_bytes _ _ (encPre t i) x wr HO.out.base0 (by have:=encPre_len HF.out HN.out i;omega))
     clear hx hxs
     generalize encPre t i=D at *
     obtain ⟨dl,hdl⟩:∃dl,D.length=dl:=⟨_,rfl⟩
     have HDl:=Lib.hid hdl
     rw [hdl] at HAp HO ⊢
     clear hdl
     go_wp2_with fail
     refine HAp.out.mono ?_
     rintro e w4 ⟨r4,rfl,hP⟩
     have HO4:Hid (OwnB w w4 (encPre t (i+1)) r4):=by
      have hv:∀k,(Value.slice pv dl cv).ownBlock=some k→w.heap.size≤k:=fun k hk=>(HO.out.row.lt k hk).1
      have h1:=hP.made HO.out.bel.size hv
      rw [HNx.out]
      refine ⟨?_,HO.out.bel.trans (hP.below HO.out.bel.size hv)⟩
      rw [List.length_append,HDl.out]
      exact h1
     obtain ⟨p4,c4,hr⟩:=HO4.out.shape
     subst hr
     clear hP HAp hcx HO
     go_wp2_with fail
     go_roundw
     case rel=>exact ⟨i+1,by omega,by go_num,HO4.out⟩
     case measure=>simp [intOf];omega
    ·have hlt':¬(i:Int)<(t.length:Int):=by omega
     have hE:encPre t i=encSy t:=by rw [encPre,List.take_of_length_le (by omega)];rfl
     have HO5:=HO.out
     rw [hE] at HO5 ⊢
     have HO6:=Lib.hid HO5
     clear HO HO5 hE HL HN
     generalize encSy t=E at *
     go_wp2_with fail
     go_ret2
     rw [HR.out]
     exact ⟨⟨_,rfl,HO6.out.rd,fun k hk=>(HO6.out.row.lt k hk).1⟩,HO6.out.bel⟩
  ·have HR:Hid (encSyR t=(16,[])):=by
    show _=_
    rw [encSyR,if_neg (not_not_intro HF.out),if_pos ha]
   have hd:decide (AscB ltS t)=false:=decide_eq_false ha
   clear ha
   go_enter Tryz.func63,Tryz.ntmps63
   go_wp2_with fail
   refine HC.out.mono ?_
   rintro e w1 ⟨rfl,hB⟩
   have HB:=Lib.hid hB
   have HA:=Lib.hid (is_ascending _ t w1 (HL.out.below hB))
   rw [hd] at HA
   clear hd hB HC
   go_wp2_with fail
   refine HA.out.mono ?_
   rintro e w2 ⟨rfl,hB⟩
   have HB2:Hid (Below w.heap.size w w2):=HB.out.trans (hB.mono HB.out.size)
   clear hB HA HB
   go_wp2_with fail
   go_ret2
   rw [HR.out]
   exact ⟨⟨_,rfl,Rd.nil _ _,fun k e=>by cases e⟩,HB2.out⟩
 ·rw [decide_eq_true hf] at HC
  have HR:Hid (encSyR t=(7,[])):=by
   show _=_
   rw [encSyR,if_pos hf]
  clear hf
  go_enter Tryz.func63,Tryz.ntmps63
  go_wp2_with fail
  refine HC.out.mono ?_
  rintro e w1 ⟨rfl,hB⟩
  have HB:=Lib.hid hB
  clear hB HC
  go_wp2_with fail
  go_ret2
  rw [HR.out]
  exact ⟨⟨_,rfl,Rd.nil _ _,fun k e=>by cases e⟩,HB.out⟩
structure ApAt (w0:World) (v0:Value) (w1:World) (v1:Value):Prop where
 mods:Mods (fun k=>v0.ownBlock=some k) w0 w1
 fresh:Fresh w0.heap.size v0 v1
theorem ApAt.step {w0 w1 w2:World} {v0 v1 v2:Value} (h:ApAt w0 v0 w1 v1) (m:Mods (fun k=>v1.ownBlock=some k) w1 w2) (f:Fresh w1.heap.size v1 v2):ApAt w0 v0 w2 v2:=
 ⟨h.mods.trans m (fun j hj e=>by rcases h.fresh j e with e | e<;>first | exact e | omega),h.fresh.trans f h.mods.size⟩
theorem ApAt.below {w0 w1 w2:World} {v0 v1:Value} (h:ApAt w0 v0 w1 v1) (hb:Below w1.heap.size w1 w2):ApAt w0 v0 w2 v1:=
 h.step (Mods.of_below hb _) (Fresh.refl _ _)
theorem var_append13 (w wr:World) (L:List Nat) (v:Value) (n:Nat) (h:OwnB w wr L v) (hn:n<18446744073709551616) (hL:L.length≤1000000000) :
  Calls Tryz.prog 86 #[v,.int .u64 (n:Int)] wr fun en w'=>∃r,en = .returned r∧OwnB w w' (L++groups n) r∧ApAt wr v w' r:=by
 refine (append_any v L.length L n hn wr h.base0 (by omega)).mono ?_
 rintro en w' ⟨r,rfl,hP⟩
 refine ⟨r,rfl,h.extended (e:=groups n) ?_ hP.mods hP.fresh,hP.mods,hP.fresh⟩
 have:=hP.own
 rw [u8s_append] at this
 exact this
theorem is_len_int (n:Int) (w:World):Calls Tryz.prog 145 #[.int .i64 n] w fun en w'=>en = .returned (.bool (decide (lenOk n)))∧w'=w:=by
 by_cases h1:1≤n
 ·by_cases h2:n≤2147483647
  ·have HD:Hid (decide (lenOk n)=true):=decide_eq_true ⟨h1,h2⟩
   go_enter Tryz.func145,Tryz.ntmps145
   go_wp2_with fail
   go_ret
   exact ⟨by rw [HD.out];rfl,rfl⟩
  ·have HD:Hid (decide (lenOk n)=false):=decide_eq_false (fun h=>h2 h.2)
   go_enter Tryz.func145,Tryz.ntmps145
   go_wp2_with fail
   go_ret
   exact ⟨by rw [HD.out];rfl,rfl⟩
 ·have HD:Hid (decide (lenOk n)=false):=decide_eq_false (fun h=>h1 h.1)
  go_enter Tryz.func145,Tryz.ntmps145
  go_wp2_with fail
  go_ret
  exact ⟨by rw [HD.out];rfl,rfl⟩
end Go.Proofs.YtdcgbgecbeegmaaGreatDoor
end
