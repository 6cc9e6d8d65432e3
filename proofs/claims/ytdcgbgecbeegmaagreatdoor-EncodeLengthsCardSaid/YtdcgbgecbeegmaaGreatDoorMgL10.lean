/- Texts 10. -/
import Derived.Test.YtdcgbgecbeegmaaGreatDoorMgL9
import Derived.Test.YtdcgbgecbeegmaaGreatDoorMgL5
import Derived.Test.YtdcgbgecbeegmaaGreatDoorMgL7
import Derived.Test.YtdcgbgecbeegmaaGreatDoorMgL4
import Derived.Test.YtdcgbgecbeegmaaGreatDoorMgL8
set_option linter.unusedVariables false
set_option linter.unusedSimpArgs false
section
set_option maxRecDepth 100000
namespace Go.Proofs.YtdcgbgecbeegmaaGreatDoor
open Go Go.RowKit Go.Shelf
attribute [local go_sem] Oper.semAt_some
def partL (l:List (Int × Nat)) (k:Nat):List (Int × Nat):=(l.drop (k*120)).take 120
theorem partL_len (l:List (Int × Nat)) (k:Nat):(partL l k).length=min 120 (l.length-k*120):=by simp [partL]
theorem elemRow:Elem Tryz.prog 201 49 1 24:=Elem.mk' (z:=.slice none 0 0) Tryz.underlying201 (by kernel_rfl) rfl (by decide)
theorem rd_abides {W W':World} {row:Option Nat} {sz:Nat} {v:Value} {n:Nat} {xs:List Value} (h:Rd W sz v n xs) (hg:W.grownBy W' row) (hr:∀r,row=some r→∃o:Obj,W.heap[r]? = some o∧o.isCells=false):Rd W' sz v n xs:=by
 refine h.of_cells fun a u hu _=>?_
 have hlt:=World.block_lt_of_cell? W a hu
 have hne:some a.block≠row:=fun e=>by
  obtain ⟨o,ho,hc⟩:=hr a.block e.symm
  unfold World.cell? at hu
  rw [ho] at hu
  cases o<;>first | (cases hc;done) | (cases hu;done)
 rw [← hu]
 exact World.cell?_of_block (hg.block a.block hlt hne)
theorem part_rd {w:World} {q:Option Addr} {L c:Nat} {l:List (Int × Nat)} (h:Rd w 2 (.slice q L c) L (samCells l)) (hl:l.length=L) (k:Nat) (hk:k*120<L):Rd w 2 (partVC q L k) (partL l k).length (samCells (partL l k)):=by
 obtain ⟨p,c',e,h1,h2,h3,h4,h5⟩:=h
 simp only [Value.slice.injEq] at e
 obtain ⟨rfl,_,rfl⟩:=e
 have hE:(partL l k).length=min 120 (L-k*120):=by rw [partL_len,hl]
 refine ⟨q.map (·.add (k*120*2)),min 120 (L-k*120),by rw [hE];rfl,samCells_length _,by omega,by omega,fun e=>?_,fun ad e j u hu=>?_⟩
 ·have:q=none:=by cases q with
   | none=>rfl
   | some a=>cases e
  have:=h4 this
  omega
 ·cases q with
  | none=>cases e
  | some a0=>
   simp only [Option.map_some,Option.some.injEq] at e
   subst e
   rw [Addr.add_add]
   refine h5 a0 rfl _ u ?_
   have hsp:l=l.take (k*120)++(partL l k++(l.drop (k*120)).drop 120):=by rw [partL,List.take_append_drop,List.take_append_drop]
   have hlen:(samCells (l.take (k*120))).length=k*120*2:=by rw [samCells_length,List.length_take];omega
   have hj:j<(samCells (partL l k)).length:=(List.getElem?_eq_some_iff.1 hu).1
   rw [hsp,samCells_append,samCells_append,List.getElem?_append_right (by omega),hlen,Nat.add_sub_cancel_left,List.getElem?_append_left hj]
   exact hu
theorem rd_one {w:World} {b:Nat} {u:Value} (h:Blk w b [u]):Rd w 1 (.slice (some ⟨b,0,none⟩) 1 1) 1 [u]:=by
 refine ⟨_,_,rfl,rfl,Nat.le_refl _,by unfold maxLen;omega,(fun e=>by cases e),fun ad e j y hy=>?_⟩
 cases e
 have e:(⟨b,0,none⟩:Addr).add j=⟨b,j,none⟩:=by unfold Addr.add;split<;>simp_all
 rw [e,h.cell]
 exact hy
def SpIn (g B:Nat) (w:World) (ps:List (List (Int × Nat))) (W:World):Prop:=
 ∃v' vs,Blk W g [v']∧W.ownsRow B 49 1 v' vs.length vs∧PartsAt W vs ps∧(∀u∈vs,∀k,u.ownBlock=some k→B≤k∧k<W.heap.size∧v'.ownBlock≠some k)∧Below g w W∧B≤W.heap.size
theorem spIn_own {β:Type} {B' g B:Nat} {w:World} (hB:g≤B') (f:β→List (List (Int × Nat))):OwnFrom B' (fun s W=>SpIn g B w (f s) W):=by
 rintro s W W' row ⟨v',vs,h1,h2,h3,h4,h5,h6⟩ hg hr
 have hr':∀r,row=some r→∃o:Obj,W.heap[r]? = some o∧o.isCells=false:=fun r e=>(hr r e).2
 have hsz:=hg.size
 exact ⟨v',vs,own_blk g (fun _:Unit=>[v']) () W W' row h1 hg hr',owns_abides h2 hg hr',⟨h3.1,fun i v p hv hp=>rd_abides (h3.2 i v p hv hp) hg hr'⟩,(fun u hu k hk=>by have:=h4 u hu k hk;exact ⟨this.1,by omega,this.2.2⟩),h5.grown hg (by have:=h1.lt;omega) (fun j e=>Nat.le_trans hB (hr j e).1),by omega⟩
theorem sp_push {g B:Nat} {w W w3 w4:World} {v' v2 u:Value} {vs:List Value} {ps:List (List (Int × Nat))} {p:List (Int × Nat)} {K:Nat→Prop} (hgB:g<B) (hK:∀k,K k→g<k∧k<B)
  (h1:Blk W g [v']) (h2:W.ownsRow B 49 1 v' vs.length vs) (h3:PartsAt W vs ps) (h4:∀u∈vs,∀k,u.ownBlock=some k→B≤k∧k<W.heap.size∧v'.ownBlock≠some k) (h5:Below g w W) (h6:B≤W.heap.size)
  (hB:Below W.heap.size W w3) (hu:Rd w3 2 u p.length (samCells p)) (huf:∀k,u.ownBlock=some k→W.heap.size≤k∧k<w3.heap.size)
  (k1:w4.ownsRow 0 49 1 v2 (vs.length+1) (vs++[u])) (k2:Mods (fun k=>v'.ownBlock=some k) w3 w4) (k3:Fresh w3.heap.size v' v2) :
  KeepsOthers W (w4.setCell ⟨g,0,none⟩ v2)∧KeepAt K W (w4.setCell ⟨g,0,none⟩ v2)∧SpIn g B w (ps++[p]) (w4.setCell ⟨g,0,none⟩ v2):=by
 have hvo:∀k,v'.ownBlock=some k→B≤k∧k<W.heap.size:=fun k hk=>h2.lt k hk
 have hs:=Mods.set (fun k=>k=g) w4 ⟨g,0,none⟩ v2 (fun _=>rfl)
 have hM:Mods (fun k=>k=g∨v'.ownBlock=some k) W (w4.setCell ⟨g,0,none⟩ v2):=
  ((Mods.of_below hB (fun k=>k=g∨v'.ownBlock=some k)).trans (k2.mono (fun _ _ e=>Or.inr e)) (fun _ _ e=>e)).trans hs (fun _ _ e=>Or.inl e)
 have hs3:=hB.size
 have hs4:=k2.size
 have hs5:=hs.size
 have hv2:∀k,v2.ownBlock=some k→B≤k:=fun k hk=>by
  rcases k3 k hk with e | e
  ·exact (hvo k e).1
  ·omega
 refine ⟨KeepsOthers.of_mods hM (fun k o e ho=>?_),fun k hk=>hM.block k (by have:=hK k hk;omega) (fun e=>?_),v2,vs++[u],?_,?_,⟨?_,fun i y r hy hr=>?_⟩,fun y hy k hk=>?_,?_,by omega⟩
 ·rcases e with rfl | e
  ·obtain ⟨t,ht⟩:=h1
   rw [ht] at ho;cases ho;rfl
  ·exact owns_isCells h2 k o e ho
 ·have:=hK k hk
  rcases e with e | e
  ·omega
  ·have:=hvo k e;omega
 ·have b3:=h1.of_same (hB.block _ h1.lt)
  have b4:=k2.blk b3 (fun e=>by have:=hvo g e;omega)
  simpa using b4.set 0 v2
 ·rw [List.length_append]
  exact owns_rebase (hs.owns k1 (fun k hk e=>by have:=hv2 k hk;omega)) hv2
 ·rw [List.length_append,List.length_append,h3.1];rfl
 ·by_cases hi:i<vs.length
  ·rw [List.getElem?_append_left hi] at hy
   rw [List.getElem?_append_left (by rw [← h3.1];exact hi)] at hr
   have hym:=List.mem_of_getElem? hy
   have r3:=(h3.2 i y r hy hr).below hB
   have r4:=r3.mods k2 (fun k hk e=>(h4 y hym k hk).2.2 e)
   exact r4.mods hs (fun k hk e=>by have:=(h4 y hym k hk).1;omega)
  ·rw [List.getElem?_append_right (by omega)] at hy
   rw [List.getElem?_append_right (by rw [← h3.1];omega),← h3.1] at hr
   have h0:i-vs.length=0:=by
    have:=(List.getElem?_eq_some_iff.1 hy).1
    simp at this
    omega
   rw [h0] at hy hr
   simp at hy hr
   subst hy
   subst hr
   have r4:=hu.mods k2 (fun k hk e=>by have:=huf k hk;have:=hvo k e;omega)
   exact r4.mods hs (fun k hk e=>by have:=huf k hk;omega)
 ·rcases List.mem_append.1 hy with hy | hy
  ·have h:=h4 y hy k hk
   refine ⟨h.1,by omega,fun e=>?_⟩
   rcases k3 k e with e2 | e2
   ·exact h.2.2 e2
   ·omega
  ·have hyu:y=u:=by simpa using hy
   subst hyu
   have h:=huf k hk
   refine ⟨by omega,by omega,fun e=>?_⟩
   rcases k3 k e with e2 | e2
   ·have:=hvo k e2;omega
   ·omega
 ·exact h5.trans (hM.below (by have:=h1.lt;omega) (fun k hk e=>by
   rcases e with e | e
   ·omega
   ·have:=hvo k e;omega))
set_option maxHeartbeats 4000000 in
theorem chunk_splitF (lv:Value) (l:List (Int × Nat)) (w:World) (hl:Rd w 2 lv l.length (samCells l)) (hn:l.length≤1000000) :
  Calls Tryz.prog 142 #[lv] w fun e w'=>∃r vs,e = .returned r∧Rd w' 1 r vs.length vs∧PartsAt w' vs ((List.range (cntC l.length)).map (partL l))∧(∀k,r.ownBlock=some k→w.heap.size≤k∧k<w'.heap.size)∧(∀u∈vs,∀k,u.ownBlock=some k→w.heap.size≤k∧k<w'.heap.size)∧Below w.heap.size w w':=by
 obtain ⟨q,c,hv⟩:=hl.shape
 subst hv
 obtain ⟨L,hL⟩:∃L,l.length=L:=⟨_,rfl⟩
 have HLl:=Lib.hid hL
 rw [hL] at hl hn
 have HL:=Lib.hid hl;have HN:=Lib.hid hn
 obtain ⟨_,_,e,_,hLc,hcm,_,_⟩:=hl
 simp only [Value.slice.injEq] at e
 obtain ⟨rfl,_,rfl⟩:=e
 rw [hL]
 have HLc:Hid (L≤c∧c≤maxLen):=⟨hLc,hcm⟩
 clear hn hL hLc hcm
 refine (callsIn_wide (n:=9)).1 ?_
 refine callsIn_of_wp_marks Tryz.func142 rfl trivial ?_ rfl
 simp only [Tryz.ntmps142,List.size_toArray,List.length_cons,List.length_nil,Nat.reduceAdd,Nat.reduceSub,Array.replicate_succ,Array.replicate_zero,List.push_toArray,List.append_toArray,List.nil_append,List.cons_append]
 gi_wp2_with (refine ⟨trivial,?_⟩;gi_at_call 194;refine (new_chunk q _ c _ _).mono ?_;rintro e w' ⟨rfl,rfl⟩)
 obtain ⟨W0,hW0⟩:∃W0,((w.alloc (.cells #[.slice none 0 0] 201)).alloc (.cells #[.slice q L c] 49)).alloc (.cells #[.int .i64 120] 3)=W0:=⟨_,rfl⟩
 have hB1:Below w.heap.size w (w.alloc (.cells #[.slice none 0 0] 201)):=(Below.refl _ w).alloc (Nat.le_refl _) _
 have hB2:Below w.heap.size w ((w.alloc (.cells #[.slice none 0 0] 201)).alloc (.cells #[.slice q L c] 49)):=hB1.alloc (by simp) _
 have hB0:Below w.heap.size w W0:=by rw [← hW0];exact hB2.alloc (by simp;omega) _
 have hs0:W0.heap.size=w.heap.size+3:=by rw [← hW0];simp
 have hX0:Blk W0 w.heap.size [.slice none 0 0]:=by rw [← hW0];exact ((Blk.new w _ _).alloc _).alloc _
 have hx1:W0.cell? ⟨w.heap.size+1,0,none⟩=some (.slice q L c):=by
  have h:=((Blk.new (w.alloc (.cells #[.slice none 0 0] 201)) #[.slice q L c] 49).alloc (.cells #[.int .i64 120] 3)).cell 0
  rw [hW0] at h
  simpa using h
 have hx2:W0.cell? ⟨w.heap.size+1+1,0,none⟩=some (.int .i64 120):=by
  have h:=(Blk.new ((w.alloc (.cells #[.slice none 0 0] 201)).alloc (.cells #[.slice q L c] 49)) #[.int .i64 120] 3).cell 0
  rw [hW0] at h
  simpa using h
 rw [hW0]
 clear hW0 hB1 hB2
 have HGV:=Lib.hid (chunk_gives 8 (by omega) (w.heap.size+1) (w.heap.size+1+1) q L c W0 hx1 hx2 HN.out HLc.out.1 HLc.out.2)
 have HI0:Hid (SpIn w.heap.size W0.heap.size w [] W0):=⟨_,[],hX0,World.ownsRow_nil _ _ _ _,⟨rfl,fun i v p h=>by cases h⟩,(fun u hu=>by cases hu),hB0,Nat.le_refl _⟩
 have HS0:=Lib.hid hs0
 have HL0:=Lib.hid (HL.out.below hB0)
 clear hX0 hB0 hs0 hx1 hx2
 obtain ⟨K,hK⟩:∃K:Nat→Prop,(fun k=>k=w.heap.size+1∨k=w.heap.size+1+1)=K:=⟨_,rfl⟩
 have HKW:Hid (∀k,K k→w.heap.size<k∧k<W0.heap.size):=by rw [← hK];exact fun k hk=>by have:=HS0.out;omega
 rw [hK] at HGV
 clear hK
 refine wpIn_rangeFunc_ownG rfl (by omega) (gf:=242) (lb:=#[.pointer (some ⟨w.heap.size+1,0,none⟩),.pointer (some ⟨w.heap.size+1+1,0,none⟩)]) rfl trivial (enters_of Tryz.func242 (by kernel_rfl) rfl)
  HGV.out (fun h k=>keepAt_t h k) (fun W l o o' h1 h2 h3 h4=>keepAt_b (fun k hk=>(HKW.out k hk).2) W l o o' h1 h2 h3 h4) (Below.refl _ _) (fun _=>rfl)
  (fun pre W=>SpIn w.heap.size W0.heap.size w ((pnums pre).map (partL l)) W)
  (fun _ _ _=>False)
  (spIn_own (by have:=HS0.out;omega) (fun pre:List (Pc L)=>(pnums pre).map (partL l)))
  (fun _ _ _ _ _ hs _ _=>hs)
  HI0.out
  (fun x=>{ tmps:=#[.slice q L c,undef,.slice none 0 0,.pointer (some ⟨w.heap.size,0,none⟩),partVC q L (pnum x),.slice q L c,.func (.func 242) #[] #[.pointer (some ⟨w.heap.size+1,0,none⟩),.pointer (some ⟨w.heap.size+1+1,0,none⟩)],partVC q L (pnum x),undef,undef,undef,undef,undef,undef],defers:=[] })
  ?assign ?body ?done ?stop
 case assign=>
  intro l x W K hK
  simp only [List.zip_toArray,List.zip_cons_cons,List.zip_nil_right,List.foldl_toArray,List.foldl_cons,List.foldl_nil,List.setIfInBounds_toArray,List.set_cons_zero,List.set_cons_succ]
  gi_wp2
  exact hK
 case body=>
  rintro r pre x W ⟨v',vs,h1,h2,h3,h4,h5,h6⟩ hlen
  have HPs:Hid ((pnums (pre++[x])).map (partL l)=(pnums pre).map (partL l)++[partL l (pnum x)]):=by
   show _=_
   simp [pnums]
  have hvl:vs.length≤10000:=by
   have e:=h3.1
   rw [List.length_map,pnums,List.length_map] at e
   have:=HN.out
   unfold cntC at hlen
   omega
  have HPt:Hid (Rd W 2 (partVC q L (pnum x)) (partL l (pnum x)).length (samCells (partL l (pnum x)))):=(part_rd HL.out HLl.out (pnum x) x.2).below h5
  obtain ⟨P,E,hpe⟩:∃P E,partVC q L (pnum x) = .slice P E E:=⟨_,_,rfl⟩
  rw [hpe] at HPt
  rw [hpe]
  have HCl:=Lib.hid (clone_sam (.slice P E E) (partL l (pnum x)) W.drew HPt.out (by have:=partL_len l (pnum x);omega))
  generalize (pnums pre).map (partL l)=ps at *
  obtain ⟨p1,c1,hv1⟩:=(Rd.of_owns h2).shape
  subst hv1
  have HBd:Hid ((vs.length+1)*24≤140737488355328∧vs.length+1≤maxLen):=by show _∧_;unfold maxLen;omega
  have HgB:Hid (w.heap.size<W0.heap.size):=by have:=HS0.out;show _<_;omega
  have c0:W.drew.cell? ⟨w.heap.size,0,none⟩=some (.slice p1 vs.length c1):=by
   have:=h1.drew.cell 0
   simpa using this
  have H1:=Lib.hid h1;have H2:=Lib.hid h2;have H3:=Lib.hid h3;have H4:=Lib.hid h4;have H5:=Lib.hid h5;have H6:=Lib.hid h6
  clear h1 h2 h3 h4 h5 h6 hlen hpe hvl
  refine wpIn_block ?_
  refine wpIn_region_plan (.take 1 (.two 0 2 (.one 2 (.one 3 (.one 4 (.one 5 .done)))) (.two 0 3 (.one 3 (.one 4 (.one 5 .done))) (.one 0 (.one 4 (.one 5 .done)))))) (by kernel_rfl) (by kernel_rfl) (by kernel_rfl) not_letsOut_body (by simp) (fun _ _ _ _ _ h=>h) ?_
  refine plan_take rfl rfl _ (fun _=>rfl) ?_
  simp only [Act.put,List.setIfInBounds_toArray,List.set_cons_succ,List.set_cons_zero]
  refine plan_two ?_ ?_
  ·refine plan_one rfl rfl (fun K' hK=>?_)
   go_wp2_with fail
   try (refine hK _ _ ?_;clear hK K')
   refine plan_one rfl rfl (fun K' hK=>?_)
   go_wp2_with fail
   refine HCl.out.mono ?_
   rintro e w2 ⟨u,rfl,hM⟩
   have hB2:Below W.heap.size W w2:=⟨hM.2.os,hM.2.tape,hM.2.output,hM.2.size,hM.2.block⟩
   have HB2:=Lib.hid hB2
   have HU2:=Lib.hid (Rd.of_owns hM.1)
   have HUf:Hid (∀k,u.ownBlock=some k→W.heap.size≤k∧k<w2.heap.size):=fun k hk=>hM.1.lt k hk
   have HW2:Hid (w2.cell? ⟨w.heap.size,0,none⟩=some (.slice p1 vs.length c1)):=by show _=_;rw [(H1.out.of_same (hB2.block _ H1.out.lt)).cell];rfl
   have c0:=HW2.out
   obtain ⟨pu,cu,hue⟩:=(Rd.of_owns hM.1).shape
   subst hue
   clear hM hB2
   refine hK _ _ ?_
   clear hK K'
   refine plan_one rfl rfl (fun K' hK=>?_)
   go_wp2_with fail
   try (refine hK _ _ ?_;clear hK K')
   have hB3:Below W.heap.size W (w2.alloc (.cells #[.slice pu (partL l (pnum x)).length cu] 49)):=HB2.out.alloc HB2.out.size _
   have hb3:Blk (w2.alloc (.cells #[.slice pu (partL l (pnum x)).length cu] 49)) w2.heap.size [.slice pu (partL l (pnum x)).length cu]:=Blk.new w2 _ _
   have HB3:=Lib.hid hB3
   have HO3:Hid (Rd (w2.alloc (.cells #[.slice pu (partL l (pnum x)).length cu] 49)) 1 (.slice (some ⟨w2.heap.size,0,none⟩) 1 1) 1 [.slice pu (partL l (pnum x)).length cu]):=rd_one hb3
   have HU3:=Lib.hid (HU2.out.below ((Below.refl _ w2).alloc (Nat.le_refl _) (.cells #[.slice pu (partL l (pnum x)).length cu] 49)))
   have HUf3:Hid (∀k,(Value.slice pu (partL l (pnum x)).length cu).ownBlock=some k→W.heap.size≤k∧k<(w2.alloc (.cells #[.slice pu (partL l (pnum x)).length cu] 49)).heap.size):=fun k hk=>by have:=HUf.out k hk;simp;omega
   clear c0
   have c0:(w2.alloc (.cells #[.slice pu (partL l (pnum x)).length cu] 49)).cell? ⟨w.heap.size,0,none⟩=some (.slice p1 vs.length c1):=by rw [(H1.out.of_same (hB3.block _ H1.out.lt)).cell];rfl
   clear hB3 hb3 HB2 HU2 HUf HW2
   generalize w2.heap.size=z at *
   generalize w2.alloc (.cells #[.slice pu (partL l (pnum x)).length cu] 49)=w3 at *
   clear c0
   have HOw:Hid (w3.ownsRow 0 49 1 (.slice p1 vs.length c1) vs.length vs):=owns_rebase ((Mods.of_below HB3.out (fun _=>False)).owns H2.out (fun _ _ e=>e)) (fun _ _=>Nat.zero_le _)
   refine plan_extend elemRow rfl rfl (.tmp 8) (.tmp 11) rfl rfl rfl HOw.out HO3.out (by simp [Value.oneCell']) HBd.out (fun v2 w4 k1 k2 k3=>?_)
   obtain ⟨p2,c2,hv2⟩:=(Rd.of_owns k1).shape
   subst hv2
   simp only [Act.put,List.setIfInBounds_toArray,List.set_cons_succ,List.set_cons_zero]
   have HF:=Lib.hid (sp_push (w:=w) (K:=K) HgB.out HKW.out H1.out H2.out H3.out H4.out H5.out H6.out HB3.out HU3.out HUf3.out k1 k2 k3)
   have b4:=k2.blk (H1.out.of_same (HB3.out.block _ H1.out.lt)) (fun e=>by have:=H2.out.lt _ e;have:=HgB.out;omega)
   have c4:=b4.cell 0
   simp only [List.getElem?_cons_zero] at c4
   have f4:=b4.free 0
   clear b4 k1 k2 k3
   refine plan_one rfl rfl (fun K' hK=>?_)
   go_wp2_with fail
   try (refine hK _ _ ?_;clear hK K')
   refine plan_done ?_
   refine ⟨HF.out.1.from _,HF.out.2.1,?_⟩
   show SpIn _ _ _ _ _
   rw [HPs.out]
   exact HF.out.2.2
  ·refine plan_one rfl rfl (fun K' hK=>?_)
   go_wp2_with fail
   refine HCl.out.mono ?_
   rintro e w2 ⟨u,rfl,hM⟩
   have hB2:Below W.heap.size W w2:=⟨hM.2.os,hM.2.tape,hM.2.output,hM.2.size,hM.2.block⟩
   have HB2:=Lib.hid hB2
   have HU2:=Lib.hid (Rd.of_owns hM.1)
   have HUf:Hid (∀k,u.ownBlock=some k→W.heap.size≤k∧k<w2.heap.size):=fun k hk=>hM.1.lt k hk
   have HW2:Hid (w2.cell? ⟨w.heap.size,0,none⟩=some (.slice p1 vs.length c1)):=by show _=_;rw [(H1.out.of_same (hB2.block _ H1.out.lt)).cell];rfl
   have c0:=HW2.out
   obtain ⟨pu,cu,hue⟩:=(Rd.of_owns hM.1).shape
   subst hue
   clear hM hB2
   refine hK _ _ ?_
   clear hK K'
   refine plan_two ?_ ?_
   ·refine plan_one rfl rfl (fun K' hK=>?_)
    go_wp2_with fail
    try (refine hK _ _ ?_;clear hK K')
    refine plan_one rfl rfl (fun K' hK=>?_)
    go_wp2_with fail
    try (refine hK _ _ ?_;clear hK K')
    have hB3:Below W.heap.size W (w2.alloc (.cells #[.slice pu (partL l (pnum x)).length cu] 49)):=HB2.out.alloc HB2.out.size _
    have hb3:Blk (w2.alloc (.cells #[.slice pu (partL l (pnum x)).length cu] 49)) w2.heap.size [.slice pu (partL l (pnum x)).length cu]:=Blk.new w2 _ _
    have HB3:=Lib.hid hB3
    have HO3:Hid (Rd (w2.alloc (.cells #[.slice pu (partL l (pnum x)).length cu] 49)) 1 (.slice (some ⟨w2.heap.size,0,none⟩) 1 1) 1 [.slice pu (partL l (pnum x)).length cu]):=rd_one hb3
    have HU3:=Lib.hid (HU2.out.below ((Below.refl _ w2).alloc (Nat.le_refl _) (.cells #[.slice pu (partL l (pnum x)).length cu] 49)))
    have HUf3:Hid (∀k,(Value.slice pu (partL l (pnum x)).length cu).ownBlock=some k→W.heap.size≤k∧k<(w2.alloc (.cells #[.slice pu (partL l (pnum x)).length cu] 49)).heap.size):=fun k hk=>by have:=HUf.out k hk;simp;omega
    clear c0
    have c0:(w2.alloc (.cells #[.slice pu (partL l (pnum x)).length cu] 49)).cell? ⟨w.heap.size,0,none⟩=some (.slice p1 vs.length c1):=by rw [(H1.out.of_same (hB3.block _ H1.out.lt)).cell];rfl
    clear hB3 hb3 HB2 HU2 HUf HW2
    generalize w2.heap.size=z at *
    generalize w2.alloc (.cells #[.slice pu (partL l (pnum x)).length cu] 49)=w3 at *
    clear c0
    have HOw:Hid (w3.ownsRow 0 49 1 (.slice p1 vs.length c1) vs.length vs):=owns_rebase ((Mods.of_below HB3.out (fun _=>False)).owns H2.out (fun _ _ e=>e)) (fun _ _=>Nat.zero_le _)
    refine plan_extend elemRow rfl rfl (.tmp 8) (.tmp 11) rfl rfl rfl HOw.out HO3.out (by simp [Value.oneCell']) HBd.out (fun v2 w4 k1 k2 k3=>?_)
    obtain ⟨p2,c2,hv2⟩:=(Rd.of_owns k1).shape
    subst hv2
    simp only [Act.put,List.setIfInBounds_toArray,List.set_cons_succ,List.set_cons_zero]
    have HF:=Lib.hid (sp_push (w:=w) (K:=K) HgB.out HKW.out H1.out H2.out H3.out H4.out H5.out H6.out HB3.out HU3.out HUf3.out k1 k2 k3)
    have b4:=k2.blk (H1.out.of_same (HB3.out.block _ H1.out.lt)) (fun e=>by have:=H2.out.lt _ e;have:=HgB.out;omega)
    have c4:=b4.cell 0
    simp only [List.getElem?_cons_zero] at c4
    have f4:=b4.free 0
    clear b4 k1 k2 k3
    refine plan_one rfl rfl (fun K' hK=>?_)
    go_wp2_with fail
    try (refine hK _ _ ?_;clear hK K')
    refine plan_done ?_
    refine ⟨HF.out.1.from _,HF.out.2.1,?_⟩
    show SpIn _ _ _ _ _
    rw [HPs.out]
    exact HF.out.2.2
   ·refine plan_one rfl rfl (fun K' hK=>?_)
    go_wp2_with fail
    try (refine hK _ _ ?_;clear hK K')
    have hB3:Below W.heap.size W (w2.alloc (.cells #[.slice pu (partL l (pnum x)).length cu] 49)):=HB2.out.alloc HB2.out.size _
    have hb3:Blk (w2.alloc (.cells #[.slice pu (partL l (pnum x)).length cu] 49)) w2.heap.size [.slice pu (partL l (pnum x)).length cu]:=Blk.new w2 _ _
    have HB3:=Lib.hid hB3
    have HO3:Hid (Rd (w2.alloc (.cells #[.slice pu (partL l (pnum x)).length cu] 49)) 1 (.slice (some ⟨w2.heap.size,0,none⟩) 1 1) 1 [.slice pu (partL l (pnum x)).length cu]):=rd_one hb3
    have HU3:=Lib.hid (HU2.out.below ((Below.refl _ w2).alloc (Nat.le_refl _) (.cells #[.slice pu (partL l (pnum x)).length cu] 49)))
    have HUf3:Hid (∀k,(Value.slice pu (partL l (pnum x)).length cu).ownBlock=some k→W.heap.size≤k∧k<(w2.alloc (.cells #[.slice pu (partL l (pnum x)).length cu] 49)).heap.size):=fun k hk=>by have:=HUf.out k hk;simp;omega
    clear c0
    have c0:(w2.alloc (.cells #[.slice pu (partL l (pnum x)).length cu] 49)).cell? ⟨w.heap.size,0,none⟩=some (.slice p1 vs.length c1):=by rw [(H1.out.of_same (hB3.block _ H1.out.lt)).cell];rfl
    clear hB3 hb3 HB2 HU2 HUf HW2
    generalize w2.heap.size=z at *
    generalize w2.alloc (.cells #[.slice pu (partL l (pnum x)).length cu] 49)=w3 at *
    refine plan_one rfl rfl (fun K' hK=>?_)
    go_wp2_with fail
    try (refine hK _ _ ?_;clear hK K')
    clear c0
    have HOw:Hid (w3.ownsRow 0 49 1 (.slice p1 vs.length c1) vs.length vs):=owns_rebase ((Mods.of_below HB3.out (fun _=>False)).owns H2.out (fun _ _ e=>e)) (fun _ _=>Nat.zero_le _)
    refine plan_extend elemRow rfl rfl (.tmp 8) (.tmp 11) rfl rfl rfl HOw.out HO3.out (by simp [Value.oneCell']) HBd.out (fun v2 w4 k1 k2 k3=>?_)
    obtain ⟨p2,c2,hv2⟩:=(Rd.of_owns k1).shape
    subst hv2
    simp only [Act.put,List.setIfInBounds_toArray,List.set_cons_succ,List.set_cons_zero]
    have HF:=Lib.hid (sp_push (w:=w) (K:=K) HgB.out HKW.out H1.out H2.out H3.out H4.out H5.out H6.out HB3.out HU3.out HUf3.out k1 k2 k3)
    have b4:=k2.blk (H1.out.of_same (HB3.out.block _ H1.out.lt)) (fun e=>by have:=H2.out.lt _ e;have:=HgB.out;omega)
    have c4:=b4.cell 0
    simp only [List.getElem?_cons_zero] at c4
    have f4:=b4.free 0
    clear b4 k1 k2 k3
    refine plan_one rfl rfl (fun K' hK=>?_)
    go_wp2_with fail
    try (refine hK _ _ ?_;clear hK K')
    refine plan_done ?_
    refine ⟨HF.out.1.from _,HF.out.2.1,?_⟩
    show SpIn _ _ _ _ _
    rw [HPs.out]
    exact HF.out.2.2
 case done=>
  rintro D zs W hD hzs ⟨v',vs,h1,h2,h3,h4,h6,h5⟩ hK
  have c0:W.cell? ⟨w.heap.size,0,none⟩=some v':=by rw [h1.cell];rfl
  obtain ⟨p1,c1,hv1⟩:=(Rd.of_owns h2).shape
  subst hv1
  have HZs:=Lib.hid hzs
  have H2:=Lib.hid h2;have H3:=Lib.hid h3;have H6:=Lib.hid h6;have H4:=Lib.hid h4
  clear h1 h2 h3 h4 h5 h6 hzs HGV
  gi_wp2
  refine ⟨by simp,.inl ⟨_,_,rfl,run_takeDeferred hK,?_⟩⟩
  refine ⟨_,results_tmp rfl _ _ _,_,vs,rfl,?_,?_,?_,?_,H6.out.trans (belowK_b (w:=w) (Nat.le_refl _) W D _ _ (by have:=HS0.out;omega) hK rfl rfl)⟩
  ·exact Rd.of_owns (ownsRow_putObj H2.out (.deferred none) hK rfl)
  rotate_left
  ·exact fun k hk=>by have:=H2.out.lt k hk;have:=HS0.out;simp;omega
  ·exact fun u hu k hk=>by have:=H4.out u hu k hk;have:=HS0.out;simp;omega
  rw [← HZs.out]
  ·refine ⟨H3.out.1,fun i v p hv hp=>rd_abides (row:=some D) (H3.out.2 i v p hv hp) (grownBy_putObj' _ _ _) (fun r e=>by cases e;exact ⟨_,hK,rfl⟩)⟩
 case stop=>
  rintro D c pre W _ _ h _
  exact h.elim
end Go.Proofs.YtdcgbgecbeegmaaGreatDoor
end
section
namespace Go.Proofs.YtdcgbgecbeegmaaGreatDoor
open Go Go.RowKit
abbrev Pic:=Nat × List Sam
theorem partsE_win (l:List Sam):(List.range (cntC l.length)).map (partL l)=winE l:=by
 unfold cntC winE
 refine List.map_congr_left fun k _=>?_
 rw [partL,Nat.mul_comm]
def picTo (b:List Ser) (m:Nat):List Pic:=(List.range m).flatMap fun i=>match b[i]? with | some s=>(winE s.2).map fun p=>(i,p) | none=>[]
def picB (b:List Ser):List Pic:=picTo b b.length
theorem picTo_step {b:List Ser} {i:Nat} {s:Ser} (h:b[i]? = some s):picTo b (i+1)=picTo b i++(winE s.2).map fun p=>(i,p):=by
 rw [picTo,List.range_succ,List.flatMap_append]
 simp [picTo,h]
theorem picTo_pre (b:List Ser) (i:Nat):∀m,∃t,picTo b (i+m)=picTo b i++t:=by
 intro m
 induction m with
 | zero=>exact ⟨[],by simp⟩
 | succ m ih=>
  obtain ⟨t,ht⟩:=ih
  refine ⟨t++[i+m].flatMap (fun i=>match b[i]? with | some s=>(winE s.2).map fun p=>(i,p) | none=>[]),?_⟩
  rw [← List.append_assoc,← ht,← Nat.add_assoc]
  unfold picTo
  rw [List.range_succ,List.flatMap_append]
theorem picB_at {b:List Ser} {i j:Nat} {s:Ser} {p:List Sam} (h:b[i]? = some s) (hp:(winE s.2)[j]? = some p):(picB b)[(picTo b i).length+j]? = some (i,p):=by
 have hi:=(List.getElem?_eq_some_iff.1 h).1
 obtain ⟨t,ht⟩:=picTo_pre b (i+1) (b.length-(i+1))
 rw [show i+1+(b.length-(i+1))=b.length by omega] at ht
 have hj:=(List.getElem?_eq_some_iff.1 hp).1
 rw [picB,ht,picTo_step h,List.append_assoc,List.getElem?_append_right (by omega),Nat.add_sub_cancel_left,List.getElem?_append_left (by simpa using hj),List.getElem?_map,hp]
 rfl
theorem picTo_len {b:List Ser} {i:Nat} {s:Ser} (h:b[i]? = some s):(picTo b (i+1)).length=(picTo b i).length+(winE s.2).length:=by
 rw [picTo_step h,List.length_append,List.length_map]
theorem picB_mem {b:List Ser} {x:Pic} (h:x∈picB b):∃s,b[x.1]? = some s∧x.2∈winE s.2:=by
 obtain ⟨i,_,hx⟩:=List.mem_flatMap.1 h
 split at hx
 ·next s hs=>
  obtain ⟨p,hp,rfl⟩:=List.mem_map.1 hx
  exact ⟨s,hs,hp⟩
 ·cases hx
def recAdd (b:List Ser) (l:List Rec) (x:Pic):List Rec:=l.set x.1 (((b[x.1]?).getD ([],[])).1,((l[x.1]?).getD ([],[])).2++[((encC x.2).1.length:Int)])
def recsK (b:List Ser) (k:Nat):List Rec:=((picB b).take k).foldl (recAdd b) (List.replicate b.length ([],[]))
def chunksK (b:List Ser) (k:Nat):List Nat:=((picB b).take k).flatMap fun x=>(encC x.2).1
theorem recsK_zero (b:List Ser):recsK b 0=List.replicate b.length ([],[]):=by simp [recsK]
theorem chunksK_zero (b:List Ser):chunksK b 0=[]:=by simp [chunksK]
theorem recsK_step {b:List Ser} {k:Nat} {x:Pic} (h:(picB b)[k]? = some x):recsK b (k+1)=recAdd b (recsK b k) x:=by
 rw [recsK,List.take_add_one,h,List.foldl_append];rfl
theorem chunksK_step {b:List Ser} {k:Nat} {x:Pic} (h:(picB b)[k]? = some x):chunksK b (k+1)=chunksK b k++(encC x.2).1:=by
 rw [chunksK,List.take_add_one,h,List.flatMap_append];simp [chunksK]
theorem foldl_recAdd_len (b:List Ser):∀(xs:List Pic) (l:List Rec),(xs.foldl (recAdd b) l).length=l.length:=by
 intro xs
 induction xs with
 | nil=>intro l;rfl
 | cons x xs ih=>intro l;rw [List.foldl_cons,ih];simp [recAdd]
theorem recsK_len (b:List Ser) (k:Nat):(recsK b k).length=b.length:=by rw [recsK,foldl_recAdd_len];simp
theorem recAdd_all {b:List Ser} {i:Nat} {s:Ser} (h:b[i]? = some s):∀(ws:List (List Sam)) (l:List Rec) (l0:List Lab) (c0:List Int),l[i]? = some (l0,c0)→ws≠[]→
  (ws.map fun p=>(i,p)).foldl (recAdd b) l=l.set i (s.1,c0++ws.map fun p=>((encC p).1.length:Int)):=by
 intro ws
 induction ws with
 | nil=>intro _ _ _ _ h;exact absurd rfl h
 | cons p ws ih=>
  intro l l0 c0 hl _
  have e:recAdd b l (i,p)=l.set i (s.1,c0++[((encC p).1.length:Int)]):=by simp [recAdd,h,hl]
  rw [List.map_cons,List.foldl_cons,e]
  have hi:=(List.getElem?_eq_some_iff.1 hl).1
  by_cases hw:ws=[]
  ·subst hw;rfl
  ·rw [ih _ s.1 (c0++[((encC p).1.length:Int)]) (by rw [List.getElem?_set,if_pos rfl,if_pos hi]) hw,List.set_set]
   simp
theorem picTo_recs {b:List Ser} (hb:∀s∈b,s.2≠[]):∀i,i≤b.length→(picTo b i).foldl (recAdd b) (List.replicate b.length ([],[]))=(b.take i).map recE++List.replicate (b.length-i) ([],[]):=by
 intro i
 induction i with
 | zero=>intro _;simp [picTo]
 | succ i ih=>
  intro hi
  obtain ⟨s,hs⟩:∃s,b[i]? = some s:=⟨_,List.getElem?_eq_getElem (by omega)⟩
  have hl:((b.take i).map recE).length=i:=by rw [List.length_map,List.length_take];omega
  have hx:((b.take i).map recE++List.replicate (b.length-i) ([],[]))[i]? = some (([],[]):Rec):=by
   rw [List.getElem?_append_right (by omega),hl,Nat.sub_self,List.getElem?_replicate,if_pos (by omega)]
  rw [picTo_step hs,List.foldl_append,ih (by omega),recAdd_all hs _ _ _ _ hx (winE_ne (hb s (List.mem_of_getElem? hs))),List.nil_append,List.set_append_right _ _ (by omega),hl,Nat.sub_self]
  obtain ⟨m,hm⟩:∃m,b.length-i=m+1:=⟨b.length-i-1,by omega⟩
  rw [hm,List.replicate_succ,List.set_cons_zero,List.take_add_one,hs,List.map_append,List.append_assoc,show b.length-(i+1)=m by omega]
  rfl
theorem recsK_all {b:List Ser} (hb:∀s∈b,s.2≠[]):recsK b (picB b).length=b.map recE:=by
 rw [recsK,List.take_length,picB,picTo_recs hb _ (Nat.le_refl _)]
 simp
theorem picTo_chunks (b:List Ser):∀i,i≤b.length→((picTo b i).flatMap fun x=>(encC x.2).1)=chunksB (b.take i):=by
 intro i
 induction i with
 | zero=>intro _;simp [picTo,chunksB]
 | succ i ih=>
  intro hi
  obtain ⟨s,hs⟩:∃s,b[i]? = some s:=⟨_,List.getElem?_eq_getElem (by omega)⟩
  rw [picTo_step hs,List.flatMap_append,ih (by omega),chunksB_step hs,List.flatMap_map]
  rfl
theorem chunksK_all (b:List Ser):chunksK b (picB b).length=chunksB b:=by
 rw [chunksK,List.take_length,picB,picTo_chunks b _ (Nat.le_refl _),List.take_length]
theorem recsK_lens (b:List Ser):∀k,∀r∈recsK b k,r.2.length≤k:=by
 intro k
 induction k with
 | zero=>
  intro r hr
  rw [recsK_zero] at hr
  rw [(List.mem_replicate.1 hr).2]
  simp
 | succ k ih=>
  intro r hr
  by_cases hk:k<(picB b).length
  ·obtain ⟨x,hx⟩:∃x,(picB b)[k]? = some x:=⟨_,List.getElem?_eq_getElem hk⟩
   rw [recsK_step hx] at hr
   rcases List.mem_or_eq_of_mem_set hr with h | h
   ·have:=ih r h;omega
   ·subst h
    rw [List.length_append,List.length_singleton]
    cases hg:(recsK b k)[x.1]? with
    | none=>simp
    | some y=>
     have:=ih y (List.mem_of_getElem? hg)
     simp;omega
  ·have e:recsK b (k+1)=recsK b k:=by rw [recsK,recsK,List.take_of_length_le (by omega),List.take_of_length_le (by omega)]
   rw [e] at hr
   have:=ih r hr;omega
theorem winE_len (l:List Sam):(winE l).length≤l.length:=by rw [winE,List.length_map,List.length_range];omega
theorem picTo_len17 (b:List Ser):∀i,i≤b.length→(picTo b i).length≤samplesB (b.take i):=by
 intro i
 induction i with
 | zero=>intro _;simp [picTo]
 | succ i ih=>
  intro hi
  obtain ⟨s,hs⟩:∃s,b[i]? = some s:=⟨_,List.getElem?_eq_getElem (by omega)⟩
  have h1:=ih (by omega)
  have h2:=winE_len s.2
  rw [picTo_len hs,List.take_add_one,hs,samplesB_append]
  have e:samplesB (some s).toList=s.2.length:=by simp [samplesB]
  rw [e]
  omega
theorem picB_len17 {b:List Ser} (h:Mid b):(picB b).length≤1000000:=by
 have h1:=picTo_len17 b b.length (Nat.le_refl _)
 rw [List.take_length] at h1
 have:=h.sam
 unfold picB
 omega
theorem flatMap_take_le {α:Type} (f:α→List Nat) (l:List α) (k:Nat):((l.take k).flatMap f).length≤(l.flatMap f).length:=by
 have e:(l.flatMap f).length=((l.take k).flatMap f).length+((l.drop k).flatMap f).length:=by rw [← List.length_append,← List.flatMap_append,List.take_append_drop]
 omega
theorem chunksK_len17 {b:List Ser} (h:Mid b) (k:Nat):(chunksK b k).length≤102000000000:=by
 have h1:=flatMap_take_le (fun x:Pic=>(encC x.2).1) (picB b) k
 have h2:=chunksK_all b
 rw [chunksK,List.take_length] at h2
 rw [h2] at h1
 exact Nat.le_trans h1 (chunksAll17 h)
end Go.Proofs.YtdcgbgecbeegmaaGreatDoor
end
section
namespace Go.Proofs.YtdcgbgecbeegmaaGreatDoor
open Go Go.RowKit Go.Shelf
def Joins (N N':Nat→Prop) (W W':World):Prop:=∀j,N' j→N j∨(W.heap.size≤j∧j<W'.heap.size)
def SeqMade {β:Type} (F:Fence) (n:Nat) (P:Program) (g:Nat) (lb:Array Value) (full:List β) (encs:β→Value→Array Value) (Rx:β→Value→World→Prop) (K:Nat→Prop) (w:World):Prop:=
 ∀(l:Nat) (J:Nat→(Nat→Prop)→World→Prop) (W:World),Below w.heap.size w W→
  (∀k N N' W W',J k N W→Below W.heap.size W W'→Joins N N' W W'→J k N' W')→
  (∀k x v N W1,J k N W1→full[k]? = some x→Rx x v W1→YieldAt F (n-1) P l (encs x v) W1 fun e W'=>e = .returned (.bool true)∧J (k+1) N W'∧Mods (fun j=>¬N j) W1 W')→
  J 0 K W→
  CallsIn F n P g (#[.func (.yield l) #[] #[]]++lb) W fun e W'=>(∃v,e = .returned v)∧∃N,J full.length N W'
def madePost (B:Nat) (I:Nat→(Nat→Prop)→World→Prop) (k:Nat) (N:Nat→Prop) (W:World):Exit→Act→World→Prop
 | .normal,_,W'=>KeepsFrom B W W'∧Mods (fun j=>¬N j) W W'∧I (k+1) N W'
 | _,_,_=>False
theorem mods_put {S:Nat→Prop} {w W:World} (h:Mods S w W) {l:Nat} (hl:S l∨w.heap.size≤l) (o:Obj):Mods S w (W.putObj l o):=by
 have hg:=grownBy_putObj' W l o
 exact ⟨hg.os.trans h.os,hg.tape.trans h.tape,hg.output.trans h.output,Nat.le_trans h.size hg.size,fun k hk hs=>(hg.block k (by have:=h.size;omega) (fun e=>by
  cases e
  rcases hl with e | e
  ·exact hs e
  ·omega)).trans (h.block k hk hs)⟩
variable {F:Fence} {n:Nat} {P:Program}
theorem wpIn_rangeFunc_made {β:Type} {g:Operand} {ps:Array Tmp} {assign body:Code} {Q:Exit→Act→World→Prop} {a:Act} {w:World}
  (hro:F.round=none) (h1:1≤n) {gf:Nat} {lb:Array Value} (hg:a.eval g = .func (.func gf) #[] lb) (hFg:F.fn gf) (eg:∀args w,(callFunc gf args).run P w = .ok (.enter gf args) w)
  {full:List β} {encs:β→Value→Array Value} {Rx:β→Value→World→Prop} {K:Nat→Prop} {w0:World} (hseq:SeqMade F (n-1) P gf lb full encs Rx K w0) (hb0:Below w0.heap.size w0 w) (hps:∀x v,(encs x v).size=ps.size)
  (hRx:∀x v W l o o',Rx x v W→W.heap[l]? = some o→o.isCells=false→Rx x v (W.putObj l o'))
  (I:Nat→(Nat→Prop)→World→Prop)
  (hIb:∀k N N' W W',I k N W→Below W.heap.size W W'→Joins N N' W W'→I k N' W')
  (hIp:∀k N W l o o',I k N W→w.heap.size≤l→¬N l→W.heap[l]? = some o→o.isCells=false→I k N (W.putObj l o'))
  (hK:∀k,K k→k<w.heap.size) (h0:I 0 K w) (a₁:β→Value→Act)
  (hassign:∀(l:Nat) (x:β) (v:Value) (W:World) (G:Act→World→Prop),G (a₁ x v) W→
   assign.wpIn (F.inRound l) (n-1-1) P (Exit.then G (fun _ _ _=>False)) { tmps:=(ps.zip (encs x v)).foldl (fun t (p,v)=>t.setIfInBounds p v) a.tmps,defers:=[] } W)
  (hbody:∀(l k:Nat) (x:β) (v:Value) (N:Nat→Prop) (W:World),I k N W→full[k]? = some x→Rx x v W→body.wpIn (F.inRound l) (n-1-1) P (madePost w.heap.size I k N W) (a₁ x v) W)
  (hdone:∀(D:Nat) (N:Nat→Prop) (W:World),w.heap.size≤D→I full.length N W→W.heap[D]? = some (.deferred (some []))→Q .normal { a with defers:={ target:=.collected D,args:=#[] }::a.defers } W) :
  (Code.rangeFunc g ps assign body).wpIn F n P Q a w:=by
 refine wpIn_rangeFunc fun fn hfn=>?_
 rw [hro]
 let rec_:LoopState→Loop:=fun st=>{ state:=st,pending:=none,fn,tmps:=a.tmps,params:=ps,assign,body,defers:=w.heap.size }
 let L:=w.heap.size+1
 let W1:=(w.alloc (.deferred (some []))).alloc (.loop (rec_ .ready))
 have sz:W1.heap.size=w.heap.size+2:=by simp [W1]
 have bw:Below w.heap.size w W1:=((Below.refl _ w).alloc (Nat.le_refl _) _).alloc (by simp) _
 have hL:W1.heap[L]? = some (.loop (rec_ .ready)):=by
  have:=World.alloc_heap_new (w.alloc (.deferred (some []))) (.loop (rec_ .ready))
  rwa [World.size_alloc] at this
 have hD:W1.heap[w.heap.size]? = some (.deferred (some [])):=(Below.heap_alloc _ _ _ (by simp)).trans (World.alloc_heap_new w _)
 refine ⟨L,[{ target:=.collected w.heap.size,args:=#[] }],W1,{ target:=.fn (.func gf) lb,args:=#[.func (.yield L) #[] #[]] },W1,gf,#[.func (.yield L) #[] #[]]++lb,W1,run_enterLoop_outer _ _ _ _ _,?_,?_,?_,fun _=>h1,?_⟩
 ·simp only [resolve,hg];simp [go_sem,L]
 ·intro f' hf';simp [Target.leads] at hf';subst hf';exact hFg
 ·simp [invoke,go_sem,eg]
 let J:Nat→(Nat→Prop)→World→Prop:=fun k N W=>I k N W∧W.heap[L]? = some (.loop (rec_ .ready))∧W.heap[w.heap.size]? = some (.deferred (some []))∧¬N L
 have hJb:∀k N N' W W',J k N W→Below W.heap.size W W'→Joins N N' W W'→J k N' W':=by
  rintro k N N' W W' ⟨i1,i2,i3,i4⟩ hb hj
  have l1:=(Array.getElem?_eq_some_iff.1 i2).1
  have l2:=(Array.getElem?_eq_some_iff.1 i3).1
  refine ⟨hIb _ _ _ _ _ i1 hb hj,(hb.block _ l1).trans i2,(hb.block _ l2).trans i3,fun e=>?_⟩
  rcases hj _ e with f | f
  ·exact i4 f
  ·omega
 have hJ0:J 0 K W1:=⟨hIb _ _ _ _ _ h0 bw (fun j hj=>Or.inl hj),hL,hD,fun e=>by have:=hK _ e;omega⟩
 refine (hseq L J W1 (hb0.trans (bw.mono hb0.size)) hJb ?_ hJ0).mono ?_
 ·rintro k x v N W ⟨i1,i2,i3,i4⟩ hx hr
  have hy:=run_yield (P:=P) (args:=encs x v) i2 (hps x v)
  refine ⟨fn,_,assign,body,hy,roundIn_of_wpIn hfn (hassign _ x v W _ ⟨_,run_beginRound i2 rfl,?_⟩)⟩
  let W2:=W.putObj L (.loop { rec_ .ready with state:=.busy })
  have l1:=(Array.getElem?_eq_some_iff.1 i2).1
  have j2:W2.heap[L]? = some (.loop { rec_ .ready with state:=.busy }):=World.putObj_heap_same l1
  have j3:W2.heap[w.heap.size]? = some (.deferred (some [])):=(World.putObj_heap_other (by simp [L])).trans i3
  refine wpIn_mono (hbody _ k x v N W2 (hIp _ _ _ _ _ _ i1 (by simp [L]) i4 i2 rfl) hx (hRx _ _ _ _ _ _ hr i2 rfl)) ?_
  rintro e a3 W3 hp
  cases e with
  | normal=>
   obtain ⟨p1,p2,p3⟩:=hp
   have e2:=p1.same _ _ (by simp [L]) j2 rfl
   have e3:=p1.same _ _ (Nat.le_refl _) j3 rfl
   have l3:=(Array.getElem?_eq_some_iff.1 e2).1
   have hb:Mods (fun j=>¬N j) W W2:=mods_put (Mods.refl _ W) (Or.inl i4) _
   refine ⟨_,_,run_endRound (P:=P) none e2,rfl,⟨hIp _ _ _ _ _ _ p3 (by simp [L]) i4 e2 rfl,World.putObj_heap_same l3,(World.putObj_heap_other (by simp [L])).trans e3,i4⟩,mods_put (hb.trans p2 (fun _ _ e=>e)) (Or.inl i4) _⟩
  | _=>exact hp.elim
 ·rintro e W2 ⟨⟨v,rfl⟩,N,i1,i2,i3,i4⟩
  exact ⟨none,_,run_endLoop (P:=P) i2 (by simp [rec_]),hdone _ N _ (Nat.le_refl _) (hIp _ _ _ _ _ _ i1 (by simp [L]) i4 i2 rfl) ((World.putObj_heap_other (by simp [L])).trans i3)⟩
end Go.Proofs.YtdcgbgecbeegmaaGreatDoor
end
section
set_option maxRecDepth 100000
namespace Go.Proofs.YtdcgbgecbeegmaaGreatDoor
open Go Go.RowKit Go.Shelf
attribute [local go_sem] Oper.semAt_some
theorem new_parts (p:Option Addr) (m c:Nat) (w:World) (n:Nat) :
  CallsIn Fence.wide n Tryz.prog 98 #[.slice p m c] w fun e w'=>e = .returned (.func (.func 141) #[] #[.pointer (some ⟨w.heap.size,0,none⟩)])∧w'=w.alloc (.cells #[.slice p m c] 22):=by
 refine callsIn_wide.2 ?_
 go_enter Tryz.func98,Tryz.ntmps98
 go_wp2_with fail
 go_ret
 exact ⟨rfl,rfl⟩
structure PaIn (K:Nat→Prop) (J:Nat→(Nat→Prop)→World→Prop) (w0:World) (g:Nat) (bv:Value) (k:Nat) (N:Nat→Prop) (W:World):Prop where
 inv:J k N W
 sub:∀j,K j→N j
 bel:Below w0.heap.size w0 W
 box:W.cell? ⟨g,0,none⟩=some bv
structure PaAt (K:Nat→Prop) (J:Nat→(Nat→Prop)→World→Prop) (w0:World) (g:Nat) (bv:Value) (k:Nat) (N:Nat→Prop) (r:Value) (vs:List Value) (ps:List (List Sam)) (W:World):Prop extends PaIn K J w0 g bv k N W where
 row:Rd W 1 r vs.length vs
 at_:PartsAt W vs ps
 rown:∀j,r.ownBlock=some j→N j
 vown:∀u∈vs,∀j,u.ownBlock=some j→N j
variable {K:Nat→Prop} {J:Nat→(Nat→Prop)→World→Prop} {w0 W W':World} {g k:Nat} {bv r:Value} {N N':Nat→Prop} {vs:List Value} {ps:List (List Sam)}
theorem PaIn.lays (h:PaIn K J w0 g bv k N W) (hJ:∀k N N' W W',J k N W→Below W.heap.size W W'→Joins N N' W W'→J k N' W') (hb:Below W.heap.size W W'):PaIn K J w0 g bv k (fun j=>N j∨(W.heap.size≤j∧j<W'.heap.size)) W':=
 ⟨hJ _ _ _ _ _ h.inv hb (fun _ e=>e),fun j e=>Or.inl (h.sub j e),h.bel.trans (hb.mono h.bel.size),(hb.cell (World.block_lt_of_cell? W _ h.box)).trans h.box⟩
theorem PaAt.went (h:PaAt K J w0 g bv k N r vs ps W) (hK:∀j,j<w0.heap.size∨j=g→K j) (hj:J (k+1) N W') (hm:Mods (fun j=>¬N j) W W'):PaAt K J w0 g bv (k+1) N r vs ps W':=
 ⟨⟨hj,h.sub,h.bel.trans (hm.below h.bel.size (fun j hlt e=>e (h.sub j (hK j (Or.inl hlt))))),hm.cell h.box (fun e=>e (h.sub _ (hK _ (Or.inr rfl))))⟩,
  h.row.mods hm (fun j e f=>f (h.rown j e)),⟨h.at_.1,fun i v p hv hp=>(h.at_.2 i v p hv hp).mods hm (fun j e f=>f (h.vown v (List.mem_of_getElem? hv) j e))⟩,h.rown,h.vown⟩
set_option maxHeartbeats 4000000 in
theorem parts_gives (n:Nat) (hn:1≤n) (g:Nat) (bv:Value) (b:List Ser) (w0 w:World) (hR:RdB w0 bv b) (hs:Mid b) (hb:Below w0.heap.size w0 w) (hg:w.cell? ⟨g,0,none⟩=some bv) :
  SeqMade Fence.wide n Tryz.prog 141 #[.pointer (some ⟨g,0,none⟩)] (picB b) (fun (x:Pic) v=>#[.int .i64 (x.1:Int),v]) (fun x v W=>Rd W 2 v x.2.length (samCells x.2)) (fun j=>j<w0.heap.size∨j=g) w:=by
 intro l J W hW hJ hY h0
 obtain ⟨K,hK⟩:∃K:Nat→Prop,(fun j=>j<w0.heap.size∨j=g)=K:=⟨_,rfl⟩
 rw [hK] at h0
 have HKd:Hid (∀j,j<w0.heap.size∨j=g→K j):=by rw [← hK];exact fun _ e=>e
 clear hK
 have HI0:Hid (PaIn K J w0 g bv 0 K W):=⟨h0,fun _ e=>e,hb.trans (hW.mono hb.size),(hW.cell (World.block_lt_of_cell? w _ hg)).trans hg⟩
 have HR:=Lib.hid hR;have HM:=Lib.hid hs
 have HJ:=Lib.hid hJ;have HY:=Lib.hid hY
 obtain ⟨pb,cb,hv⟩:=hR.shape
 subst hv
 have hni:(b.length:Int)≤20000:=by have:=hs.len;omega
 clear hR hs hb hg hJ hY h0 hW
 have c0:=HI0.out.box
 refine callsIn_of_wp Tryz.func141 rfl trivial ?_ rfl
 simp only [Tryz.ntmps141,List.size_toArray,List.length_cons,List.length_nil,Nat.reduceAdd,Nat.reduceSub,Array.replicate_succ,Array.replicate_zero,List.push_toArray,List.append_toArray,List.nil_append,List.cons_append]
 gi_wp2
 clear c0
 gi_loopw [9] (fun iv wr=>∃(i:Nat) (N:Nat→Prop),i≤b.length∧iv = .int .i64 (i:Int)∧Hid (PaIn K J w0 g (.slice pb b.length cb) (picTo b i).length N wr)) (fun iv _=>b.length-(intOf iv).toNat)
 case atStart=>exact ⟨0,K,Nat.zero_le _,rfl,HI0.out⟩
 case round=>
  obtain ⟨i,N,hi,rfl,HI⟩:=hrel
  clear HI0
  have him:(i:Int)≤20000:=by omega
  by_cases hlt:i<b.length
  ·have hlt':(i:Int)<(b.length:Int):=by omega
   obtain ⟨s,hx⟩:∃s,b[i]? = some s:=⟨_,List.getElem?_eq_getElem hlt⟩
   obtain ⟨blk,off,h1,h2,e,⟨p1,k1,e1⟩,⟨p2,k2,e2⟩,hal⟩:=HR.out.always hx
   subst e
   subst e1
   subst e2
   have HX:=Lib.hid hx
   have HAl:=Lib.hid hal
   obtain ⟨c1,c2,_⟩:=hal wr HI.out.bel
   obtain ⟨w2,hw2⟩:∃w2,w2=wr.alloc (.cells #[.slice p1 s.1.length k1,.slice p2 s.2.length k2] 51):=⟨_,rfl⟩
   have HW:Hid (wr.alloc (.cells #[.slice p1 s.1.length k1,.slice p2 s.2.length k2] 51)=w2):=hw2.symm
   have hB2:Below wr.heap.size wr w2:=by rw [hw2];exact (Below.refl _ wr).alloc (Nat.le_refl _) _
   have HK2:Hid (Blk w2 wr.heap.size [.slice p1 s.1.length k1,.slice p2 s.2.length k2]):=by show Blk _ _ _;rw [hw2];exact Blk.new wr _ _
   have HI2:=Lib.hid (HI.out.lays HJ.out hB2)
   have HSp:=Lib.hid (chunk_splitF (.slice p2 s.2.length k2) s.2 w2 ((hal w2 HI2.out.bel).2.2.2) (HM.out.mem (List.mem_of_getElem? hx)))
   clear hx hal hw2 hB2
   gi_wp2
   rw [HW.out]
   have q1:w2.cell? ⟨wr.heap.size,0,none⟩=some (.slice p1 s.1.length k1):=by rw [HK2.out.cell];rfl
   have q2:w2.cell? ⟨wr.heap.size,1,none⟩=some (.slice p2 s.2.length k2):=by rw [HK2.out.cell];rfl
   clear c1 c2
   gi_wp2_with (refine ⟨trivial,?_⟩;gi_at_call 142;refine (callsIn_wide.2 HSp.out).mono ?_;rintro e w3 ⟨r,vs,rfl,hr,hat,hrf,hvf,hB3⟩;obtain ⟨pr,cr,hrv⟩:=hr.shape;subst hrv)
   have HI3:=Lib.hid (HI2.out.lays HJ.out hB3)
   obtain ⟨N3,hN3⟩:∃N3:Nat→Prop,(fun j=>(N j∨(wr.heap.size≤j∧j<w2.heap.size))∨(w2.heap.size≤j∧j<w3.heap.size))=N3:=⟨_,rfl⟩
   rw [hN3] at HI3
   have hnw:∀j,w2.heap.size≤j∧j<w3.heap.size→N3 j:=fun j hj=>by rw [← hN3];exact Or.inr hj
   rw [partsE_win] at hat
   have HA3:Hid (PaAt K J w0 g (.slice (some ⟨blk,off,none⟩) b.length cb) ((picTo b i).length+0) N3 (.slice pr vs.length cr) vs (winE s.2) w3):=
    ⟨HI3.out,hr,hat,fun j e=>hnw j (hrf j e),fun u hu j e=>hnw j (hvf u hu j e)⟩
   have hvl:vs.length=(s.2.length+119) / 120:=by rw [hat.1,winE,List.length_map,List.length_range]
   have hvm:(vs.length:Int)≤1000000:=by have:=HM.out.mem (List.mem_of_getElem? HX.out);omega
   have HVl:Hid (vs.length=(winE s.2).length):=hat.1
   clear hN3 hnw hr hat hrf hvf hB3 HI3 HI2 HSp hvl HK2 HW q1 q2 HI
   gi_loopw [18] (fun jv wr=>∃(j:Nat),j≤vs.length∧jv = .int .i64 (j:Int)∧Hid (PaAt K J w0 g (.slice (some ⟨blk,off,none⟩) b.length cb) ((picTo b i).length+j) N3 (.slice pr vs.length cr) vs (winE s.2) wr)) (fun jv _=>vs.length-(intOf jv).toNat)
   case atStart=>exact ⟨0,Nat.zero_le _,rfl,HA3.out⟩
   case round=>
    obtain ⟨j,hj,rfl,HA⟩:=hrel
    clear HA3
    have hjm:(j:Int)≤1000000:=by omega
    by_cases hlt2:j<vs.length
    ·have hlt2':(j:Int)<(vs.length:Int):=by omega
     obtain ⟨v,hvj⟩:∃v,vs[j]? = some v:=⟨_,List.getElem?_eq_getElem hlt2⟩
     obtain ⟨p,hpj⟩:∃p,(winE s.2)[j]? = some p:=⟨_,List.getElem?_eq_getElem (by have:=HVl.out;omega)⟩
     obtain ⟨bk,of,c',e,_,_,hc⟩:=HA.out.row.at (fun e=>by rw [e] at hlt2;simp at hlt2)
     simp only [Value.slice.injEq,true_and] at e
     obtain ⟨rfl,rfl⟩:=e
     have hrd:=HA.out.at_.2 j v p hvj hpj
     obtain ⟨pv,cv,hvv⟩:=hrd.shape
     subst hvv
     have c1:=hc j _ hvj
     obtain ⟨fn,tmps,assign,body,hyl,hR⟩:=HY.out _ (i,p) (.slice pv p.length cv) N3 wr HA.out.inv (picB_at HX.out hpj) hrd
     simp only at hyl
     have hRH:=Lib.hid hR
     clear hR hvj hpj hrd hc
     gi_wp2
     refine hRH.out.mono ?_
     rintro e W3 ⟨rfl,hJ3,hm3⟩
     have HA4:Hid (PaAt K J w0 g (.slice (some ⟨blk,off,none⟩) b.length cb) ((picTo b i).length+(j+1)) N3 (.slice (some ⟨bk,of,none⟩) vs.length cr) vs (winE s.2) W3):=HA.out.went HKd.out hJ3 hm3
     clear hJ3 hm3 hRH HA c1
     gi_wp2
     go_roundw
     case rel=>exact ⟨j+1,by omega,by go_num,HA4.out⟩
     case measure=>simp [intOf];omega
    ·have hlt2':¬(j:Int)<(vs.length:Int):=by omega
     have HE:Hid (PaIn K J w0 g (.slice (some ⟨blk,off,none⟩) b.length cb) (picTo b (i+1)).length N3 wr):=by
      show PaIn _ _ _ _ _ _ _ _
      rw [picTo_len HX.out,← HVl.out,show vs.length=j by omega]
      exact HA.out.toPaIn
     clear HA
     gi_wp2
     go_roundw
     case rel=>exact ⟨i+1,N3,by omega,by go_num,HE.out⟩
     case measure=>simp [intOf];omega
  ·have hlt:¬(i:Int)<(b.length:Int):=by omega
   have HE:Hid (PaIn K J w0 g (.slice pb b.length cb) (picB b).length N wr):=by
    have h:=HI.out
    rw [show i=b.length by omega] at h
    exact h
   gi_wp2
   go_end0
   exact ⟨⟨_,rfl⟩,N,HE.out.inv⟩
end Go.Proofs.YtdcgbgecbeegmaaGreatDoor
end
