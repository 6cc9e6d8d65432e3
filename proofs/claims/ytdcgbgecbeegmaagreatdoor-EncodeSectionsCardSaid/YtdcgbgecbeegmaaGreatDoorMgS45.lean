/- Texts 45. -/
import Derived.Test.YtdcgbgecbeegmaaGreatDoorMgSA
import Derived.Test.YtdcgbgecbeegmaaGreatDoorMgS34
import Derived.Laws.ResultCell
import Derived.Shelf.SlicesE.IndexFunc
set_option linter.unusedVariables false
set_option linter.unusedSimpArgs false
set_option maxHeartbeats 400000000
set_option maxRecDepth 100000
section
namespace Go.Proofs.YtdcgbgecbeegmaaGreatDoor
open Go Go.RowKit Go.Shelf
attribute [local go_sem] Oper.semAt_some
def CH (l:List ByteArray):List (ByteArray × ByteArray):=l.zip l.tail
theorem G7 (l:List ByteArray):(CH l).length=l.length-1:=by rw [CH,List.length_zip,List.length_tail];omega
theorem dZ (l:List ByteArray) (k:Nat) (h:k+1<l.length):(CH l)[k]? = some (l[k],l[k+1]):=by
 have hk:k<(CH l).length:=by rw [G7];omega
 rw [zAC hk]
 simp [CH,List.getElem_zip,List.getElem_tail]
theorem UJ (p:Option Addr) (m c:Nat) (w:World) (n:Nat) :
  CallsIn Fence.wide n Tryz.prog 144 #[.slice p m c] w fun e w'=>e = .returned (.func (.func 196) #[] #[.pointer (some ⟨w.heap.size,0,none⟩)])∧w'=w.alloc (.cells #[.slice p m c] 44):=by
 refine zCQ.2 ?_
 go_enter Tryz.func144,Tryz.ntmps144
 go_wp2_with fail
 go_ret
 exact ⟨rfl,rfl⟩
theorem RF (n:Nat) (hn:1≤n) (b:Nat) (lv:Value) (ls:List ByteArray) (w:World) (hc:w.cell? ⟨b,0,none⟩=some lv) (hl:Rd w 1 lv ls.length (BM ls)) :
  SeqStopsK Fence.wide n Tryz.prog 196 #[.pointer (some ⟨b,0,none⟩)] (fun x:ByteArray × ByteArray=>#[.string x.1,.string x.2]) (Bs (Ml b lv ls)) (fun ys=>ys=CH ls) (fun pre=>∃i,pre=(CH ls).take i) (CH ls).length w:=by
 intro l J Jx W hW hJ hJx hY h0
 have hb:b<w.heap.size:=zAP w _ hc
 have bT:Hid (Bs (Ml b lv ls) w W):=fun k hk=>hW.block k (SQ hb hl k hk)
 have HC:=zAA hc;have HL:=zAA hl
 have HJ:=zAA hJ;have HY:=zAA hY
 have Xi:(ls.length:Int)≤9223372036854775807:=by have:=hl.le;unfold maxLen at this;omega
 clear hc hJ hY
 obtain ⟨p,c,hv⟩:=hl.shape
 subst hv
 clear hl
 obtain ⟨K,hK⟩:∃K:Nat→Prop,Ml b (.slice p ls.length c) ls=K:=⟨_,rfl⟩
 have bU:Hid (K b):=by rw [← hK];exact Or.inl rfl
 have vC:Hid (ls≠[]→∀k,(Value.slice p ls.length c).ownBlock=some k→K k):=by rw [← hK];exact fun h k hk=>Or.inr ⟨h,hk⟩
 rw [hK] at bT HY
 clear hK
 refine zGC Tryz.func196 rfl trivial ?_ rfl
 simp only [Tryz.ntmps196,zCC,zAH,zBG,Nat.reduceAdd,Nat.reduceSub,zCL,zCM,zCV,zCO,zBK,zBX]
 gi_wp2
 gi_loopw [3] (fun iv wr=>∃(i k:Nat),i=k+1∧(i≤ls.length∨k=0)∧iv = .int .i64 (i:Int)∧Hid (J ((CH ls).take k) wr∧Bs K w wr)) (fun iv _=>ls.length+1-(intOf iv).toNat)
 case atStart=>exact ⟨1,0,rfl,Or.inr rfl,rfl,by simpa using h0,bT.out⟩
 case round=>
  obtain ⟨i,k,PC,hi,rfl,HI⟩:=hrel
  have cb:=(HI.out.2.cell bU.out 0).trans HC.out
  by_cases h:i<ls.length
  ·have Aq:(i:Int)<(ls.length:Int):=by omega
   have sE:(i:Int)-1=(k:Int):=by omega
   have Fl:(k:Int)<(ls.length:Int):=by omega
   have BC:ls≠[]:=fun e=>by rw [e] at h;simp at h
   have HR:=zAA (HI.out.2.rd HL.out (vC.out BC))
   obtain ⟨b0,off,c',e,_,_,FH⟩:=HR.out.at (fun e=>BC (by have:=congrArg List.length e;rw [BE] at this;exact zAI this))
   simp only [zAN] at e
   obtain ⟨rfl,_,rfl⟩:=e
   have c1:=FH i (.string ls[i]) (Pj ls i h)
   have c2:=FH k (.string (ls[k]'(by omega))) (Pj ls k (by omega))
   have Yg:Hid ((CH ls).take (k+1)=(CH ls).take k++[(ls[k]'(by omega),ls[i])]):=by
    show _=_
    rw [zAL,dZ ls k (by omega)]
    simp only [PC]
    rfl
   have hkn:((CH ls).take k).length<(CH ls).length:=by rw [zAR,G7];omega
   generalize ls[i]=t at *
   generalize ls[k]'(by omega)=s at *
   have yo:=zAA PC
   have hwk:IntKind.i64.wrap (k:Int)=(k:Int):=zEZ _ (by omega)
   clear FH HR PC hi
   gi_wp2
   have HS:Hid (∀w':World,(w'.cell? ⟨b,0,none⟩=some (.slice (some ⟨b0,off,none⟩) ls.length c)∧w'.cell? ⟨b0,off+k,none⟩=some (.string s)∧w'.cell? ⟨b0,off+i,none⟩=some (.string t))→(w'.cell? ⟨b,0,none⟩=some (.slice (some ⟨b0,off,none⟩) ls.length c)∧w'.cell? ⟨b0,off+k,none⟩=some (.string s)∧w'.cell? ⟨b0,off+i,none⟩=some (.string t))):=fun _ h=>h
   refine Pp (fun w':World=>w'.cell? ⟨b,0,none⟩=some (.slice (some ⟨b0,off,none⟩) ls.length c)∧w'.cell? ⟨b0,off+k,none⟩=some (.string s)∧w'.cell? ⟨b0,off+i,none⟩=some (.string t)) [0,1,2,3,4,5,6,7,8,9] 10 [11] rfl (by kernel_rfl) (by kernel_rfl) (by kernel_rfl) ⟨cb,c2,c1⟩ ?_
   clear cb c1 c2
   simp only [Cj,zBC,zCP,zBE,zAY,zBM]
   repeat (first
        | (refine takeN_skip rfl ?_; simp only [Act.put, List.setIfInBounds_toArray, List.set_cons_succ, List.set_cons_zero])
        | (refine takeN_blind rfl rfl ?_; apply Exists.intro; refine ⟨fun w => ?_, ?_⟩; (go_simp; try with_reducible rfl); simp only [Act.put, List.setIfInBounds_toArray, List.set_cons_succ, List.set_cons_zero])
        | (refine takeN_reads rfl rfl ?_; apply Exists.intro; refine ⟨fun w' hS => ?_, ?_⟩; (obtain ⟨d0, d1, d2⟩ := HS.out w' hS; go_simp; try with_reducible rfl); simp only [Act.put, List.setIfInBounds_toArray, List.set_cons_succ, List.set_cons_zero]))
   refine Ql ?_
   refine ⟨rfl,fun K' hK'=>?_⟩
   have Ue:Hid (J ((CH ls).take k) wr.drew∧Bs K w wr.drew):=⟨HJ.out _ wr _ none HI.out.1 (Ld wr 1) (fun r e=>by cases e),HI.out.2⟩
   clear HI sE Fl
   obtain ⟨fn,tmps,assign,body,jz,hR⟩:=HY.out ((CH ls).take k) (s,t) wr.drew Ue.out.1 hkn
   have li:=zAA hR
   clear hR hkn
   generalize wr.drew=wy at *
   gi_wp2
   refine li.out.mono ?_
   rintro e W3 (⟨rfl,Uv,Xf⟩ | ⟨rfl,P0⟩)
   ·have Uf:Hid (J ((CH ls).take (k+1)) W3∧Bs K w W3):=⟨by rw [Yg.out];exact Uv,D2 Ue.out.2 Xf⟩
    clear Uv Xf
    refine hK' _ _ ?_
    clear hK' K'
    repeat (first
        | (refine takeN_skip rfl ?_; simp only [Act.put, List.setIfInBounds_toArray, List.set_cons_succ, List.set_cons_zero])
        | (refine takeN_blind rfl rfl ?_; apply Exists.intro; refine ⟨fun w => ?_, ?_⟩; (go_simp; try with_reducible rfl); simp only [Act.put, List.setIfInBounds_toArray, List.set_cons_succ, List.set_cons_zero])
        | (refine takeN_reads rfl rfl ?_; apply Exists.intro; refine ⟨fun w' hS => ?_, ?_⟩; (obtain ⟨d0, d1, d2⟩ := HS.out w' hS; go_simp; try with_reducible rfl); simp only [Act.put, List.setIfInBounds_toArray, List.set_cons_succ, List.set_cons_zero]))
    refine Ql ?_
    gi_wp2
    go_roundw
    case rel=>exact ⟨i+1,k+1,by have:=yo.out;omega,Or.inl (by omega),by go_num,Uf.out⟩
    case measure=>simp [intOf];omega
   ·refine hK' _ _ ?_
    clear hK' K'
    repeat (first
        | (refine takeN_skip rfl ?_; simp only [Act.put, List.setIfInBounds_toArray, List.set_cons_succ, List.set_cons_zero])
        | (refine takeN_blind rfl rfl ?_; apply Exists.intro; refine ⟨fun w => ?_, ?_⟩; (go_simp; try with_reducible rfl); simp only [Act.put, List.setIfInBounds_toArray, List.set_cons_succ, List.set_cons_zero])
        | (refine takeN_reads rfl rfl ?_; apply Exists.intro; refine ⟨fun w' hS => ?_, ?_⟩; (obtain ⟨d0, d1, d2⟩ := HS.out w' hS; go_simp; try with_reducible rfl); simp only [Act.put, List.setIfInBounds_toArray, List.set_cons_succ, List.set_cons_zero]))
    refine Ql ?_
    gi_wp2
    refine zCB (zDZ rfl _ _ _) rfl ?_
    exact ⟨⟨_,rfl⟩,.inr ⟨_,⟨k+1,Yg.out.symm⟩,P0⟩⟩
  ·have Aq:¬(i:Int)<(ls.length:Int):=by omega
   have HE:Hid ((CH ls).take k=CH ls):=zAF (by rw [G7];omega)
   clear PC hi
   gi_wp2
   go_end0
   refine ⟨⟨_,rfl⟩,.inl ?_⟩
   have:=HI.out.1
   rw [HE.out] at this
   exact this
theorem ai (a b:ByteArray) (l:List ByteArray):CH (a::b::l)=(a,b)::CH (b::l):=rfl
theorem iA (t:List ByteArray):AN CB t↔∀x∈CH t,CB x.1 x.2=true:=by
 induction t with
 | nil=>exact ⟨(fun _ x h=>by cases h),fun _=>List.Pairwise.nil⟩
 | cons a l ih=>
  cases l with
  | nil=>exact ⟨(fun _ x h=>by cases h),fun _=>zCY _ _⟩
  | cons b l=>
   rw [ai]
   constructor
   ·intro h x hx
    obtain ⟨h1,h2⟩:=zAU.1 h
    rcases zAS.1 hx with rfl | hx
    ·exact h1 b (by simp)
    ·exact ih.1 h2 x hx
   ·intro h
    have h2:=ih.2 (fun x hx=>h x (zCS _ hx))
    have Gz:CB a b=true:=h (a,b) (by simp)
    refine zAU.2 ⟨fun y hy=>?_,h2⟩
    rcases zAS.1 hy with rfl | hy
    ·exact Gz
    ·exact Bz.tr _ _ _ Gz ((zAU.1 h2).1 y hy)
theorem leq_S (T:TypeId) (s b:ByteArray):binOp .leq T (.string s) (.string b)=pure (.bool (!CB b s)):=by
 have h:(Op.bytesLess s.toList b.toList || s.toList == b.toList) = !CB b s:=by
  rw [eqS]
  show (CB s b || decide (s=b)) = !CB b s
  by_cases e:s=b
  ·subst e;simp [Bz.SP]
  ·rw [zAV e,Bool.or_false]
   rcases zBH (CB s b) with h1 | h1
   ·rw [h1,Bz.uk h1];rfl
   ·rcases zBH (CB b s) with h2 | h2
    ·rw [h1,h2];rfl
    ·exact absurd (Bz.kQ _ _ h1 h2) e
 rw [← h]
 simp [binOp,Op.stringOp]
theorem gR {β:Type} {B r:Nat} {w:World} (hB:w.heap.size≤B) (p:β→Prop) (u:Value):OwnFrom B (fun s W=>Ao W r [u]∧Below w.heap.size w W∧p s):=by
 rintro s W W' row ⟨h1,h2,h3⟩ hg hr
 have hr':∀r,row=some r→∃o:Obj,W.heap[r]? = some o∧o.isCells=false:=fun r e=>(hr r e).2
 exact ⟨LT r (fun _:Unit=>[u]) () W W' row h1 hg hr',h2.grown hg h2.size (fun j e=>zAW hB (hr j e).1),h3⟩
theorem NT (tv:Value) (t:List ByteArray) (w:World) (h:Rd w 1 tv t.length (BM t)) :
  Calls Tryz.prog 101 #[tv] w fun e w'=>e = .returned (.bool (decide (AN CB t)))∧Below w.heap.size w w':=by
 have H:=zAA h
 obtain ⟨p,c,hv⟩:=h.shape
 subst hv
 clear h
 refine (zCQ (n:=9)).1 ?_
 refine callsIn_of_wp_marks Tryz.func101 rfl trivial ?_ rfl
 simp only [Tryz.ntmps101,zCC,zAH,zBG,Nat.reduceAdd,Nat.reduceSub,zCL,zCM,zCV,zCO,zBK,zBX]
 gi_wp2_with (refine ⟨trivial,?_⟩;gi_at_call 144;refine (UJ _ _ c _ _).mono ?_;rintro e w' ⟨rfl,rfl⟩)
 obtain ⟨w1,Cg⟩:∃w1,w.alloc (.cells #[.bool false] 4)=w1:=⟨_,rfl⟩
 have Lg:w1.heap.size=w.heap.size+1:=by rw [← Cg];simp
 have NK:Below w.heap.size w w1:=by rw [← Cg];exact (zAM _ w).alloc (zAD _) _
 have ZP:Ao w1 w.heap.size [.bool false]:=by rw [← Cg];exact Ao.new w _ _
 rw [Cg]
 clear Cg
 obtain ⟨W0,Gr⟩:∃W0,w1.alloc (.cells #[.slice p t.length c] 44)=W0:=⟨_,rfl⟩
 have T4:W0.heap.size=w1.heap.size+1:=by rw [← Gr];simp
 have MV:Below w1.heap.size w1 W0:=by rw [← Gr];exact (zAM _ w1).alloc (zAD _) _
 have GD:W0.cell? ⟨w1.heap.size,0,none⟩=some (.slice p t.length c):=by
  have:=(Ao.new w1 #[.slice p t.length c] 44).cell 0
  rw [Gr] at this
  simpa using this
 rw [Lg] at GD
 rw [Gr]
 clear Gr
 have hBB:Below w.heap.size w W0:=NK.trans (MV.mono NK.size)
 have qP:=H.out.below hBB
 have qM:Hid (Ao W0 w.heap.size [.bool false]):=ZP.of_same (MV.block _ ZP.lt)
 have Ug:Hid (∀k,Ml (w.heap.size+1) (.slice p t.length c) t k→k<W0.heap.size∧k≠w.heap.size):=fun k hk=>by
  rcases hk with e | ⟨BC,e⟩
  ·omega
  ·have:=H.out.lt (fun e=>BC (by have:=congrArg List.length e;rw [BE] at this;exact zAI this)) k e
   omega
 have No:=zAA (RF 8 (by omega) (w.heap.size+1) _ t W0 GD qP)
 have R9:Hid (W0.heap.size=w.heap.size+2):=by show _=_;omega
 have HBB:=zAA hBB
 clear GD T4 MV Lg NK ZP hBB qP
 obtain ⟨K,hK⟩:∃K:Nat→Prop,Ml (w.heap.size+1) (.slice p t.length c) t=K:=⟨_,rfl⟩
 rw [hK] at No Ug
 clear hK
 have HAN:=zAA (iA t)
 obtain ⟨ys,uS⟩:∃ys,CH t=ys:=⟨_,rfl⟩
 rw [uS] at No HAN
 clear uS
 refine wpIn_rangeFunc_ownG rfl (by omega) (gf:=196) (lb:=#[.pointer (some ⟨w.heap.size+1,0,none⟩)]) rfl trivial (enters_of Tryz.func196 (by kernel_rfl) rfl)
  No.out (fun h k=>D2 h k) (fun W l o o' h1 h2 h3 h4=>Lj (fun k hk=>(Ug.out k hk).1) W l o o' h1 h2 h3 h4) (zAM _ _) (fun _=>rfl)
  (fun pre W=>Ao W w.heap.size [.bool false]∧Below w.heap.size w W∧∀x∈pre,CB x.1 x.2=true)
  (fun c pre W=>Ao W w.heap.size [.bool false]∧Below w.heap.size w W∧(c = .ret∧∃x∈pre,CB x.1 x.2=false))
  (gR (by have:=R9.out;omega) (fun pre:List (ByteArray × ByteArray)=>∀x∈pre,CB x.1 x.2=true) _)
  (fun c=>gR (by have:=R9.out;omega) (fun pre:List (ByteArray × ByteArray)=>c = .ret∧∃x∈pre,CB x.1 x.2=false) _)
  ⟨qM.out,HBB.out,fun x hx=>by cases hx⟩
  (fun x=>{ tmps:=#[.slice p t.length c,undef,.pointer (some ⟨w.heap.size,0,none⟩),.string x.1,.string x.2,.slice p t.length c,.func (.func 196) #[] #[.pointer (some ⟨w.heap.size+1,0,none⟩)],.string x.1,.string x.2,undef,undef,undef],defers:=[] }) ?assign ?body ?done ?stop
 case assign=>
  intro l x W K hK
  simp only [zEN,zEC,zED,zEA,zDP,zFA,zAZ,zBL,zBT]
  gi_wp2
  exact hK
 case body=>
  rintro l pre ⟨b,s⟩ W ⟨h1,h2,h3⟩ Bg
  have NQ:=leq_S 9 s b
  have H1:=zAA h1;have H2:=zAA h2;have H3:=zAA h3
  clear h1 h2 h3 Bg
  cases Aq:CB b s with
  | true=>
   rw [Aq] at NQ
   have HL:=zAA Aq
   clear Aq
   gi_wp2_with fail
   exact ⟨KeepsFrom.refl _ _,fun _ _=>rfl,H1.out,H2.out,fun x hx=>by
    rcases zBJ.1 hx with e | e
    ·exact H3.out x e
    ·rw [zCF.1 e];exact HL.out⟩
  | false=>
   rw [Aq] at NQ
   have HL:=zAA Aq
   clear Aq
   have c0:W.cell? ⟨w.heap.size,0,none⟩=some (.bool false):=by rw [H1.out.cell];rfl
   have f0:=H1.out.free 0
   have HM:Hid (Ac (fun k=>k=w.heap.size) W (W.setCell ⟨w.heap.size,0,none⟩ (.bool false))):=Ac.set _ _ _ _ (fun _=>rfl)
   have HX:Hid (Ao (W.setCell ⟨w.heap.size,0,none⟩ (.bool false)) w.heap.size [.bool false]):=zAA (by simpa using H1.out.set 0 (.bool false))
   gi_wp2_with fail
   refine ⟨(KeepsOthers.J5 HM.out (fun k o e ho=>?_)).from _,HX.out,H2.out.trans (HM.out.below (by have:=H2.out.size;omega) (fun k hk e=>by omega)),?_⟩
   ·subst e
    obtain ⟨t,ht⟩:=H1.out
    rw [ht] at ho;cases ho;rfl
   ·exact ⟨rfl,(b,s),by simp,HL.out⟩
 case done=>
  rintro D zs W hD rfl ⟨h1,h2,h3⟩ hK
  have zi:Hid (decide (AN CB t)=true):=zBA (HAN.out.2 h3)
  have c0:W.cell? ⟨w.heap.size,0,none⟩=some (.bool false):=by rw [h1.cell];rfl
  have f0:=h1.free 0
  have HM:Hid (Ac (fun k=>k=w.heap.size) W (W.setCell ⟨w.heap.size,0,none⟩ (.bool true))):=Ac.set _ _ _ _ (fun _=>rfl)
  have HX:Hid (Ao (W.setCell ⟨w.heap.size,0,none⟩ (.bool true)) w.heap.size [.bool true]):=zAA (by simpa using h1.set 0 (.bool true))
  have HKo:Hid ((W.setCell ⟨w.heap.size,0,none⟩ (.bool true)).heap[D]? = some (.deferred (some []))):=(HM.out.block D (zAX.1 hK).1 (by have:=R9.out;omega)).trans hK
  have H2:=zAA h2
  clear h1 h2 h3 hK No
  gi_wp2
  refine ⟨by simp,.inl ⟨_,_,rfl,run_takeDeferred HKo.out,?_⟩⟩
  have hg:=grownBy_putObj' (W.setCell ⟨w.heap.size,0,none⟩ (.bool true)) D (.deferred none)
  have y8:Ao ((W.setCell ⟨w.heap.size,0,none⟩ (.bool true)).putObj D (.deferred none)) w.heap.size [.bool true]:=HX.out.of_same (hg.block _ HX.out.lt (by have:=R9.out;simp;omega))
  have hc5:((W.setCell ⟨w.heap.size,0,none⟩ (.bool true)).putObj D (.deferred none)).cell? ⟨w.heap.size,0,none⟩=some (.bool true):=by rw [y8.cell];rfl
  refine ⟨.bool true,?_,by rw [zi.out],?_⟩
  ·simp [results,Tryz.f101,go_sem,hc5]
  ·exact (H2.out.trans (HM.out.below (by have:=H2.out.size;omega) (fun k hk e=>by omega))).trans (belowK_b (w:=w) (zAD _) _ D _ _ (by have:=R9.out;omega) HKo.out rfl rfl)
 case stop=>
  rintro D c pre W hD hpre ⟨h1,h2,rfl,x,hx,Aq⟩ hK
  have zi:Hid (decide (AN CB t)=false):=zAV (fun h=>by
   obtain ⟨i,hi⟩:=hpre
   have:=HAN.out.1 h x (by rw [hi] at hx;exact zEE hx)
   rw [Aq] at this
   cases this)
  have H1:=zAA h1;have H2:=zAA h2;have HK:=zAA hK
  clear h1 h2 hpre hx Aq hK No
  gi_wp2
  refine ⟨by simp,.inl ⟨_,_,rfl,run_takeDeferred HK.out,?_⟩⟩
  have hg:=grownBy_putObj' W D (.deferred none)
  have y8:Ao (W.putObj D (.deferred none)) w.heap.size [.bool false]:=H1.out.of_same (hg.block _ H1.out.lt (by have:=R9.out;simp;omega))
  have hc5:(W.putObj D (.deferred none)).cell? ⟨w.heap.size,0,none⟩=some (.bool false):=by rw [y8.cell];rfl
  refine ⟨.bool false,?_,by rw [zi.out],?_⟩
  ·simp [results,Tryz.f101,go_sem,hc5]
  ·exact H2.out.trans (belowK_b (w:=w) (zAD _) _ D _ _ (by have:=R9.out;omega) HK.out rfl rfl)
end Go.Proofs.YtdcgbgecbeegmaaGreatDoor
end
section
namespace Go.Proofs.YtdcgbgecbeegmaaGreatDoor
open Go Go.RowKit
def eS:Go.Shelf.Ren:=⟨fun | 26=>146 | 33=>197 | 34=>198 | 38=>243 | n=>n,fun | 0=>0 | 3=>3 | 4=>4 | 9=>9 | 24=>44 | 40=>177 | n=>n,fun n=>n⟩
theorem QP:Go.Proofs.Lays2.n26 Tryz.prog eS:={ mixed:=by kernel_rfl,f26:=Tryz.func146.trans (congrArg some (by kernel_rfl)),f33:=Tryz.func197.trans (congrArg some (by kernel_rfl)),f34:=Tryz.func198.trans (congrArg some (by kernel_rfl)),f38:=Tryz.func243.trans (congrArg some (by kernel_rfl)),t0:=Tryz.underlying0,a0:=Tryz.isAgg0,z0:=Tryz.sizeOf0,v0:=Tryz.zeroValue0,t3:=Tryz.underlying3,a3:=Tryz.isAgg3,z3:=Tryz.sizeOf3,v3:=Tryz.zeroValue3,t4:=Tryz.underlying4,a4:=Tryz.isAgg4,z4:=Tryz.sizeOf4,v4:=Tryz.zeroValue4,t9:=Tryz.underlying9,a9:=Tryz.isAgg9,z9:=Tryz.sizeOf9,v9:=Tryz.zeroValue9,t24:=Tryz.underlying44,a24:=Tryz.isAgg44,z24:=Tryz.sizeOf44,v24:=Tryz.zeroValue44,t40:=Tryz.underlying177,a40:=Tryz.isAgg177,z40:=Tryz.sizeOf177,v40:=Tryz.zeroValue177 }
theorem e9 (tv:Value) (t:List ByteArray) (s:ByteArray) (w:World) (h:Rd w 1 tv t.length (BM t)) (hn:t.length≤1000000) (ha:AN CB t) :
  Calls Tryz.prog 146 #[tv,.string s] w fun e w'=>∃k:Nat,e = .returned (.tuple #[.int .i64 (k:Int),.bool (decide (0≤Dx t s))])∧(0≤Dx t s→(k:Int)=Dx t s)∧∃q,w'=w.drewN q:=by
 by_cases h0:t=[]
 ·subst h0
  obtain ⟨p,c,hv⟩:=h.shape
  subst hv
  refine (Any2.slices_BinarySearch_string_empty QP p c s w).mono ?_
  rintro e w' ⟨rfl,rfl⟩
  exact ⟨0,rfl,(fun h=>absurd (show (0:Int)≤-1 from h) (by decide)),0,rfl⟩
 ·obtain ⟨b,off,c,rfl,_,_,hc⟩:=h.at (fun e=>h0 (by have:=congrArg List.length e;rw [BE] at this;exact zAI this))
  have h1:=Any2.slices_BinarySearch_string QP b off t.length c (Ma t s) s w (by omega) (fun j hj=>hc j _ (by rw [BM,zBQ,zAC hj,Ma,zAC hj];rfl))
  have hk:Lib.bsGo (fun j=>Op.bytesLess (Ma t s j).toList s.toList) t.length 0 t.length=KJ t s:=
   Lib.bsGo_spec _ _ (fun j hj=>Td j hj) (fun j hj=>VU ha j hj) _ _ _ (by omega) (by omega) (gS t s)
  rw [hk] at h1
  refine h1.mono ?_
  rintro e w' ⟨rfl,q,rfl⟩
  by_cases hf:KJ t s<t.length∧Ma t s (KJ t s)=s
  ·obtain ⟨gr,jk⟩:=hf
   rw [Ma,zAC gr,zBM] at jk
   have hF:Dx t s=(KJ t s:Int):=Vr (fun y hy=>by
    obtain ⟨j,hj,he⟩:=zEH hy
    rw [zAR] at hj
    rw [zGA] at he
    have:=Td (t:=t) (s:=s) j (by omega)
    rw [Ma,zAC (by omega),zBM,he] at this
    rw [zAV]
    intro e
    rw [e,Bz.SP] at this
    cases this) (by rw [zAC gr]) (by rw [jk];simp)
   rw [hF]
   refine ⟨KJ t s,?_,fun _=>rfl,q,rfl⟩
   rw [zBA (show KJ t s<t.length∧Ma t s (KJ t s)=s from ⟨gr,by rw [Ma,zAC gr];exact jk⟩),zBA (by omega)]
  ·have hF:Dx t s = -1:=La (fun y hy=>by
    rw [zAV]
    intro e
    subst e
    obtain ⟨j,hj,he⟩:=zEH hy
    have yQ:KJ t y≤j:=by
     rcases Nat.lt_or_ge j (KJ t y) with Aq | T0
     ·have:=Td (t:=t) (s:=y) j Aq
      rw [Ma,zAC hj,zBM,he,Bz.SP] at this
      cases this
     ·exact T0
    have ll:KJ t y<t.length:=by omega
    refine hf ⟨ll,?_⟩
    rcases Nat.lt_or_eq_of_le yQ with e | e
    ·have h2:=YT ha e hj
     have h3:=VU ha (s:=y) (KJ t y) (zAD _)
     rw [Ma,zAC ll,zBM] at h3
     rw [he,h3] at h2
     cases h2
    ·rw [Ma,zAC ll,zBM]
     simp only [e]
     exact he)
   rw [hF]
   exact ⟨KJ t s,by rw [zAV hf];rfl,fun h=>absurd h (by decide),q,rfl⟩
theorem VB (tv:Value) (t:List ByteArray) (s:ByteArray) (w:World) (h:Rd w 1 tv t.length (BM t)) (hn:t.length≤1000000) (ha:AN CB t) :
  Calls Tryz.prog 105 #[tv,.string s] w fun e w'=>e = .returned (.tuple #[.int .i64 (max (Dx t s) 0),.bool (decide (0≤Dx t s))])∧Below w.heap.size w w':=by
 have HS:=zAA (e9 tv t s w h hn ha)
 obtain ⟨p,c,hv⟩:=h.shape
 subst hv
 clear h ha
 by_cases hf:0≤Dx t s
 ·have hd:decide (0≤Dx t s)=true:=zBA hf
  have k9:Hid (max (Dx t s) 0=Dx t s):=Int.max_eq_left hf
  have HF:=zAA hf
  rw [k9.out,hd]
  rw [hd] at HS
  clear hf hd k9
  go_enter Tryz.func105,Tryz.ntmps105
  go_wp2_with fail
  refine HS.out.mono ?_
  rintro e w1 ⟨k,rfl,hk,q,rfl⟩
  have HK:=zAA (hk HF.out)
  clear hk HS
  go_wp2_with fail
  go_ret2
  exact ⟨by rw [HK.out];rfl,rfl,rfl,rfl,zAD _,fun _ _=>rfl⟩
 ·have hd:decide (0≤Dx t s)=false:=zAV hf
  have k9:Hid (max (Dx t s) 0=0):=Int.max_eq_right (by omega)
  rw [k9.out,hd]
  rw [hd] at HS
  clear hf hd k9
  go_enter Tryz.func105,Tryz.ntmps105
  go_wp2_with fail
  refine HS.out.mono ?_
  rintro e w1 ⟨k,rfl,hk,q,rfl⟩
  clear hk HS
  go_wp2_with fail
  go_ret2
  exact ⟨rfl,rfl,rfl,rfl,zAD _,fun _ _=>rfl⟩
def XS:Go.Shelf.Ren:=⟨fun | 6=>143 | 8=>99 | n=>n,fun | 0=>0 | 3=>3 | 4=>4 | 22=>44 | 23=>9 | 25=>152 | n=>n,fun n=>n⟩
theorem Mx:Go.Proofs.SlLaysH.n8 Tryz.prog XS:={ mixed:=by kernel_rfl,f6:=⟨ "slices.IndexFunc[[]string,string]",by decide,Tryz.func143.trans (congrArg some (by kernel_rfl))⟩,f8:=⟨ "slices.ContainsFunc[[]string,string]",by decide,Tryz.func99.trans (congrArg some (by kernel_rfl))⟩,t0:=Tryz.underlying0,a0:=Tryz.isAgg0,z0:=Tryz.sizeOf0,v0:=Tryz.zeroValue0,t3:=Tryz.underlying3,a3:=Tryz.isAgg3,z3:=Tryz.sizeOf3,v3:=Tryz.zeroValue3,t4:=Tryz.underlying4,a4:=Tryz.isAgg4,z4:=Tryz.sizeOf4,v4:=Tryz.zeroValue4,t22:=Tryz.underlying44,a22:=Tryz.isAgg44,z22:=Tryz.sizeOf44,v22:=Tryz.zeroValue44,a23:=Tryz.isAgg9,z23:=Tryz.sizeOf9,t25:=Tryz.underlying152,a25:=Tryz.isAgg152,z25:=Tryz.sizeOf152,v25:=Tryz.zeroValue152 }
theorem qr (x:ByteArray) (w:World):Calls Tryz.prog 100 #[.string x] w fun e w'=>e = .returned (.bool (decide (65535<x.size)))∧w'=w:=by
 by_cases h:65535<x.size
 ·have h':(65535:Int)<(x.size:Int):=by omega
  have HD:Hid (decide (65535<x.size)=true):=zBA h
  clear h
  go_enter Tryz.func100,Tryz.ntmps100
  go_wp2_with fail
  go_ret
  exact ⟨by rw [HD.out];simp,rfl⟩
 ·have h':¬(65535:Int)<(x.size:Int):=by omega
  have HD:Hid (decide (65535<x.size)=false):=zAV h
  clear h
  go_enter Tryz.func100,Tryz.ntmps100
  go_wp2_with fail
  go_ret
  exact ⟨by rw [HD.out];simp,rfl⟩
theorem mm (t:List ByteArray):(t.any fun x=>decide (65535<x.size))=decide (¬Rf t):=by
 by_cases h:Rf t
 ·rw [zAV (zCI h),List.any_eq_false]
  intro x hx
  have:=h x hx
  simp;omega
 ·rw [zBA h,List.any_eq_true]
  have h2:∃x,x∈t∧¬x.size≤65535:=Classical.byContradiction fun e=>h fun x hx=>Classical.byContradiction fun e2=>e ⟨x,hx,e2⟩
  obtain ⟨x,hx,hs⟩:=h2
  exact ⟨x,hx,by simp;omega⟩
theorem Up (tv:Value) (t:List ByteArray) (w:World) (h:Rd w 1 tv t.length (BM t)) (hn:t.length≤1000000) :
  Calls Tryz.prog 99 #[tv,.func (.func 100) #[] #[]] w fun e w'=>e = .returned (.bool (decide (¬Rf t)))∧Below w.heap.size w w':=by
 rw [← mm]
 by_cases h0:t=[]
 ·subst h0
  obtain ⟨p,c,hv⟩:=h.shape
  subst hv
  refine (AnyE.slices_ContainsFunc_empty Mx p c _ w).mono ?_
  rintro e w' ⟨rfl,rfl⟩
  exact ⟨rfl,zAM _ _⟩
 ·obtain ⟨b,off,c,rfl,_,_,hc⟩:=h.at (fun e=>h0 (by have:=congrArg List.length e;rw [BE] at this;exact zAI this))
  have h1:=AnyE.slices_ContainsFunc Mx Value.string (fun x=>decide (65535<x.size)) 100 #[] (fun _ _=>rfl) b off t.length c t w
   (fun W x _=>(qr x W).mono fun e w' h=>⟨h.1,0,h.2⟩) (zAD _) (by omega) (fun j hj=>hc j _ (by rw [Pj t j hj,zDW t j hj]))
  rw [zCT] at h1
  refine h1.mono ?_
  rintro e w' ⟨rfl,q,rfl⟩
  exact ⟨rfl,rfl,rfl,rfl,zAD _,fun _ _=>rfl⟩
theorem dm (tv:Value) (t:List ByteArray) (w:World) (h:Rd w 1 tv t.length (BM t)) (hn:t.length≤1000000) :
  Calls Tryz.prog 63 #[tv] w (YB w (BR t)):=by
 have HL:=zAA h;have HN:=zAA hn
 have HC:=zAA (Up tv t w h hn)
 obtain ⟨p,c,hv⟩:=h.shape
 subst hv
 clear h hn
 by_cases hf:Rf t
 ·rw [zAV (zCI hf)] at HC
  have HF:=zAA hf
  clear hf
  by_cases ha:AN CB t
  ·have HR:Hid (BR t=(0,Ks t)):=Vn HF.out ha
   have hd:decide (AN CB t)=true:=zBA ha
   have htm:(t.length:Int)≤1000000:=by have:=HN.out;omega
   have hw:IntKind.u64.wrap (t.length:Int)=(t.length:Int):=by rw [zBB];omega
   clear ha
   go_enter Tryz.func63,Tryz.ntmps63
   go_wp2_with fail
   refine HC.out.mono ?_
   rintro e w1 ⟨rfl,hB⟩
   have HB:=zAA hB
   have HA:=zAA (NT _ t w1 (HL.out.below hB))
   rw [hd] at HA
   clear hd hB HC
   go_wp2_with fail
   refine HA.out.mono ?_
   rintro e w2 ⟨rfl,hB⟩
   have AP:Hid (Below w.heap.size w w2):=HB.out.trans (hB.mono HB.out.size)
   clear hB HA HB
   go_wp2_with fail
   refine (Gk _ 0 [] t.length (by omega) w2 (zBI _ _ _ _) (by omega)).mono ?_
   rintro e w3 ⟨r,rfl,hP⟩
   have Ew:Hid (AR w w3 (BK t 0) r):=by
    have h1:=hP.made AP.out.size VM
    rw [show BK t 0=Ab t.length from by simp [BK]]
    rw [zEF,zBK] at h1
    exact ⟨h1,AP.out.trans (hP.below AP.out.size VM)⟩
   obtain ⟨p1,c1,hr⟩:=Ew.out.shape
   subst hr
   have KF:0+(Ab t.length).length=(BK t 0).length:=by simp [BK]
   clear hP AP
   first | rw [KF] | skip
   go_wp2_with fail
   go_loopw [4,18] (fun vv iv wr=>∃(i:Nat),i≤t.length∧iv = .int .i64 (i:Int)∧Hid (AR w wr (BK t i) vv)) (fun _ iv _=>t.length-(intOf iv).toNat)
   case atStart=>exact ⟨0,zAJ _,rfl,Ew.out⟩
   case round=>
    obtain ⟨i,hi,rfl,HO⟩:=hrel
    have KM:(i:Int)≤1000000:=by omega
    obtain ⟨pv,cv,DB⟩:=HO.out.shape
    subst DB
    by_cases Aq:i<t.length
    ·have AF:(i:Int)<(t.length:Int):=by omega
     obtain ⟨b,off,c',e,_,_,_⟩:=HL.out.at (fun e=>by have:=congrArg List.length e;rw [BE] at this;simp at this;subst this;simp at Aq)
     simp only [zAN] at e
     obtain ⟨rfl,_,rfl⟩:=e
     obtain ⟨x,hx⟩:∃x,t[i]? = some x:=⟨_,zAC Aq⟩
     have Mt:wr.cell? ⟨b,off+i,none⟩=some (.string x):=by rw [← (zAE.1 hx).2];exact Gt (HL.out.below HO.out.AA) Aq
     have Gy:=zAA (QE hx)
     have y9:x.size≤65535:=HF.out x (zAG hx)
     have Nm:=zAA (WB _ _ (BK t i) x wr HO.out.Cz (by have:=Sp HF.out HN.out i;omega))
     clear hx y9
     generalize BK t i=D at *
     obtain ⟨dl,dz⟩:∃dl,D.length=dl:=⟨_,rfl⟩
     have Yc:=zAA dz
     rw [dz] at Nm HO ⊢
     clear dz
     go_wp2_with fail
     refine Nm.out.mono ?_
     rintro e w4 ⟨r4,rfl,hP⟩
     have GG:Hid (AR w w4 (BK t (i+1)) r4):=by
      have hv:∀k,(Value.slice pv dl cv).ownBlock=some k→w.heap.size≤k:=fun k hk=>(HO.out.row.lt k hk).1
      have h1:=hP.made HO.out.AA.size hv
      rw [Gy.out]
      refine ⟨?_,HO.out.AA.trans (hP.below HO.out.AA.size hv)⟩
      rw [zAB,Yc.out]
      exact h1
     obtain ⟨p4,c4,hr⟩:=GG.out.shape
     subst hr
     clear hP Nm Mt HO
     go_wp2_with fail
     go_roundw
     case rel=>exact ⟨i+1,by omega,by go_num,GG.out⟩
     case measure=>simp [intOf];omega
    ·have AF:¬(i:Int)<(t.length:Int):=by omega
     have hE:BK t i=Ks t:=by rw [BK,zAF (by omega)];rfl
     have bV:=HO.out
     rw [hE] at bV ⊢
     have Jg:=zAA bV
     clear HO bV hE HL HN
     generalize Ks t=E at *
     go_wp2_with fail
     go_ret2
     rw [HR.out]
     exact ⟨⟨_,rfl,Jg.out.rd,fun k hk=>(Jg.out.row.lt k hk).1⟩,Jg.out.AA⟩
  ·have HR:Hid (BR t=(16,[])):=by
    show _=_
    rw [BR,if_neg (zCI HF.out),if_pos ha]
   have hd:decide (AN CB t)=false:=zAV ha
   clear ha
   go_enter Tryz.func63,Tryz.ntmps63
   go_wp2_with fail
   refine HC.out.mono ?_
   rintro e w1 ⟨rfl,hB⟩
   have HB:=zAA hB
   have HA:=zAA (NT _ t w1 (HL.out.below hB))
   rw [hd] at HA
   clear hd hB HC
   go_wp2_with fail
   refine HA.out.mono ?_
   rintro e w2 ⟨rfl,hB⟩
   have AP:Hid (Below w.heap.size w w2):=HB.out.trans (hB.mono HB.out.size)
   clear hB HA HB
   go_wp2_with fail
   go_ret2
   rw [HR.out]
   exact ⟨⟨_,rfl,Rd.nil _ _,fun k e=>by cases e⟩,AP.out⟩
 ·rw [zBA hf] at HC
  have HR:Hid (BR t=(7,[])):=by
   show _=_
   rw [BR,if_pos hf]
  clear hf
  go_enter Tryz.func63,Tryz.ntmps63
  go_wp2_with fail
  refine HC.out.mono ?_
  rintro e w1 ⟨rfl,hB⟩
  have HB:=zAA hB
  clear hB HC
  go_wp2_with fail
  go_ret2
  rw [HR.out]
  exact ⟨⟨_,rfl,Rd.nil _ _,fun k e=>by cases e⟩,HB.out⟩
end Go.Proofs.YtdcgbgecbeegmaaGreatDoor
end
