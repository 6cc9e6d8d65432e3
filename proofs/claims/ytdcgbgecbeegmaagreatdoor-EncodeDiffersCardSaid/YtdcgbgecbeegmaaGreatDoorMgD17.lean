/- Texts 17. -/
import Derived.Test.YtdcgbgecbeegmaaGreatDoorMgD16
import Derived.Test.YtdcgbgecbeegmaaGreatDoorMgD6
import Derived.Test.YtdcgbgecbeegmaaGreatDoorMgD5
import Derived.Test.YtdcgbgecbeegmaaGreatDoorMgD9
import Derived.Test.YtdcgbgecbeegmaaGreatDoorMgD4
import Derived.Test.YtdcgbgecbeegmaaGreatDoorMgD7
import Derived.Lib.Bytealg
import Derived.Laws.Externs
import Derived.Shelf.SlSortCmp.QuietGrown
import Derived.Laws.EntriesVeiled
set_option linter.unusedVariables false
set_option linter.unusedSimpArgs false
section
set_option maxRecDepth 100000
namespace Go.Proofs.YtdcgbgecbeegmaaGreatDoor
open Go Go.RowKit
section
variable {P:Program} {ops:Array Oper} {rest:List Oper} {o:Oper} {a:Act} {w:World} {Q:Exit→Act→World→Prop} {t e:TypeId} {n N:Nat} {zs:List Value}
theorem wpList_indexS (hA:Str P e n zs) (ht:P.underlying t=some (.array N e)) (hgd:o.guard=none) (x y:Operand) (ho:o.op = .index t x y) (cs:List Value) (hx:a.eval x = .agg cs.toArray) (i:Nat) (hy:a.eval y = .int .i64 (i:Int)) (hi:i<N) (sub:List Value) (hsub:(cs.drop (i*n)).take n=sub)
  (h:wpList P ops Q rest (a.put o.dst (.agg sub.toArray)) w):wpList P ops Q (o::rest) a w:=by
 obtain ⟨ie,hie,_,hs⟩:=hA.hi
 obtain ⟨d,hd,hmany⟩:=hA.ht
 refine wpList_plain hgd fun K hK=>?_
 have hag:(isAgg e).run P w = .ok true w:=by
  unfold isAgg
  rw [Sem.run_bind,run_underlying hd w]
  cases d<;>simp_all [manyCells]
 have hp:(part e cs.toArray (i*n)).run P w = .ok (.agg sub.toArray) w:=by
  unfold part
  subst hsub
  simp [Sem.run_bind,hag,sizeOf,typeInfo,hie,hs,Nat.add_sub_cancel_left]
 have hr:(Instr.index t (.agg cs.toArray) (.int .i64 (i:Int))).run P w = .ok (.agg sub.toArray) w:=by
  have hin:((i:Int)<(N:Int)):=by omega
  simp [Instr.index,asIntOf,Sem.run_bind,run_underlying ht w,sizeOf,typeInfo,hie,hs,hp,hi]
 unfold Oper.wp execOp
 simp only [ho,hx,hy,Sem.run_bind,hr,Result.andThen_ok]
 exact hK _ _ h
theorem wpList_fieldS {fs} {ft:TypeId} {d:TypeDesc} (ht:P.underlying t=some (.struct fs)) (k off:Nat) (hf:(fs[k]?).map (fun f=>(f.type,f.offset))=some (ft,off)) (hd:P.underlying ft=some d) (hm:manyCells d=false)
  (hgd:o.guard=none) (x:Operand) (ho:o.op = .field t x k) (cs:List Value) (hx:a.eval x = .agg cs.toArray) (v:Value) (hv:cs[off]? = some v)
  (h:wpList P ops Q rest (a.put o.dst v) w):wpList P ops Q (o::rest) a w:=by
 refine wpList_plain hgd fun K hK=>?_
 obtain ⟨f,hf1,hf2⟩:=Option.map_eq_some_iff.1 hf
 simp only [Prod.mk.injEq] at hf2
 obtain ⟨hf2,hf3⟩:=hf2
 have hag:(isAgg ft).run P w = .ok false w:=by
  unfold isAgg
  rw [Sem.run_bind,run_underlying hd w]
  cases d<;>simp_all [manyCells]
 have hr:(Instr.field t (.agg cs.toArray) k).run P w = .ok v w:=by
  have hp:(part ft cs.toArray off).run P w = .ok v w:=by
   unfold part
   simp [Sem.run_bind,hag,hv]
  simp [Instr.field,Sem.run_bind,run_underlying ht w,hf1,hf2,hf3,asAgg,hp]
 unfold Oper.wp execOp
 simp only [ho,hx,Sem.run_bind,hr,Result.andThen_ok]
 exact hK _ _ h
end
theorem enc_sub (tag:Nat) (h:1≤tag∧tag≤3):(encCells.drop (tag*3)).take 3=[fnV (szF (tag-1)),fnV (pF (tag-1)),fnV (gF (tag-1))]:=by
 match tag,h with
 | 1,_=>rfl
 | 2,_=>rfl
 | 3,_=>rfl
theorem pF_call (i:Nat):∀(args:Array Value) (w:World),(callFunc (pF i) args).run Tryz.prog w = .ok (.enter (pF i) args) w:=by
 intro args w
 match i with
 | 0=>rfl
 | 1=>rfl
 | _+2=>rfl
theorem pF_puts (tag:Nat) (h:1≤tag∧tag≤3):PutsC tag (pF (tag-1)):=by
 match tag,h with
 | 1,_=>exact puts1
 | 2,_=>exact puts2
 | 3,_=>exact puts3
theorem encUnd : Tryz.prog.underlying 197 = some (.array 4 196):=Tryz.underlying197
theorem pack_byte (x:Nat) (h:x<256) (bits:List Bool):pack (fieldBits x 8++bits)=x::pack bits:=by
 refine unpack_inj (pack_lt _) (fun y hy=>?_) ?_
 ·rcases List.mem_cons.1 hy with rfl | hy
  ·exact h
  ·exact pack_lt _ y hy
 ·rw [unpack_pack,unpack_cons,unpack_pack,List.append_assoc]
  have e:8*(((fieldBits x 8++bits).length+7) / 8)-(fieldBits x 8++bits).length=8*((bits.length+7) / 8)-bits.length:=by
   rw [List.length_append,fieldBits_length]
   omega
  rw [e]
structure EncIn (w wr:World) (B p:Nat) (v:Value) (bits:List Bool) (tv vv:Value) (ts:List Int) (xs:List Nat):Prop where
 bel:Below w.heap.size w wr
 wi:WriterIn wr p v bits
 tr:Rd wr 1 tv ts.length (i64s ts)
 vr:Rd wr 1 vv xs.length (u64s xs)
 tb:T9 wr
 low:∀k,v.ownBlock=some k→B≤k
theorem EncIn.put {w wr wr':World} {B p:Nat} {v:Value} {bits out:List Bool} {tv vv:Value} {ts:List Int} {xs:List Nat} (h:EncIn w wr B p v bits tv vv ts xs) (hB:w.heap.size≤B∧G9≤B∧B≤p∧B≤wr.heap.size) (ht:∀k,tv.ownBlock=some k→k<B) (hv:∀k,vv.ownBlock=some k→k<B)
  (hp:BitsPost p v out wr wr'):∃v',EncIn w wr' B p v' out tv vv ts xs∧B≤wr'.heap.size:=by
 obtain ⟨v',h1,h2⟩:=hp
 have hS:∀k,k<B→¬(k=p∨v.ownBlock=some k):=fun k hk e=>by
  rcases e with e | e
  ·omega
  ·have:=h.low k e;omega
 have hsz:=h2.mods.size
 exact ⟨v',⟨h.bel.trans (h2.mods.below h.bel.size (fun k hk=>hS k (by omega))),h1,h.tr.mods h2.mods (fun k hk=>hS k (ht k hk)),h.vr.mods h2.mods (fun k hk=>hS k (hv k hk)),h.tb.keeps h2.mods (fun k hk=>hS k (by omega)),fun k hk=>by
  rcases h2.fresh k hk with e | e
  ·exact h.low k e
  ·omega⟩,by omega⟩
set_option maxHeartbeats 8000000 in
theorem chunk_encodeF (lv:Value) (l:List (Int × Nat)) (w:World) (hT:T9 w) (hl:Rd w 2 lv l.length (samCells l)) (ok:∀s∈l,sampleOk s) (hn:l.length≤1000000) :
  Calls Tryz.prog 97 #[lv] w fun e w'=>∃r,e = .returned (.tuple #[r,.int .i64 ((encC l).2:Int)])∧Rd w' 1 r (encC l).1.length (u8s (encC l).1)∧(∀k,r.ownBlock=some k→w.heap.size≤k)∧Below w.heap.size w w':=by
 have HT:=Lib.hid hT
 have HL:=Lib.hid hl;have HO:=Lib.hid ok
 obtain ⟨pl,cl,hv⟩:=hl.shape
 subst hv
 have HPa:=Lib.hid (chunk_separate _ l w hl hn)
 clear hl ok hT
 by_cases h0:l.length=0
 ·have hz:(l.length:Int)=0:=by omega
  have HE:Hid (encC l=([],21)):=by show _=_;rw [encC,if_pos (List.eq_nil_of_length_eq_zero h0)]
  clear h0 hn HPa
  go_enter Tryz.func97,Tryz.ntmps97
  go_wp2_with fail
  go_ret2
  rw [HE.out]
  exact ⟨_,rfl,Rd.nil _ _,fun k hk=>(by cases hk),Below.refl _ _⟩
 ·have hz:¬(l.length:Int)=0:=by omega
  have hzb:((l.length:Int) == 0)=false:=by rw [beq_eq_false_iff_ne];exact hz
  have hne:l≠[]:=fun e=>h0 (by rw [e];rfl)
  by_cases h120:120<l.length
  ·have h120':(120:Int)<(l.length:Int):=by omega
   have HE:Hid (encC l=([],7)):=by show _=_;rw [encC,if_neg hne,if_pos h120]
   clear h0 hn HPa hne h120
   go_enter Tryz.func97,Tryz.ntmps97
   go_wp2_with fail
   go_ret2
   rw [HE.out]
   exact ⟨_,rfl,Rd.nil _ _,fun k hk=>(by cases hk),Below.refl _ _⟩
  ·have h120':¬(120:Int)<(l.length:Int):=by omega
   have HE:Hid (encC l=(chooseC (valuesC l)::(l.length-1)::pack (encT (timesC l)++bitsC (chooseC (valuesC l)) (valuesC l)),0)):=by show _=_;rw [encC,if_neg hne,if_neg h120]
   have HN:Hid (0<l.length∧l.length≤120):=by show _∧_;omega
   have HTi:Hid (∀t∈timesC l,in64 t):=fun t ht=>by
    obtain ⟨s,hs,rfl⟩:=List.mem_map.1 ht
    exact (HO.out s hs).1
   have HVi:Hid (∀x∈valuesC l,in64u x):=fun x hx=>by
    obtain ⟨s,hs,rfl⟩:=List.mem_map.1 hx
    exact (HO.out s hs).2
   have HTl:Hid ((timesC l).length=l.length):=timesC_len l
   have HVl:Hid ((valuesC l).length=l.length):=valuesC_len l
   have HOk:=Lib.hid (choose_ok (valuesC l))
   have hlm:(l.length:Int)-1=((l.length-1:Nat):Int):=by omega
   have hw2:IntKind.u64.wrap ((l.length:Int)-1)=((l.length-1:Nat):Int):=by rw [IntKind.wrap_u64];omega
   clear h0 hn hne h120
   generalize timesC l=ts at *
   generalize valuesC l=xs at *
   go_enter Tryz.func97,Tryz.ntmps97
   go_wp2_with fail
   refine HPa.out.mono ?_
   rintro e w1 ⟨tv,vv,rfl,ht1,hv1,htk,hvk,hB⟩
   have HB1:=Lib.hid hB
   rw [← HTl.out] at ht1
   rw [← HVl.out] at hv1
   have HT1:=Lib.hid ht1
   have HV1:=Lib.hid hv1
   have HTb1:=Lib.hid (HT.out.below hB)
   have HTo:Hid (∀k,tv.ownBlock=some k→k<w1.heap.size):=ht1.lt (fun e=>by have:=congrArg List.length e;rw [i64s_length,HTl.out,List.length_nil] at this;have:=HN.out;omega)
   have HVo:Hid (∀k,vv.ownBlock=some k→k<w1.heap.size):=hv1.lt (fun e=>by have:=congrArg List.length e;rw [u64s_length,HVl.out,List.length_nil] at this;have:=HN.out;omega)
   obtain ⟨pt,ct,he⟩:=ht1.shape
   subst he
   obtain ⟨pv,cv,he⟩:=hv1.shape
   subst he
   clear ht1 hv1 hB HPa htk hvk
   go_wp2_with fail
   refine (chunk_choose _ xs w1 HTb1.out HV1.out HVi.out (by rw [HVl.out];have:=HN.out;omega)).mono ?_
   rintro e w2 ⟨rfl,hB⟩
   have HB2:=Lib.hid (HB1.out.trans (hB.mono HB1.out.size))
   have HT2:=Lib.hid (HT1.out.below hB)
   have HV2:=Lib.hid (HV1.out.below hB)
   have HTb2:=Lib.hid (HTb1.out.below hB)
   have HBB:Hid (w.heap.size≤w1.heap.size∧G9≤w1.heap.size∧w1.heap.size≤w2.heap.size):=⟨HB1.out.size,HTb1.out.low,hB.size⟩
   have HTg:Hid (1≤chooseC xs∧chooseC xs≤3):=by show _∧_;have:=choose_tag xs;omega
   clear hB HB1 HT1 HV1 HTb1
   generalize chooseC xs=tag at *
   generalize w1.heap.size=B at *
   have hw1:IntKind.u64.wrap (tag:Int)=(tag:Int):=by rw [IntKind.wrap_u64];have:=HTg.out;omega
   go_wp2_with fail
   refine (new_writer w2).mono ?_
   rintro e w3 ⟨rfl,hW,hB⟩
   have HI3:Hid (EncIn w w3 B w2.heap.size (.slice none 0 0) [] (.slice pt ts.length ct) (.slice pv xs.length cv) ts xs):=⟨HB2.out.trans (hB.mono HB2.out.size),hW,HT2.out.below hB,HV2.out.below hB,HTb2.out.below hB,fun k e=>by cases e⟩
   have HP3:Hid (w.heap.size≤B∧G9≤B∧B≤w2.heap.size∧B≤w3.heap.size):=by have:=HBB.out;have:=hB.size;show _∧_;omega
   clear hW hB HB2 HT2 HV2 HTb2 HBB
   generalize w2.heap.size=p at *
   go_wp2_with fail
   refine (wbits p _ [] tag 8 w3 HI3.out.wi (by omega) (by simp)).mono ?_
   rintro e w4 ⟨rfl,hP⟩
   obtain ⟨v4,hI,hb⟩:=HI3.out.put HP3.out HTo.out HVo.out hP
   have HI4:=Lib.hid hI
   have HP4:Hid (w.heap.size≤B∧G9≤B∧B≤p∧B≤w4.heap.size):=by have:=HP3.out;show _∧_;omega
   clear hP hI hb HI3 HP3
   go_wp2_with fail
   refine (wbits p _ ([]++fieldBits tag 8) (l.length-1) 8 w4 HI4.out.wi (by omega) (by rw [List.nil_append,fieldBits_length];omega)).mono ?_
   rintro e w5 ⟨rfl,hP⟩
   obtain ⟨v5,hI,hb⟩:=HI4.out.put HP4.out HTo.out HVo.out hP
   have HI5:=Lib.hid hI
   have HP5:Hid (w.heap.size≤B∧G9≤B∧B≤p∧B≤w5.heap.size):=by have:=HP4.out;show _∧_;omega
   have HA5:Hid (∀k,v5.ownBlock=some k→G9≤k):=fun k hk=>by have:=HI5.out.low k hk;have:=HP5.out;omega
   have HPu:=Lib.hid (put_times p v5 _ _ ts w5 HI5.out.tb HI5.out.wi (by have:=HP5.out;omega) HA5.out HI5.out.tr HTi.out (fun _ k hk=>⟨by have:=HTo.out k hk;have:=HP5.out;omega,fun e=>by have:=HTo.out k hk;have:=HI5.out.low k e;omega⟩) (by rw [List.length_append,List.length_append,fieldBits_length,fieldBits_length,HTl.out];have:=HN.out;simp;omega))
   clear hP hI hb HI4 HP4 hw1 hw2 hlm
   go_wp2_with fail
   refine HPu.out.mono ?_
   rintro e w6 ⟨rfl,hP⟩
   obtain ⟨v6,hI,hb⟩:=HI5.out.put HP5.out HTo.out HVo.out hP
   have HI6:=Lib.hid hI
   have HP6:Hid (w.heap.size≤B∧G9≤B∧B≤p∧B≤w6.heap.size):=by have:=HP5.out;show _∧_;omega
   clear hP hI hb HI5 HP5 HA5 HPu
   go_wp2_with fail
   refine (encodings_any w6).mono ?_
   rintro e w7 ⟨rfl,hB⟩
   have HI7:Hid (EncIn w w7 B p v6 _ (.slice pt ts.length ct) (.slice pv xs.length cv) ts xs):=⟨HI6.out.bel.trans (hB.mono HI6.out.bel.size),HI6.out.wi.below hB,HI6.out.tr.below hB,HI6.out.vr.below hB,HI6.out.tb.below hB,HI6.out.low⟩
   have HP7:Hid (w.heap.size≤B∧G9≤B∧B≤p∧B≤w7.heap.size):=by have:=HP6.out;have:=hB.size;show _∧_;omega
   have HA7:Hid (∀k,v6.ownBlock=some k→G9≤k):=fun k hk=>by have:=HI7.out.low k hk;have:=HP7.out;omega
   have HEl:Hid ((encT ts).length≤8160):=by show _≤_;have:=encT_len ts;have:=HTl.out;have:=HN.out;omega
   have HPu:=Lib.hid (pF_puts tag HTg.out p v6 _ _ xs w7 HI7.out.tb HI7.out.wi (by have:=HP7.out;omega) HA7.out HI7.out.vr HVi.out (fun _ k hk=>⟨by have:=HVo.out k hk;have:=HP7.out;omega,fun e=>by have:=HVo.out k hk;have:=HI7.out.low k e;omega⟩) (by rw [HVl.out];have:=HN.out;omega) (by rw [List.length_append,List.length_append,List.length_append,fieldBits_length,fieldBits_length,HVl.out];have:=HN.out;have:=HEl.out;simp;omega))
   have hcf:=pF_call (tag-1)
   have HSub:=Lib.hid (enc_sub tag HTg.out)
   clear hB HI6 HP6 HA7
   generalize szF (tag-1)=sf at *
   generalize pF (tag-1)=pf at *
   generalize gF (tag-1)=gf at *
   go_wp2_with (first
    | refine wpList_indexS strE encUnd rfl _ _ rfl encCells rfl tag rfl (by have:=HTg.out;omega) _ HSub.out ?_
    | refine wpList_fieldS Tryz.underlying196 1 1 rfl Tryz.underlying193 rfl rfl _ rfl [fnV sf,fnV pf,fnV gf] rfl (.func (.func pf) #[] #[]) rfl ?_)
   refine HPu.out.mono ?_
   rintro e w8 ⟨rfl,hP⟩
   obtain ⟨v8,hI,hb⟩:=HI7.out.put HP7.out HTo.out HVo.out hP
   have HI8:=Lib.hid hI
   clear hP hI hb HI7 HP7 HPu hcf HSub
   have hBl:([]++fieldBits tag 8++fieldBits (l.length-1) 8++encT ts++bitsC tag xs).length≤1125899906842624:=by
    rw [List.length_append,List.length_append,List.length_append,List.length_append,fieldBits_length,fieldBits_length]
    have:=bitsC_len tag xs;have:=HEl.out;have:=HVl.out;have:=HN.out
    simp;omega
   have HPk:Hid (pack ([]++fieldBits tag 8++fieldBits (l.length-1) 8++encT ts++bitsC tag xs)=tag::(l.length-1)::pack (encT ts++bitsC tag xs)):=by
    show _=_
    rw [List.nil_append,List.append_assoc,List.append_assoc,pack_byte _ (by have:=HTg.out;omega),pack_byte _ (by have:=HN.out;omega)]
   go_wp2_with fail
   refine (wbytes p v8 _ w8 HI8.out.wi hBl).mono ?_
   rintro e w9 ⟨r,rfl,hM⟩
   have HR:Hid (Rd w9 1 r (tag::(l.length-1)::pack (encT ts++bitsC tag xs)).length (u8s (tag::(l.length-1)::pack (encT ts++bitsC tag xs)))):=by
    have:=Rd.of_owns hM.1
    rw [HPk.out] at this
    exact this
   have HF9:Hid (∀k,r.ownBlock=some k→w.heap.size≤k):=fun k hk=>Nat.le_trans HI8.out.bel.size (hM.1.lt k hk).1
   have HB9:Hid (Below w.heap.size w w9):=HI8.out.bel.trans (hM.2.mono HI8.out.bel.size)
   obtain ⟨p8,c8,hv8⟩:=HR.out.shape
   subst hv8
   clear hM HPk hBl HI8
   go_wp2_with fail
   go_ret2
   rw [HE.out]
   exact ⟨_,rfl,HR.out,HF9.out,HB9.out⟩
end Go.Proofs.YtdcgbgecbeegmaaGreatDoor
end
section
namespace Go.Proofs.YtdcgbgecbeegmaaGreatDoor
open Go Go.RowKit
def wpPlanH (P:Program) (ops:Array Oper) (Q:Exit→Act→World→Prop) (S:World→Prop):Plan→Act→World→Prop
 | .done,a,w=>Q .normal a w
 | .take i p,a,w=>match ops[i]? with
  | none=>False
  | some o=>if Region.wanted o (yielded ops a.tmps)=true then ∃v,(∀w,S w→(execOp a.eval o).run P w = .ok (.value v) w)∧wpPlanH P ops Q S p (a.put o.dst v) w else wpPlanH P ops Q S p (a.put o.dst undef) w
 | .one i p,a,w=>wpNum P ops Q i (fun a w=>S w∧wpPlanH P ops Q S p a w) a w
 | .two i j p q,a,w=>wpNum P ops Q i (fun a w=>S w∧wpPlanH P ops Q S p a w) a w∧wpNum P ops Q j (fun a w=>S w∧wpPlanH P ops Q S q a w) a w
section
variable {P:Program} {ops:Array Oper} {Q:Exit→Act→World→Prop} {S:World→Prop} {md:Region.Mode}
theorem wpAnyH_of_plan (hs:Region.noSelect ops=true) (hQ:∀c (a a':Act) w,a.defers=a'.defers→Q (.panic c) a w→Q (.panic c) a' w):∀(p:Plan) (listed:Array Bool) (a:Act) (w:World) (fuel:Nat),p.steps≤fuel→
  planOk md ops p listed=true→S w→wpPlanH P ops Q S p a w→wpAnyH P md ops Q S fuel listed a w
 | .done,listed,a,w,fuel,_,hB,_,h=>wpAnyH_done (by simpa [planOk] using hB) h fuel
 | .take i p,listed,a,w,0,hf,_,_,_=>by simp [Plan.steps] at hf
 | .take i p,listed,a,w,fuel+1,hf,hB,hS,h=>by
  have hf':p.steps≤fuel:=by simpa [Plan.steps] using hf
  simp only [planOk,Bool.and_eq_true] at hB
  unfold wpPlanH at h
  cases ho:ops[i]? with
  | none=>rw [ho] at h;exact h.elim
  | some o=>
   rw [ho] at h
   simp only at h
   by_cases hw:Region.wanted o (yielded ops a.tmps)=true
   ·rw [if_pos hw] at h
    obtain ⟨v,hv,h⟩:=h
    exact wpAnyH_take ho hs hB.1.1 hB.1.2 (fun c a w h=>hQ c _ _ w (put_defers _ _ _) h) (.inl ⟨hw,hv⟩) hS (wpAnyH_of_plan hs hQ p _ _ w fuel hf' hB.2 hS h)
   ·rw [if_neg hw] at h
    exact wpAnyH_take ho hs hB.1.1 hB.1.2 (fun c a w h=>hQ c _ _ w (put_defers _ _ _) h) (.inr ⟨by simpa using hw,rfl⟩) hS (wpAnyH_of_plan hs hQ p _ _ w fuel hf' hB.2 hS h)
 | .one i p,listed,a,w,0,hf,_,_,_=>by simp [Plan.steps] at hf
 | .one i p,listed,a,w,fuel+1,hf,hB,hS,h=>by
  have hf':p.steps≤fuel:=by simpa [Plan.steps] using hf
  simp only [planOk,Bool.and_eq_true,beq_iff_eq] at hB
  refine wpAnyH_all hB.1 (by simp) (fun j hj=>?_)
  obtain rfl:j=i:=by simpa using hj
  exact wpOp_of_num (fun a w h=>⟨h.1,wpAnyH_of_plan hs hQ p _ a w fuel hf' hB.2 h.1 h.2⟩) h
 | .two i j p q,listed,a,w,0,hf,_,_,_=>by simp [Plan.steps] at hf
 | .two i j p q,listed,a,w,fuel+1,hf,hB,hS,h=>by
  have hf':max p.steps q.steps≤fuel:=by simpa [Plan.steps] using hf
  simp only [planOk,Bool.and_eq_true,beq_iff_eq] at hB
  refine wpAnyH_all hB.1 (by simp) (fun m hm=>?_)
  have hm':m=i∨m=j:=by simpa using hm
  rcases hm' with rfl | rfl
  ·exact wpOp_of_num (fun a w h=>⟨h.1,wpAnyH_of_plan hs hQ p _ a w fuel (by omega) hB.2.1 h.1 h.2⟩) h.1
  ·exact wpOp_of_num (fun a w h=>⟨h.1,wpAnyH_of_plan hs hQ q _ a w fuel (by omega) hB.2.2 h.1 h.2⟩) h.2
theorem wp_region_planH {id:Nat} {a:Act} {w:World} (S:World→Prop) (p:Plan) (hm:P.follows .mixedOrders=true) (hs:Region.noSelect ops=true) (hB:(decide (p.steps≤ops.size)&&planOk .any ops p (Array.replicate ops.size false))=true)
  (hQ:∀c (a a':Act) w,a.defers=a'.defers→Q (.panic c) a w→Q (.panic c) a' w) (hS:S w.drew) (h:wpPlanH P ops Q S p a w.drew):(Code.region id ops true).wp P Q a w:=by
 rw [Bool.and_eq_true] at hB
 exact wp_region_held hm (wpAnyH_of_plan hs hQ p _ _ _ _ (by simpa using hB.1) hB.2 hS h)
inductive PlanO where
 | done
 | take (o:Oper) (p:PlanO)
 | one (o:Oper) (p:PlanO)
 | two (o1 o2:Oper) (p q:PlanO)
def noOp:Oper:={ dst:=none,op:=.move (.tmp 0),type:=0,pos:= "",after:=#[],guard:=none }
def planned (l:List Oper):Plan→PlanO
 | .done=>.done
 | .take i p=>.take (l[i]?.getD noOp) (planned l p)
 | .one i p=>.one (l[i]?.getD noOp) (planned l p)
 | .two i j p q=>.two (l[i]?.getD noOp) (l[j]?.getD noOp) (planned l p) (planned l q)
def planIn (n:Nat):Plan→Bool
 | .done=>true
 | .take i p=>decide (i<n)&&planIn n p
 | .one i p=>decide (i<n)&&planIn n p
 | .two i j p q=>decide (i<n)&&(decide (j<n)&&(planIn n p&&planIn n q))
def wpNumO (P:Program) (ops:Array Oper) (Q:Exit→Act→World→Prop) (o:Oper) (K:Act→World→Prop) (a:Act) (w:World):Prop:=
 if Region.wanted o (yielded ops a.tmps)=true then o.wp P a w K Q else K (a.put o.dst undef) w
def wpPlanO (P:Program) (ops:Array Oper) (Q:Exit→Act→World→Prop) (S:World→Prop):PlanO→Act→World→Prop
 | .done,a,w=>Q .normal a w
 | .take o p,a,w=>if Region.wanted o (yielded ops a.tmps)=true then ∃v,(∀w,S w→(execOp a.eval o).run P w = .ok (.value v) w)∧wpPlanO P ops Q S p (a.put o.dst v) w else wpPlanO P ops Q S p (a.put o.dst undef) w
 | .one o p,a,w=>wpNumO P ops Q o (fun a w=>S w∧wpPlanO P ops Q S p a w) a w
 | .two o1 o2 p q,a,w=>wpNumO P ops Q o1 (fun a w=>S w∧wpPlanO P ops Q S p a w) a w∧wpNumO P ops Q o2 (fun a w=>S w∧wpPlanO P ops Q S q a w) a w
end
section
variable {P:Program} {l:List Oper} {Q:Exit→Act→World→Prop} {S:World→Prop}
theorem num_of_O {i:Nat} (hi:i<l.length) {K K':Act→World→Prop} {a:Act} {w:World} (hK:∀a w,K a w→K' a w) (h:wpNumO P l.toArray Q (l[i]?.getD noOp) K a w):wpNum P l.toArray Q i K' a w:=by
 have ho:l[i]?.getD noOp=l[i]:=by simp [hi]
 rw [ho] at h
 unfold wpNumO at h
 unfold wpNum
 have h2:l.toArray[i]? = some l[i]:=by simp [hi]
 simp only [h2]
 split
 ·next hw=>rw [if_pos hw] at h;exact Oper.wp_mono hK h
 ·next hw=>rw [if_neg hw] at h;exact hK _ _ h
theorem planH_of_O:∀(p:Plan) (a:Act) (w:World),planIn l.length p=true→wpPlanO P l.toArray Q S (planned l p) a w→wpPlanH P l.toArray Q S p a w
 | .done,a,w,_,h=>h
 | .take i p,a,w,hi,h=>by
  simp only [planIn,Bool.and_eq_true,decide_eq_true_eq] at hi
  have ho:l[i]?.getD noOp=l[i]:=by simp [hi.1]
  have h2:l.toArray[i]? = some l[i]:=by simp [hi.1]
  unfold planned wpPlanO at h
  rw [ho] at h
  unfold wpPlanH
  simp only [h2]
  split
  ·next hw=>
   rw [if_pos hw] at h
   obtain ⟨v,h3,h4⟩:=h
   exact ⟨v,h3,planH_of_O p _ _ hi.2 h4⟩
  ·next hw=>rw [if_neg hw] at h;exact planH_of_O p _ _ hi.2 h
 | .one i p,a,w,hi,h=>by
  simp only [planIn,Bool.and_eq_true,decide_eq_true_eq] at hi
  exact num_of_O hi.1 (fun a w h=>⟨h.1,planH_of_O p a w hi.2 h.2⟩) h
 | .two i j p q,a,w,hi,h=>by
  simp only [planIn,Bool.and_eq_true,decide_eq_true_eq] at hi
  exact ⟨num_of_O hi.1 (fun a w h=>⟨h.1,planH_of_O p a w hi.2.2.1 h.2⟩) h.1,num_of_O hi.2.1 (fun a w h=>⟨h.1,planH_of_O q a w hi.2.2.2 h.2⟩) h.2⟩
theorem wp_region_planO {id:Nat} {a:Act} {w:World} (S:World→Prop) (p:Plan) (hm:P.follows .mixedOrders=true) (hs:Region.noSelect l.toArray=true) (hB:(planIn l.length p&&(decide (p.steps≤l.toArray.size)&&planOk .any l.toArray p (Array.replicate l.toArray.size false)))=true)
  (hQ:∀c (a a':Act) w,a.defers=a'.defers→Q (.panic c) a w→Q (.panic c) a' w) (hS:S w.drew) (h:wpPlanO P l.toArray Q S (planned l p) a w.drew):(Code.region id l.toArray true).wp P Q a w:=by
 rw [Bool.and_eq_true] at hB
 exact wp_region_planH S p hm hs hB.2 hQ hS (planH_of_O p _ _ hB.1 h)
variable {ops:Array Oper}
theorem takeP_done {a:Act} {w:World} (h:Q .normal a w):wpPlanO P ops Q S .done a w:=h
theorem takeP_blind {o:Oper} {p:PlanO} {a:Act} {w:World} (hw:Region.wanted o (yielded ops a.tmps)=true)
  (h:∃v,(∀w,(execOp a.eval o).run P w = .ok (.value v) w)∧wpPlanO P ops Q S p (a.put o.dst v) w):wpPlanO P ops Q S (.take o p) a w:=by
 unfold wpPlanO
 simp only [hw]
 obtain ⟨v,h1,h2⟩:=h
 exact ⟨v,fun w _=>h1 w,h2⟩
theorem takeP_reads {o:Oper} {p:PlanO} {a:Act} {w:World} (hw:Region.wanted o (yielded ops a.tmps)=true)
  (h:∃v,(∀w,S w→(execOp a.eval o).run P w = .ok (.value v) w)∧wpPlanO P ops Q S p (a.put o.dst v) w):wpPlanO P ops Q S (.take o p) a w:=by
 unfold wpPlanO
 simp only [hw]
 exact h
theorem takeP_one {o:Oper} {p:PlanO} {a:Act} {w:World} (hw:Region.wanted o (yielded ops a.tmps)=true) (h:∀K:Act→World→Prop,(∀a w,S w→wpPlanO P ops Q S p a w→K a w)→o.wp P a w K Q):wpPlanO P ops Q S (.one o p) a w:=by
 unfold wpPlanO wpNumO
 simp only [hw]
 exact h _ (fun _ _ h1 h2=>⟨h1,h2⟩)
theorem takeP_run {o:Oper} {p:PlanO} {a:Act} {w:World} (hw:Region.wanted o (yielded ops a.tmps)=true) (v:Value) (w2:World) (hr:(execOp a.eval o).run P w = .ok (.value v) w2) (hS:S w2) (h:wpPlanO P ops Q S p (a.put o.dst v) w2):wpPlanO P ops Q S (.one o p) a w:=by
 refine takeP_one hw (fun K hK=>?_)
 unfold Oper.wp
 rw [hr]
 exact hK _ _ hS h
theorem takeP_extend {t e:TypeId} {sz bytes:Nat} (hE:Elem P t e sz bytes) {o:Oper} {p:PlanO} {a:Act} {w:World} (hw:Region.wanted o (yielded ops a.tmps)=true) (s x:Operand)
  (ho:o.op = .call { callee:=.builtin .append,args:=#[s,x],argTypes:=#[t,t] }) {v v2:Value} (hs:a.eval s=v) (hx:a.eval x=v2) {n m:Nat} {xs news:List Value} (hown:w.ownsRow 0 e sz v n xs) (hr:Rd w sz v2 m news) (h1:∀u∈news,u.oneCell'=true) (hb:(n+m)*bytes≤140737488355328∧n+m≤maxLen)
  (h:∀v' w',w'.ownsRow 0 e sz v' (n+m) (xs++news)→Mods (fun k=>v.ownBlock=some k) w w'→Fresh w.heap.size v v'→S w'∧wpPlanO P ops Q S p (a.put o.dst v') w'):wpPlanO P ops Q S (.one o p) a w:=by
 obtain ⟨v',w',hrun,h2,h3,h4⟩:=exec_extend hE w v v2 n m xs news hown hr h1 hb s x ho hs hx
 obtain ⟨h5,h6⟩:=h v' w' h2 h3 h4
 exact takeP_run hw v' w' hrun h5 h6
theorem takeP_two {o1 o2:Oper} {p q:PlanO} {a:Act} {w:World} (h1:wpPlanO P ops Q S (.one o1 p) a w) (h2:wpPlanO P ops Q S (.one o2 q) a w):wpPlanO P ops Q S (.two o1 o2 p q) a w:=⟨h1,h2⟩
end
end Go.Proofs.YtdcgbgecbeegmaaGreatDoor
end
section
set_option maxRecDepth 20000
namespace Go.Proofs.YtdcgbgecbeegmaaGreatDoor
open Go Go.RowKit
theorem elemI17:Elem Tryz.prog 59 3 1 8:=Elem.mk' (z:=.int .i64 0) Tryz.underlying59 (by kernel_rfl) rfl (by decide)
theorem below_drewC (w:World):Below w.heap.size w w.drew:=⟨rfl,rfl,rfl,Nat.le_refl _,fun _ _=>rfl⟩
def AddsC (w:World) (gb gL gc gl:Nat) (bv:Value) (n:Nat) (rs:List Rec) (out:List Nat) (N:Nat→Prop) (sv:Value) (hs:List Hd) (W W':World):Prop:=
 ∃hs' sv',CoAt w gb gL gc gl bv n rs out N W' hs' sv'∧Mods (MineC gb gL gc gl sv hs) W W'
set_option maxHeartbeats 8000000 in
theorem add_met {w W:World} {gb gL gc gl:Nat} {bv v:Value} {b:List Ser} {n:Nat} {rs:List Rec} {out:List Nat} {N:Nat→Prop} {hs:List Hd} {sv:Value} {i:Nat} {s:Ser} {p:List Sam}
  (h:CoAt w gb gL gc gl bv n rs out N W hs sv) (hT:T9 W) (hb:RdB w bv b) (hn:b.length=n) (hm:n≤20000) (hi:b[i]? = some s) (hp:Rd W 2 v p.length (samCells p)) (ok:∀x∈p,sampleOk x) (hpl:p.length≤1000000)
  (hr:∀r∈rs,r.2.length≤1000000) (ho:out.length≤110000000000) :
  Calls Tryz.prog 96 #[.int .i64 (i:Int),v,.pointer (some ⟨gb,0,none⟩),.pointer (some ⟨gL,0,none⟩),.pointer (some ⟨gc,0,none⟩)] W fun e W'=>(∃u,e = .returned u)∧AddsC w gb gL gc gl bv n (rs.set i (s.1,((rs[i]?).getD ([],[])).2++[((encC p).1.length:Int)])) (out++(encC p).1) N sv hs W W':=by
 have H:=Lib.hid h;have HB:=Lib.hid hb
 have HEn:=Lib.hid (chunk_encodeF v p W hT hp ok hpl)
 obtain ⟨pv,cv,hv⟩:=hp.shape
 subst hv
 obtain ⟨pb,cb,hv⟩:=hb.shape
 subst hv
 rw [hn] at HB H ⊢
 have hin:i<n:=by rw [← hn];exact (List.getElem?_eq_some_iff.1 hi).1
 obtain ⟨x,hx⟩:∃x,hs[i]? = some x:=⟨_,List.getElem?_eq_getElem (by rw [h.len];exact hin)⟩
 obtain ⟨r,hr0⟩:=h.rec_ hx
 have HX:=Lib.hid hx;have HR:=Lib.hid hr0
 have hrd:rs[i]?.getD ([],[])=r:=by rw [hr0];rfl
 rw [hrd]
 have HLn:Hid (r.2.length≤1000000∧out.length≤110000000000∧(encC p).1.length≤100000∧∀x∈(encC p).1,x<256):=⟨hr r (List.mem_of_getElem? hr0),ho,encC_len17 p,encC_lt17 p⟩
 obtain ⟨blk,off,h1,h2,e,⟨p1,c1,e1⟩,_,hal⟩:=hb.always hi
 subst e
 subst e1
 have HAl:=Lib.hid hal
 have HLo:Hid (s.1≠[]→∀j,(Value.slice p1 s.1.length c1).ownBlock=some j→j<w.heap.size):=fun hne j hj=>(hal w (Below.refl _ _)).2.2.1.lt (labCells_ne' hne) j hj
 have hii:(i:Int)<(n:Int):=by omega
 have hi2:(i:Int)≤20000:=by omega
 have hnn:(n:Int)≤20000:=by omega
 obtain ⟨cw,hcw⟩:∃cw,(encC p).1=cw:=⟨_,rfl⟩
 rw [hcw] at HEn HLn ⊢
 generalize (encC p).2=ce at *
 clear h hT hb hn hm hi hp ok hpl hr ho hin hx hr0 hrd hal hcw
 go_enter Tryz.func96,Tryz.ntmps96
 go_wp2_with fail
 refine HEn.out.mono ?_
 rintro e W1 ⟨u,rfl,hU,hUf,hB⟩
 obtain ⟨pu,cu,hv⟩:=hU.shape
 subst hv
 have HUf:Hid (∀k,(Value.slice pu cw.length cu).ownBlock=some k→W.heap.size≤k):=hUf
 have HU1:=Lib.hid hU;have HB1:=Lib.hid hB
 have H1:=Lib.hid (H.out.below hB)
 have HGw:Hid (gl<W.heap.size∧gc<W.heap.size):=⟨(H.out.row.lt gl rfl).2,H.out.bc.lt⟩
 have HSv0:Hid (∀k,sv.ownBlock=some k→k<W.heap.size):=fun k hk=>(H.out.own.lt k hk).2
 have HXv0:Hid (∀k,x.2.ownBlock=some k→k<W.heap.size):=fun k hk=>(H.out.lens i x r HX.out HR.out).lt k hk |>.2
 clear hU hUf hB HEn H
 go_wp2_with fail
 obtain ⟨⟨d0,d1⟩,f0,f1⟩:(W1.cell? ⟨gl,i*2,none⟩=some x.1∧W1.cell? ⟨gl,i*2+1,none⟩=some x.2)∧(W1.frozen? ⟨gl,i*2,none⟩=false∧W1.frozen? ⟨gl,i*2+1,none⟩=false):=by
  have h1:=two_get (f1:=Prod.fst) (f2:=Prod.snd) hs i x HX.out
  have hlt:=(List.getElem?_eq_some_iff.1 HX.out).1
  have hl:=two_length (f1:=Prod.fst) (f2:=Prod.snd) hs
  have hln:=H1.out.len
  exact ⟨⟨by rw [H1.out.row.cellAt (i*2) (by omega)];exact h1.1,by rw [H1.out.row.cellAt (i*2+1) (by omega)];exact h1.2⟩,H1.out.row.frozenAt _,H1.out.row.frozenAt _⟩
 have HS1:Hid (∀w':World,(w'.cell? ⟨gL,0,none⟩=some (.slice (some ⟨gl,0,none⟩) n n)∧w'.cell? ⟨gb,0,none⟩=some (.slice (some ⟨blk,off,none⟩) n cb)∧w'.cell? ⟨blk,off+i*2,none⟩=some (.slice p1 s.1.length c1))→(w'.cell? ⟨gL,0,none⟩=some (.slice (some ⟨gl,0,none⟩) n n)∧w'.cell? ⟨gb,0,none⟩=some (.slice (some ⟨blk,off,none⟩) n cb)∧w'.cell? ⟨blk,off+i*2,none⟩=some (.slice p1 s.1.length c1))):=fun _ h=>h
 have HLb:Hid (Rd W1.drew 2 (.slice p1 s.1.length c1) s.1.length (labCells s.1)):=(HAl.out W1.drew (H1.out.bel.trans ⟨rfl,rfl,rfl,Nat.le_refl _,fun _ _=>rfl⟩)).2.2.1
 have H1d:=Lib.hid (H1.out.below (W':=W1.drew) ⟨rfl,rfl,rfl,Nat.le_refl _,fun _ _=>rfl⟩)
 have hl2:=H1d.out.label HX.out HR.out HLb.out HLo.out
 obtain ⟨W2,hW2⟩:∃W2,(W1.setCell ⟨gl,i*2,none⟩ (.slice p1 s.1.length c1)).drew=W2:=⟨_,rfl⟩
 have hW2':W1.drew.setCell ⟨gl,i*2,none⟩ (.slice p1 s.1.length c1)=W2:=hW2
 rw [hW2'] at hl2
 have H2:=Lib.hid hl2.1;have HM2:=Lib.hid hl2.2
 have HW2:=Lib.hid hW2
 have HC1:Hid (∀w',CoAt w gb gL gc gl (.slice (some ⟨blk,off,none⟩) n cb) n (rs.set i (s.1,r.2)) out N w' (hs.set i (.slice p1 s.1.length c1,x.2)) sv→(w'.cell? ⟨gL,0,none⟩=some (.slice (some ⟨gl,0,none⟩) n n)∧w'.cell? ⟨gb,0,none⟩=some (.slice (some ⟨blk,off,none⟩) n cb)∧w'.cell? ⟨blk,off+i*2,none⟩=some (.slice p1 s.1.length c1))):=fun w' h=>⟨by rw [h.bL.cell];rfl,by rw [h.bb.cell];rfl,(HAl.out w' h.bel).1⟩
 have d0':W1.drew.cell? ⟨gl,i*2,none⟩=some x.1:=d0
 have f0':W1.drew.frozen? ⟨gl,i*2,none⟩=false:=f0
 clear d0 d1 f0 f1 hl2 hW2 hW2'
 refine wp_region_takeH (fun w':World=>w'.cell? ⟨gL,0,none⟩=some (.slice (some ⟨gl,0,none⟩) n n)∧w'.cell? ⟨gb,0,none⟩=some (.slice (some ⟨blk,off,none⟩) n cb)∧w'.cell? ⟨blk,off+i*2,none⟩=some (.slice p1 s.1.length c1)) [9] [0,1,2,3,4,5,6,7,8,9] (by kernel_rfl) (by kernel_rfl) (by kernel_rfl) ?_ ?_ ?_
 ·intro c a a' w hd h;exact ⟨hd ▸ h.1,h.2⟩
 ·exact ⟨by rw [H1d.out.bL.cell];rfl,by rw [H1d.out.bb.cell];rfl,(HAl.out W1.drew H1d.out.bel).1⟩
 simp only [taken,List.map_cons,List.map_nil,List.getElem?_cons_succ,List.getElem?_cons_zero,Option.getD_some]
 repeat (first
        | (refine takeH_skip rfl ?_; simp only [Act.put, List.setIfInBounds_toArray, List.set_cons_succ, List.set_cons_zero])
        | (refine takeH_blind rfl rfl ?_; apply Exists.intro; refine ⟨fun w => ?_, ?_⟩; (go_simp; try with_reducible rfl); simp only [Act.put, List.setIfInBounds_toArray, List.set_cons_succ, List.set_cons_zero])
        | (refine takeH_reads rfl rfl ?_; apply Exists.intro; refine ⟨fun w' hS => ?_, ?_⟩; (obtain ⟨d0, d1, d2⟩ := HS1.out w' hS; go_simp; try with_reducible rfl); simp only [Act.put, List.setIfInBounds_toArray, List.set_cons_succ, List.set_cons_zero]))
 refine takeH_call rfl rfl (fun K' hK=>?_)
 go_wp2_with fail
 refine hK _ _ ?_ ?_
 ·rw [HW2.out];exact HC1.out _ H2.out
 rw [HW2.out]
 clear hK K' HW2
 refine takeH_nil ?_
 have HU2:Hid (Rd W2 1 (.slice pu cw.length cu) cw.length (u8s cw)):=(HU1.out.below (w':=W1.drew) ⟨rfl,rfl,rfl,Nat.le_refl _,fun _ _=>rfl⟩).mods HM2.out (fun k hk e=>by have:=HUf.out k hk;have:=HGw.out;have:k=gl:=e;omega)
 have HM12:Hid (Mods (MineC gb gL gc gl sv hs) W W2):=(Mods.of_below (HB1.out.trans ((below_drewC W1).mono HB1.out.size)) _).trans HM2.out (fun k _ e=>Or.inr (Or.inr (Or.inr (Or.inl e))))
 clear HU1 H1 HB1 HLb H1d HM2 HC1 HS1 d0' f0'
 go_wp2_with fail
 have HX2:Hid ((hs.set i (.slice p1 s.1.length c1,x.2))[i]? = some (.slice p1 s.1.length c1,x.2)):=by
  show _=_
  rw [List.getElem?_set,if_pos rfl,if_pos (List.getElem?_eq_some_iff.1 HX.out).1]
 have HR2:Hid ((rs.set i (s.1,r.2))[i]? = some (s.1,r.2)):=by
  show _=_
  rw [List.getElem?_set,if_pos rfl,if_pos (List.getElem?_eq_some_iff.1 HR.out).1]
 have hyc:∃px cx,x.2 = .slice px r.2.length cx:=(Rd.of_owns (H2.out.lens i _ _ HX2.out HR2.out)).shape
 obtain ⟨px,cx,hxe⟩:=hyc
 have HXe:=Lib.hid hxe
 have HM23:Hid (Mods (MineC gb gL gc gl sv hs) W W2.drew):=HM12.out.trans (Mods.of_below (below_drewC W2) (fun _=>False)) (fun _ _ e=>e.elim)
 have H3:=Lib.hid (H2.out.below (below_drewC W2))
 have HU3:=Lib.hid (HU2.out.below (below_drewC W2))
 have HS2:Hid (∀w':World,w'.cell? ⟨gL,0,none⟩=some (.slice (some ⟨gl,0,none⟩) n n)→w'.cell? ⟨gL,0,none⟩=some (.slice (some ⟨gl,0,none⟩) n n)∧True∧True):=fun _ h=>⟨h,trivial,trivial⟩
 refine wp_region_planO (fun w':World=>w'.cell? ⟨gL,0,none⟩=some (.slice (some ⟨gl,0,none⟩) n n)) (.take 0 (.take 1 (.take 2 (.take 3 (.take 4 (.take 5 (.take 7 (.take 8 (.two 6 9 (.one 9 (.one 10 (.take 11 (.take 12 (.one 13 .done))))) (.one 6 (.one 10 (.take 11 (.take 12 (.one 13 .done)))))))))))))) (by kernel_rfl) (by kernel_rfl) (by kernel_rfl) ?_ ?_ ?_
 ·intro c a a' w hd h;exact ⟨hd ▸ h.1,h.2⟩
 ·rw [H3.out.bL.cell];rfl
 simp only [planned,List.getElem?_cons_succ,List.getElem?_cons_zero,Option.getD_some]
 have HGw3:Hid (W.heap.size≤W2.drew.heap.size):=HM23.out.size
 generalize W2.drew=W3 at *
 clear H2 HU2 HM12
 repeat (first
        | (refine takeP_skip rfl ?_; simp only [Act.put, List.setIfInBounds_toArray, List.set_cons_succ, List.set_cons_zero])
        | (refine takeP_blind rfl ?_; apply Exists.intro; refine ⟨fun w => ?_, ?_⟩; (go_simp; try with_reducible rfl); simp only [Act.put, List.setIfInBounds_toArray, List.set_cons_succ, List.set_cons_zero])
        | (refine takeP_reads rfl ?_; apply Exists.intro; refine ⟨fun w' hS => ?_, ?_⟩; (obtain ⟨d0, d1, d2⟩ := HS2.out w' hS; go_simp; try with_reducible rfl); simp only [Act.put, List.setIfInBounds_toArray, List.set_cons_succ, List.set_cons_zero]))
 have HS4:Hid (∀w',Below W3.heap.size W3 w'→w'.cell? ⟨gL,0,none⟩=some (.slice (some ⟨gl,0,none⟩) n n)):=fun w' hb=>by rw [(H3.out.below hb).bL.cell];rfl
 have HB4:Hid (Below W3.heap.size W3 (W3.alloc (.cells #[.int .i64 (cw.length:Int)] 3))):=(Below.refl _ W3).alloc (Nat.le_refl _) _
 have H4:=Lib.hid (H3.out.below HB4.out)
 have HU4:=Lib.hid (HU3.out.below HB4.out)
 have HL4:Hid (Rd (W3.alloc (.cells #[.int .i64 (cw.length:Int)] 3)) 1 (.slice (some ⟨W3.heap.size,0,none⟩) 1 1) 1 [.int .i64 (cw.length:Int)]):=
  Rd.of_owns (World.ownsRow_lit (base:=0) W3 #[.int .i64 (cw.length:Int)] 1 (Nat.zero_le _) (by simp [maxLen]) (by simp))
 have HM4:Hid (Mods (MineC gb gL gc gl sv hs) W (W3.alloc (.cells #[.int .i64 (cw.length:Int)] 3))):=HM23.out.trans (Mods.of_below HB4.out (fun _=>False)) (fun _ _ e=>e.elim)
 have HO4:Hid ((W3.alloc (.cells #[.int .i64 (cw.length:Int)] 3)).ownsRow 0 3 1 (.slice px r.2.length cx) r.2.length (i64s r.2)):=by
  have h:=H4.out.lens i _ _ HX2.out HR2.out
  show World.ownsRow _ _ _ _ _ _ _
  rw [← HXe.out]
  exact owns_rebase h (fun _ _=>Nat.zero_le _)
 have HBd:Hid ((r.2.length+1)*8≤140737488355328∧r.2.length+1≤maxLen):=by show _∧_;have:=HLn.out.1;unfold maxLen;omega
 have cellX:∀{A:World},CoAt w gb gL gc gl (.slice (some ⟨blk,off,none⟩) n cb) n (rs.set i (s.1,r.2)) out N A (hs.set i (.slice p1 s.1.length c1,x.2)) sv→A.cell? ⟨gl,i*2+1,none⟩=some (.slice px r.2.length cx)∧A.frozen? ⟨gl,i*2+1,none⟩=false:=fun {A} h=>by
  have h1:=two_get (f1:=Prod.fst) (f2:=Prod.snd) (hs.set i (.slice p1 s.1.length c1,x.2)) i _ HX2.out
  have hlt:=(List.getElem?_eq_some_iff.1 HX2.out).1
  have hl:=two_length (f1:=Prod.fst) (f2:=Prod.snd) (hs.set i (.slice p1 s.1.length c1,x.2))
  have hln:=h.len
  exact ⟨by rw [h.row.cellAt (i*2+1) (by omega),h1.2,← HXe.out],h.row.frozenAt _⟩
 have HCx:=Lib.hid (fun A=>cellX (A:=A))
 clear cellX hxe
 refine takeP_two ?_ ?_
 ·have q6:=(HCx.out _ H3.out).1
  refine takeP_one rfl (fun K' hK=>?_)
  go_wp2_with fail
  refine hK _ _ (HS4.out _ (Below.refl _ _)) ?_
  clear hK K'
  refine takeP_run rfl (.slice (some ⟨W3.heap.size,0,none⟩) 1 1) (W3.alloc (.cells #[.int .i64 (cw.length:Int)] 3)) (by go_simp;try rfl) (HS4.out _ HB4.out) ?_
  simp only [Act.put,List.setIfInBounds_toArray,List.set_cons_succ,List.set_cons_zero]
  refine takeP_extend elemI17 rfl (.tmp 29) (.tmp 32) rfl rfl rfl HO4.out HL4.out (by simp [Value.oneCell']) HBd.out (fun v5 w5 k1 k2 k3=>?_)
  have hpu:=H4.out.push (z:=(cw.length:Int)) HX2.out HR2.out k1 (by rw [HXe.out];exact k2) (by rw [HXe.out];exact k3)
  have hap:=H4.out.apart i _ HX2.out
  rw [HXe.out] at hap
  have bL5:=k2.blk H4.out.bL (fun e=>(hap gL e).2.1 rfl)
  have row5:=k2.owns H4.out.row (fun j e f=>(hap j f).2.2.2.1 (by simpa [Value.ownBlock] using e.symm))
  have d5:w5.cell? ⟨gl,i*2+1,none⟩=some (.slice px r.2.length cx):=by
   have h1:=two_get (f1:=Prod.fst) (f2:=Prod.snd) (hs.set i (.slice p1 s.1.length c1,x.2)) i _ HX2.out
   have hlt:=(List.getElem?_eq_some_iff.1 HX2.out).1
   have hl:=two_length (f1:=Prod.fst) (f2:=Prod.snd) (hs.set i (.slice p1 s.1.length c1,x.2))
   have hln:=H4.out.len
   rw [row5.cellAt (i*2+1) (by omega),h1.2,← HXe.out]
  have f5:w5.frozen? ⟨gl,i*2+1,none⟩=false:=row5.frozenAt _
  have H6:=Lib.hid hpu.1
  have HU6:=Lib.hid (HU4.out.mods hpu.2 (fun k hk e=>by
   have:=HUf.out k hk
   rcases e with e | e
   ·have:=HGw.out;omega
   ·have:=HXv0.out k e;omega))
  have HM6:Hid (Mods (MineC gb gL gc gl sv hs) W (w5.setCell ⟨gl,i*2+1,none⟩ v5)):=HM4.out.trans hpu.2 (fun k _ e=>by
   rcases e with e | e
   ·exact Or.inr (Or.inr (Or.inr (Or.inl e)))
   ·exact Or.inr (Or.inr (Or.inr (Or.inr (Or.inr ⟨x,List.mem_of_getElem? HX.out,e⟩)))))
  obtain ⟨p5,c5,hv5⟩:=(Rd.of_owns k1).shape
  subst hv5
  refine ⟨by rw [bL5.cell];rfl,?_⟩
  clear k1 k2 k3 hpu hap bL5 row5 HO4 HL4 H4 HU4 HM4 HB4 H3 HU3 HM23 HCx HS4
  simp only [Act.put,List.setIfInBounds_toArray,List.set_cons_succ,List.set_cons_zero]
  repeat (first
        | (refine takeP_skip rfl ?_; simp only [Act.put, List.setIfInBounds_toArray, List.set_cons_succ, List.set_cons_zero])
        | (refine takeP_blind rfl ?_; apply Exists.intro; refine ⟨fun w => ?_, ?_⟩; (go_simp; try with_reducible rfl); simp only [Act.put, List.setIfInBounds_toArray, List.set_cons_succ, List.set_cons_zero])
        | (refine takeP_reads rfl ?_; apply Exists.intro; refine ⟨fun w' hS => ?_, ?_⟩; (obtain ⟨d0, d1, d2⟩ := HS2.out w' hS; go_simp; try with_reducible rfl); simp only [Act.put, List.setIfInBounds_toArray, List.set_cons_succ, List.set_cons_zero]))
  refine takeP_one rfl (fun K' hK=>?_)
  go_wp2_with fail
  refine hK _ _ (by rw [H6.out.bL.cell];rfl) ?_
  clear hK K' d5 f5
  refine takeP_done ?_
  generalize w5.setCell ⟨gl,i*2+1,none⟩ (.slice p5 (r.2.length+1) c5)=w6 at *
  have y1:w6.cell? ⟨gc,0,none⟩=some sv:=by rw [H6.out.bc.cell];rfl
  have y2:=H6.out.bc.free 0
  obtain ⟨ps,cs,hse⟩:=(Rd.of_owns H6.out.own).shape
  have HSe:=Lib.hid hse
  have HO6:Hid (w6.ownsRow 0 5 1 (.slice ps out.length cs) out.length (u8s out)):=by
   show World.ownsRow _ _ _ _ _ _ _
   rw [← HSe.out]
   exact owns_rebase H6.out.own (fun _ _=>Nat.zero_le _)
  rw [hse] at y1
  have HB6:Hid ((out.length+cw.length)*1≤140737488355328∧out.length+cw.length≤maxLen):=by show _∧_;have:=HLn.out;unfold maxLen;omega
  clear hse
  go_wp2_with (at_builtin;refine wpList_extend Tryz.elemU8 _ _ _ _ _ _ _ HO6.out HU6.out (u8s_oneCell _) HB6.out rfl _ _ rfl rfl rfl ?_)
  intro v7 w7 k1 k2 k3
  have hex:=H6.out.extend k1 (by rw [HSe.out];exact k2) (by rw [HSe.out];exact k3)
  have b7:=k2.blk H6.out.bc (fun e=>(H6.out.sv_ gc (by rw [HSe.out];exact e)).2.2.1 rfl)
  have y1:w7.cell? ⟨gc,0,none⟩=some sv:=by rw [b7.cell];rfl
  have y2:=b7.free 0
  have H8:=Lib.hid hex.1;have HM8:=Lib.hid hex.2
  obtain ⟨p7,c7,hv7⟩:=(Rd.of_owns k1).shape
  subst hv7
  clear k1 k2 k3 b7 hex HO6 HB6
  go_wp2_with fail
  go_end0
  refine ⟨⟨_,rfl⟩,hs.set i (.slice p1 s.1.length c1,.slice p5 (r.2.length+1) c5),.slice p7 (out.length+cw.length) c7,?_,HM6.out.trans HM8.out (fun k hlt e=>?_)⟩
  ·have h:=H8.out
   rw [List.set_set,List.set_set] at h
   exact h
  ·rcases e with e | e
   ·exact Or.inr (Or.inr (Or.inl e))
   ·exact Or.inr (Or.inr (Or.inr (Or.inr (Or.inl e))))
 ·have q6:=(HCx.out _ H4.out).1
  refine takeP_run rfl (.slice (some ⟨W3.heap.size,0,none⟩) 1 1) (W3.alloc (.cells #[.int .i64 (cw.length:Int)] 3)) (by go_simp;try rfl) (HS4.out _ HB4.out) ?_
  simp only [Act.put,List.setIfInBounds_toArray,List.set_cons_succ,List.set_cons_zero]
  refine takeP_one rfl (fun K' hK=>?_)
  go_wp2_with fail
  refine hK _ _ (HS4.out _ HB4.out) ?_
  clear hK K'
  refine takeP_extend elemI17 rfl (.tmp 29) (.tmp 32) rfl rfl rfl HO4.out HL4.out (by simp [Value.oneCell']) HBd.out (fun v5 w5 k1 k2 k3=>?_)
  have hpu:=H4.out.push (z:=(cw.length:Int)) HX2.out HR2.out k1 (by rw [HXe.out];exact k2) (by rw [HXe.out];exact k3)
  have hap:=H4.out.apart i _ HX2.out
  rw [HXe.out] at hap
  have bL5:=k2.blk H4.out.bL (fun e=>(hap gL e).2.1 rfl)
  have row5:=k2.owns H4.out.row (fun j e f=>(hap j f).2.2.2.1 (by simpa [Value.ownBlock] using e.symm))
  have d5:w5.cell? ⟨gl,i*2+1,none⟩=some (.slice px r.2.length cx):=by
   have h1:=two_get (f1:=Prod.fst) (f2:=Prod.snd) (hs.set i (.slice p1 s.1.length c1,x.2)) i _ HX2.out
   have hlt:=(List.getElem?_eq_some_iff.1 HX2.out).1
   have hl:=two_length (f1:=Prod.fst) (f2:=Prod.snd) (hs.set i (.slice p1 s.1.length c1,x.2))
   have hln:=H4.out.len
   rw [row5.cellAt (i*2+1) (by omega),h1.2,← HXe.out]
  have f5:w5.frozen? ⟨gl,i*2+1,none⟩=false:=row5.frozenAt _
  have H6:=Lib.hid hpu.1
  have HU6:=Lib.hid (HU4.out.mods hpu.2 (fun k hk e=>by
   have:=HUf.out k hk
   rcases e with e | e
   ·have:=HGw.out;omega
   ·have:=HXv0.out k e;omega))
  have HM6:Hid (Mods (MineC gb gL gc gl sv hs) W (w5.setCell ⟨gl,i*2+1,none⟩ v5)):=HM4.out.trans hpu.2 (fun k _ e=>by
   rcases e with e | e
   ·exact Or.inr (Or.inr (Or.inr (Or.inl e)))
   ·exact Or.inr (Or.inr (Or.inr (Or.inr (Or.inr ⟨x,List.mem_of_getElem? HX.out,e⟩)))))
  obtain ⟨p5,c5,hv5⟩:=(Rd.of_owns k1).shape
  subst hv5
  refine ⟨by rw [bL5.cell];rfl,?_⟩
  clear k1 k2 k3 hpu hap bL5 row5 HO4 HL4 H4 HU4 HM4 HB4 H3 HU3 HM23 HCx HS4
  simp only [Act.put,List.setIfInBounds_toArray,List.set_cons_succ,List.set_cons_zero]
  repeat (first
        | (refine takeP_skip rfl ?_; simp only [Act.put, List.setIfInBounds_toArray, List.set_cons_succ, List.set_cons_zero])
        | (refine takeP_blind rfl ?_; apply Exists.intro; refine ⟨fun w => ?_, ?_⟩; (go_simp; try with_reducible rfl); simp only [Act.put, List.setIfInBounds_toArray, List.set_cons_succ, List.set_cons_zero])
        | (refine takeP_reads rfl ?_; apply Exists.intro; refine ⟨fun w' hS => ?_, ?_⟩; (obtain ⟨d0, d1, d2⟩ := HS2.out w' hS; go_simp; try with_reducible rfl); simp only [Act.put, List.setIfInBounds_toArray, List.set_cons_succ, List.set_cons_zero]))
  refine takeP_one rfl (fun K' hK=>?_)
  go_wp2_with fail
  refine hK _ _ (by rw [H6.out.bL.cell];rfl) ?_
  clear hK K' d5 f5
  refine takeP_done ?_
  generalize w5.setCell ⟨gl,i*2+1,none⟩ (.slice p5 (r.2.length+1) c5)=w6 at *
  have y1:w6.cell? ⟨gc,0,none⟩=some sv:=by rw [H6.out.bc.cell];rfl
  have y2:=H6.out.bc.free 0
  obtain ⟨ps,cs,hse⟩:=(Rd.of_owns H6.out.own).shape
  have HSe:=Lib.hid hse
  have HO6:Hid (w6.ownsRow 0 5 1 (.slice ps out.length cs) out.length (u8s out)):=by
   show World.ownsRow _ _ _ _ _ _ _
   rw [← HSe.out]
   exact owns_rebase H6.out.own (fun _ _=>Nat.zero_le _)
  rw [hse] at y1
  have HB6:Hid ((out.length+cw.length)*1≤140737488355328∧out.length+cw.length≤maxLen):=by show _∧_;have:=HLn.out;unfold maxLen;omega
  clear hse
  go_wp2_with (at_builtin;refine wpList_extend Tryz.elemU8 _ _ _ _ _ _ _ HO6.out HU6.out (u8s_oneCell _) HB6.out rfl _ _ rfl rfl rfl ?_)
  intro v7 w7 k1 k2 k3
  have hex:=H6.out.extend k1 (by rw [HSe.out];exact k2) (by rw [HSe.out];exact k3)
  have b7:=k2.blk H6.out.bc (fun e=>(H6.out.sv_ gc (by rw [HSe.out];exact e)).2.2.1 rfl)
  have y1:w7.cell? ⟨gc,0,none⟩=some sv:=by rw [b7.cell];rfl
  have y2:=b7.free 0
  have H8:=Lib.hid hex.1;have HM8:=Lib.hid hex.2
  obtain ⟨p7,c7,hv7⟩:=(Rd.of_owns k1).shape
  subst hv7
  clear k1 k2 k3 b7 hex HO6 HB6
  go_wp2_with fail
  go_end0
  refine ⟨⟨_,rfl⟩,hs.set i (.slice p1 s.1.length c1,.slice p5 (r.2.length+1) c5),.slice p7 (out.length+cw.length) c7,?_,HM6.out.trans HM8.out (fun k hlt e=>?_)⟩
  ·have h:=H8.out
   rw [List.set_set,List.set_set] at h
   exact h
  ·rcases e with e | e
   ·exact Or.inr (Or.inr (Or.inl e))
   ·exact Or.inr (Or.inr (Or.inr (Or.inr (Or.inl e))))
theorem ordS_bytes (a b:ByteArray):Lib.compareBytes a.data.toList b.data.toList=ordS a b:=by
 have key:∀(a b:List UInt8),Lib.compareBytes a b=if Op.bytesLess a b then -1 else if Op.bytesLess b a then 1 else 0:=by
  intro a
  induction a with
  | nil=>intro b;cases b<;>simp [Lib.compareBytes,Op.bytesLess]
  | cons x a ih=>
   intro b
   cases b with
   | nil=>simp [Lib.compareBytes,Op.bytesLess]
   | cons y b=>
    rw [Lib.compareBytes,ih b]
    by_cases h1:x<y
    ·simp [Op.bytesLess,h1]
    ·by_cases h2:y<x
     ·have hne:¬x=y:=fun e=>by subst e;exact h1 h2
      simp [Op.bytesLess,h1,h2,hne]
     ·have e:x=y:=UInt8.le_antisymm (UInt8.not_lt.1 h2) (UInt8.not_lt.1 h1)
      subst e
      simp [Op.bytesLess,h1]
 have ha:a.toList=a.data.toList:=by simp [ByteArray.toList_eq]
 have hb:b.toList=b.data.toList:=by simp [ByteArray.toList_eq]
 rw [key,ordS,ordB,ltS,ltS,ha,hb]
theorem cmpString_any (a b:ByteArray) (w:World):Calls Tryz.prog 207 #[.string a,.string b] w fun e w'=>e = .returned (.int .i64 (ordS a b))∧w'=w:=by
 rw [← ordS_bytes]
 go_enter Tryz.func207,Tryz.ntmps207
 go_wp2_with fail
 rw [run_callFunc_extern Tryz.func247 (by kernel_rfl) (by kernel_rfl) (by kernel_rfl) (e:=Extern.BytealgCompare.compare) (by kernel_rfl),Lib.run_compareString]
 simp only [Result.andThen]
 rw [Oper.upon_value]
 go_wp2_with fail
 go_ret
 exact ⟨rfl,rfl⟩
theorem strCompare_any (a b:ByteArray) (w:World):Calls Tryz.prog 149 #[.string a,.string b] w fun e w'=>e = .returned (.int .i64 (ordS a b))∧w'=w:=by
 have HC:=Lib.hid (cmpString_any a b)
 generalize ordS a b=c at *
 go_enter Tryz.func149,Tryz.ntmps149
 go_wp2_with fail
 refine (HC.out _).mono ?_
 rintro e w' ⟨rfl,rfl⟩
 go_wp2_with fail
 go_ret
 exact ⟨rfl,rfl⟩
def labV (x:Lab):Value:=.agg #[.string x.1,.string x.2]
theorem nameOf_any (x:Lab) (w:World):Calls Tryz.prog 174 #[labV x] w fun e w'=>e = .returned (.string x.1)∧Grw w w':=by
 obtain ⟨n,v⟩:=x
 show Calls Tryz.prog 174 #[.agg #[.string n,.string v]] w _
 have HB:=Lib.hid ((Grw.refl w).alloc (.cells #[.string n,.string v] 108))
 go_enter Tryz.func174,Tryz.ntmps174
 go_wp2_with fail
 go_ret
 exact ⟨rfl,HB.out⟩
theorem valueOf_any (x:Lab) (w:World):Calls Tryz.prog 176 #[labV x] w fun e w'=>e = .returned (.string x.2)∧Grw w w':=by
 obtain ⟨n,v⟩:=x
 show Calls Tryz.prog 176 #[.agg #[.string n,.string v]] w _
 have HB:=Lib.hid ((Grw.refl w).alloc (.cells #[.string n,.string v] 108))
 go_enter Tryz.func176,Tryz.ntmps176
 go_wp2_with fail
 go_ret
 exact ⟨rfl,HB.out⟩
theorem samplesB_next {b:List Ser} {i:Nat} {s:Ser} (h:b[i]? = some s):samplesB (b.take (i+1))=samplesB (b.take i)+s.2.length:=by
 rw [List.take_add_one,h,samplesB_append];simp [samplesB]
set_option maxHeartbeats 2000000 in
theorem modSamples_any (bv:Value) (b:List Ser) (w:World) (h:RdB w bv b) (hn:b.length≤1000000) (hs:samplesB b≤1000000000) :
  Calls Tryz.prog 89 #[bv] w fun e w'=>e = .returned (.int .i64 (samplesB b:Int))∧Grw w w':=by
 have H:=Lib.hid h;have HS:=Lib.hid hs
 obtain ⟨p,c,hv⟩:=h.shape
 subst hv
 have hmx:(b.length:Int)≤1000000:=by omega
 clear h hs hn
 go_enter Tryz.func89,Tryz.ntmps89
 go_wp2_with fail
 go_loopw [3,8] (fun nv iv wr=>∃(i N:Nat),i≤b.length∧iv = .int .i64 (i:Int)∧nv = .int .i64 (N:Int)∧Hid (samplesB (b.take i)=N)∧Hid (Grw w wr)) (fun _ iv _=>b.length-(intOf iv).toNat)
 case atStart=>exact ⟨0,0,Nat.zero_le _,rfl,rfl,by show _=_;simp [samplesB],Grw.refl _⟩
 case round=>
  obtain ⟨i,N,hi,rfl,rfl,HN,HG⟩:=hrel
  have him:(i:Int)≤1000000:=by omega
  have hNm:(N:Int)≤1000000000:=by have:=HN.out;have:=samplesB_take_le b i;have:=HS.out;omega
  by_cases hlt:i<b.length
  ·have hlt':(i:Int)<(b.length:Int):=by omega
   obtain ⟨s,hx⟩:∃s,b[i]? = some s:=⟨_,List.getElem?_eq_getElem hlt⟩
   obtain ⟨blk,off,h1,h2,e,⟨p1,k1,e1⟩,⟨p2,k2,e2⟩,hal⟩:=H.out.always hx
   subst e
   subst e1
   subst e2
   obtain ⟨c1,c2,_⟩:=hal wr HG.out.below
   have HN2:Hid (samplesB (b.take (i+1))=N+s.2.length):=by show _=_;rw [samplesB_next hx,HN.out]
   have hsum:(N:Int)+(s.2.length:Int)≤1000000000:=by have:=HN2.out;have:=samplesB_take_le b (i+1);have:=HS.out;omega
   have HG2:Hid (Grw w (wr.alloc (.cells #[.slice p1 s.1.length k1,.slice p2 s.2.length k2] 51))):=HG.out.alloc _
   clear hx hal HG
   generalize s.2.length=m at *
   go_wp2_with fail
   go_round
   case rel=>exact ⟨i+1,N+m,by omega,by go_num,by go_num,HN2.out,HG2.out⟩
   case measure=>simp [intOf];omega
  ·have hlt':¬(i:Int)<(b.length:Int):=by omega
   have HE:Hid (samplesB b=N):=by have:=HN.out;rw [List.take_of_length_le (by omega)] at this;exact this
   go_wp2_with fail
   go_ret
   exact ⟨by rw [HE.out];rfl,HG.out⟩
theorem modLarge_any (bv:Value) (b:List Ser) (w:World) (h:RdB w bv b) (hs:Mid b) :
  Calls Tryz.prog 57 #[bv] w fun e w'=>e = .returned (.bool false)∧Grw w w':=by
 have HS:=Lib.hid (modSamples_any bv b w h (by have:=hs.len;omega) (by have:=hs.sam;omega))
 obtain ⟨p,c,hv⟩:=h.shape
 subst hv
 have h1:¬(1048576:Int)<(b.length:Int):=by have:=hs.len;omega
 have h2:¬(16777216:Int)<(samplesB b:Int):=by have:=hs.sam;omega
 clear h hs
 generalize samplesB b=N at *
 go_enter Tryz.func57,Tryz.ntmps57
 go_wp2_with fail
 refine HS.out.mono ?_
 rintro e w1 ⟨rfl,hG⟩
 have HG:=Lib.hid hG
 have hd:decide ((16777216:Int)<(N:Int))=false:=decide_eq_false (by omega)
 clear h2 hG HS
 go_wp2_with fail
 go_ret
 exact ⟨by simp,HG.out⟩
abbrev PartL:=FuncId × (Lab→ByteArray)
def partV (p:PartL):Value:=.func (.func p.1) #[] #[]
structure PartIs (p:PartL):Prop where
 enter:∀(args:Array Value) (w:World),(callFunc p.1 args).run Tryz.prog w = .ok (.enter p.1 args) w
 gives:∀(x:Lab) (w:World),Calls Tryz.prog p.1 #[labV x] w fun e w'=>e = .returned (.string (p.2 x))∧Grw w w'
def cmpBy (x y:Lab):List PartL→Int
 | []=>0
 | p::ps=>if ordS (p.2 x) (p.2 y)=0 then cmpBy x y ps else ordS (p.2 x) (p.2 y)
theorem cmpBy_step {x y:Lab} {ps:List PartL} {i:Nat} {p:PartL} (hp:ps[i]? = some p) (h:cmpBy x y ps=cmpBy x y (ps.drop i)) :
  cmpBy x y ps=if ordS (p.2 x) (p.2 y)=0 then cmpBy x y (ps.drop (i+1)) else ordS (p.2 x) (p.2 y):=by
 have h1:ps.drop i=p::ps.drop (i+1):=by rw [List.drop_eq_getElem_cons (List.getElem?_eq_some_iff.1 hp).1,(List.getElem?_eq_some_iff.1 hp).2]
 rw [h,h1];rfl
set_option maxHeartbeats 4000000 in
theorem compareBy_any (ps:List PartL) (hps:∀p∈ps,PartIs p) (hn:ps.length≤1000) (x y:Lab) (v:Value) (w:World) (hv:Rd w 1 v ps.length (ps.map partV)) :
  Calls Tryz.prog 173 #[labV x,labV y,v] w fun e w'=>e = .returned (.int .i64 (cmpBy x y ps))∧Grw w w':=by
 have HV:=Lib.hid hv;have HP:=Lib.hid hps
 obtain ⟨q,c,e⟩:=hv.shape
 subst e
 obtain ⟨xn,xv⟩:=x
 obtain ⟨yn,yv⟩:=y
 have hmx:(ps.length:Int)≤1000:=by omega
 clear hv hps hn
 show Calls Tryz.prog 173 #[.agg #[.string xn,.string xv],.agg #[.string yn,.string yv],.slice q ps.length c] w _
 have HW:Hid (∃w2,w2=(w.alloc (.cells #[.string xn,.string xv] 108)).alloc (.cells #[.string yn,.string yv] 108)):=⟨_,rfl⟩
 have HG2:Hid (Grw w ((w.alloc (.cells #[.string xn,.string xv] 108)).alloc (.cells #[.string yn,.string yv] 108))):=((Grw.refl w).alloc _).alloc _
 have HX2:Hid (Blk ((w.alloc (.cells #[.string xn,.string xv] 108)).alloc (.cells #[.string yn,.string yv] 108)) w.heap.size [.string xn,.string xv]):=(Blk.new w _ _).alloc _
 have HY2:Hid (Blk ((w.alloc (.cells #[.string xn,.string xv] 108)).alloc (.cells #[.string yn,.string yv] 108)) (w.heap.size+1) [.string yn,.string yv]):=by
  have h:=Blk.new (w.alloc (.cells #[.string xn,.string xv] 108)) #[.string yn,.string yv] 108
  have hs:(w.alloc (.cells #[.string xn,.string xv] 108)).heap.size=w.heap.size+1:=by simp
  rwa [hs] at h
 go_enter Tryz.func173,Tryz.ntmps173
 go_wp2_with fail
 generalize (w.alloc (.cells #[.string xn,.string xv] 108)).alloc (.cells #[.string yn,.string yv] 108)=w2 at *
 clear HW
 go_loopw [12] (fun iv wr=>∃(i:Nat),i≤ps.length∧iv = .int .i64 (i:Int)∧Hid (cmpBy (xn,xv) (yn,yv) ps=cmpBy (xn,xv) (yn,yv) (ps.drop i))∧Hid (Grw w2 wr)) (fun iv _=>ps.length-(intOf iv).toNat)
 case atStart=>exact ⟨0,Nat.zero_le _,rfl,rfl,Grw.refl _⟩
 case round=>
  obtain ⟨i,hi,rfl,HC,HG⟩:=hrel
  by_cases hlt:i<ps.length
  ·have hlt':(i:Int)<(ps.length:Int):=by omega
   have him:(i:Int)≤1000:=by omega
   obtain ⟨⟨f,g⟩,hp⟩:∃p,ps[i]? = some p:=⟨_,List.getElem?_eq_getElem hlt⟩
   obtain ⟨b,off,c2,e,_,_,hc⟩:=(HV.out.below (HG2.out.trans HG.out).below).at (fun e=>by have:=congrArg List.length e;simp at this;rw [this] at hlt;simp at hlt)
   simp only [Value.slice.injEq] at e
   obtain ⟨rfl,_,rfl⟩:=e
   have c0:wr.cell? ⟨b,off+i,none⟩=some (.func (.func f) #[] #[]):=hc i _ (by rw [List.getElem?_map,hp];rfl)
   have HPi:=Lib.hid (HP.out _ (List.mem_of_getElem? hp))
   have hcf:=HPi.out.enter
   have HSt:=Lib.hid (cmpBy_step hp HC.out)
   clear hp HC hc
   have HG3:Hid (Grw w2 (wr.alloc (.cells #[.func (.func f) #[] #[]] 236))):=HG.out.alloc _
   have HK3:Hid (Blk (wr.alloc (.cells #[.func (.func f) #[] #[]] 236)) wr.heap.size [.func (.func f) #[] #[]]):=Blk.new wr _ _
   go_wp2_with fail
   clear c0 HG
   generalize wr.heap.size=h8 at *
   generalize wr.alloc (.cells #[.func (.func f) #[] #[]] 236)=w3 at *
   have HX3:=Lib.hid (HG3.out.blk HX2.out)
   have HY3:=Lib.hid (HG3.out.blk HY2.out)
   have p0:∀n os,(Go.Sort.grow (w3.drewN n) os).cell? ⟨h8,0,none⟩=some (.func (.func f) #[] #[]):=fun n os=>cell_grown HK3.out.lt (HK3.out.cell 0) n os
   have x0:∀n os,(Go.Sort.grow (w3.drewN n) os).cell? ⟨w.heap.size,0,none⟩=some (.string xn):=fun n os=>cell_grown HX3.out.lt (HX3.out.cell 0) n os
   have x1:∀n os,(Go.Sort.grow (w3.drewN n) os).cell? ⟨w.heap.size,1,none⟩=some (.string xv):=fun n os=>cell_grown HX3.out.lt (HX3.out.cell 1) n os
   have y0:∀n os,(Go.Sort.grow (w3.drewN n) os).cell? ⟨w.heap.size+1,0,none⟩=some (.string yn):=fun n os=>cell_grown HY3.out.lt (HY3.out.cell 0) n os
   have y1:∀n os,(Go.Sort.grow (w3.drewN n) os).cell? ⟨w.heap.size+1,1,none⟩=some (.string yv):=fun n os=>cell_grown HY3.out.lt (HY3.out.cell 1) n os
   have hcx:∀n os,Calls Tryz.prog f #[.agg #[.string xn,.string xv]] (Go.Sort.grow (w3.drewN n) os) fun e w'=>e = .returned (.string (g (xn,xv)))∧∃q os',w'=Go.Sort.grow ((Go.Sort.grow (w3.drewN n) os).drewN q) os':=fun n os=>HPi.out.gives (xn,xv) _
   have hcy:∀n os,Calls Tryz.prog f #[.agg #[.string yn,.string yv]] (Go.Sort.grow (w3.drewN n) os) fun e w'=>e = .returned (.string (g (yn,yv)))∧∃q os',w'=Go.Sort.grow ((Go.Sort.grow (w3.drewN n) os).drewN q) os':=fun n os=>HPi.out.gives (yn,yv) _
   have HXC:=Lib.hid hcx
   have HYC:=Lib.hid hcy
   clear hcx hcy HPi HX3 HY3 HK3
   generalize g (xn,xv)=sx at *
   generalize g (yn,yv)=sy at *
   have HS:Hid (∀n os,Calls Tryz.prog 149 #[.string sx,.string sy] (Go.Sort.grow (w3.drewN n) os) fun e w'=>e = .returned (.int .i64 (ordS sx sy))∧∃q os',w'=Go.Sort.grow ((Go.Sort.grow (w3.drewN n) os).drewN q) os'):=fun n os=>(strCompare_any sx sy _).mono fun e w' ⟨h1,h2⟩=>⟨h1,Grw.refl _ |> fun h=>by rw [h2];exact h⟩
   generalize ordS sx sy=o at *
   have mixed : Tryz.prog.follows .mixedOrders=true:=by kernel_rfl
   go_quiet_grown (first | (go_at_call 149;exact Calls.grown_of (HS.out _ _)) | (go_at_fn f;exact Calls.grown_of (HXC.out _ _)) | (go_at_fn f;exact Calls.grown_of (HYC.out _ _)))
   have HG4:Hid (Grw w2 (Go.Sort.grow (w3.drewN nq) osq)):=HG3.out.grow nq osq
   clear p0 x0 x1 y0 y1 HXC HYC HS HG3 hcf mixed
   show Exit.then _ _ _ _ (Go.Sort.grow (w3.drewN nq) osq)
   generalize Go.Sort.grow (w3.drewN nq) osq=w4 at *
   by_cases ho:o=0
   ·subst ho
    rw [if_pos rfl] at HSt
    go_wp2_with fail
    go_round
    case rel=>exact ⟨i+1,by omega,by go_num,HSt.out,HG4.out⟩
    case measure=>simp [intOf];omega
   ·have hob:(o == 0)=false:=by rw [beq_eq_false_iff_ne];exact ho
    rw [if_neg ho] at HSt
    go_wp2_with fail
    go_ret
    exact ⟨by rw [HSt.out];rfl,HG2.out.trans HG4.out⟩
  ·have hlt':¬(i:Int)<(ps.length:Int):=by omega
   have HE:Hid (cmpBy (xn,xv) (yn,yv) ps=0):=by
    show _=_
    rw [HC.out,List.drop_of_length_le (by omega)]
    rfl
   go_wp2_with fail
   go_ret
   exact ⟨by rw [HE.out];rfl,HG2.out.trans HG.out⟩
def nameP:PartL:=(174,fun x=>x.1)
def valueP:PartL:=(176,fun x=>x.2)
theorem nameP_is:PartIs nameP:=⟨fun _ _=>rfl,nameOf_any⟩
theorem valueP_is:PartIs valueP:=⟨fun _ _=>rfl,valueOf_any⟩
theorem cmpBy_name (x y:Lab):cmpBy x y [nameP]=ordS x.1 y.1:=by
 show (if ordS x.1 y.1=0 then 0 else ordS x.1 y.1)=_
 split
 ·next h=>exact h.symm
 ·rfl
theorem cmpBy_both (x y:Lab):cmpBy x y [nameP,valueP]=cmpLab x y:=by
 show (if ordS x.1 y.1=0 then (if ordS x.2 y.2=0 then 0 else ordS x.2 y.2) else ordS x.1 y.1)=cmpLab x y
 unfold cmpLab cmpP
 split
 ·split
  ·next h=>exact h.symm
  ·rfl
 ·rfl
set_option maxHeartbeats 2000000 in
theorem compareNames_any (x y:Lab) (w:World) :
  Calls Tryz.prog 127 #[labV x,labV y] w fun e w'=>e = .returned (.int .i64 (ordS x.1 y.1))∧Grw w w':=by
 obtain ⟨xn,xv⟩:=x
 obtain ⟨yn,yv⟩:=y
 obtain ⟨w1,hw1⟩:∃w1,w1=w.alloc (.cells #[.string xn,.string xv] 108):=⟨_,rfl⟩
 obtain ⟨w2,hw2⟩:∃w2,w2=w1.alloc (.cells #[.string yn,.string yv] 108):=⟨_,rfl⟩
 obtain ⟨w3,hw3⟩:∃w3,w3=w2.alloc (.cells #[.func (.func 174) #[] #[]] 236):=⟨_,rfl⟩
 have HG:Hid (Grw w w3):=by show Grw _ _;rw [hw3,hw2,hw1];exact (((Grw.refl w).alloc _).alloc _).alloc _
 have HK:Hid (Blk w3 w2.heap.size [.func (.func 174) #[] #[]]):=by show Blk _ _ _;rw [hw3];exact Blk.new w2 _ _
 have HC:=Lib.hid (compareBy_any [nameP] (by intro p hp;simp at hp;subst hp;exact nameP_is) (by simp) (xn,xv) (yn,yv) _ w3 (Rd.of_blk (n:=1) HK.out rfl (by decide)))
 have HE:=Lib.hid (cmpBy_name (xn,xv) (yn,yv))
 have HW:Hid (w3=((w.alloc (.cells #[.string xn,.string xv] 108)).alloc (.cells #[.string yn,.string yv] 108)).alloc (.cells #[.func (.func 174) #[] #[]] 236)):=by show _=_;rw [hw3,hw2,hw1]
 have HS:Hid (w2.heap.size=w.heap.size+1+1):=by show _=_;rw [hw2,hw1];simp
 clear hw1 hw2 hw3 HK
 rw [HS.out] at HC
 clear HS
 show Calls Tryz.prog 127 #[.agg #[.string xn,.string xv],.agg #[.string yn,.string yv]] w _
 go_enter Tryz.func127,Tryz.ntmps127
 go_wp2_with fail
 rw [← HW.out]
 refine HC.out.mono ?_
 rintro e w4 ⟨rfl,hG⟩
 have HG4:=Lib.hid (HG.out.trans hG)
 clear hG HC HG HW
 rw [HE.out]
 clear HE
 go_wp2_with fail
 go_ret
 exact ⟨rfl,HG4.out⟩
set_option maxHeartbeats 2000000 in
theorem compareLabels_any (x y:Lab) (w:World) :
  Calls Tryz.prog 130 #[labV x,labV y] w fun e w'=>e = .returned (.int .i64 (cmpLab x y))∧Grw w w':=by
 obtain ⟨xn,xv⟩:=x
 obtain ⟨yn,yv⟩:=y
 obtain ⟨w1,hw1⟩:∃w1,w1=w.alloc (.cells #[.string xn,.string xv] 108):=⟨_,rfl⟩
 obtain ⟨w2,hw2⟩:∃w2,w2=w1.alloc (.cells #[.string yn,.string yv] 108):=⟨_,rfl⟩
 obtain ⟨w3,hw3⟩:∃w3,w3=w2.alloc (.cells #[.func (.func 174) #[] #[],.func (.func 176) #[] #[]] 236):=⟨_,rfl⟩
 have HG:Hid (Grw w w3):=by show Grw _ _;rw [hw3,hw2,hw1];exact (((Grw.refl w).alloc _).alloc _).alloc _
 have HK:Hid (Blk w3 w2.heap.size [.func (.func 174) #[] #[],.func (.func 176) #[] #[]]):=by show Blk _ _ _;rw [hw3];exact Blk.new w2 _ _
 have HC:=Lib.hid (compareBy_any [nameP,valueP] (by intro p hp;simp at hp;rcases hp with rfl | rfl<;>first | exact nameP_is | exact valueP_is) (by simp) (xn,xv) (yn,yv) _ w3 (Rd.of_blk (n:=2) HK.out rfl (by decide)))
 have HE:=Lib.hid (cmpBy_both (xn,xv) (yn,yv))
 have HW:Hid (w3=((w.alloc (.cells #[.string xn,.string xv] 108)).alloc (.cells #[.string yn,.string yv] 108)).alloc (.cells #[.func (.func 174) #[] #[],.func (.func 176) #[] #[]] 236)):=by show _=_;rw [hw3,hw2,hw1]
 have HS:Hid (w2.heap.size=w.heap.size+1+1):=by show _=_;rw [hw2,hw1];simp
 clear hw1 hw2 hw3 HK
 rw [HS.out] at HC
 clear HS
 show Calls Tryz.prog 130 #[.agg #[.string xn,.string xv],.agg #[.string yn,.string yv]] w _
 go_enter Tryz.func130,Tryz.ntmps130
 go_wp2_with fail
 rw [← HW.out]
 refine HC.out.mono ?_
 rintro e w4 ⟨rfl,hG⟩
 have HG4:=Lib.hid (HG.out.trans hG)
 clear hG HC HG HW
 rw [HE.out]
 clear HE
 go_wp2_with fail
 go_ret
 exact ⟨rfl,HG4.out⟩
end Go.Proofs.YtdcgbgecbeegmaaGreatDoor
end
