/- EncodeDiffers holds for every two lists of series. Condition: the three package variables that the statement lists (math/bits.deBruijn64tab, times.forms, crc.fourShifts) read as their initialisers lay them; the card ties that to the program's text. -/
import Derived.Test.YtdcgbgecbeegmaaGreatDoorMgD8
import Derived.Test.YtdcgbgecbeegmaaGreatDoorMgD24
import Derived.Test.YtdcgbgecbeegmaaGreatDoorRows
import Derived.Test.YtdcgbgecbeegmaaGreatDoorCards
import Derived.Test.YtdcgbgecbeegmaaGreatDoorTie
import Derived.ChangeVars
import Derived.RowKit
import Derived.JoinedOf
import Derived.SevenTiedAt
import Derived.Test.YtdcgbgecbeegmaaGreatDoorMgD4
namespace Go.Proofs.YtdcgbgecbeegmaaGreatDoor.encodeDiffers
open Go Go.ChangeShapes Go.WideShapes Go.ChangeAt Go.RowKit
open Go.ChangeMaps (open_string shut_string)
set_option linter.unusedVariables false
theorem met (w:World) (hT:T17 w) (v0:Value) (b0:List Ser) (sz0:Sized b0) (rb0:RdB w v0 b0) (v1:Value) (b1:List Ser) (sz1:Sized b1) (rb1:RdB w v1 b1) :
  Calls Tryz.prog 8 #[v0,v1] w fun e w'=>e = .returned (.bool true)∧Below w.heap.size w w':=by
 exact walk encodeMet (alive_of17 encodeMet) w hT v0 b0 sz0 rb0 v1 b1 sz1 rb1
theorem own:ownKnob Tryz.prog.godebug=none:=by kernel_rfl
theorem laidOut:laidOutB Tryz.prog=true:=by kernel_rfl
set_option maxRecDepth 100000 in
theorem lifted (os:Os) (started:os.Started) (H:Type) (enc:TypeId × Value→H) :
  ReturnsInHanded {} Tryz.checked os 8 .any (fun w args=>(Rows.encodeDiffersSpec.pre enc Tryz.prog Tryz.f8 [] false w args∧laidMetH Tryz.prog Rows.encodeDiffersRow.laid w)∧sizedMet enc Tryz.prog Tryz.f8 (OpenSpec.ofChange Rows.encodeDiffersSpec) false w args)
   (Rows.encodeDiffersSpec.post enc Tryz.prog Tryz.f8 false true false false):=by
 refine returnsInHanded_of_change_and (C:=Tryz.checked) (X:=fun w _=>laidMetH Tryz.prog Rows.encodeDiffersRow.laid w) (fun _ _ _ hh h=>h.of_heap hh) own started (by kernel_rfl) Tryz.func8
  (ChangeSpec.witness_shaped (enc:=enc) (C:=Tryz.checked) (os:=os) (X:=fun w _=>laidMetH Tryz.prog Rows.encodeDiffersRow.laid w) false (World.laidAll Tryz.prog os listed) #[.slice none 0 0,.slice none 0 0] 8 (World.laidAll_os _ _ _) (start_shaped os _) (by kernel_rfl) (by kernel_rfl) (by kernel_rfl) (start_met os _)) ?_
 intro W base args ds gs before hval0 hW _ hsz0 hL _
 have hT:=tab_of_laid hL
 have hval:∀(j:Nat) t v,Tryz.f8.params[j]? = some t→args[j]? = some v→Value.okWide Tryz.prog W .any base t v:=hval0
 have hsz:(DataW.weightsEach Tryz.prog (Tryz.f8.params.toList++Rows.encodeDiffersSpec.plain.varTypes Tryz.prog) (ds++gs)).all (·≤reachBytes)=true:=hsz0
 have hW':=hW
 obtain ⟨p,q,hA0,hV,rfl,hfz,hnd⟩:=hW
 have hA:DataW.TrodAll enc Tryz.prog W 0 (fun _=>true) true Tryz.f8.params.toList args.toList ds p:=hA0
 rw [Tryz.params8] at hA hval hsz
 obtain ⟨v0,vs0,d0,ds0,p0,q0,hargs,rfl,rfl,h0,r0⟩:=trodAll_cons hA
 obtain ⟨v1,vs1,d1,ds1,p1,q1,rfl,rfl,rfl,h1,r1⟩:=trodAll_cons r0
 obtain ⟨rfl,rfl,rfl⟩:=trodAll_nil r1
 obtain rfl:args = #[v0,v1]:=by cases args;simp_all
 obtain ⟨rfl,rfl⟩:=trodVars_none hV
 have k0:=h0
 have lt0:∀x∈p0,x.block<W.heap.size:=by obtain ⟨m,hm⟩:=k0;exact DataW.trod_lt m _ _ _ hm
 obtain ⟨ad0,len0,cap0,sh0⟩:=okWide_slice Tryz.underlying22 (hval 0 22 v0 rfl rfl)
 obtain ⟨l0,ok0,_,rd0,_⟩:=open_flatW (by decide) flat_ser Tryz.underlying22 sh0 h0
 obtain ⟨b0,sz0,rb0⟩:=series_in ok0 rd0
 clear sh0 ok0 rd0
 have k1:=h1
 have lt1:∀x∈p1,x.block<W.heap.size:=by obtain ⟨m,hm⟩:=k1;exact DataW.trod_lt m _ _ _ hm
 obtain ⟨ad1,len1,cap1,sh1⟩:=okWide_slice Tryz.underlying22 (hval 1 22 v1 rfl rfl)
 obtain ⟨l1,ok1,_,rd1,_⟩:=open_flatW (by decide) flat_ser Tryz.underlying22 sh1 h1
 obtain ⟨b1,sz1,rb1⟩:=series_in ok1 rd1
 clear sh1 ok1 rd1
 clear hA0 hval0
 refine (met W hT v0 b0 sz0 rb0 v1 b1 sz1 rb1).mono fun e W' ⟨he,bel⟩=>?_
 subst he
 exact ⟨_,rfl,_,_,_,[],_,[],hW',trodAll_mk1 (shut_bool Tryz.underlying4 _),(trodAll_cons_mk (Below.trod laidOut (by kernel_rfl) (of_decide_eq_true (by kernel_rfl)) k0 bel lt0) (trodAll_cons_mk (Below.trod laidOut (by kernel_rfl) (of_decide_eq_true (by kernel_rfl)) k1 bel lt1) trodAll_mk0)),rfl,bel.frame _,fun h=>by cases h⟩
theorem band {a b:Bool} (h:a=true) (k:b=true):(a&&b)=true:=by rw [h,k];rfl
set_option maxRecDepth 100000 in
theorem clos : Tryz.prog.closure 8 = [8, 9, 24, 47, 50, 15, 29, 68, 30, 69, 31, 32, 70, 10, 11, 14, 27, 57, 89, 58, 90, 126, 127, 174, 173, 149, 207, 247, 91, 92, 128, 175, 59, 60, 93, 129, 130, 176, 28, 61, 94, 95, 133, 179, 132, 177, 222, 178, 122, 168, 169, 223, 260, 197, 243, 261, 289, 262, 218, 219, 263, 290, 291, 300, 264, 265, 266, 267, 131, 62, 96, 97, 134, 135, 180, 139, 184, 227, 269, 292, 293, 272, 270, 228, 229, 185, 137, 181, 224, 230, 271, 186, 231, 273, 274, 232, 275, 294, 187, 233, 276, 277, 188, 189, 234, 278, 279, 235, 280, 190, 236, 281, 295, 301, 296, 309, 302, 310, 303, 304, 311, 312, 313, 305, 306, 307, 308, 237, 191, 238, 239, 282, 297, 192, 240, 241, 283, 298, 136, 138, 182, 225, 183, 226, 268, 140, 193, 98, 141, 142, 194, 242, 195, 63, 99, 143, 100, 101, 144, 196, 86, 123, 170, 102, 64, 103, 105, 146, 198, 104, 145, 67, 66, 107, 147, 199, 200, 244, 201, 202, 245, 246, 284, 203, 204, 205, 206, 108, 109, 148, 65, 106, 25, 51, 85, 53, 87, 124, 171, 52, 18, 39, 81, 118, 157, 158, 208, 248, 249, 285, 250, 251, 286, 287, 299, 252, 253, 254, 255, 119, 120, 159, 209, 210, 256, 211, 212, 257, 258, 288, 213, 214, 215, 216, 82, 121, 160, 161, 217, 162, 163, 220, 221, 259, 164, 165, 166, 167, 13, 23, 49]:=by kernel_rfl
theorem cInPlace:(Rows.encodeDiffersRow.inPlace == Tryz.prog.inPlace 8)=true:=by unfold Program.inPlace;rw [clos];kernel_rfl
theorem cUnfollowed : Tryz.prog.unfollowed 8 = true:=by unfold Program.unfollowed;rw [clos];kernel_rfl
theorem cUnf:(Rows.encodeDiffersRow.unfollowed == Tryz.prog.unfollowed 8)=true:=by rw [cUnfollowed];rfl
theorem cRec:(Rows.encodeDiffersRow.recurses == Tryz.prog.recurses 8)=true:=by unfold Program.recurses;rw [cUnfollowed];rfl
theorem cNamed:(Rows.encodeDiffersRow.named == Tryz.prog.varsNamed 8)=true:=by unfold Program.varsNamed;rw [clos];kernel_rfl
theorem cRowed:mapsRowed Tryz.prog=true:=by kernel_rfl
theorem cPlain:(Rows.encodeDiffersRow.plainKeys == Tryz.prog.plainKeys)=true:=by kernel_rfl
theorem closed:joinedFacts Tryz.prog 8 Tryz.f8 Rows.encodeDiffersSpec Rows.encodeDiffersRow=true:=by
 unfold joinedFacts
 repeat' (with_reducible refine band ?_ ?_)
 all_goals first
  | with_reducible exact cInPlace
  | with_reducible exact cUnf
  | with_reducible exact cRec
  | with_reducible exact cNamed
  | with_reducible exact laidOut
  | with_reducible exact cRowed
  | with_reducible exact cPlain
  | kernel_rfl
theorem cFn : Tryz.prog.funcNamed "tsblock/tsblocklaw17.EncodeDiffers" = some 8:=by kernel_rfl
theorem over:Rows.encodeDiffersRow.holds Tryz.pinned (OpenSpec.ofChange Rows.encodeDiffersSpec):=
 OpenClaim.holds_of_wide 8 Tryz.f8 rfl rfl rfl rfl rfl rfl rfl ⟨rfl,rfl,rfl,rfl,rfl⟩ rfl rfl rfl rfl rfl cFn Tryz.func8 closed
  (of_decide_eq_true (by kernel_rfl)) (by unfold Func.isWrapper;first | (rw [if_pos (by decide +kernel)];kernel_rfl) | (rw [if_neg (by decide +kernel)];exact ⟨rfl,rfl⟩))
  (fun os started H enc _=>lifted os started H enc)
theorem proved:Rows.EncodeDiffersCardSaid:=
 Claim7.holds_tied_plain_at .later [] Rows.encodeDiffersCard.laidKinds true Rows.encodeDiffersCard.stood.harness false
  over (fun _ h=>by cases h) (by kernel_rfl) (fun _ h=>by cases h) encodeDiffers_row_tie rfl ⟨rfl,rfl⟩ (by kernel_rfl) rfl
  (fun f fn hf hfn=>by
   obtain rfl:f = 8:=Option.some.inj ((show Tryz.prog.funcNamed "tsblock/tsblocklaw17.EncodeDiffers" = some 8 by kernel_rfl).symm.trans hf) |>.symm
   obtain rfl:fn = Tryz.f8:=(Option.some.inj (Tryz.func8.symm.trans hfn)).symm
   exact ⟨by kernel_rfl,fun j t ht=>by
    rw [Tryz.params8] at ht
    have hm:t∈[22,22]:=by simpa using Array.mem_of_getElem? ht
    have hall:([22,22].all fun u=>!Tryz.prog.wantsStandIn u)=true:=by kernel_rfl
    exact (show Tryz.prog.wantsStandIn t=false by simpa using List.all_eq_true.1 hall t hm)⟩)
  (by kernel_rfl)
end Go.Proofs.YtdcgbgecbeegmaaGreatDoor.encodeDiffers
