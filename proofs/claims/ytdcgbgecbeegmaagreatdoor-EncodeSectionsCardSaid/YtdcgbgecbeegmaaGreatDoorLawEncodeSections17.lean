/- EncodeSections holds for every list of series. Condition: the three package variables that the statement lists (math/bits.deBruijn64tab, times.forms, crc.fourShifts) read as their initialisers lay them; the card ties that to the program's text. -/
import Derived.Test.YtdcgbgecbeegmaaGreatDoorMgSA
import Derived.Test.YtdcgbgecbeegmaaGreatDoorMgS33
import Derived.Test.YtdcgbgecbeegmaaGreatDoorMgS44
import Derived.Test.YtdcgbgecbeegmaaGreatDoorMgS49
import Derived.Test.YtdcgbgecbeegmaaGreatDoorRows
import Derived.Test.YtdcgbgecbeegmaaGreatDoorCards
import Derived.Test.YtdcgbgecbeegmaaGreatDoorTie
import Derived.ChangeVars
import Derived.RowKit
import Derived.JoinedOf
import Derived.SevenTiedAt
import Derived.Test.YtdcgbgecbeegmaaGreatDoorMgS14
namespace Go.Proofs.YtdcgbgecbeegmaaGreatDoor.encodeSections
open Go Go.ChangeShapes Go.WideShapes Go.ChangeAt Go.RowKit
open Go.ChangeMaps (open_string shut_string)
set_option linter.unusedVariables false
theorem met (w:World) (hT:fW w) (v0:Value) (b0:List AJ) (sz0:Du b0) (rb0:FU w v0 b0) :
  Calls Tryz.prog 4 #[v0] w fun e w'=>e = .returned (.bool true)∧Below w.heap.size w w':=by
 exact walk Vp (cD Vp) w hT v0 b0 sz0 rb0
theorem own:ownKnob Tryz.prog.godebug=none:=by kernel_rfl
theorem gJ:laidOutB Tryz.prog=true:=by kernel_rfl
set_option maxRecDepth 100000 in
theorem lifted (os:Os) (started:os.Started) (H:Type) (enc:TypeId × Value→H) :
  ReturnsInHanded {} Tryz.checked os 4 .any (fun w args=>(Rows.encodeSectionsSpec.pre enc Tryz.prog Tryz.f4 [] false w args∧laidMetH Tryz.prog Rows.encodeSectionsRow.laid w)∧sizedMet enc Tryz.prog Tryz.f4 (OpenSpec.ofChange Rows.encodeSectionsSpec) false w args)
   (Rows.encodeSectionsSpec.post enc Tryz.prog Tryz.f4 false true false false):=by
 refine returnsInHanded_of_change_and (C:=Tryz.checked) (X:=fun w _=>laidMetH Tryz.prog Rows.encodeSectionsRow.laid w) (fun _ _ _ hh h=>h.of_heap hh) own started (by kernel_rfl) Tryz.func4
  (ChangeSpec.witness_shaped (enc:=enc) (C:=Tryz.checked) (os:=os) (X:=fun w _=>laidMetH Tryz.prog Rows.encodeSectionsRow.laid w) false (World.laidAll Tryz.prog os listed) #[.slice none 0 0] 8 (World.laidAll_os _ _ _) (X1 os _) (by kernel_rfl) (by kernel_rfl) (by kernel_rfl) (kE os _)) ?_
 intro W base args ds gs before uQ hW _ hsz0 hL _
 have hT:=bo hL
 have hval:∀(j:Nat) t v,Tryz.f4.params[j]? = some t→args[j]? = some v→Value.okWide Tryz.prog W .any base t v:=uQ
 have Ed:(DataW.weightsEach Tryz.prog (Tryz.f4.params.toList++Rows.encodeSectionsSpec.plain.varTypes Tryz.prog) (ds++gs)).all (·≤reachBytes)=true:=hsz0
 have hW':=hW
 obtain ⟨p,q,hA0,hV,rfl,hfz,qV⟩:=hW
 have hA:DataW.TrodAll enc Tryz.prog W 0 (fun _=>true) true Tryz.f4.params.toList args.toList ds p:=hA0
 rw [Tryz.params4] at hA hval Ed
 obtain ⟨v0,vs0,d0,ds0,p0,q0,hargs,rfl,rfl,h0,r0⟩:=trodAll_cons hA
 obtain ⟨rfl,rfl,rfl⟩:=trodAll_nil r0
 obtain rfl:args = #[v0]:=by cases args;simp_all
 obtain ⟨rfl,rfl⟩:=trodVars_none hV
 have k0:=h0
 have lt0:∀x∈p0,x.block<W.heap.size:=by obtain ⟨m,hm⟩:=k0;exact DataW.trod_lt m _ _ _ hm
 obtain ⟨ad0,len0,cap0,sh0⟩:=okWide_slice Tryz.underlying22 (hval 0 22 v0 rfl rfl)
 obtain ⟨l0,ok0,_,rd0,_⟩:=ef (by decide) mS Tryz.underlying22 sh0 h0
 obtain ⟨b0,sz0,rb0⟩:=ks ok0 rd0
 clear sh0 ok0 rd0
 clear hA0 uQ
 refine (met W hT v0 b0 sz0 rb0).mono fun e W' ⟨he,AA⟩=>?_
 subst he
 exact ⟨_,rfl,_,_,_,[],_,[],hW',trodAll_mk1 (shut_bool Tryz.underlying4 _),(trodAll_cons_mk (Below.trod gJ (by kernel_rfl) (zGY (by kernel_rfl)) k0 AA lt0) trodAll_mk0),rfl,AA.frame _,fun h=>by cases h⟩
theorem band {a b:Bool} (h:a=true) (k:b=true):(a&&b)=true:=by rw [h,k];rfl
set_option maxRecDepth 100000 in
theorem clos : Tryz.prog.closure 4 = [4, 9, 24, 47, 50, 10, 11, 14, 27, 57, 89, 58, 90, 126, 127, 174, 173, 149, 207, 247, 91, 92, 128, 175, 59, 60, 93, 129, 130, 176, 28, 61, 94, 95, 133, 179, 132, 177, 222, 178, 122, 168, 169, 223, 260, 197, 243, 261, 289, 262, 218, 219, 263, 290, 291, 300, 264, 265, 266, 267, 131, 62, 96, 97, 134, 135, 180, 139, 184, 227, 269, 292, 293, 272, 270, 228, 229, 185, 137, 181, 224, 230, 271, 186, 231, 273, 274, 232, 275, 294, 187, 233, 276, 277, 188, 189, 234, 278, 279, 235, 280, 190, 236, 281, 295, 301, 296, 309, 302, 310, 303, 304, 311, 312, 313, 305, 306, 307, 308, 237, 191, 238, 239, 282, 297, 192, 240, 241, 283, 298, 136, 138, 182, 225, 183, 226, 268, 140, 193, 98, 141, 142, 194, 242, 195, 63, 99, 143, 100, 101, 144, 196, 86, 123, 170, 102, 64, 103, 105, 146, 198, 104, 145, 67, 66, 107, 147, 199, 200, 244, 201, 202, 245, 246, 284, 203, 204, 205, 206, 108, 109, 148, 65, 106, 25, 51, 85, 53, 87, 124, 171, 52, 18, 39, 81, 118, 157, 158, 208, 248, 249, 285, 250, 251, 286, 287, 299, 252, 253, 254, 255, 119, 120, 159, 209, 210, 256, 211, 212, 257, 258, 288, 213, 214, 215, 216, 82, 121, 160, 161, 217, 162, 163, 220, 221, 259, 164, 165, 166, 167, 13, 15, 29, 68, 30, 69, 31, 32, 70, 16, 17, 21, 48, 33, 71, 72, 110, 73, 111, 114, 150, 151, 112, 152, 113, 153, 154, 155, 74, 115, 75, 34, 76, 77, 35, 78, 79, 38, 37, 80, 116, 117, 156, 36]:=by kernel_rfl
theorem mt:(Rows.encodeSectionsRow.inPlace == Tryz.prog.inPlace 4)=true:=by unfold Program.inPlace;rw [clos];kernel_rfl
theorem Qy : Tryz.prog.unfollowed 4 = true:=by unfold Program.unfollowed;rw [clos];kernel_rfl
theorem cUnf:(Rows.encodeSectionsRow.unfollowed == Tryz.prog.unfollowed 4)=true:=by rw [Qy];rfl
theorem cRec:(Rows.encodeSectionsRow.recurses == Tryz.prog.recurses 4)=true:=by unfold Program.recurses;rw [Qy];rfl
theorem wB:(Rows.encodeSectionsRow.named == Tryz.prog.varsNamed 4)=true:=by unfold Program.varsNamed;rw [clos];kernel_rfl
theorem wD:mapsRowed Tryz.prog=true:=by kernel_rfl
theorem wC:(Rows.encodeSectionsRow.plainKeys == Tryz.prog.plainKeys)=true:=by kernel_rfl
theorem closed:joinedFacts Tryz.prog 4 Tryz.f4 Rows.encodeSectionsSpec Rows.encodeSectionsRow=true:=by
 unfold joinedFacts
 repeat' (with_reducible refine band ?_ ?_)
 all_goals first
  | with_reducible exact mt
  | with_reducible exact cUnf
  | with_reducible exact cRec
  | with_reducible exact wB
  | with_reducible exact gJ
  | with_reducible exact wD
  | with_reducible exact wC
  | kernel_rfl
theorem cFn : Tryz.prog.funcNamed "tsblock/tsblocklaw17.EncodeSections" = some 4:=by kernel_rfl
theorem over:Rows.encodeSectionsRow.holds Tryz.pinned (OpenSpec.ofChange Rows.encodeSectionsSpec):=
 OpenClaim.holds_of_wide 4 Tryz.f4 rfl rfl rfl rfl rfl rfl rfl ⟨rfl,rfl,rfl,rfl,rfl⟩ rfl rfl rfl rfl rfl cFn Tryz.func4 closed
  (zGY (by kernel_rfl)) (by unfold Func.isWrapper;first | (rw [if_pos (by decide +kernel)];kernel_rfl) | (rw [if_neg (by decide +kernel)];exact ⟨rfl,rfl⟩))
  (fun os started H enc _=>lifted os started H enc)
theorem proved:Rows.EncodeSectionsCardSaid:=
 Claim7.holds_tied_plain_at .later [] Rows.encodeSectionsCard.laidKinds true Rows.encodeSectionsCard.stood.harness false
  over (fun _ h=>by cases h) (by kernel_rfl) (fun _ h=>by cases h) encodeSections_row_tie rfl ⟨rfl,rfl⟩ (by kernel_rfl) rfl
  (fun f fn hf hfn=>by
   obtain rfl:f = 4:=zDT ((show Tryz.prog.funcNamed "tsblock/tsblocklaw17.EncodeSections" = some 4 by kernel_rfl).symm.trans hf) |>.symm
   obtain rfl:fn = Tryz.f4:=(zDT (Tryz.func4.symm.trans hfn)).symm
   exact ⟨by kernel_rfl,fun j t ht=>by
    rw [Tryz.params4] at ht
    have hm:t∈[22]:=by simpa using Array.mem_of_getElem? ht
    have SC:([22].all fun u=>!Tryz.prog.wantsStandIn u)=true:=by kernel_rfl
    exact (show Tryz.prog.wantsStandIn t=false by simpa using List.all_eq_true.1 SC t hm)⟩)
  (by kernel_rfl)
end Go.Proofs.YtdcgbgecbeegmaaGreatDoor.encodeSections
