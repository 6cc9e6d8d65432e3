/- LayoutPrefixes holds for all bytes, every cut and all bytes after it. Condition: the program's one package variable reads as its initialiser lays it; the card ties that to the program's text. -/
import Derived.Test.YtlgphgipfjlbfaaDoorWalkLayoutPrefixes16
import Derived.Test.YtlgphgipfjlbfaaDoorMrg10
import Derived.Test.YtlgphgipfjlbfaaDoorMrg13
import Derived.Test.YtlgphgipfjlbfaaDoorRows
import Derived.Test.YtlgphgipfjlbfaaDoorCards
import Derived.Test.YtlgphgipfjlbfaaDoorTie
import Derived.ChangeVars
import Derived.RowKit
import Derived.SevenTiedAt
import Derived.Test.YtlgphgipfjlbfaaDoorMrg3
namespace Go.Proofs.YtlgphgipfjlbfaaDoor.layoutPrefixes
open Go Go.ChangeShapes Go.WideShapes Go.ChangeAt Go.RowKit
open Go.ChangeMaps (open_string shut_string)
set_option linter.unusedVariables false

theorem met (w : World) (hT : Tab w) (v0 : Value) (l0 : List Nat) (ok0 : ∀ a ∈ l0, a < 256) (hl0 : Rd w 1 v0 l0.length (u8s l0)) (hz0 : l0.length * 1 ≤ 140737488351232) (b1 : Nat) (u1 : b1 < 65536) (v2 : Value) (l2 : List Nat) (ok2 : ∀ a ∈ l2, a < 256) (hl2 : Rd w 1 v2 l2.length (u8s l2)) (hz2 : l2.length * 1 ≤ 140737488351232) :
    Calls Tryd.prog 7 #[v0, .int .u16 (b1 : Int), v2] w fun e w' => e = .returned (.bool true) ∧ Below w.heap.size w w' := by
  exact walk layoutMet (alive_of16 layoutMet) w hT v0 l0 ok0 hl0 hz0 b1 u1 v2 l2 ok2 hl2 hz2

theorem own : ownKnob Tryd.prog.godebug = none := by kernel_rfl
theorem laidOut : laidOutB Tryd.prog = true := by kernel_rfl

set_option maxRecDepth 100000 in
theorem lifted (os : Os) (started : os.Started) (H : Type) (enc : TypeId × Value → H) :
    ReturnsInHanded {} Tryd.checked os 7 .any (fun w args => (Rows.layoutPrefixesSpec.pre enc Tryd.prog Tryd.f7 [] false w args ∧ laidMetH Tryd.prog Rows.layoutPrefixesRow.laid w) ∧ sizedMet enc Tryd.prog Tryd.f7 (OpenSpec.ofChange Rows.layoutPrefixesSpec) false w args)
      (Rows.layoutPrefixesSpec.post enc Tryd.prog Tryd.f7 false true false false) := by
  refine returnsInHanded_of_change_and (C := Tryd.checked) (X := fun w _ => laidMetH Tryd.prog Rows.layoutPrefixesRow.laid w) (fun _ _ _ hh h => h.of_heap hh) own started (by kernel_rfl) Tryd.func7
    (ChangeSpec.witness_shaped (enc := enc) (C := Tryd.checked) (os := os) (X := fun w _ => laidMetH Tryd.prog Rows.layoutPrefixesRow.laid w) false (World.laidAll Tryd.prog os listed) #[.slice none 0 0, .int .u16 0, .slice none 0 0] 8 (World.laidAll_os _ _ _) (start_shaped os _) (by kernel_rfl) (by kernel_rfl) (by kernel_rfl) (start_met os _)) ?_
  intro W base args ds gs before hval0 hW _ hsz0 hL _
  have hT := tab_of_laid hL
  have hval : ∀ (j : Nat) t v, Tryd.f7.params[j]? = some t → args[j]? = some v → Value.okWide Tryd.prog W .any base t v := hval0
  have hsz : (DataW.weightsEach Tryd.prog (Tryd.f7.params.toList ++ Rows.layoutPrefixesSpec.plain.varTypes Tryd.prog) (ds ++ gs)).all (· ≤ reachBytes) = true := hsz0
  have hW' := hW
  obtain ⟨p, q, hA0, hV, rfl, hfz, hnd⟩ := hW
  have hA : DataW.TrodAll enc Tryd.prog W 0 (fun _ => true) true Tryd.f7.params.toList args.toList ds p := hA0
  rw [Tryd.params7] at hA hval hsz
  obtain ⟨v0, vs0, d0, ds0, p0, q0, hargs, rfl, rfl, h0, r0⟩ := trodAll_cons hA
  obtain ⟨v1, vs1, d1, ds1, p1, q1, rfl, rfl, rfl, h1, r1⟩ := trodAll_cons r0
  obtain ⟨v2, vs2, d2, ds2, p2, q2, rfl, rfl, rfl, h2, r2⟩ := trodAll_cons r1
  obtain ⟨rfl, rfl, rfl⟩ := trodAll_nil r2
  obtain rfl : args = #[v0, v1, v2] := by cases args; simp_all
  obtain ⟨rfl, rfl⟩ := trodVars_none hV
  have k0 := h0
  have lt0 : ∀ x ∈ p0, x.block < W.heap.size := by obtain ⟨m, hm⟩ := k0; exact DataW.trod_lt m _ _ _ hm
  obtain ⟨ad0, len0, cap0, sh0⟩ := okWide_slice Tryd.underlying22 (hval 0 22 v0 rfl rfl)
  obtain ⟨l0, ok0, _, rd0, dd0⟩ := open_flat (by decide) (flat_u8 Tryd.underlying5 (by kernel_rfl)) Tryd.underlying22 sh0 h0
  have z0 := sized_flat hsz (j := 0) (t := 22) (e := 5) (bytes := 1) rfl rfl Tryd.underlying22 (by kernel_rfl) dd0
  rw [flatMap_u8s] at rd0
  clear sh0 dd0
  have k1 := h1
  have lt1 : ∀ x ∈ p1, x.block < W.heap.size := by obtain ⟨m, hm⟩ := k1; exact DataW.trod_lt m _ _ _ hm
  obtain ⟨a1, rfl, e1, _, w1⟩ := open_int Tryd.underlying44 (hval 1 44 v1 rfl rfl) h1
  obtain ⟨b1, u1, rfl⟩ := nat_u16 w1
  have k2 := h2
  have lt2 : ∀ x ∈ p2, x.block < W.heap.size := by obtain ⟨m, hm⟩ := k2; exact DataW.trod_lt m _ _ _ hm
  obtain ⟨ad2, len2, cap2, sh2⟩ := okWide_slice Tryd.underlying22 (hval 2 22 v2 rfl rfl)
  obtain ⟨l2, ok2, _, rd2, dd2⟩ := open_flat (by decide) (flat_u8 Tryd.underlying5 (by kernel_rfl)) Tryd.underlying22 sh2 h2
  have z2 := sized_flat hsz (j := 2) (t := 22) (e := 5) (bytes := 1) rfl rfl Tryd.underlying22 (by kernel_rfl) dd2
  rw [flatMap_u8s] at rd2
  clear sh2 dd2
  clear hA0 hval0
  refine (met W hT v0 l0 ok0 rd0 z0 b1 u1 v2 l2 ok2 rd2 z2).mono fun e W' ⟨he, bel⟩ => ?_
  subst he
  exact ⟨_, rfl, _, _, _, [], _, [], hW', trodAll_mk1 (shut_bool Tryd.underlying4 _), (trodAll_cons_mk (Below.trod laidOut (by kernel_rfl) (of_decide_eq_true (by kernel_rfl)) k0 bel lt0) (trodAll_cons_mk (Below.trod laidOut (by kernel_rfl) (of_decide_eq_true (by kernel_rfl)) k1 bel lt1) (trodAll_cons_mk (Below.trod laidOut (by kernel_rfl) (of_decide_eq_true (by kernel_rfl)) k2 bel lt2) trodAll_mk0))), rfl, bel.frame _, fun h => by cases h⟩

theorem over : Rows.layoutPrefixesRow.holds Tryd.pinned (OpenSpec.ofChange Rows.layoutPrefixesSpec) :=
  OpenClaim.holds_of_wide 7 Tryd.f7 rfl rfl rfl rfl rfl rfl rfl ⟨rfl, rfl, rfl, rfl, rfl⟩ rfl rfl rfl rfl rfl (by kernel_rfl) Tryd.func7 (by kernel_rfl)
    (of_decide_eq_true (by kernel_rfl)) (by unfold Func.isWrapper; first | (rw [if_pos (by decide +kernel)]; kernel_rfl) | (rw [if_neg (by decide +kernel)]; exact ⟨rfl, rfl⟩))
    (fun os started H enc _ => lifted os started H enc)

theorem proved : Rows.LayoutPrefixesCardSaid :=
  Claim7.holds_tied_plain_at .later [] Rows.layoutPrefixesCard.laidKinds true Rows.layoutPrefixesCard.stood.harness false
    over (fun _ h => by cases h) (by kernel_rfl) (fun _ h => by cases h) layoutPrefixes_row_tie rfl ⟨rfl, rfl⟩ (by kernel_rfl) rfl
    (fun f fn hf hfn => by
      obtain rfl : f = 7 := Option.some.inj ((show Tryd.prog.funcNamed "tsblock/tsblocklaw16.LayoutPrefixes" = some 7 by kernel_rfl).symm.trans hf) |>.symm
      obtain rfl : fn = Tryd.f7 := (Option.some.inj (Tryd.func7.symm.trans hfn)).symm
      exact ⟨by kernel_rfl, fun j t ht => by
        rw [Tryd.params7] at ht
        have hm : t ∈ [22, 44, 22] := by simpa using Array.mem_of_getElem? ht
        have hall : ([22, 44, 22].all fun u => !Tryd.prog.wantsStandIn u) = true := by kernel_rfl
        exact (show Tryd.prog.wantsStandIn t = false by simpa using List.all_eq_true.1 hall t hm)⟩)
    (by kernel_rfl)
end Go.Proofs.YtlgphgipfjlbfaaDoor.layoutPrefixes

