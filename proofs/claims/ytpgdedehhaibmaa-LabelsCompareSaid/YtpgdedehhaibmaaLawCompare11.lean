/- LabelsCompare holds for every two lists of labels. No condition. -/
import Derived.Test.YtpgdedehhaibmaaWalkCompare11
import Derived.Test.YtpgdedehhaibmaaMrg4
import Derived.Test.YtpgdedehhaibmaaMrg6
import Derived.Test.YtpgdedehhaibmaaRows
import Derived.Test.YtpgdedehhaibmaaMrg2
namespace Go.Proofs.Ytpgdedehhaibmaa.labelsCompare
open Go Go.ChangeShapes Go.WideShapes Go.ChangeAt Go.RowKit
open Go.ChangeMaps (open_string shut_string)
set_option linter.unusedVariables false

theorem met (w : World) (v0 : Value) (l0 : List Lab) (ok0 : ∀ z ∈ l0, labOk z) (hl0 : Rd w 2 v0 l0.length (l0.flatMap labCell)) (_ : l0.length * 32 ≤ 140737488351232) (v1 : Value) (l1 : List Lab) (ok1 : ∀ z ∈ l1, labOk z) (hl1 : Rd w 2 v1 l1.length (l1.flatMap labCell)) (_ : l1.length * 32 ≤ 140737488351232) :
    Calls Try.prog 5 #[v0, v1] w fun e w' => e = .returned (.bool true) ∧ Below w.heap.size w w' := by
  exact walk labels (alive_of11 labels) w trivial v0 l0 ok0 hl0 v1 l1 ok1 hl1

theorem own : ownKnob Try.prog.godebug = none := by kernel_rfl
theorem laidOut : laidOutB Try.prog = true := by kernel_rfl

set_option maxRecDepth 100000 in
theorem lifted (os : Os) (started : os.Started) (H : Type) (enc : TypeId × Value → H) :
    ReturnsInHanded {} Try.checked os 5 .any (Rows.labelsCompareSpec.pre6 enc Try.prog Try.f5 Rows.labelsCompareRow.domain false) (Rows.labelsCompareSpec.post enc Try.prog Try.f5 false true false false) := by
  refine returnsInHanded_of_change_sized (C := Try.checked) own started (by kernel_rfl) Try.func5
    (ChangeSpec.witness6 (enc := enc) (C := Try.checked) false ⟨#[], #[.slice none 0 0, .slice none 0 0], []⟩ 8 (by kernel_rfl) (by kernel_rfl) (by kernel_rfl) (by kernel_rfl)) ?_
  intro W base args ds gs before hval0 hW hcnd hsz0 _
  have hval : ∀ (j : Nat) t v, Try.f5.params[j]? = some t → args[j]? = some v → Value.okWide Try.prog W .any base t v := hval0
  have hsz : (DataW.weightsEach Try.prog (Try.f5.params.toList ++ Rows.labelsCompareSpec.plain.varTypes Try.prog) (ds ++ gs)).all (· ≤ reachBytes) = true := hsz0
  have hW' := hW
  obtain ⟨p, q, hA0, hV, rfl, hfz, hnd⟩ := hW
  have hA : DataW.TrodAll enc Try.prog W 0 (fun _ => true) true Try.f5.params.toList args.toList ds p := hA0
  rw [Try.params5] at hA hval hsz
  obtain ⟨v0, vs0, d0, ds0, p0, q0, hargs, rfl, rfl, h0, r0⟩ := trodAll_cons hA
  obtain ⟨v1, vs1, d1, ds1, p1, q1, rfl, rfl, rfl, h1, r1⟩ := trodAll_cons r0
  obtain ⟨rfl, rfl, rfl⟩ := trodAll_nil r1
  obtain rfl : args = #[v0, v1] := by cases args; simp_all
  obtain ⟨rfl, rfl⟩ := trodVars_none hV
  have k0 := h0
  have lt0 : ∀ x ∈ p0, x.block < W.heap.size := by obtain ⟨m, hm⟩ := k0; exact DataW.trod_lt m _ _ _ hm
  obtain ⟨ad0, len0, cap0, sh0⟩ := okWide_slice Try.underlying22 (hval 0 22 v0 rfl rfl)
  obtain ⟨l0, ok0, _, rd0, dd0⟩ := open_flat (by decide) flat_lab Try.underlying22 sh0 h0
  have z0 := sized_flat hsz (j := 0) (t := 22) (e := 30) (bytes := 32) rfl rfl Try.underlying22 (by kernel_rfl) dd0
  clear sh0 dd0
  have k1 := h1
  have lt1 : ∀ x ∈ p1, x.block < W.heap.size := by obtain ⟨m, hm⟩ := k1; exact DataW.trod_lt m _ _ _ hm
  obtain ⟨ad1, len1, cap1, sh1⟩ := okWide_slice Try.underlying22 (hval 1 22 v1 rfl rfl)
  obtain ⟨l1, ok1, _, rd1, dd1⟩ := open_flat (by decide) flat_lab Try.underlying22 sh1 h1
  have z1 := sized_flat hsz (j := 1) (t := 22) (e := 30) (bytes := 32) rfl rfl Try.underlying22 (by kernel_rfl) dd1
  clear sh1 dd1
  clear hA0 hval0
  refine (met W v0 l0 ok0 rd0 z0 v1 l1 ok1 rd1 z1).mono fun e W' ⟨he, bel⟩ => ?_
  subst he
  exact ⟨_, rfl, _, _, _, [], _, [], hW', trodAll_mk1 (shut_bool Try.underlying4 _), (trodAll_cons_mk (Below.trod laidOut (by kernel_rfl) (of_decide_eq_true (by kernel_rfl)) k0 bel lt0) (trodAll_cons_mk (Below.trod laidOut (by kernel_rfl) (of_decide_eq_true (by kernel_rfl)) k1 bel lt1) trodAll_mk0)), rfl, bel.frame _, fun h => by cases h⟩

theorem over : Rows.labelsCompareRow.holds Try.pinned (OpenSpec.ofChange Rows.labelsCompareSpec) :=
  OpenClaim.holds_of_wide 5 Try.f5 rfl rfl rfl rfl rfl rfl rfl ⟨rfl, rfl, rfl, rfl, rfl⟩ rfl rfl rfl rfl rfl (by kernel_rfl) Try.func5 (by kernel_rfl)
    (of_decide_eq_true (by kernel_rfl)) (by unfold Func.isWrapper; first | (rw [if_pos (by decide +kernel)]; kernel_rfl) | (rw [if_neg (by decide +kernel)]; exact ⟨rfl, rfl⟩))
    (fun os started H enc _ => lifted os started H enc)

theorem proved : Rows.LabelsCompareSaid := over
end Go.Proofs.Ytpgdedehhaibmaa.labelsCompare

