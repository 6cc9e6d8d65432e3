/- ListsSorted holds for every list of numbers. No condition. -/
import Derived.Test.YtdhcfgbnjnidfaaWalkListsSorted14
import Derived.Test.YtdhcfgbnjnidfaaAlive14
import Derived.Test.YtdhcfgbnjnidfaaIface14
import Derived.Test.YtdhcfgbnjnidfaaRows
import Derived.Test.YtdhcfgbnjnidfaaOpen
namespace Go.Proofs.Ytdhcfgbnjnidfaa.listsSorted
open Go Go.ChangeShapes Go.WideShapes Go.ChangeAt Go.RowKit
open Go.ChangeMaps (open_string shut_string)
set_option linter.unusedVariables false

theorem met (w : World) (v0 : Value) (l0 : List Int) (ok0 : ∀ z ∈ l0, -9223372036854775808 ≤ z ∧ z < 9223372036854775808) (hl0 : Rd w 1 v0 l0.length (l0.flatMap fun z => [Value.int .i64 z])) (_ : l0.length * 8 ≤ 140737488351232) :
    Calls Try.prog 3 #[v0] w fun e w' => e = .returned (.bool true) ∧ Below w.heap.size w w' := by
  rw [flatMap_one] at hl0
  exact walk listsMet (alive_of14 listsMet) w trivial v0 l0 ok0 hl0

theorem own : ownKnob Try.prog.godebug = none := by kernel_rfl
theorem laidOut : laidOutB Try.prog = true := by kernel_rfl

set_option maxRecDepth 100000 in
theorem lifted (os : Os) (started : os.Started) (H : Type) (enc : TypeId × Value → H) :
    ReturnsInHanded {} Try.checked os 3 .any (Rows.listsSortedSpec.pre6 enc Try.prog Try.f3 Rows.listsSortedRow.domain false) (Rows.listsSortedSpec.post enc Try.prog Try.f3 false true false false) := by
  refine returnsInHanded_of_change_sized (C := Try.checked) own started (by kernel_rfl) Try.func3
    (ChangeSpec.witness6 (enc := enc) (C := Try.checked) false ⟨#[], #[.slice none 0 0], []⟩ 8 (by kernel_rfl) (by kernel_rfl) (by kernel_rfl) (by kernel_rfl)) ?_
  intro W base args ds gs before hval0 hW hcnd hsz0 _
  have hval : ∀ (j : Nat) t v, Try.f3.params[j]? = some t → args[j]? = some v → Value.okWide Try.prog W .any base t v := hval0
  have hsz : (DataW.weightsEach Try.prog (Try.f3.params.toList ++ Rows.listsSortedSpec.plain.varTypes Try.prog) (ds ++ gs)).all (· ≤ reachBytes) = true := hsz0
  have hW' := hW
  obtain ⟨p, q, hA0, hV, rfl, hfz, hnd⟩ := hW
  have hA : DataW.TrodAll enc Try.prog W 0 (fun _ => true) true Try.f3.params.toList args.toList ds p := hA0
  rw [Try.params3] at hA hval hsz
  obtain ⟨v0, vs0, d0, ds0, p0, q0, hargs, rfl, rfl, h0, r0⟩ := trodAll_cons hA
  obtain ⟨rfl, rfl, rfl⟩ := trodAll_nil r0
  obtain rfl : args = #[v0] := by cases args; simp_all
  obtain ⟨rfl, rfl⟩ := trodVars_none hV
  have k0 := h0
  have lt0 : ∀ x ∈ p0, x.block < W.heap.size := by obtain ⟨m, hm⟩ := k0; exact DataW.trod_lt m _ _ _ hm
  obtain ⟨ad0, len0, cap0, sh0⟩ := okWide_slice Try.underlying22 (hval 0 22 v0 rfl rfl)
  obtain ⟨l0, ok0, _, rd0, dd0⟩ := open_flat (by decide) (flat_i64 Try.underlying3 (by kernel_rfl)) Try.underlying22 sh0 h0
  have z0 := sized_flat hsz (j := 0) (t := 22) (e := 3) (bytes := 8) rfl rfl Try.underlying22 (by kernel_rfl) dd0
  clear sh0 dd0
  clear hA0 hval0
  refine (met W v0 l0 ok0 rd0 z0).mono fun e W' ⟨he, bel⟩ => ?_
  subst he
  exact ⟨_, rfl, _, _, _, [], _, [], hW', trodAll_mk1 (shut_bool Try.underlying4 _), (trodAll_cons_mk (Below.trod laidOut (by kernel_rfl) (of_decide_eq_true (by kernel_rfl)) k0 bel lt0) trodAll_mk0), rfl, bel.frame _, fun h => by cases h⟩

theorem over : Rows.listsSortedRow.holds Try.pinned (OpenSpec.ofChange Rows.listsSortedSpec) :=
  OpenClaim.holds_of_wide 3 Try.f3 rfl rfl rfl rfl rfl rfl rfl ⟨rfl, rfl, rfl, rfl, rfl⟩ rfl rfl rfl rfl rfl (by kernel_rfl) Try.func3 (by kernel_rfl)
    (of_decide_eq_true (by kernel_rfl)) (by unfold Func.isWrapper; first | (rw [if_pos (by decide +kernel)]; kernel_rfl) | (rw [if_neg (by decide +kernel)]; exact ⟨rfl, rfl⟩))
    (fun os started H enc _ => lifted os started H enc)

theorem proved : Rows.ListsSortedSaid := over
end Go.Proofs.Ytdhcfgbnjnidfaa.listsSorted

