/- WireFindsBursts holds for all sections and every burst. Condition: the program's one package variable reads as its initialiser lays it; the card ties that to the program's text. -/
import Derived.Test.YtkgghlhmgolfbaaDoorAlive04
import Derived.Test.YtkgghlhmgolfbaaDoorWalkFindsBursts04
import Derived.Test.YtkgghlhmgolfbaaDoorLaid03
import Derived.Test.YtkgghlhmgolfbaaDoorRows
import Derived.Test.YtkgghlhmgolfbaaDoorCards
import Derived.Test.YtkgghlhmgolfbaaDoorTie
import Derived.ChangeVars
import Derived.RowKit
import Derived.SevenTiedAt
import Derived.Test.YtkgghlhmgolfbaaDoorOpen
namespace Go.Proofs.YtkgghlhmgolfbaaDoor.wireFindsBursts
open Go Go.ChangeShapes Go.WideShapes Go.ChangeAt Go.RowKit
open Go.ChangeMaps (open_string shut_string)
set_option linter.unusedVariables false

theorem flat_u32 {P : Program} {e : TypeId} (he : P.underlying e = some (.int .u32)) (hc : P.cellsOf e = 1) : Flat P e 1 (fun n : Nat => [Value.int .u32 (n : Int)]) (fun n => n < 4294967296) :=
  (flat_int he hc).map fun z hz => by
    have := bounds_u32 hz
    exact ⟨z.toNat, by omega, by rw [Int.toNat_of_nonneg (by omega)]⟩

theorem met (w : World) (hT : Tab w) (id : Nat) (hid : id < 256) (v : Value) (l : List Nat) (ok : ∀ a ∈ l, a < 256) (hl : Rd w 1 v l.length (u8s l)) (hz : l.length * 1 ≤ 140737488351232)
    (vb : Value) (b : Nat × Nat) (okb : b.1 < 4294967296 ∧ b.2 < 4294967296) (eb : vb = .agg #[.int .u32 (b.1 : Int), .int .u32 (b.2 : Int)]) :
    Calls Tryd.prog 6 #[.int .u8 (id : Int), v, vb] w fun e w' => e = .returned (.bool true) ∧ Below w.heap.size w w' := by
  subst eb
  exact walk reader alive_any w hT id hid v l ok hl hz b.1 b.2 okb.1 okb.2

theorem own : ownKnob Tryd.prog.godebug = none := by kernel_rfl
theorem laidOut : laidOutB Tryd.prog = true := by kernel_rfl

set_option maxRecDepth 100000 in
theorem lifted (os : Os) (started : os.Started) (H : Type) (enc : TypeId × Value → H) :
    ReturnsInHanded {} Tryd.checked os 6 .any (fun w args => (Rows.wireFindsBurstsSpec.pre enc Tryd.prog Tryd.f6 [] false w args ∧ laidMetH Tryd.prog Rows.wireFindsBurstsRow.laid w) ∧ sizedMet enc Tryd.prog Tryd.f6 (OpenSpec.ofChange Rows.wireFindsBurstsSpec) false w args)
      (Rows.wireFindsBurstsSpec.post enc Tryd.prog Tryd.f6 false true false false) := by
  refine returnsInHanded_of_change_and (C := Tryd.checked) (X := fun w _ => laidMetH Tryd.prog Rows.wireFindsBurstsRow.laid w) (fun _ _ _ hh h => h.of_heap hh) own started (by kernel_rfl) Tryd.func6
    (ChangeSpec.witness_shaped (enc := enc) (C := Tryd.checked) (os := os) (X := fun w _ => laidMetH Tryd.prog Rows.wireFindsBurstsRow.laid w) false (World.laidAll Tryd.prog os listed) #[.int .u8 0, .slice none 0 0, .agg #[.int .u32 0, .int .u32 0]] 8 (World.laidAll_os _ _ _) (start_shaped os _) (by kernel_rfl) (by kernel_rfl) (by kernel_rfl) (start_met os _)) ?_
  intro W base args ds gs before hval0 hW _ hsz0 hL _
  have hT := tab_of_laid hL
  have hval : ∀ (j : Nat) t v, Tryd.f6.params[j]? = some t → args[j]? = some v → Value.okWide Tryd.prog W .any base t v := hval0
  have hsz : (DataW.weightsEach Tryd.prog (Tryd.f6.params.toList ++ Rows.wireFindsBurstsSpec.plain.varTypes Tryd.prog) (ds ++ gs)).all (· ≤ reachBytes) = true := hsz0
  have hW' := hW
  obtain ⟨p, q, hA0, hV, rfl, hfz, hnd⟩ := hW
  have hA : DataW.TrodAll enc Tryd.prog W 0 (fun _ => true) true Tryd.f6.params.toList args.toList ds p := hA0
  rw [Tryd.params6] at hA hval hsz
  obtain ⟨v0, vs0, d0, ds0, p0, q0, hargs, rfl, rfl, h0, r0⟩ := trodAll_cons hA
  obtain ⟨v1, vs1, d1, ds1, p1, q1, rfl, rfl, rfl, h1, r1⟩ := trodAll_cons r0
  obtain ⟨v2, vs2, d2, ds2, p2, q2, rfl, rfl, rfl, h2, r2⟩ := trodAll_cons r1
  obtain ⟨rfl, rfl, rfl⟩ := trodAll_nil r2
  obtain rfl : args = #[v0, v1, v2] := by cases args; simp_all
  obtain ⟨rfl, rfl⟩ := trodVars_none hV
  have k0 := h0
  have lt0 : ∀ x ∈ p0, x.block < W.heap.size := by obtain ⟨m, hm⟩ := k0; exact DataW.trod_lt m _ _ _ hm
  obtain ⟨a0, rfl, e0, _, w0⟩ := open_int Tryd.underlying5 (hval 0 5 v0 rfl rfl) h0
  obtain ⟨b0, u0, rfl⟩ := nat_u8 w0
  have k1 := h1
  have lt1 : ∀ x ∈ p1, x.block < W.heap.size := by obtain ⟨m, hm⟩ := k1; exact DataW.trod_lt m _ _ _ hm
  obtain ⟨ad1, len1, cap1, sh1⟩ := okWide_slice Tryd.underlying22 (hval 1 22 v1 rfl rfl)
  obtain ⟨l1, ok1, _, rd1, dd1⟩ := open_flat (by decide) (flat_u8 Tryd.underlying5 (by kernel_rfl)) Tryd.underlying22 sh1 h1
  have z1 := sized_flat hsz (j := 1) (t := 22) (e := 5) (bytes := 1) rfl rfl Tryd.underlying22 (by kernel_rfl) dd1
  rw [flatMap_u8s] at rd1
  clear sh1 dd1
  have k2 := h2
  have lt2 : ∀ x ∈ p2, x.block < W.heap.size := by obtain ⟨m, hm⟩ := k2; exact DataW.trod_lt m _ _ _ hm
  obtain ⟨c2, sh2, _⟩ := okWide_arr Tryd.underlying53 (hval 2 53 v2 rfl rfl)
  obtain ⟨a2, w2, e2⟩ := open_flat_agg (flat_array2 Tryd.underlying53 (by kernel_rfl) (flat_u32 Tryd.underlying52 (by kernel_rfl))) sh2 h2
  clear sh2
  clear hA0 hval0
  refine (met W hT b0 u0 v1 l1 ok1 rd1 z1 v2 a2 w2 e2).mono fun e W' ⟨he, bel⟩ => ?_
  subst he
  exact ⟨_, rfl, _, _, _, [], _, [], hW', trodAll_mk1 (shut_bool Tryd.underlying4 _), (trodAll_cons_mk (Below.trod laidOut (by kernel_rfl) (of_decide_eq_true (by kernel_rfl)) k0 bel lt0) (trodAll_cons_mk (Below.trod laidOut (by kernel_rfl) (of_decide_eq_true (by kernel_rfl)) k1 bel lt1) (trodAll_cons_mk (Below.trod laidOut (by kernel_rfl) (of_decide_eq_true (by kernel_rfl)) k2 bel lt2) trodAll_mk0))), rfl, bel.frame _, fun h => by cases h⟩

theorem over : Rows.wireFindsBurstsRow.holds Tryd.pinned (OpenSpec.ofChange Rows.wireFindsBurstsSpec) :=
  OpenClaim.holds_of_wide 6 Tryd.f6 rfl rfl rfl rfl rfl rfl rfl ⟨rfl, rfl, rfl, rfl, rfl⟩ rfl rfl rfl rfl rfl (by kernel_rfl) Tryd.func6 (by kernel_rfl)
    (of_decide_eq_true (by kernel_rfl)) (by unfold Func.isWrapper; first | (rw [if_pos (by decide +kernel)]; kernel_rfl) | (rw [if_neg (by decide +kernel)]; exact ⟨rfl, rfl⟩))
    (fun os started H enc _ => lifted os started H enc)

theorem proved : Rows.WireFindsBurstsCardSaid :=
  Claim7.holds_tied_plain_at .later [] Rows.wireFindsBurstsCard.laidKinds true Rows.wireFindsBurstsCard.stood.harness false
    over (fun _ h => by cases h) (by kernel_rfl) (fun _ h => by cases h) wireFindsBursts_row_tie rfl ⟨rfl, rfl⟩ (by kernel_rfl) rfl
    (fun f fn hf hfn => by
      obtain rfl : f = 6 := Option.some.inj ((show Tryd.prog.funcNamed "tsblock/tsblocklaw04.WireFindsBursts" = some 6 by kernel_rfl).symm.trans hf) |>.symm
      obtain rfl : fn = Tryd.f6 := (Option.some.inj (Tryd.func6.symm.trans hfn)).symm
      exact ⟨by kernel_rfl, fun j t ht => by
        rw [Tryd.params6] at ht
        have hm : t ∈ [5, 22, 53] := by simpa using Array.mem_of_getElem? ht
        have hall : ([5, 22, 53].all fun u => !Tryd.prog.wantsStandIn u) = true := by kernel_rfl
        exact (show Tryd.prog.wantsStandIn t = false by simpa using List.all_eq_true.1 hall t hm)⟩)
    (by kernel_rfl)
end Go.Proofs.YtkgghlhmgolfbaaDoor.wireFindsBursts
