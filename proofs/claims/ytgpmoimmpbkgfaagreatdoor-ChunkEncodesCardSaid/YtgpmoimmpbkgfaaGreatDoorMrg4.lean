/- ConcatSam, Open, Field09, HasPrefix, EqThree, Alive09, I64, Array, Take, TakeH, TakeR, in one text. -/
import Derived.Test.YtgpmoimmpbkgfaaGreatDoorMrg3
import Derived.Shelf.Spec.SlicesGrow
import Derived.OwnWalk
import Derived.Test.YtgpmoimmpbkgfaaGreatDoorMrg2
import Derived.ProofKit
import Derived.OpenShut
import Derived.Deep.Slices
import Derived.SizedLaws
import Derived.Test.YtgpmoimmpbkgfaaGreatDoorProg
import Derived.Test.YtgpmoimmpbkgfaaGreatDoorMrg1
import Derived.Laws.Rows
import Derived.Laws.PanicsMore
import Derived.RegionTactic
import Derived.OrdersHeld

section
/- Layer 9: slices.Grow of nil and slices.Concat of lists of samples. -/
set_option linter.unusedVariables false
set_option maxRecDepth 20000
namespace Go.Proofs.YtgpmoimmpbkgfaaGreatDoor
open Go Go.RowKit

def renS : Go.Shelf.Ren := ⟨fun | 4 => 44 | n => n, fun | 0 => 0 | 3 => 3 | 4 => 4 | 9 => 9 | 20 => 20 | 22 => 29 | 25 => 33 | n => n, fun n => n⟩
theorem laysS : Go.Proofs.Lays8.n4 Tryz.prog renS := { mixed := by kernel_rfl, f4 := ⟨"slices.Grow[[]tsblock/api.Sample,tsblock/api.Sample]", by decide, Tryz.func44.trans (congrArg some (by kernel_rfl))⟩, t0 := Tryz.underlying0, a0 := Tryz.isAgg0, z0 := Tryz.sizeOf0, v0 := Tryz.zeroValue0, t3 := Tryz.underlying3, a3 := Tryz.isAgg3, z3 := Tryz.sizeOf3, v3 := Tryz.zeroValue3, t4 := Tryz.underlying4, a4 := Tryz.isAgg4, z4 := Tryz.sizeOf4, v4 := Tryz.zeroValue4, t9 := Tryz.underlying9, a9 := Tryz.isAgg9, z9 := Tryz.sizeOf9, v9 := Tryz.zeroValue9, t20 := Tryz.underlying20, a20 := Tryz.isAgg20, z20 := Tryz.sizeOf20, v20 := Tryz.zeroValue20, t22 := Tryz.underlying29, a22 := Tryz.isAgg29, z22 := Tryz.sizeOf29, v22 := Tryz.zeroValue29 }
theorem infoSam : (Tryz.prog.info? 33).map (fun i => (i.zero, i.size, i.bytes)) = some (some (.agg #[.int .i64 0, .int .u64 0]), 2, 16) := by kernel_rfl

theorem grow_sam (n : Nat) (hn : n ≤ 1000000) (w : World) :
    Calls Tryz.prog 44 #[.slice none 0 0, .int .i64 (n : Int)] w fun e w' => ∃ r, e = .returned r ∧ Made w w' 33 2 r 0 [] := by
  by_cases h0 : n = 0
  · subst h0
    refine (Any8.slices_Grow_room laysS none 0 0 0 w (Nat.le_refl _) (by omega) (by omega) (by omega)).mono ?_
    rintro e w' ⟨rfl, rfl⟩
    exact ⟨_, rfl, World.ownsRow_nil _ _ _ _, Below.refl _ _⟩
  · obtain ⟨i0, hi, hz0, hz1, hz2⟩ := info_parts infoSam
    refine (Any8.slices_Grow_grow laysS i0 (.agg #[.int .i64 0, .int .u64 0]) hi hz0 (by omega) none 0 0 n [] w (Nat.le_refl _) (by omega) (by rw [hz2]; omega) (by omega) (by simp) (fun _ => rfl) (fun a e => by cases e)).mono ?_
    rintro e w' ⟨rfl, rfl⟩
    have hge := grownCap_ge w (0 + n) 0 33
    refine ⟨_, rfl, ⟨rfl, Or.inr ⟨w.heap.size, _, _, rfl, Nat.le_refl _, heap_alloc_new w.drew _, Nat.zero_le _, grownCap_le_maxLen w (0 + n) 0 _ (by unfold maxLen; omega), ?_, by simp⟩⟩, ?_⟩
    · have h1 : (Value.agg #[.int .i64 0, .int .u64 0]).cells.size = 2 := rfl
      simp only [Array.size_append, size_zeroCells, h1, List.size_toArray, List.length_nil]
      show 0 + (0 + n - 0) * 2 + (grownCap w (0 + n) 0 33 - (0 + n)) * 2 = grownCap w (0 + n) 0 33 * 2
      omega
    · exact (Below.drew (Below.refl _ w)).alloc (Nat.le_refl _) _

/-- The first i parts in a row; all of them. -/
def flatTo (ps : List (List (Int × Nat))) (i : Nat) : List (Int × Nat) := (ps.take i).flatten
def flatAll (ps : List (List (Int × Nat))) : List (Int × Nat) := ps.flatten
theorem flat_zero (ps : List (List (Int × Nat))) : flatTo ps 0 = [] := rfl
theorem flat_all (ps : List (List (Int × Nat))) (n : Nat) (h : n = ps.length) : flatTo ps n = flatAll ps := by subst h; rw [flatTo, flatAll, List.take_of_length_le (Nat.le_refl _)]
theorem flat_take_length (ps : List (List (Int × Nat))) (i : Nat) : (flatTo ps i).length ≤ (flatAll ps).length := by
  rw [flatTo, flatAll]
  conv => rhs; rw [← List.take_append_drop i ps]
  rw [List.flatten_append, List.length_append]; omega
theorem flat_take_succ (ps : List (List (Int × Nat))) (i : Nat) (p : List (Int × Nat)) (h : ps[i]? = some p) : flatTo ps (i + 1) = flatTo ps i ++ p := by
  rw [flatTo, flatTo, List.take_add_one, h, List.flatten_append]; simp
theorem PartsAt.below {w w' : World} {vs : List Value} {ps : List (List (Int × Nat))} (h : PartsAt w vs ps) (hb : Below w.heap.size w w') : PartsAt w' vs ps := ⟨h.1, fun i v p h1 h2 => (h.2 i v p h1 h2).below hb⟩

set_option maxHeartbeats 2000000 in
theorem concat_sam (rv : Value) (vs : List Value) (ps : List (List (Int × Nat))) (w : World) (hr : Rd w 1 rv vs.length vs) (hp : PartsAt w vs ps) (hn : (flatAll ps).length ≤ 1000000) (hc : vs.length ≤ 1000000) :
    Calls Tryz.prog 22 #[rv] w fun e w' => ∃ r, e = .returned r ∧ Made w w' 33 2 r (flatAll ps).length (samCells (flatAll ps)) := by
  have HR := Lib.hid hr; have HP := Lib.hid hp; have HN := Lib.hid hn
  obtain ⟨pl, cl, hv⟩ := hr.shape
  subst hv
  have hci : (vs.length : Int) ≤ 1000000 := by omega
  clear hr hp hn hc
  go_enter Tryz.func22, Tryz.ntmps22
  go_wp2_with fail
  go_loop [3, 11] (fun sv iv => ∃ i : Nat, i ≤ vs.length ∧ iv = .int .i64 (i : Int) ∧ sv = .int .i64 (((flatTo ps i).length : Nat) : Int)) (fun _ iv => vs.length - (intOf iv).toNat)
  case atStart => exact ⟨0, Nat.zero_le _, rfl, rfl⟩
  case round =>
    obtain ⟨i, hi, rfl, rfl⟩ := hrel
    have hib : (i : Int) ≤ 1000000 := by omega
    by_cases hlt : i < vs.length
    · have hlt' : (i : Int) < (vs.length : Int) := by omega
      obtain ⟨v, hv⟩ : ∃ v, vs[i]? = some v := ⟨_, List.getElem?_eq_getElem hlt⟩
      obtain ⟨p, hpi⟩ : ∃ p, ps[i]? = some p := ⟨_, List.getElem?_eq_getElem (by rw [← HP.out.1]; exact hlt)⟩
      have hRv := HP.out.2 i v p hv hpi
      obtain ⟨pp, cp, he⟩ := hRv.shape
      subst he
      obtain ⟨b, off, c', e, hnc, hncm, hcell⟩ := HR.out.at (fun e => by rw [e] at hlt; cases hlt)
      simp only [Value.slice.injEq] at e
      obtain ⟨rfl, _, rfl⟩ := e
      have hct : w.cell? ⟨b, off + i, none⟩ = some (.slice pp p.length cp) := hcell i _ hv
      have HS := Lib.hid (flat_take_succ ps i p hpi)
      have hl1 := flat_take_length ps i
      have hl2 := flat_take_length ps (i + 1)
      rw [HS.out, List.length_append] at hl2
      have hx := HN.out
      have HL : Hid ((flatTo ps (i + 1)).length = (flatTo ps i).length + p.length) := by show _ = _; rw [HS.out, List.length_append]
      generalize (flatTo ps i).length = S at *
      have hs : (S : Int) ≤ 1000000 := by omega
      have hp1 : (p.length : Int) ≤ 1000000 := by omega
      clear hcell hnc hncm hv hpi hRv hl1 hl2 hx
      go_wp2_with fail
      go_round
      case rel => exact ⟨i + 1, by omega, by go_num, by rw [HL.out]; go_num⟩
      case measure => simp [intOf]; omega
    · have hlt' : ¬ (i : Int) < (vs.length : Int) := by omega
      obtain rfl : i = vs.length := by omega
      have hall : flatTo ps vs.length = flatAll ps := flat_all ps _ HP.out.1
      rw [hall]
      have HGr := Lib.hid (grow_sam (flatAll ps).length HN.out w)
      clear hall hlt hi
      go_wp2_with fail
      refine HGr.out.mono ?_
      rintro e w1 ⟨r1, rfl, hM⟩
      have HO1 := Lib.hid hM.1
      have HB1 := Lib.hid hM.2
      obtain ⟨p0, k0, hv⟩ := (Rd.of_owns hM.1).shape
      subst hv
      clear hM HGr
      go_wp2_with fail
      go_loopw [6, 27] (fun rv iv wr => ∃ i : Nat, i ≤ vs.length ∧ iv = .int .i64 (i : Int) ∧ Hid (wr.ownsRow w.heap.size 33 2 rv (flatTo ps i).length (samCells (flatTo ps i))) ∧ Hid (Below w.heap.size w wr)) (fun _ iv _ => vs.length - (intOf iv).toNat)
      case atStart => exact ⟨0, Nat.zero_le _, rfl, HO1.out, HB1.out⟩
      case round =>
        obtain ⟨i, hi, rfl, HX, HBw⟩ := hrel
        have hib : (i : Int) ≤ 1000000 := by omega
        obtain ⟨p9, k9, hv9⟩ := (Rd.of_owns HX.out).shape
        subst hv9
        by_cases hlt : i < vs.length
        · have hlt' : (i : Int) < (vs.length : Int) := by omega
          obtain ⟨v, hv⟩ : ∃ v, vs[i]? = some v := ⟨_, List.getElem?_eq_getElem hlt⟩
          obtain ⟨p, hpi⟩ : ∃ p, ps[i]? = some p := ⟨_, List.getElem?_eq_getElem (by rw [← HP.out.1]; exact hlt)⟩
          have HRv := Lib.hid ((HP.out.2 i v p hv hpi).below HBw.out)
          obtain ⟨pp, cp, he⟩ := HRv.out.shape
          subst he
          obtain ⟨b, off, c', e, hnc, hncm, hcell⟩ := (HR.out.below HBw.out).at (fun e => by rw [e] at hlt; cases hlt)
          simp only [Value.slice.injEq] at e
          obtain ⟨rfl, _, rfl⟩ := e
          have hct : wr.cell? ⟨b, off + i, none⟩ = some (.slice pp p.length cp) := hcell i _ hv
          have HS := Lib.hid (flat_take_succ ps i p hpi)
          have HLb : Hid (((flatTo ps i).length + p.length) * 16 ≤ 140737488355328 ∧ (flatTo ps i).length + p.length ≤ maxLen) := by
            show _ ∧ _
            have hl2 := flat_take_length ps (i + 1)
            rw [HS.out, List.length_append] at hl2
            have := HN.out
            unfold maxLen; omega
          have HOw := Lib.hid (owns_rebase HX.out (base' := 0) (fun _ _ => Nat.zero_le _))
          clear hcell hnc hncm hv hpi
          generalize hA : (flatTo ps i) = A at *
          have HA := Lib.hid hA
          clear hA
          go_wp2_with (at_builtin; refine wpList_extend elemSam _ _ _ _ _ _ _ HOw.out HRv.out (samCells_one _) HLb.out rfl _ _ rfl rfl rfl ?_)
          intro v8 w8 hown hmods hfr
          have HX8 : Hid (w8.ownsRow w.heap.size 33 2 v8 (flatTo ps (i + 1)).length (samCells (flatTo ps (i + 1)))) := by
            show World.ownsRow _ _ _ _ _ _ _
            rw [HS.out, List.length_append, samCells_append]
            refine owns_rebase hown (fun k hk => ?_)
            rcases hfr k hk with e | e
            · exact (HX.out.lt k e).1
            · have := HBw.out.size; omega
          have HB8 : Hid (Below w.heap.size w w8) := HBw.out.trans (hmods.below HBw.out.size (fun k hk e => by have := (HX.out.lt k e).1; omega))
          obtain ⟨p8, k8, hv8⟩ := (Rd.of_owns hown).shape
          subst hv8
          clear hown hmods hfr HOw HRv hct
          go_wp2_with fail
          go_round
          case rel => exact ⟨i + 1, by omega, by go_num, HX8.out, HB8.out⟩
          case measure => simp [intOf]; omega
        · have hlt' : ¬ (i : Int) < (vs.length : Int) := by omega
          obtain rfl : i = vs.length := by omega
          have hall : flatTo ps vs.length = flatAll ps := flat_all ps _ HP.out.1
          rw [hall] at HX ⊢
          clear hall hlt hi
          go_wp2_with fail
          go_ret
          exact ⟨_, rfl, HX.out, HBw.out⟩
end Go.Proofs.YtgpmoimmpbkgfaaGreatDoor

end

section
/- Arguments that came in, opened: what the cells of a value of a flat type (numbers, bools, strings, and structs and arrays of these) hold; slices of these. No program in sight. -/
namespace Go.Proofs.YtgpmoimmpbkgfaaGreatDoor
open Go Go.RowKit Go.ChangeShapes

/-- Every reading at type e is of the cells 'f a' for an 'a' that is 'ok'. -/
def Flat (P : Program) (e : TypeId) (sz : Nat) {α : Type} (f : α → List Value) (ok : α → Prop) : Prop :=
  P.cellsOf e = sz ∧ ∀ (H : Type) (enc : TypeId × Value → H) (w : World) (base : Nat) (spare : Nat → Bool) (held : Bool) (fuel : Nat) (cs : List Value) (x : DataW H × List MemPlace),
    DataW.trod enc P w base spare held fuel e cs = some x → ∃ a, ok a ∧ cs = f a

theorem Flat.map {P : Program} {e : TypeId} {sz : Nat} {α β : Type} {f : α → List Value} {ok : α → Prop} (h : Flat P e sz f ok) {g : β → List Value} {ok' : β → Prop} (hm : ∀ a, ok a → ∃ b, ok' b ∧ f a = g b) : Flat P e sz g ok' :=
  ⟨h.1, fun H enc w base spare held fuel cs x hx => by
    obtain ⟨a, ha, rfl⟩ := h.2 H enc w base spare held fuel cs x hx
    exact hm a ha⟩
theorem flat_int {P : Program} {e : TypeId} {k : IntKind} (he : P.underlying e = some (.int k)) (hc : P.cellsOf e = 1) : Flat P e 1 (fun z : Int => [Value.int k z]) (fun z => (Lit.int k z).wf = true) :=
  ⟨hc, fun H enc w base spare held fuel cs x hx => by
    obtain ⟨n, rfl, _, hw⟩ := DataW.trod_int he hx
    exact ⟨n, hw, rfl⟩⟩
theorem flat_bool {P : Program} {e : TypeId} (he : P.underlying e = some .bool) (hc : P.cellsOf e = 1) : Flat P e 1 (fun b : Bool => [Value.bool b]) (fun _ => True) :=
  ⟨hc, fun H enc w base spare held fuel cs x hx => by
    obtain ⟨n, rfl, _⟩ := DataW.trod_bool he hx
    exact ⟨n, trivial, rfl⟩⟩
theorem flat_string {P : Program} {e : TypeId} (he : P.underlying e = some .string) (hc : P.cellsOf e = 1) : Flat P e 1 (fun s : ByteArray => [Value.string s]) (fun s => s.size ≤ maxLen) :=
  ⟨hc, fun H enc w base spare held fuel cs x hx => by
    obtain ⟨s, rfl, _, hs⟩ := DataW.trod_string he hx
    exact ⟨s, hs, rfl⟩⟩
theorem flat_struct2 {P : Program} {e : TypeId} {f0 f1 : Field} {s0 s1 : Nat} {α β : Type} {g0 : α → List Value} {g1 : β → List Value} {k0 : α → Prop} {k1 : β → Prop}
    (he : P.underlying e = some (.struct #[f0, f1])) (hc : P.cellsOf e = s0 + s1) (o0 : f0.offset = 0) (o1 : f1.offset = s0) (h0 : Flat P f0.type s0 g0 k0) (h1 : Flat P f1.type s1 g1 k1) :
    Flat P e (s0 + s1) (fun a : α × β => g0 a.1 ++ g1 a.2) (fun a => k0 a.1 ∧ k1 a.2) :=
  ⟨hc, fun H enc w base spare held fuel cs x hx => by
    obtain ⟨y0, y1, n, _, hl, t0, t1⟩ := trod_struct2 he hx
    rw [o0, h0.1] at t0
    rw [o1, h1.1] at t1
    obtain ⟨a, ha, ea⟩ := h0.2 H enc w base spare held n _ _ t0
    obtain ⟨b, hb, eb⟩ := h1.2 H enc w base spare held n _ _ t1
    refine ⟨(a, b), ⟨ha, hb⟩, ?_⟩
    show cs = g0 a ++ g1 b
    rw [← ea, ← eb]
    simp only [List.drop_zero]
    rw [List.take_of_length_le (l := cs.drop s0) (by rw [List.length_drop, hl, hc]; omega), List.take_append_drop]⟩

theorem cells_get {w : World} {base : Nat} {a : Addr} {n : Nat} {cs : List Value} (h : w.cells? base a n = some cs) : cs.length = n ∧ ∀ (j : Nat) (u : Value), cs[j]? = some u → w.cell? (a.add j) = some u := by
  unfold World.cells? at h
  split at h
  · have key : ∀ (l : List Nat) (cs : List Value), l.mapM (fun i => w.cell? (a.add i)) = some cs → cs.length = l.length ∧ ∀ (j : Nat) (u : Value), cs[j]? = some u → ∃ i, l[j]? = some i ∧ w.cell? (a.add i) = some u := by
      intro l
      induction l with
      | nil => intro cs h; simp at h; subst h; simp
      | cons i l ih =>
        intro cs h
        rw [List.mapM_cons] at h
        simp only [Option.bind_eq_bind, Option.bind_eq_some_iff, Option.pure_def, Option.some.injEq] at h
        obtain ⟨x, hx, ys, hys, rfl⟩ := h
        obtain ⟨h1, h2⟩ := ih ys hys
        refine ⟨by simp [h1], fun j u hu => ?_⟩
        cases j with
        | zero => simp at hu; subst hu; exact ⟨i, rfl, hx⟩
        | succ j => simp at hu; obtain ⟨i', hi', hc⟩ := h2 j u hu; exact ⟨i', by simpa using hi', hc⟩
    obtain ⟨h1, h2⟩ := key _ _ h
    refine ⟨by simpa using h1, fun j u hu => ?_⟩
    obtain ⟨i, hi, hc⟩ := h2 j u hu
    rw [List.getElem?_range (by rcases Nat.lt_or_ge j n with hj | hj; exact hj; simp [List.getElem?_eq_none (show cs.length ≤ j by rw [h1]; simpa using hj)] at hu)] at hi
    simp at hi
    subst hi
    exact hc
  · cases h

theorem flatMap_get {α β : Type} {sz : Nat} (f : α → List β) (l : List α) (hf : ∀ a ∈ l, (f a).length = sz) (i k : Nat) (hk : k < sz) (u : β) (h : (l.flatMap f)[i * sz + k]? = some u) : ∃ a, l[i]? = some a ∧ (f a)[k]? = some u := by
  induction l generalizing i with
  | nil => simp at h
  | cons a l ih =>
    have ha := hf a (by simp)
    rw [List.flatMap_cons] at h
    cases i with
    | zero =>
      rw [Nat.zero_mul, Nat.zero_add, List.getElem?_append_left (by omega)] at h
      exact ⟨a, rfl, h⟩
    | succ i =>
      rw [List.getElem?_append_right (by rw [ha, Nat.add_mul]; omega), ha, show (i + 1) * sz + k - sz = i * sz + k by rw [Nat.add_mul]; omega] at h
      obtain ⟨b, hb, hu⟩ := ih (fun a ha => hf a (by simp [ha])) i h
      exact ⟨b, by simpa using hb, hu⟩
theorem flatMap_len {α β : Type} {sz : Nat} (f : α → List β) (l : List α) (hf : ∀ a ∈ l, (f a).length = sz) : (l.flatMap f).length = l.length * sz := by
  induction l with
  | nil => simp
  | cons a l ih => rw [List.flatMap_cons, List.length_append, hf a (by simp), ih (fun a ha => hf a (by simp [ha])), List.length_cons, Nat.add_mul]; omega

theorem flatMap_one {α β : Type} (f : α → β) (l : List α) : l.flatMap (fun a => [f a]) = l.map f := by
  induction l with
  | nil => rfl
  | cons a l ih => rw [List.flatMap_cons, ih]; rfl
theorem rd_cell {α : Type} {f : α → Value} {w : World} {v : Value} {l : List α} (h : Rd w 1 v l.length (l.flatMap fun a => [f a])) (j : Nat) (hj : j < l.length) :
    ∃ b off c, v = .slice (some ⟨b, off, none⟩) l.length c ∧ w.cell? ⟨b, off + j, none⟩ = some (f l[j]) ∧ b < w.heap.size := by
  have hg : (l.flatMap fun a => [f a])[j]? = some (f l[j]) := by rw [flatMap_one]; simp [hj]
  obtain ⟨b, off, c, hv, _, _, hc⟩ := h.at (fun e => by rw [e] at hg; simp at hg)
  have := hc j _ hg
  exact ⟨b, off, c, hv, this, World.block_lt_of_cell? w _ this⟩

/-- A slice of a flat type that came in. -/
theorem open_flat {P : Program} {t e : TypeId} {sz : Nat} (hsz : 0 < sz) {α : Type} [Inhabited α] {f : α → List Value} {ok : α → Prop} (hF : Flat P e sz f ok) (ht : P.underlying t = some (.slice e))
    {H : Type} {enc : TypeId × Value → H} {w : World} {base : Nat} {spare : Nat → Bool} {held : Bool} {v : Value} {d : DataW H} {ps : List MemPlace} {n c : Nat} {p : Option Addr} (hv : v = .slice p n c)
    (h : DataW.Trod enc P w base spare held t v d ps) :
    ∃ l : List α, (∀ a ∈ l, ok a) ∧ l.length = n ∧ Rd w sz v l.length (l.flatMap f) ∧ ((d = .nil ∧ l.length = 0) ∨ ∃ elems rest, d = .slice elems rest ∧ elems.length = l.length) := by
  subst hv
  obtain ⟨fuel, h⟩ := h
  rcases Deep.open_slice ht h with ⟨hcs, hx⟩ | ⟨a, len, cap, m, n', D, Pl, hcs, _, hl, hm, hmm, hx, hel⟩
  · simp [Value.cells] at hcs
    obtain ⟨rfl, rfl, rfl⟩ := hcs
    simp at hx
    exact ⟨[], by simp, rfl, Rd.nil w sz, Or.inl ⟨hx.1, rfl⟩⟩
  · simp [Value.cells] at hcs
    obtain ⟨rfl, rfl, rfl⟩ := hcs
    have hml : n ≤ m := by rw [hmm]; split <;> omega
    have hch : ∀ i, i < n → ∃ b : α, ok b ∧ (f b).length = sz ∧ ∀ (j : Nat) (u : Value), (f b)[j]? = some u → w.cell? (a.add (i * sz + j)) = some u := by
      intro i hi
      obtain ⟨cs', h1, h2⟩ := hel i (by omega)
      rw [hF.1] at h1
      obtain ⟨b, hb, rfl⟩ := hF.2 H enc w base spare held n' _ _ h2
      obtain ⟨h3, h4⟩ := cells_get h1
      exact ⟨b, hb, h3, fun j u hu => by rw [← Deep.add_add]; exact h4 j u hu⟩
    obtain ⟨g, hg⟩ := Deep.choose_lt hch
    have hlen : ∀ b ∈ (List.range n).map g, (f b).length = sz := by
      intro b hb
      obtain ⟨i, hi, rfl⟩ := List.mem_map.1 hb
      exact (hg i (List.mem_range.1 hi)).2.1
    simp at hx
    refine ⟨(List.range n).map g, ?_, by simp, ⟨some a, c, by simp, ?_, by simpa using hl, hm, (fun e => by cases e), ?_⟩, Or.inr ⟨_, _, hx.1, by simp⟩⟩
    · intro b hb
      obtain ⟨i, hi, rfl⟩ := List.mem_map.1 hb
      exact (hg i (List.mem_range.1 hi)).1
    · rw [flatMap_len f _ hlen]
    · intro ad e j u hu
      cases e
      have hj : j = j / sz * sz + j % sz := by rw [Nat.mul_comm]; exact (Nat.div_add_mod j sz).symm
      rw [hj] at hu
      obtain ⟨b, hb, hu'⟩ := flatMap_get f _ hlen (j / sz) (j % sz) (Nat.mod_lt _ hsz) u hu
      have hlt : j / sz < n := by
        rcases Nat.lt_or_ge (j / sz) n with h | h
        · exact h
        · rw [List.getElem?_eq_none (by simpa using h)] at hb; cases hb
      rw [List.getElem?_map, List.getElem?_range hlt] at hb
      simp at hb
      subst hb
      rw [hj]
      exact (hg (j / sz) hlt).2.2 _ u hu'

/-- A struct or an array by value. -/
theorem open_flat_agg {P : Program} {t : TypeId} {sz : Nat} {α : Type} {f : α → List Value} {ok : α → Prop} (hF : Flat P t sz f ok)
    {H : Type} {enc : TypeId × Value → H} {w : World} {base : Nat} {spare : Nat → Bool} {held : Bool} {v : Value} {d : DataW H} {ps : List MemPlace} {cs : Array Value} (hv : v = .agg cs)
    (h : DataW.Trod enc P w base spare held t v d ps) : ∃ a : α, ok a ∧ v = .agg (f a).toArray := by
  subst hv
  obtain ⟨fuel, h⟩ := h
  obtain ⟨a, ha, e⟩ := hF.2 H enc w base spare held fuel _ _ h
  exact ⟨a, ha, by rw [← e]; simp [Value.cells]⟩
theorem flat_array2 {P : Program} {t e : TypeId} {s : Nat} {α : Type} {g : α → List Value} {k : α → Prop} (he : P.underlying t = some (.array 2 e)) (hc : P.cellsOf t = s + s) (h : Flat P e s g k) :
    Flat P t (s + s) (fun a : α × α => g a.1 ++ g a.2) (fun a => k a.1 ∧ k a.2) :=
  ⟨hc, fun H enc w base spare held fuel cs x hx => by
    obtain ⟨xs, m, _, _, hl, hlen, hf⟩ := DataW.trod_array he hx
    match xs, hlen with
    | [y0, y1], _ =>
      have t0 := hf 0 (by decide)
      have t1 := hf 1 (by decide)
      rw [h.1] at t0 t1
      obtain ⟨a, ha, ea⟩ := h.2 H enc w base spare held m _ _ t0
      obtain ⟨b, hb, eb⟩ := h.2 H enc w base spare held m _ _ t1
      refine ⟨(a, b), ⟨ha, hb⟩, ?_⟩
      show cs = g a ++ g b
      rw [← ea, ← eb]
      simp only [Nat.zero_mul, Nat.one_mul, List.drop_zero]
      rw [List.take_of_length_le (l := cs.drop s) (by rw [List.length_drop, hl, hc]; omega), List.take_append_drop]⟩

theorem nat_u8 {z : Int} (h : (Lit.int .u8 z).wf = true) : ∃ n : Nat, n < 256 ∧ z = n := by have := bounds_u8 h; exact ⟨z.toNat, by omega, by omega⟩
theorem nat_u16 {z : Int} (h : (Lit.int .u16 z).wf = true) : ∃ n : Nat, n < 65536 ∧ z = n := by have := bounds_u16 h; exact ⟨z.toNat, by omega, by omega⟩
theorem nat_u32 {z : Int} (h : (Lit.int .u32 z).wf = true) : ∃ n : Nat, n < 4294967296 ∧ z = n := by have := bounds_u32 h; exact ⟨z.toNat, by omega, by omega⟩
theorem nat_u64 {z : Int} (h : (Lit.int .u64 z).wf = true) : ∃ n : Nat, n < 18446744073709551616 ∧ z = n := by have := bounds_u64 h; exact ⟨z.toNat, by omega, by omega⟩
theorem int_i64 {z : Int} (h : (Lit.int .i64 z).wf = true) : ∃ n : Int, (-9223372036854775808 ≤ n ∧ n < 9223372036854775808) ∧ z = n := by have := bounds_i64 h; exact ⟨z, by omega, rfl⟩
theorem okWide_arr {P : Program} {w : World} {r : Reach} {base n : Nat} {t e : TypeId} {v : Value} (ht : P.underlying t = some (.array n e)) (h : Value.okWide P w r base t v) : ∃ cs, v = .agg cs ∧ cs.size = P.cellsOf t := by
  simp only [Value.okWide, ht] at h
  obtain ⟨cs, h1, h2, _⟩ := h
  exact ⟨cs, h1, h2⟩

/-- How much such an argument may weigh. -/
theorem sized_flat {P : Program} {H : Type} {ts : List TypeId} {ds : List (DataW H)} (hw : (DataW.weightsEach P ts ds).all (· ≤ reachBytes) = true) {j : Nat} {t e : TypeId} {d : DataW H} {bytes m : Nat}
    (ht : ts[j]? = some t) (hd : ds[j]? = some d) (hu : P.underlying t = some (.slice e)) (hb : P.bytesOf e = bytes) (h : (d = .nil ∧ m = 0) ∨ ∃ elems rest, d = .slice elems rest ∧ elems.length = m) : m * bytes ≤ 140737488351232 := by
  rcases h with ⟨_, rfl⟩ | ⟨elems, rest, rfl, rfl⟩
  · omega
  · have := sized_slice hw ht hd hu
    rw [hb] at this
    have h2 : elems.length * bytes ≤ (elems.length + rest.length) * bytes := Nat.mul_le_mul_right _ (by omega)
    have h3 : reachBytes = 140737488351232 := by decide
    omega

/-- The bytes of a slice of bytes. -/
theorem flat_u8 {P : Program} {e : TypeId} (he : P.underlying e = some (.int .u8)) (hc : P.cellsOf e = 1) : Flat P e 1 (fun n : Nat => [Value.int .u8 (n : Int)]) (fun n => n < 256) :=
  (flat_int he hc).map fun z hz => by
    have := bounds_u8 hz
    exact ⟨z.toNat, by omega, by rw [Int.toNat_of_nonneg (by omega)]⟩
theorem flat_u64 {P : Program} {e : TypeId} (he : P.underlying e = some (.int .u64)) (hc : P.cellsOf e = 1) : Flat P e 1 (fun n : Nat => [Value.int .u64 (n : Int)]) (fun n => n < 18446744073709551616) :=
  (flat_int he hc).map fun z hz => by
    have := bounds_u64 hz
    exact ⟨z.toNat, by omega, by rw [Int.toNat_of_nonneg (by omega)]⟩
theorem flat_i64 {P : Program} {e : TypeId} (he : P.underlying e = some (.int .i64)) (hc : P.cellsOf e = 1) : Flat P e 1 (fun z : Int => [Value.int .i64 z]) (fun z => -9223372036854775808 ≤ z ∧ z < 9223372036854775808) :=
  (flat_int he hc).map fun z hz => by
    have := bounds_i64 hz
    exact ⟨z, by omega, rfl⟩
theorem flatMap_u8s (l : List Nat) : l.flatMap (fun n : Nat => [Value.int .u8 (n : Int)]) = u8s l := by
  induction l with
  | nil => rfl
  | cons a l ih => rw [List.flatMap_cons, ih]; simp [u8s]
end Go.Proofs.YtgpmoimmpbkgfaaGreatDoor

end

section
/- Layer 9: samples as the statements draw them. -/
namespace Go.Proofs.YtgpmoimmpbkgfaaGreatDoor
open Go Go.RowKit
def samCell (a : Int × Nat) : List Value := [.int .i64 a.1, .int .u64 (a.2 : Int)]
theorem flat_sam : Flat Tryz.prog 33 2 samCell sampleOk :=
  (flat_struct2 Tryz.underlying33 (by kernel_rfl) rfl rfl (flat_i64 Tryz.underlying2 (by kernel_rfl)) (flat_u64 Tryz.underlying31 (by kernel_rfl))).map fun a h => ⟨a, h, rfl⟩
end Go.Proofs.YtgpmoimmpbkgfaaGreatDoor

end

section
/- Layer 9: bytes.HasPrefix where it holds. -/
set_option linter.unusedVariables false
namespace Go.Proofs.YtgpmoimmpbkgfaaGreatDoor
open Go Go.RowKit

set_option maxHeartbeats 2000000 in
theorem has_prefix (sv pv : Value) (p r : List Nat) (w : World) (hs : Rd w 1 sv (p ++ r).length (u8s (p ++ r))) (hp : Rd w 1 pv p.length (u8s p)) (h8 : ∀ x ∈ p, x < 256) :
    Calls Tryz.prog 23 #[sv, pv] w fun e w' => e = .returned (.bool true) ∧ w' = w := by
  have HS := Lib.hid hs; have HP := Lib.hid hp; have H8 := Lib.hid h8
  obtain ⟨ps, cs, hv⟩ := hs.shape
  subst hv
  obtain ⟨pp, cp, hv⟩ := hp.shape
  subst hv
  have HU : Hid (Rd w 1 (.slice ps p.length cs) p.length (u8s p)) := by
    have h := HS.out.upto p.length (by simp)
    have e : (u8s (p ++ r)).take (p.length * 1) = u8s p := by rw [Nat.mul_one, u8s, u8s, ← List.map_take, List.take_left]
    rw [e] at h
    exact h
  have HC : Hid (p.length ≤ (p ++ r).length ∧ (p ++ r).length ≤ cs) := by
    refine ⟨by simp, ?_⟩
    obtain ⟨_, _, e, _, h, _⟩ := HS.out
    simp only [Value.slice.injEq] at e
    obtain ⟨_, _, rfl⟩ := e
    exact h
  have hle : (p.length : Int) ≤ ((p ++ r).length : Int) := by have := HC.out.1; omega
  clear hs hp h8
  obtain ⟨N, hN⟩ : ∃ N, (p ++ r).length = N := ⟨_, rfl⟩
  rw [hN] at HC HS hle ⊢
  clear hN
  go_enter Tryz.func23, Tryz.ntmps23
  go_wp2_with (refine wpList_upto Tryz.elemU8 w ps N cs p.length HC.out.1 HC.out.2 rfl _ _ rfl rfl rfl ?_)
  refine (equal_any _ _ _ _ _ _ _ HU.out HP.out H8.out H8.out).mono ?_
  rintro e w1 ⟨rfl, rfl⟩
  have hd : decide (p = p) = true := by simp
  rw [hd]
  go_wp2_with fail
  go_ret
  exact ⟨rfl, rfl⟩
end Go.Proofs.YtgpmoimmpbkgfaaGreatDoor

end

section
/- Layer 9: two equal arrays of three ints are equal. -/
set_option maxRecDepth 20000
namespace Go.Proofs.YtgpmoimmpbkgfaaGreatDoor
open Go Go.RowKit
theorem eq_threeD (d : Nat) (w : World) (a b c : Int) : (Op.equalIn (d + 2) 25 (.agg #[.int .i64 a, .int .i64 b, .int .i64 c]) (.agg #[.int .i64 a, .int .i64 b, .int .i64 c])).run Tryz.prog w = .ok true w := by
  have hu := Tryz.underlying25
  have he := Tryz.underlying3
  have hz := Tryz.sizeOf3
  have hg := Tryz.isAgg3
  have hx : ∀ (x : Int) (w : World), (Op.equalIn (d + 1) 3 (.int .i64 x) (.int .i64 x)).run Tryz.prog w = .ok true w := fun x w => by rw [run_equalIn_int w d 3 .i64 .i64 x x he]; simp
  have hp : ∀ (cs : Array Value) (off : Nat) (v : Value) (w : World), cs[off]? = some v → (part 3 cs off).run Tryz.prog w = .ok v w := fun cs off v w h => by simp [part, hg, h]
  rw [show d + 2 = (d + 1) + 1 from rfl, Op.equalIn]
  simp only [Sem.run_bind, run_underlying hu, Result.andThen_ok, hz, Std.Legacy.Range.forIn_eq_forIn_range', Std.Legacy.Range.size, List.range', List.forIn_cons, List.forIn_nil]
  have h0 : ∀ w, (part 3 #[.int .i64 a, .int .i64 b, .int .i64 c] (0 * 1)).run Tryz.prog w = .ok (.int .i64 a) w := fun w => hp _ _ _ _ rfl
  have h1 : ∀ w, (part 3 #[.int .i64 a, .int .i64 b, .int .i64 c] ((0 + 1) * 1)).run Tryz.prog w = .ok (.int .i64 b) w := fun w => hp _ _ _ _ rfl
  have h2 : ∀ w, (part 3 #[.int .i64 a, .int .i64 b, .int .i64 c] ((0 + 1 + 1) * 1)).run Tryz.prog w = .ok (.int .i64 c) w := fun w => hp _ _ _ _ rfl
  simp only [h0, h1, h2, hx, Sem.run_bind, Result.andThen_ok, Bool.not_true, Bool.false_eq_true, if_false, Sem.run_pure]
theorem eql_three (a b c : Int) (w : World) : (binOp .eql 25 (.agg #[.int .i64 a, .int .i64 b, .int .i64 c]) (.agg #[.int .i64 a, .int .i64 b, .int .i64 c])).run Tryz.prog w = .ok (.bool true) w := by
  rw [run_eql_struct, show (10000 : Nat) = 9998 + 2 from rfl, eq_threeD]
  rfl
end Go.Proofs.YtgpmoimmpbkgfaaGreatDoor

end

section
/- Layer 9: the example of the chapter, over the interface. -/
set_option linter.unusedVariables false
set_option maxRecDepth 20000
namespace Go.Proofs.YtgpmoimmpbkgfaaGreatDoor
open Go Go.RowKit
variable {G : Nat} {T : World → Prop}

def nineC : List (Int × Nat) := [(10, 5), (20, 5), (30, 5)]
theorem nine_ok : ∀ s ∈ nineC, sampleOk s := by
  intro s hs
  simp only [nineC, List.mem_cons, List.not_mem_nil, or_false] at hs
  rcases hs with rfl | rfl | rfl <;> (unfold sampleOk; omega)
theorem nine_err : (encC nineC).2 = 0 := by decide +kernel
theorem nine_head : (encC nineC).1.take 2 = [1, 2] := by decide +kernel
theorem nine_bytes : ∃ r : List Nat, (encC nineC).1 = [1, 2] ++ r ∧ ([1, 2] ++ r).length ≤ 1000 := by
  refine ⟨(encC nineC).1.drop 2, ?_, ?_⟩
  · conv => lhs; rw [← List.take_append_drop 2 (encC nineC).1, nine_head]
  · conv => lhs; rw [← nine_head, List.take_append_drop]
    decide +kernel
theorem nine_all : ∀ x ∈ (encC nineC).1, x < 256 := by decide +kernel
theorem nine_dec : decC (encC nineC).1 = (nineC, 0) := decC_back nineC (by decide) (by decide) nine_ok
theorem nine_s1 : sizeC 1 [5, 5, 5] = 66 := by decide +kernel
theorem nine_s2 : sizeC 2 [5, 5, 5] = 71 := by decide +kernel
theorem nine_s3 : sizeC 3 [5, 5, 5] = 71 := by decide +kernel
theorem nine_ch : chooseC [5, 5, 5] = 1 := by decide +kernel
theorem nine_in : ∀ t ∈ ([5, 5, 5] : List Nat), in64u t := by
  intro t ht
  simp only [List.mem_cons, List.not_mem_nil, or_false] at ht
  rcases ht with rfl | rfl | rfl <;> (unfold in64u; omega)

theorem lit_nine (w : World) : Rd (w.alloc (.cells #[.int .u64 5, .int .u64 5, .int .u64 5] 31)) 1 (.slice (some ⟨w.heap.size, 0, none⟩) 3 3) ([5, 5, 5] : List Nat).length (u64s [5, 5, 5]) :=
  Rd.of_owns (World.ownsRow_lit (base := 0) w #[.int .u64 5, .int .u64 5, .int .u64 5] 3 (Nat.zero_le _) (by simp [maxLen]) (by simp))
set_option maxHeartbeats 4000000 in
theorem alive_ofC (I : CIf G T) (w : World) (hT : T w) : Calls Tryz.prog 9 #[] w fun e w' => e = .returned (.bool true) ∧ Below w.heap.size w w' := by
  have HT := Lib.hid hT
  clear hT
  go_enter Tryz.func9, Tryz.ntmps9
  go_wp2_with fail
  have HB1 : Hid (Below w.heap.size w (w.alloc (.cells #[.int .i64 10, .int .u64 5, .int .i64 20, .int .u64 5, .int .i64 30, .int .u64 5] 33))) := (Below.refl _ _).alloc (Nat.le_refl _) _
  have HL1 : Hid (Rd (w.alloc (.cells #[.int .i64 10, .int .u64 5, .int .i64 20, .int .u64 5, .int .i64 30, .int .u64 5] 33)) 2 (.slice (some ⟨w.heap.size, 0, none⟩) 3 3) nineC.length (samCells nineC)) :=
    Rd.of_owns (World.ownsRow_lit (base := 0) w #[.int .i64 10, .int .u64 5, .int .i64 20, .int .u64 5, .int .i64 30, .int .u64 5] 3 (Nat.zero_le _) (by simp [maxLen]) (by simp))
  have HT1 := Lib.hid (I.below HT.out HB1.out)
  generalize w.alloc (.cells #[.int .i64 10, .int .u64 5, .int .i64 20, .int .u64 5, .int .i64 30, .int .u64 5] 33) = w1 at *
  have HEn := Lib.hid (I.encode _ nineC w1 HT1.out HL1.out nine_ok (by decide))
  have HDn := Lib.hid nine_dec
  have HAll := Lib.hid nine_all
  obtain ⟨R, hR, hR2⟩ := nine_bytes
  rw [nine_err, hR] at HEn
  rw [hR] at HDn HAll
  have HRl := Lib.hid hR2
  obtain ⟨E, hE⟩ : ∃ E, [1, 2] ++ R = E := ⟨_, rfl⟩
  have HEe := Lib.hid hE
  rw [hE] at HEn HDn HAll HRl
  clear hR hR2 hE HT
  refine HEn.out.mono ?_
  rintro e w2 ⟨r2, rfl, hr, hB⟩
  have HB2 := Lib.hid (HB1.out.trans (hB.mono HB1.out.size))
  have HT2 := Lib.hid (I.below HT1.out hB)
  have HL2 := Lib.hid (HL1.out.below hB)
  have HE2 := Lib.hid hr
  obtain ⟨p2, c2, hv2⟩ := hr.shape
  subst hv2
  have HDe := Lib.hid (I.decode _ E w2 HT2.out HE2.out HAll.out (by have := HRl.out; omega))
  rw [HDn.out] at HDe
  clear hr hB HEn HB1 HT1 HL1
  go_wp2_with fail
  refine HDe.out.mono ?_
  rintro e w3 ⟨r3, rfl, hr, hB⟩
  have HB3 := Lib.hid (HB2.out.trans (hB.mono HB2.out.size))
  have HT3 := Lib.hid (I.below HT2.out hB)
  have HL3 := Lib.hid (HL2.out.below hB)
  have HE3 := Lib.hid (HE2.out.below hB)
  have HM3 : Hid (Rd w3 2 r3 nineC.length (samCells nineC)) := hr
  obtain ⟨p3, c3, hv3⟩ : ∃ p c, r3 = .slice p 3 c := hr.shape
  subst hv3
  clear hr hB HDe HB2 HT2 HL2 HE2
  go_wp2_with fail
  have hb4 : Below w3.heap.size w3 (w3.alloc (.cells #[.int .u8 1, .int .u8 2] 5)) := (Below.refl _ _).alloc (Nat.le_refl _) _
  have HP4 := Lib.hid (lit_rd w3 #[.int .u8 1, .int .u8 2] [1, 2] rfl (by simp [maxLen]))
  have HB4 := Lib.hid (HB3.out.trans (hb4.mono HB3.out.size))
  have HT4 := Lib.hid (I.below HT3.out hb4)
  have HL4 := Lib.hid (HL3.out.below hb4)
  have HM4 := Lib.hid (HM3.out.below hb4)
  have hE4 := HE3.out.below hb4
  rw [← HEe.out] at hE4
  have HE4 := Lib.hid hE4
  clear hb4 HB3 HT3 HL3 HM3 HE3 hE4
  generalize w3.alloc (.cells #[.int .u8 1, .int .u8 2] 5) = w4 at *
  generalize w3.heap.size = q3 at *
  have HPf := Lib.hid (has_prefix _ _ [1, 2] R w4 HE4.out HP4.out (by intro x hx; simp at hx; omega))
  rw [HEe.out] at HPf
  refine HPf.out.mono ?_
  rintro e w5 ⟨rfl, h5⟩
  obtain rfl := h5.symm
  clear HPf HP4 HE4
  go_wp2_with fail
  refine (equal_sam _ _ nineC w4 (by decide) HL4.out HM4.out).mono ?_
  rintro e w5 ⟨rfl, hB⟩
  have HB5 := Lib.hid (HB4.out.trans (hB.mono HB4.out.size))
  have HT5 := Lib.hid (I.below HT4.out hB)
  have HL5 := Lib.hid (HL4.out.below hB)
  clear hB HB4 HT4 HL4 HM4
  go_wp2_with fail
  have hb6 : Below w5.heap.size w5 (w5.alloc (.cells #[.int .u64 5, .int .u64 5, .int .u64 5] 31)) := (Below.refl _ _).alloc (Nat.le_refl _) _
  have HF6 := Lib.hid (lit_nine w5)
  have HB6 := Lib.hid (HB5.out.trans (hb6.mono HB5.out.size))
  have HT6 := Lib.hid (I.below HT5.out hb6)
  have HL6 := Lib.hid (HL5.out.below hb6)
  clear hb6 HB5 HT5 HL5
  generalize w5.alloc (.cells #[.int .u64 5, .int .u64 5, .int .u64 5] 31) = w6 at *
  generalize w5.heap.size = q5 at *
  have HSz := Lib.hid (I.sizes _ [5, 5, 5] w6 HT6.out HF6.out nine_in (by simp))
  rw [nine_s1, nine_s2, nine_s3] at HSz
  have hEq := eql_three 66 71 71
  refine HSz.out.mono ?_
  rintro e w7 ⟨rfl, hB⟩
  have HB7 := Lib.hid (HB6.out.trans (hB.mono HB6.out.size))
  have HT7 := Lib.hid (I.below HT6.out hB)
  have HL7 := Lib.hid (HL6.out.below hB)
  clear hB HB6 HT6 HL6 HSz HF6
  go_wp2_with fail
  have hb8 : Below w7.heap.size w7 (w7.alloc (.cells #[.int .u64 5, .int .u64 5, .int .u64 5] 31)) := (Below.refl _ _).alloc (Nat.le_refl _) _
  have HF8 := Lib.hid (lit_nine w7)
  have HB8 := Lib.hid (HB7.out.trans (hb8.mono HB7.out.size))
  have HT8 := Lib.hid (I.below HT7.out hb8)
  have HL8 := Lib.hid (HL7.out.below hb8)
  clear hb8 HB7 HT7 HL7
  generalize w7.alloc (.cells #[.int .u64 5, .int .u64 5, .int .u64 5] 31) = w8 at *
  generalize w7.heap.size = q7 at *
  have HCh := Lib.hid (I.choose _ [5, 5, 5] w8 HT8.out HF8.out nine_in (by simp))
  rw [nine_ch] at HCh
  refine HCh.out.mono ?_
  rintro e w9 ⟨rfl, hB⟩
  have HB9 := Lib.hid (HB8.out.trans (hB.mono HB8.out.size))
  have HT9 := Lib.hid (I.below HT8.out hB)
  have HL9 := Lib.hid (HL8.out.below hB)
  clear hB HB8 HT8 HL8 HCh HF8
  go_wp2_with fail
  have HSp := Lib.hid (I.split _ nineC w9 HT9.out HL9.out (by decide))
  refine HSp.out.mono ?_
  rintro e w10 ⟨r, vs, ps, rfl, hp, hr, hat, hB⟩
  have HB10 := Lib.hid (HB9.out.trans (hB.mono HB9.out.size))
  have hone : vs.length = 1 := by rw [hat.1, hp.count]; rfl
  obtain ⟨p10, c10, hv⟩ := hr.shape
  rw [hone] at hv
  subst hv
  clear hp hr hat hB HSp hone
  go_wp2_with fail
  go_ret
  exact ⟨rfl, HB10.out⟩
end Go.Proofs.YtgpmoimmpbkgfaaGreatDoor

end

section
/- Lists of 64-bit numbers as rows. -/
set_option linter.unusedVariables false
namespace Go.Proofs.YtgpmoimmpbkgfaaGreatDoor
open Go Go.RowKit

def i64s (l : List Int) : List Value := l.map fun x => .int .i64 x
theorem i64s_length (l : List Int) : (i64s l).length = l.length := by simp [i64s]
theorem i64s_append (a b : List Int) : i64s (a ++ b) = i64s a ++ i64s b := by simp [i64s]
theorem i64s_get (l : List Int) (i : Nat) (h : i < l.length) : (i64s l)[i]? = some (.int .i64 l[i]) := by simp [i64s, h]
theorem i64s_one (l : List Int) : ∀ u ∈ i64s l, u.oneCell' = true := by
  intro u hu
  simp only [i64s, List.mem_map] at hu
  obtain ⟨n, _, rfl⟩ := hu
  rfl
theorem Tryz.infoI64 : (Tryz.prog.info? 2).map (fun i => (i.zero, i.size, i.bytes)) = some (some (.int .i64 0), 1, 8) := by kernel_rfl
theorem Tryz.elemI64 : Elem Tryz.prog 61 2 1 8 := Elem.mk' Tryz.underlying61 Tryz.infoI64 rfl (by decide)
end Go.Proofs.YtgpmoimmpbkgfaaGreatDoor

end

section
/- Arrays of numbers as values: a variable that holds one, loads, stores, elements. No program in sight. -/
namespace Go.Proofs.YtgpmoimmpbkgfaaGreatDoor
open Go Go.RowKit

def u32s (l : List Nat) : List Value := l.map fun n : Nat => Value.int .u32 (n : Int)
theorem u32s_length (l : List Nat) : (u32s l).length = l.length := by simp [u32s]
theorem u32s_one (l : List Nat) : ∀ u ∈ u32s l, u.oneCell' = true := by
  intro u hu
  simp only [u32s, List.mem_map] at hu
  obtain ⟨n, _, rfl⟩ := hu
  rfl
theorem u32s_get (l : List Nat) (i x : Nat) (h : l[i]? = some x) : (u32s l)[i]? = some (.int .u32 (x : Int)) := by simp [u32s, h]
theorem u32s_set (l : List Nat) (i x : Nat) : (u32s l).set i (.int .u32 (x : Int)) = u32s (l.set i x) := by simp [u32s, List.map_set]

/-- Whether a type's values are made of several cells. -/
def manyCells : TypeDesc → Bool
  | .struct _ | .array _ _ => true
  | _ => false
/-- An array type t of n elements of type e, each one cell, whose zero value is z. -/
structure Arr (P : Program) (t e : TypeId) (n : Nat) (z : Value) : Prop where
  ht : P.underlying t = some (.array n e)
  hi : ∃ i, P.info? t = some i ∧ i.zero = some (.agg (List.replicate n z).toArray) ∧ i.size = n
  he : ∃ i, P.info? e = some i ∧ i.size = 1
  hl : ∃ d, P.underlying e = some d ∧ manyCells d = false

theorem Arr.mk' {P : Program} {t e : TypeId} {n : Nat} {z : Value} (ht : P.underlying t = some (.array n e)) (hi : (P.info? t).map (fun i => (i.zero, i.size)) = some (some (.agg (List.replicate n z).toArray), n)) (he : (P.info? e).map (·.size) = some 1)
    {d : TypeDesc} (hd : P.underlying e = some d) (hl : manyCells d = false) : Arr P t e n z := by
  obtain ⟨i, h1, h2⟩ := Option.map_eq_some_iff.1 hi
  obtain ⟨j, h3, h4⟩ := Option.map_eq_some_iff.1 he
  simp only [Prod.mk.injEq] at h2
  exact ⟨ht, ⟨i, h1, h2.1, h2.2⟩, ⟨j, h3, h4⟩, ⟨d, hd, hl⟩⟩

theorem mods_setRow (w : World) (g : Nat) (cs : Array Value) : Mods (fun k => k = g) w (w.setRow g cs) :=
  ⟨rfl, rfl, rfl, by simp, fun k _ hs => setRow_other w g k cs hs⟩

section
variable {P : Program} {ops : Array Oper} {rest : List Oper} {o : Oper} {a : Act} {w : World} {Q : Exit → Act → World → Prop} {t e : TypeId} {n : Nat} {z : Value}

/-- A new variable that holds the array. -/
theorem wpList_boxA (hg : o.guard = none) (t : TypeId) (x : Operand) (ho : o.op = .box t x) (cs : List Value) (hx : a.eval x = .agg cs.toArray)
    (h : ∀ w', Blk w' w.heap.size cs → Below w.heap.size w w' → w'.heap.size = w.heap.size + 1 → wpList P ops Q rest (a.put o.dst (.pointer (some ⟨w.heap.size, 0, none⟩))) w') : wpList P ops Q (o :: rest) a w := by
  refine wpList_plain hg fun K hK => ?_
  unfold Oper.wp execOp
  simp only [ho, hx, Sem.run_bind, Instr.box, newVar, newRow, run_newObj_alloc, Sem.run_pure, Result.andThen_ok]
  exact hK _ _ (h _ (by simpa [Value.cells] using Blk.new w cs.toArray t) ((Below.refl _ _).alloc (Nat.le_refl _) _) (by simp))

/-- A new variable that holds the zero value. -/
theorem wpList_allocA (hA : Arr P t e n z) (hg : o.guard = none) (ho : o.op = .alloc t)
    (h : ∀ w', Blk w' w.heap.size (List.replicate n z) → Below w.heap.size w w' → w'.heap.size = w.heap.size + 1 → wpList P ops Q rest (a.put o.dst (.pointer (some ⟨w.heap.size, 0, none⟩))) w') : wpList P ops Q (o :: rest) a w := by
  obtain ⟨i, hi, hz, hs⟩ := hA.hi
  refine wpList_plain hg fun K hK => ?_
  have hzv : (zeroValue t).run P w = .ok (.agg (List.replicate n z).toArray) w := by simp [zeroValue, typeInfo, hi, hz]
  unfold Oper.wp execOp
  simp only [ho, Sem.run_bind, Instr.alloc, hzv, newVar, newRow, run_newObj_alloc, Sem.run_pure, Result.andThen_ok]
  exact hK _ _ (h _ (by simpa [Value.cells] using Blk.new w (List.replicate n z).toArray t) ((Below.refl _ _).alloc (Nat.le_refl _) _) (by simp))

/-- The whole array loaded. -/
theorem wpList_loadA (hA : Arr P t e n z) (hgd : o.guard = none) (x : Operand) (ho : o.op = .load t x) (g : Nat) (hx : a.eval x = .pointer (some ⟨g, 0, none⟩)) (cs : List Value) (hb : Blk w g cs) (hl : cs.length = n)
    (h : wpList P ops Q rest (a.put o.dst (.agg cs.toArray)) w) : wpList P ops Q (o :: rest) a w := by
  obtain ⟨u, hg⟩ := hb
  obtain ⟨i, hi, _, hs⟩ := hA.hi
  exact wpList_load_row hgd t x ho g hx u cs.toArray (0, 0) _ hg hA.ht rfl (by rw [hi]; simp [hs, hl]) h

/-- The whole array stored. -/
theorem wpList_storeA (hA : Arr P t e n z) (hgd : o.guard = none) (x y : Operand) (ho : o.op = .store t x y) (g : Nat) (hx : a.eval x = .pointer (some ⟨g, 0, none⟩)) (cs old : List Value) (hy : a.eval y = .agg cs.toArray)
    (hb : Blk w g old) (hold : old.length = n) (hl : cs.length = n) (h1 : ∀ u ∈ cs, u.oneCell' = true)
    (h : ∀ w', Blk w' g cs → Mods (fun k => k = g) w w' → w'.heap.size = w.heap.size → wpList P ops Q rest (a.put o.dst undef) w') : wpList P ops Q (o :: rest) a w := by
  obtain ⟨u, hg⟩ := hb
  obtain ⟨i, hi, _, hs⟩ := hA.hi
  refine wpList_store_row hgd t x y ho g cs.toArray hx hy u old.toArray hg (by rw [hi]; simp [hs, hl]) (by simp [hold, hl]) (by simpa using h1) ?_
  exact h _ ⟨u, setRow_heap w g _ _ u _ hg⟩ (mods_setRow w g _) (by simp)

/-- One element of an array. -/
theorem wpList_indexA (hA : Arr P t e n z) (hgd : o.guard = none) (x y : Operand) (ho : o.op = .index t x y) (cs : List Value) (hx : a.eval x = .agg cs.toArray) (i : Nat) (hy : a.eval y = .int .i64 (i : Int)) (hi : i < n) (v : Value) (hv : cs[i]? = some v)
    (h : wpList P ops Q rest (a.put o.dst v) w) : wpList P ops Q (o :: rest) a w := by
  obtain ⟨ie, hie, hs⟩ := hA.he
  obtain ⟨d, hd, hnd⟩ := hA.hl
  refine wpList_plain hgd fun K hK => ?_
  have hag : (isAgg e).run P w = .ok false w := by
    unfold isAgg
    rw [Sem.run_bind, run_underlying hd w]
    cases d <;> simp_all [manyCells]
  have hr : (Instr.index t (.agg cs.toArray) (.int .i64 (i : Int))).run P w = .ok v w := by
    have hp : (part e cs.toArray i).run P w = .ok v w := by
      unfold part
      simp [Sem.run_bind, hag, hv]
    simp [Instr.index, asIntOf, Sem.run_bind, run_underlying hA.ht w, sizeOf, typeInfo, hie, hs, hp]
    exact fun hn => absurd hn (by omega)
  unfold Oper.wp execOp
  simp only [ho, hx, hy, Sem.run_bind, hr, Result.andThen_ok]
  exact hK _ _ h

/-- A result that lies in a variable. -/
theorem resultsA (hA : Arr P t e n z) {fn : Func} {p : Tmp} (h : fn.results = #[.cell p t]) (tmps : Array Value) (g : Nat) (hp : tmps.getD p undef = .pointer (some ⟨g, 0, none⟩)) (cs : List Value) (hb : Blk w g cs) (hl : cs.length = n) :
    (results fn tmps).run P w = .ok (.agg cs.toArray) w := by
  obtain ⟨u, hg⟩ := hb
  obtain ⟨i, hi, _, hs⟩ := hA.hi
  exact results_cell_row h tmps w g u cs.toArray (0, 0) _ hp hg hA.ht rfl (by rw [hi]; simp [hs, hl])
end
end Go.Proofs.YtgpmoimmpbkgfaaGreatDoor

end

section
/- A region that draws its order, walked in ONE order: all but the calls yield the same in whatever world, so they are taken before a call; the calls come up alone. No program in sight. -/
namespace Go.Proofs.YtgpmoimmpbkgfaaGreatDoor
open Go Go.RowKit

/-- The order L is allowed to stand for all: an operation that is no call comes up free; a call comes up alone. -/
def orderB (md : Region.Mode) (ops : Array Oper) (calls : List Nat) : List Nat → Array Bool → Bool
  | [], listed => (Region.ready md ops listed).isEmpty
  | i :: rest, listed => (if calls.contains i then Region.ready md ops listed == [i] else Region.free md ops listed i && (Region.ready md ops listed).contains i) && orderB md ops calls rest (listed.setIfInBounds i true)

/-- The operations of a region in the order L. -/
def taken (l : List Oper) (L : List Nat) : List (Nat × Oper) := L.map fun i => (i, (l[i]?).getD { dst := none, op := .move (.tmp 0), type := 0, pos := "", after := #[], guard := none })

def wpTake (P : Program) (ops : Array Oper) (Q : Exit → Act → World → Prop) (calls : List Nat) : List (Nat × Oper) → Act → World → Prop
  | [], a, w => Q .normal a w
  | (i, o) :: rest, a, w => if Region.wanted o (yielded ops a.tmps) = true then
        (if calls.contains i = true then o.wp P a w (wpTake P ops Q calls rest) Q else ∃ v, (∀ w, (execOp a.eval o).run P w = .ok (.value v) w) ∧ wpTake P ops Q calls rest (a.put o.dst v) w)
      else wpTake P ops Q calls rest (a.put o.dst undef) w

theorem put_defers (a : Act) (d : Option Tmp) (v : Value) : (a.put d v).defers = a.defers := by cases d <;> rfl

section
variable {P : Program} {l : List Oper} {Q : Exit → Act → World → Prop} {md : Region.Mode} {calls : List Nat}

theorem wpAny_of_take (hs : Region.noSelect l.toArray = true) (hQ : ∀ c (a a' : Act) w, a.defers = a'.defers → Q (.panic c) a w → Q (.panic c) a' w) : ∀ (L : List Nat) (listed : Array Bool) (a : Act) (w : World) (fuel : Nat), L.length ≤ fuel →
    (∀ i ∈ L, i < l.length) → orderB md l.toArray calls L listed = true → wpTake P l.toArray Q calls (taken l L) a w → wpAny P md l.toArray Q fuel listed a w
  | [], listed, a, w, fuel, _, _, hB, h => wpAny_done (by simpa [orderB] using hB) h fuel
  | i :: rest, listed, a, w, 0, hf, _, _, _ => by simp at hf
  | i :: rest, listed, a, w, fuel + 1, hf, hl, hB, h => by
    have hf' : rest.length ≤ fuel := by simpa using hf
    have hl' : ∀ j ∈ rest, j < l.length := fun j hj => hl j (by simp [hj])
    have hi : i < l.length := hl i (by simp)
    unfold orderB at hB
    rw [Bool.and_eq_true] at hB
    obtain ⟨h1, h2⟩ := hB
    have ho : l.toArray[i]? = some l[i] := by simp [hi]
    have e : taken l (i :: rest) = (i, l[i]) :: taken l rest := by simp [taken, hi]
    rw [e] at h
    unfold wpTake at h
    generalize l[i] = o at *
    by_cases hc : calls.contains i = true
    · rw [if_pos hc] at h1 h
      have hr : Region.ready md l.toArray listed = [i] := by simpa using h1
      refine wpAny_all hr (by simp) (fun j hj => ?_)
      obtain rfl : j = i := by simpa using hj
      unfold wpOp
      simp only [ho]
      split
      · next hw =>
        rw [if_pos hw] at h
        exact .inl (Oper.wp_mono (fun a w h => wpAny_of_take hs hQ rest _ a w fuel hf' hl' h2 h) h)
      · next hw =>
        rw [if_neg hw] at h
        exact wpAny_of_take hs hQ rest _ _ w fuel hf' hl' h2 h
    · rw [if_neg hc] at h1 h
      rw [Bool.and_eq_true] at h1
      by_cases hw : Region.wanted o (yielded l.toArray a.tmps) = true
      · rw [if_pos hw] at h
        obtain ⟨v, hv, h⟩ := h
        exact wpAny_take ho hs h1.1 h1.2 (fun c a w h => hQ c _ _ w (put_defers _ _ _) h) (.inl ⟨hw, hv⟩) (wpAny_of_take hs hQ rest _ _ w fuel hf' hl' h2 h)
      · rw [if_neg hw] at h
        exact wpAny_take ho hs h1.1 h1.2 (fun c a w h => hQ c _ _ w (put_defers _ _ _) h) (.inr ⟨by simpa using hw, rfl⟩) (wpAny_of_take hs hQ rest _ _ w fuel hf' hl' h2 h)

/-- A region that draws its order, by one order of it. -/
theorem wp_region_take {id : Nat} {a : Act} {w : World} (calls L : List Nat) (hm : P.follows .mixedOrders = true) (hs : Region.noSelect l.toArray = true) (hB : (decide (L.length ≤ l.length) && (L.all (fun i => decide (i < l.length)) && orderB .any l.toArray calls L (Array.replicate l.length false))) = true)
    (hQ : ∀ c (a a' : Act) w, a.defers = a'.defers → Q (.panic c) a w → Q (.panic c) a' w) (h : wpTake P l.toArray Q calls (taken l L) a w.drew) : (Code.region id l.toArray true).wp P Q a w := by
  rw [Bool.and_eq_true, Bool.and_eq_true] at hB
  refine wp_region_any hm (wpAny_of_take hs hQ L _ a _ _ (by simpa using hB.1) (by simpa using hB.2.1) (by simpa using hB.2.2) h)

variable {ops : Array Oper}
theorem take_nil {a : Act} {w : World} (h : Q .normal a w) : wpTake P ops Q calls [] a w := h
theorem take_skip {i : Nat} {o : Oper} {rest : List (Nat × Oper)} {a : Act} {w : World} (hw : Region.wanted o (yielded ops a.tmps) = false) (h : wpTake P ops Q calls rest (a.put o.dst undef) w) : wpTake P ops Q calls ((i, o) :: rest) a w := by
  unfold wpTake
  simp only [hw]
  exact h
theorem take_move {i : Nat} {o : Oper} {rest : List (Nat × Oper)} {a : Act} {w : World} (x : Operand) (hx : o.op = .move x ∨ o.op = .assign x) (hc : calls.contains i = false) (hw : Region.wanted o (yielded ops a.tmps) = true)
    (h : wpTake P ops Q calls rest (a.put o.dst (a.eval x)) w) : wpTake P ops Q calls ((i, o) :: rest) a w := by
  unfold wpTake
  simp only [hw, hc]
  refine ⟨_, fun w => ?_, h⟩
  rcases hx with hx | hx <;> unfold execOp <;> simp [hx]
theorem take_blind {i : Nat} {o : Oper} {rest : List (Nat × Oper)} {a : Act} {w : World} (hc : calls.contains i = false) (hw : Region.wanted o (yielded ops a.tmps) = true)
    (h : ∃ v, (∀ w, (execOp a.eval o).run P w = .ok (.value v) w) ∧ wpTake P ops Q calls rest (a.put o.dst v) w) : wpTake P ops Q calls ((i, o) :: rest) a w := by
  unfold wpTake
  simp only [hw, hc]
  exact h
theorem take_call {i : Nat} {o : Oper} {rest : List (Nat × Oper)} {a : Act} {w : World} (hc : calls.contains i = true) (hw : Region.wanted o (yielded ops a.tmps) = true)
    (h : ∀ K : Act → World → Prop, (∀ a w, wpTake P ops Q calls rest a w → K a w) → o.wp P a w K Q) : wpTake P ops Q calls ((i, o) :: rest) a w := by
  unfold wpTake
  simp only [hw, hc]
  exact h _ (fun _ _ h => h)
end
end Go.Proofs.YtgpmoimmpbkgfaaGreatDoor

end

section
/- A region that draws its order, walked in ONE order, where operations beside the calls may read memory: a condition S on the world, which every call keeps, says what they read. No program in sight. -/
namespace Go.Proofs.YtgpmoimmpbkgfaaGreatDoor
open Go Go.RowKit

def wpTakeH (P : Program) (ops : Array Oper) (Q : Exit → Act → World → Prop) (calls : List Nat) (S : World → Prop) : List (Nat × Oper) → Act → World → Prop
  | [], a, w => Q .normal a w
  | (i, o) :: rest, a, w => if Region.wanted o (yielded ops a.tmps) = true then
        (if calls.contains i = true then o.wp P a w (fun a' w' => S w' ∧ wpTakeH P ops Q calls S rest a' w') Q else ∃ v, (∀ w, S w → (execOp a.eval o).run P w = .ok (.value v) w) ∧ wpTakeH P ops Q calls S rest (a.put o.dst v) w)
      else wpTakeH P ops Q calls S rest (a.put o.dst undef) w

section
variable {P : Program} {l : List Oper} {Q : Exit → Act → World → Prop} {md : Region.Mode} {calls : List Nat} {S : World → Prop}

theorem wpAnyH_of_take (hs : Region.noSelect l.toArray = true) (hQ : ∀ c (a a' : Act) w, a.defers = a'.defers → Q (.panic c) a w → Q (.panic c) a' w) : ∀ (L : List Nat) (listed : Array Bool) (a : Act) (w : World) (fuel : Nat), L.length ≤ fuel →
    (∀ i ∈ L, i < l.length) → orderB md l.toArray calls L listed = true → S w → wpTakeH P l.toArray Q calls S (taken l L) a w → wpAnyH P md l.toArray Q S fuel listed a w
  | [], listed, a, w, fuel, _, _, hB, _, h => wpAnyH_done (by simpa [orderB] using hB) h fuel
  | i :: rest, listed, a, w, 0, hf, _, _, _, _ => by simp at hf
  | i :: rest, listed, a, w, fuel + 1, hf, hl, hB, hS, h => by
    have hf' : rest.length ≤ fuel := by simpa using hf
    have hl' : ∀ j ∈ rest, j < l.length := fun j hj => hl j (by simp [hj])
    have hi : i < l.length := hl i (by simp)
    unfold orderB at hB
    rw [Bool.and_eq_true] at hB
    obtain ⟨h1, h2⟩ := hB
    have ho : l.toArray[i]? = some l[i] := by simp [hi]
    have e : taken l (i :: rest) = (i, l[i]) :: taken l rest := by simp [taken, hi]
    rw [e] at h
    unfold wpTakeH at h
    generalize l[i] = o at *
    by_cases hc : calls.contains i = true
    · rw [if_pos hc] at h1 h
      have hr : Region.ready md l.toArray listed = [i] := by simpa using h1
      refine wpAnyH_all hr (by simp) (fun j hj => ?_)
      obtain rfl : j = i := by simpa using hj
      unfold wpOp
      simp only [ho]
      split
      · next hw =>
        rw [if_pos hw] at h
        exact .inl (Oper.wp_mono (fun a w h => ⟨h.1, wpAnyH_of_take hs hQ rest _ a w fuel hf' hl' h2 h.1 h.2⟩) h)
      · next hw =>
        rw [if_neg hw] at h
        exact ⟨hS, wpAnyH_of_take hs hQ rest _ _ w fuel hf' hl' h2 hS h⟩
    · rw [if_neg hc] at h1 h
      rw [Bool.and_eq_true] at h1
      by_cases hw : Region.wanted o (yielded l.toArray a.tmps) = true
      · rw [if_pos hw] at h
        obtain ⟨v, hv, h⟩ := h
        exact wpAnyH_take ho hs h1.1 h1.2 (fun c a w h => hQ c _ _ w (put_defers _ _ _) h) (.inl ⟨hw, hv⟩) hS (wpAnyH_of_take hs hQ rest _ _ w fuel hf' hl' h2 hS h)
      · rw [if_neg hw] at h
        exact wpAnyH_take ho hs h1.1 h1.2 (fun c a w h => hQ c _ _ w (put_defers _ _ _) h) (.inr ⟨by simpa using hw, rfl⟩) hS (wpAnyH_of_take hs hQ rest _ _ w fuel hf' hl' h2 hS h)

theorem wp_region_takeH {id : Nat} {a : Act} {w : World} (S : World → Prop) (calls L : List Nat) (hm : P.follows .mixedOrders = true) (hs : Region.noSelect l.toArray = true) (hB : (decide (L.length ≤ l.length) && (L.all (fun i => decide (i < l.length)) && orderB .any l.toArray calls L (Array.replicate l.length false))) = true)
    (hQ : ∀ c (a a' : Act) w, a.defers = a'.defers → Q (.panic c) a w → Q (.panic c) a' w) (hS : S w.drew) (h : wpTakeH P l.toArray Q calls S (taken l L) a w.drew) : (Code.region id l.toArray true).wp P Q a w := by
  rw [Bool.and_eq_true, Bool.and_eq_true] at hB
  refine wp_region_held hm (wpAnyH_of_take hs hQ L _ a _ _ (by simpa using hB.1) (by simpa using hB.2.1) (by simpa using hB.2.2) hS h)

variable {ops : Array Oper}
theorem takeH_nil {a : Act} {w : World} (h : Q .normal a w) : wpTakeH P ops Q calls S [] a w := h
theorem takeH_skip {i : Nat} {o : Oper} {rest : List (Nat × Oper)} {a : Act} {w : World} (hw : Region.wanted o (yielded ops a.tmps) = false) (h : wpTakeH P ops Q calls S rest (a.put o.dst undef) w) : wpTakeH P ops Q calls S ((i, o) :: rest) a w := by
  unfold wpTakeH
  simp only [hw]
  exact h
theorem takeH_blind {i : Nat} {o : Oper} {rest : List (Nat × Oper)} {a : Act} {w : World} (hc : calls.contains i = false) (hw : Region.wanted o (yielded ops a.tmps) = true)
    (h : ∃ v, (∀ w, (execOp a.eval o).run P w = .ok (.value v) w) ∧ wpTakeH P ops Q calls S rest (a.put o.dst v) w) : wpTakeH P ops Q calls S ((i, o) :: rest) a w := by
  unfold wpTakeH
  simp only [hw, hc]
  obtain ⟨v, h1, h2⟩ := h
  exact ⟨v, fun w _ => h1 w, h2⟩
/-- An operation that reads memory: what it yields holds in every world that meets S. -/
theorem takeH_read {i : Nat} {o : Oper} {rest : List (Nat × Oper)} {a : Act} {w : World} (hc : calls.contains i = false) (hw : Region.wanted o (yielded ops a.tmps) = true) (v : Value)
    (h1 : ∀ w, S w → (execOp a.eval o).run P w = .ok (.value v) w) (h : wpTakeH P ops Q calls S rest (a.put o.dst v) w) : wpTakeH P ops Q calls S ((i, o) :: rest) a w := by
  unfold wpTakeH
  simp only [hw, hc]
  exact ⟨v, h1, h⟩
theorem takeH_call {i : Nat} {o : Oper} {rest : List (Nat × Oper)} {a : Act} {w : World} (hc : calls.contains i = true) (hw : Region.wanted o (yielded ops a.tmps) = true)
    (h : ∀ K : Act → World → Prop, (∀ a w, S w → wpTakeH P ops Q calls S rest a w → K a w) → o.wp P a w K Q) : wpTakeH P ops Q calls S ((i, o) :: rest) a w := by
  unfold wpTakeH
  simp only [hw, hc]
  exact h (fun a' w' => S w' ∧ wpTakeH P ops Q calls S rest a' w') (fun _ _ h1 h2 => ⟨h1, h2⟩)
/-- An operation that comes up alone, run in the world at hand. -/
theorem takeH_now {i : Nat} {o : Oper} {rest : List (Nat × Oper)} {a : Act} {w : World} (hc : calls.contains i = true) (hw : Region.wanted o (yielded ops a.tmps) = true) (v : Value) (h1 : (execOp a.eval o).run P w = .ok (.value v) w) (hS : S w)
    (h : wpTakeH P ops Q calls S rest (a.put o.dst v) w) : wpTakeH P ops Q calls S ((i, o) :: rest) a w := by
  unfold wpTakeH
  simp only [hw, hc]
  show o.wp P a w (fun a' w' => S w' ∧ wpTakeH P ops Q calls S rest a' w') Q
  unfold Oper.wp
  rw [h1]
  exact ⟨hS, h⟩

/-- What 's[:i]' yields. -/
theorem exec_upto {t e : TypeId} {sz bytes : Nat} (hE : Elem P t e sz bytes) (w : World) (p : Option Addr) (n c i : Nat) (hi : i ≤ n) (hnc : n ≤ c) {o : Oper} {a : Act} (s x : Operand) (ho : o.op = .slice t s none (some x) none)
    (hs : a.eval s = .slice p n c) (hx : a.eval x = .int .i64 (i : Int)) : (execOp a.eval o).run P w = .ok (.value (.slice p i c)) w := by
  obtain ⟨inf, z, hinf, hz, hsize, hby, hzs⟩ := hE.hi
  have helem : P.elem t = e := by simp [Program.elem, hE.ht]
  have hu : P.underlying t = some (.slice (P.elem t)) := by rw [helem]; exact hE.ht
  have hcell : P.cellsOf (P.elem t) = sz := by rw [helem]; simp [Program.cellsOf, hinf, hsize]
  have hr : (Instr.sliceAt t (.slice p n c) none (some (.int .i64 (i : Int))) none).run P w = .ok (.slice p i c) w := by
    have hsz := run_sizeOf (w := w) (show P.info? (P.elem t) = some inf by rw [helem]; exact hinf)
    rw [run_sliceAt_slice (h := hu), run_slice_h (ht := hu) (h0 := by omega) (h2 := by omega), hsz, hcell]
    simp only [Result.andThen, Int.toNat_natCast, sliced_zero]
  unfold execOp
  simp only [ho, Sem.run_bind, Sem.run_pure, Result.andThen_ok, hs, hx, hr, Option.map_some, Option.map_none]
/-- What 's[i:]' yields. -/
theorem exec_from {t e : TypeId} {sz bytes : Nat} (hE : Elem P t e sz bytes) (w : World) (p : Option Addr) (n c i : Nat) (hi : i ≤ n) {o : Oper} {a : Act} (s x : Operand) (ho : o.op = .slice t s (some x) none none)
    (hs : a.eval s = .slice p n c) (hx : a.eval x = .int .i64 (i : Int)) : (execOp a.eval o).run P w = .ok (.value (sliced p i n c sz)) w := by
  obtain ⟨inf, z, hinf, hz, hsize, hby, hzs⟩ := hE.hi
  have helem : P.elem t = e := by simp [Program.elem, hE.ht]
  have hu : P.underlying t = some (.slice (P.elem t)) := by rw [helem]; exact hE.ht
  have hcell : P.cellsOf (P.elem t) = sz := by rw [helem]; simp [Program.cellsOf, hinf, hsize]
  have hr : (Instr.sliceAt t (.slice p n c) (some (.int .i64 (i : Int))) none none).run P w = .ok (sliced p i n c sz) w := by
    have hsz := run_sizeOf (w := w) (show P.info? (P.elem t) = some inf by rw [helem]; exact hinf)
    rw [run_sliceAt_slice (h := hu), run_slice_l (ht := hu) (h0 := by omega) (h1 := by omega), hsz, hcell]
    simp [Result.andThen]
  unfold execOp
  simp only [ho, Sem.run_bind, Sem.run_pure, Result.andThen_ok, hs, hx, hr, Option.map_some, Option.map_none]
/-- What a conversion yields. -/
theorem exec_convert {o : Oper} {a : Act} {w : World} (src dst : TypeId) (s : Operand) {v u : Value} (ho : o.op = .convert src dst s) (hs : a.eval s = v) (h : (convert src dst v).run P w = .ok u w) : (execOp a.eval o).run P w = .ok (.value u) w := by
  unfold execOp
  simp only [ho, Sem.run_bind, Sem.run_pure, Result.andThen_ok, hs, h]
end
end Go.Proofs.YtgpmoimmpbkgfaaGreatDoor

end

section
/- More steps of a drawing region that is walked in one order: loads under the region's condition; operations that make memory, alone. No program in sight. -/
namespace Go.Proofs.YtgpmoimmpbkgfaaGreatDoor
open Go Go.RowKit

section
variable {P : Program} {ops : Array Oper} {Q : Exit → Act → World → Prop} {calls : List Nat} {S : World → Prop}
/-- An operation that reads memory. -/
theorem takeH_reads {i : Nat} {o : Oper} {rest : List (Nat × Oper)} {a : Act} {w : World} (hc : calls.contains i = false) (hw : Region.wanted o (yielded ops a.tmps) = true)
    (h : ∃ v, (∀ w, S w → (execOp a.eval o).run P w = .ok (.value v) w) ∧ wpTakeH P ops Q calls S rest (a.put o.dst v) w) : wpTakeH P ops Q calls S ((i, o) :: rest) a w := by
  obtain ⟨v, h1, h2⟩ := h
  exact takeH_read hc hw v h1 h2
/-- An operation that comes up alone and makes memory. -/
theorem takeH_run {i : Nat} {o : Oper} {rest : List (Nat × Oper)} {a : Act} {w : World} (hc : calls.contains i = true) (hw : Region.wanted o (yielded ops a.tmps) = true) (v : Value) (w2 : World) (h1 : (execOp a.eval o).run P w = .ok (.value v) w2) (hS : S w2)
    (h : wpTakeH P ops Q calls S rest (a.put o.dst v) w2) : wpTakeH P ops Q calls S ((i, o) :: rest) a w := by
  unfold wpTakeH
  simp only [hw, hc]
  show o.wp P a w (fun a' w' => S w' ∧ wpTakeH P ops Q calls S rest a' w') Q
  unfold Oper.wp
  rw [h1]
  exact ⟨hS, h⟩
/-- What 's[i:k]' yields. -/
theorem exec_fromTo {t e : TypeId} {sz bytes : Nat} (hE : Elem P t e sz bytes) (w : World) (p : Option Addr) (n c i k : Nat) (hi : i ≤ k) (hk : k ≤ c) {o : Oper} {a : Act} (s x y : Operand) (ho : o.op = .slice t s (some x) (some y) none)
    (hs : a.eval s = .slice p n c) (hx : a.eval x = .int .i64 (i : Int)) (hy : a.eval y = .int .i64 (k : Int)) : (execOp a.eval o).run P w = .ok (.value (sliced p i k c sz)) w := by
  obtain ⟨inf, z, hinf, hz, hsize, hby, hzs⟩ := hE.hi
  have helem : P.elem t = e := by simp [Program.elem, hE.ht]
  have hu : P.underlying t = some (.slice (P.elem t)) := by rw [helem]; exact hE.ht
  have hcell : P.cellsOf (P.elem t) = sz := by rw [helem]; simp [Program.cellsOf, hinf, hsize]
  have hr : (Instr.sliceAt t (.slice p n c) (some (.int .i64 (i : Int))) (some (.int .i64 (k : Int))) none).run P w = .ok (sliced p i k c sz) w := by
    have hsz := run_sizeOf (w := w) (show P.info? (P.elem t) = some inf by rw [helem]; exact hinf)
    rw [run_sliceAt_slice (h := hu), run_slice_lh (ht := hu) (h0 := by omega) (h1 := by omega) (h2 := by omega), hsz, hcell]
    simp [Result.andThen]
  unfold execOp
  simp only [ho, Sem.run_bind, Sem.run_pure, Result.andThen_ok, hs, hx, hy, hr, Option.map_some, Option.map_none]
/-- What 'append(s, x...)' yields. -/
theorem exec_extend {t e : TypeId} {sz bytes : Nat} (hE : Elem P t e sz bytes) (w : World) (v v2 : Value) (n m : Nat) (xs news : List Value) (hown : w.ownsRow 0 e sz v n xs) (hr : Rd w sz v2 m news) (h1 : ∀ u ∈ news, u.oneCell' = true) (hb : (n + m) * bytes ≤ 140737488355328 ∧ n + m ≤ maxLen)
    {o : Oper} {a : Act} (s x : Operand) (ho : o.op = .call { callee := .builtin .append, args := #[s, x], argTypes := #[t, t] }) (hs : a.eval s = v) (hx : a.eval x = v2) :
    ∃ v' w', (execOp a.eval o).run P w = .ok (.value v') w' ∧ w'.ownsRow 0 e sz v' (n + m) (xs ++ news) ∧ Mods (fun k => v.ownBlock = some k) w w' ∧ Fresh w.heap.size v v' := by
  obtain ⟨i, z, hi, hz, hsize, hby, hzs⟩ := hE.hi
  obtain ⟨p, c, rfl, hl, hc1, hc2, hnil, hcell⟩ := hr
  cases p with
  | none =>
    obtain ⟨rfl, rfl⟩ := hnil rfl
    obtain rfl : news = [] := List.eq_nil_of_length_eq_zero (by simpa using hl)
    have hr := run_append_owned_none (P := P) w 0 t o.type e i sz hE.ht hi v n xs hown
    refine ⟨v, w, ?_, by simpa using hown, Mods.refl _ _, Fresh.refl _ _⟩
    unfold execOp
    simp only [ho, resolve, invoke, builtin, Sem.run_bind, Sem.run_pure, Result.andThen_ok, List.map_toArray, List.map_cons, List.map_nil, hs, hx, hr]
  | some ad =>
    obtain ⟨v', w', hr, h2, h3, h4⟩ := run_app (P := P) w t o.type e i z sz bytes hE.ht hi hz hsize hby hzs hE.pos v n xs hown ad m c news hl (hcell ad rfl) h1 hb.2 hb.1
    refine ⟨v', w', ?_, h2, h3, h4⟩
    unfold execOp
    simp only [ho, resolve, invoke, builtin, Sem.run_bind, Sem.run_pure, Result.andThen_ok, List.map_toArray, List.map_cons, List.map_nil, hs, hx, hr]
/-- 'append(s, x...)', alone. -/
theorem takeH_extend {t e : TypeId} {sz bytes : Nat} (hE : Elem P t e sz bytes) {i : Nat} {o : Oper} {rest : List (Nat × Oper)} {a : Act} {w : World} (hc : calls.contains i = true) (hw : Region.wanted o (yielded ops a.tmps) = true) (s x : Operand)
    (ho : o.op = .call { callee := .builtin .append, args := #[s, x], argTypes := #[t, t] }) {v v2 : Value} (hs : a.eval s = v) (hx : a.eval x = v2) {n m : Nat} {xs news : List Value} (hown : w.ownsRow 0 e sz v n xs) (hr : Rd w sz v2 m news) (h1 : ∀ u ∈ news, u.oneCell' = true) (hb : (n + m) * bytes ≤ 140737488355328 ∧ n + m ≤ maxLen)
    (h : ∀ v' w', w'.ownsRow 0 e sz v' (n + m) (xs ++ news) → Mods (fun k => v.ownBlock = some k) w w' → Fresh w.heap.size v v' → S w' ∧ wpTakeH P ops Q calls S rest (a.put o.dst v') w') : wpTakeH P ops Q calls S ((i, o) :: rest) a w := by
  obtain ⟨v', w', hrun, h2, h3, h4⟩ := exec_extend hE w v v2 n m xs news hown hr h1 hb s x ho hs hx
  obtain ⟨h5, h6⟩ := h v' w' h2 h3 h4
  exact takeH_run hc hw v' w' hrun h5 h6
end
end Go.Proofs.YtgpmoimmpbkgfaaGreatDoor

end
