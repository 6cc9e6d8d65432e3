/- LaySz, Bytes, OpenW, Field16, AllocN, Sorted, Strs, First, LabP, AlivL, ListP, InsE, in one text. -/
import Derived.Test.YtlgphgipfjlbfaaDoorMrg2
import Derived.Test.YtlgphgipfjlbfaaDoorMrg7
import Derived.Test.YtlgphgipfjlbfaaDoorMrg3
import Derived.Test.YtlgphgipfjlbfaaDoorMrg4

section
/- Layer 16: how long a file is whose sections pass the statements' Large: one may be of any length, if the others are empty. No program in sight. -/
set_option linter.unusedVariables false
namespace Go.Proofs.YtlgphgipfjlbfaaDoor
open Go Go.RowKit

theorem groups_seven {x : Nat} (h : x < 562949953421312) : (groups x).length ≤ 7 := groups_len 6 x (Nat.lt_of_lt_of_le h (by decide))
theorem frame_len (id : Nat) (d : List Nat) : (frameOf id d).length = 5 + (groups d.length).length + d.length := by
  rw [frameOf, withCrc_length, List.length_cons, bytesOf, List.length_append]; omega
theorem asm_fits {S : List (List Nat)} (h4 : S.length = 4) (hs : sumS S 4 ≤ 5000) (hM : ∀ d ∈ S, d.length ≤ 140737488351232) : (asmL S).length ≤ 140737488352000 := by
  obtain ⟨a, b, c, d, rfl⟩ := list4_of h4
  have ha := hM a (by simp); have hb := hM b (by simp); have hc := hM c (by simp); have hd := hM d (by simp)
  have hs' : min a.length 5000 + (min b.length 5000 + (min c.length 5000 + min d.length 5000)) ≤ 5000 := by
    have h := hs
    simp [sumS] at h
    omega
  have ga := groups_seven (x := a.length) (by omega); have gb := groups_seven (x := b.length) (by omega); have gc := groups_seven (x := c.length) (by omega); have gd := groups_seven (x := d.length) (by omega)
  have za : a.length = 0 → (groups a.length).length = 1 := fun h => by rw [h, groups_small (by decide)]; rfl
  have zb : b.length = 0 → (groups b.length).length = 1 := fun h => by rw [h, groups_small (by decide)]; rfl
  have zc : c.length = 0 → (groups c.length).length = 1 := fun h => by rw [h, groups_small (by decide)]; rfl
  have zd : d.length = 0 → (groups d.length).length = 1 := fun h => by rw [h, groups_small (by decide)]; rfl
  have fa := frame_len 1 a; have fb := frame_len 2 b; have fc := frame_len 3 c; have fd := frame_len 4 d
  have hput : (putS 1 [a, b, c, d]).length = (frameOf 1 a).length + (frameOf 2 b).length + (frameOf 3 c).length + (frameOf 4 d).length := by simp [putS]; omega
  have hC : (contents (offs 1 5 [a, b, c, d])).length = 1 + (groups (5 + (frameOf 1 a).length)).length + (groups (5 + (frameOf 1 a).length + (frameOf 2 b).length)).length + (groups (5 + (frameOf 1 a).length + (frameOf 2 b).length + (frameOf 3 c).length)).length := by
    simp [contents, offs, groups_small]; omega
  have g2 := groups_seven (x := 5 + (frameOf 1 a).length) (by omega)
  have g3 := groups_seven (x := 5 + (frameOf 1 a).length + (frameOf 2 b).length) (by omega)
  have g4 := groups_seven (x := 5 + (frameOf 1 a).length + (frameOf 2 b).length + (frameOf 3 c).length) (by omega)
  have ft := frame_len 5 (contents (offs 1 5 [a, b, c, d]))
  rw [groups_small (x := (contents (offs 1 5 [a, b, c, d])).length) (by omega)] at ft
  have hl : (asmL [a, b, c, d]).length = 5 + (putS 1 [a, b, c, d]).length + (frameOf 5 (contents (offs 1 5 [a, b, c, d]))).length + 8 := by
    rw [asmL, List.length_append, withCrc_length, bodyL, List.length_append, List.length_append]
    show 5 + _ + _ + 4 + 4 = _
    omega
  simp only [List.length_singleton] at ft
  omega
end Go.Proofs.YtlgphgipfjlbfaaDoor

end

section
/- bytes.Equal. -/
set_option linter.unusedVariables false
namespace Go.Proofs.YtlgphgipfjlbfaaDoor
open Go Go.RowKit

/-- bytes.Equal of two slices of bytes. -/
theorem equal_any (a b : Value) (n m : Nat) (l k : List Nat) (w : World) (ha : Rd w 1 a n (u8s l)) (hb : Rd w 1 b m (u8s k)) (hl : ∀ x ∈ l, x < 256) (hk : ∀ x ∈ k, x < 256) :
    Calls Tryd.prog 15 #[a, b] w fun e w' => e = .returned (.bool (decide (l = k))) ∧ w = w' := by
  have e1 := ha.conv (P := Tryd.prog) 22 5 9 Tryd.underlying22 Tryd.underlying5 Tryd.underlying9
  have e2 := hb.conv (P := Tryd.prog) 22 5 9 Tryd.underlying22 Tryd.underlying5 Tryd.underlying9
  have e3 := strOf_inj hl hk
  have E3 := Lib.hid e3
  clear ha hb hl hk e3
  generalize strOf l = sl at *
  generalize strOf k = sk at *
  go_enter Tryd.func15, Tryd.ntmps15
  go_wp2
  go_ret
  exact ⟨congrArg (fun b => Ending.returned (.bool b)) E3.out, rfl⟩
end Go.Proofs.YtlgphgipfjlbfaaDoor

end

section
/- Arguments that came in, opened, where an element may lead on into memory (slices of slices, of structs of slices): as XOpen, but what is said of an element speaks of the world. No program in sight. -/
namespace Go.Proofs.YtlgphgipfjlbfaaDoor
open Go Go.RowKit Go.ChangeShapes

/-- Every reading at type e is of the cells 'f a' for an 'a' that is 'ok' in that world. -/
def FlatW (P : Program) (e : TypeId) (sz : Nat) {α : Type} (f : α → List Value) (ok : World → α → Prop) : Prop :=
  P.cellsOf e = sz ∧ ∀ (H : Type) (enc : TypeId × Value → H) (w : World) (base : Nat) (spare : Nat → Bool) (held : Bool) (fuel : Nat) (cs : List Value) (x : DataW H × List MemPlace),
    DataW.trod enc P w base spare held fuel e cs = some x → ∃ a, ok w a ∧ cs = f a

theorem Flat.wide {P : Program} {e : TypeId} {sz : Nat} {α : Type} {f : α → List Value} {ok : α → Prop} (h : Flat P e sz f ok) : FlatW P e sz f (fun _ => ok) :=
  ⟨h.1, fun H enc w base spare held fuel cs x hx => h.2 H enc w base spare held fuel cs x hx⟩
theorem FlatW.map {P : Program} {e : TypeId} {sz : Nat} {α β : Type} {f : α → List Value} {ok : World → α → Prop} (h : FlatW P e sz f ok) {g : β → List Value} {ok' : World → β → Prop} (hm : ∀ w a, ok w a → ∃ b, ok' w b ∧ f a = g b) : FlatW P e sz g ok' :=
  ⟨h.1, fun H enc w base spare held fuel cs x hx => by
    obtain ⟨a, ha, rfl⟩ := h.2 H enc w base spare held fuel cs x hx
    exact hm w a ha⟩
theorem flatW_struct2 {P : Program} {e : TypeId} {f0 f1 : Field} {s0 s1 : Nat} {α β : Type} {g0 : α → List Value} {g1 : β → List Value} {k0 : World → α → Prop} {k1 : World → β → Prop}
    (he : P.underlying e = some (.struct #[f0, f1])) (hc : P.cellsOf e = s0 + s1) (o0 : f0.offset = 0) (o1 : f1.offset = s0) (h0 : FlatW P f0.type s0 g0 k0) (h1 : FlatW P f1.type s1 g1 k1) :
    FlatW P e (s0 + s1) (fun a : α × β => g0 a.1 ++ g1 a.2) (fun w a => k0 w a.1 ∧ k1 w a.2) :=
  ⟨hc, fun H enc w base spare held fuel cs x hx => by
    obtain ⟨y0, y1, n, _, hl, t0, t1⟩ := trod_struct2 he hx
    rw [o0, h0.1] at t0
    rw [o1, h1.1] at t1
    obtain ⟨a, ha, ea⟩ := h0.2 H enc w base spare held n _ _ t0
    obtain ⟨b, hb, eb⟩ := h1.2 H enc w base spare held n _ _ t1
    refine ⟨(a, b), ⟨ha, hb⟩, ?_⟩
    show cs = g0 a ++ g1 b
    rw [← ea, ← eb]
    simp only [List.drop_zero]
    rw [List.take_of_length_le (l := cs.drop s0) (by rw [List.length_drop, hl, hc]; omega), List.take_append_drop]⟩

/-- A slice that is read. -/
theorem open_rowW {P : Program} {t e : TypeId} {sz : Nat} (hsz : 0 < sz) {α : Type} [Inhabited α] {f : α → List Value} {ok : World → α → Prop} (hF : FlatW P e sz f ok) (ht : P.underlying t = some (.slice e))
    {H : Type} {enc : TypeId × Value → H} {w : World} {base : Nat} {spare : Nat → Bool} {held : Bool} {fuel : Nat} {cs : List Value} {x : DataW H × List MemPlace} (h : DataW.trod enc P w base spare held fuel t cs = some x) :
    ∃ (v : Value) (l : List α), cs = [v] ∧ (∀ a ∈ l, ok w a) ∧ Rd w sz v l.length (l.flatMap f) ∧ ((x.1 = .nil ∧ l.length = 0) ∨ ∃ elems rest, x.1 = .slice elems rest ∧ elems.length = l.length) := by
  rcases Deep.open_slice ht h with ⟨rfl, rfl⟩ | ⟨a, len, cap, m, n', D, Pl, rfl, _, hl, hm, hmm, rfl, hel⟩
  · exact ⟨_, [], rfl, by simp, Rd.nil w sz, Or.inl ⟨rfl, rfl⟩⟩
  · have hml : len ≤ m := by rw [hmm]; split <;> omega
    have hch : ∀ i, i < len → ∃ b : α, ok w b ∧ (f b).length = sz ∧ ∀ (j : Nat) (u : Value), (f b)[j]? = some u → w.cell? (a.add (i * sz + j)) = some u := by
      intro i hi
      obtain ⟨cs', h1, h2⟩ := hel i (by omega)
      rw [hF.1] at h1
      obtain ⟨b, hb, rfl⟩ := hF.2 H enc w base spare held n' _ _ h2
      obtain ⟨h3, h4⟩ := cells_get h1
      exact ⟨b, hb, h3, fun j u hu => by rw [← Deep.add_add]; exact h4 j u hu⟩
    obtain ⟨g, hg⟩ := Deep.choose_lt hch
    have hlen : ∀ b ∈ (List.range len).map g, (f b).length = sz := by
      intro b hb
      obtain ⟨i, hi, rfl⟩ := List.mem_map.1 hb
      exact (hg i (List.mem_range.1 hi)).2.1
    refine ⟨.slice (some a) len cap, (List.range len).map g, rfl, ?_, ⟨some a, cap, by simp, ?_, by simpa using hl, hm, (fun e => by cases e), ?_⟩, Or.inr ⟨_, _, rfl, by simp⟩⟩
    · intro b hb
      obtain ⟨i, hi, rfl⟩ := List.mem_map.1 hb
      exact (hg i (List.mem_range.1 hi)).1
    · rw [flatMap_len f _ hlen]
    · intro ad e j u hu
      cases e
      have hj : j = j / sz * sz + j % sz := by rw [Nat.mul_comm]; exact (Nat.div_add_mod j sz).symm
      rw [hj] at hu
      obtain ⟨b, hb, hu'⟩ := flatMap_get f _ hlen (j / sz) (j % sz) (Nat.mod_lt _ hsz) u hu
      have hlt : j / sz < len := by
        rcases Nat.lt_or_ge (j / sz) len with h | h
        · exact h
        · rw [List.getElem?_eq_none (by simpa using h)] at hb; cases hb
      rw [List.getElem?_map, List.getElem?_range hlt] at hb
      simp at hb
      subst hb
      rw [hj]
      exact (hg (j / sz) hlt).2.2 _ u hu'
/-- A slice as an element: its value, and what it holds. -/
theorem flatW_slice {P : Program} {t e : TypeId} {sz : Nat} (hsz : 0 < sz) {α : Type} [Inhabited α] {f : α → List Value} {ok : World → α → Prop} (hF : FlatW P e sz f ok) (ht : P.underlying t = some (.slice e)) (hc : P.cellsOf t = 1) :
    FlatW P t 1 (fun a : Value × List α => [a.1]) (fun w a => (∀ x ∈ a.2, ok w x) ∧ Rd w sz a.1 a.2.length (a.2.flatMap f)) :=
  ⟨hc, fun H enc w base spare held fuel cs x hx => by
    obtain ⟨v, l, rfl, h1, h2, _⟩ := open_rowW hsz hF ht hx
    exact ⟨(v, l), ⟨h1, h2⟩, rfl⟩⟩
/-- A slice that came in. -/
theorem open_flatW {P : Program} {t e : TypeId} {sz : Nat} (hsz : 0 < sz) {α : Type} [Inhabited α] {f : α → List Value} {ok : World → α → Prop} (hF : FlatW P e sz f ok) (ht : P.underlying t = some (.slice e))
    {H : Type} {enc : TypeId × Value → H} {w : World} {base : Nat} {spare : Nat → Bool} {held : Bool} {v : Value} {d : DataW H} {ps : List MemPlace} {n c : Nat} {p : Option Addr} (hv : v = .slice p n c)
    (h : DataW.Trod enc P w base spare held t v d ps) :
    ∃ l : List α, (∀ a ∈ l, ok w a) ∧ l.length = n ∧ Rd w sz v l.length (l.flatMap f) ∧ ((d = .nil ∧ l.length = 0) ∨ ∃ elems rest, d = .slice elems rest ∧ elems.length = l.length) := by
  subst hv
  obtain ⟨fuel, h⟩ := h
  obtain ⟨v, l, hcs, h1, h2, h3⟩ := open_rowW hsz hF ht h
  simp [Value.cells] at hcs
  subst hcs
  have h2' := h2
  obtain ⟨_, _, e, _⟩ := h2'
  simp only [Value.slice.injEq] at e
  exact ⟨l, h1, e.2.1.symm, h2, h3⟩
end Go.Proofs.YtlgphgipfjlbfaaDoor

end

section
/- Layer 16: four slices of bytes as an argument. -/
set_option linter.unusedVariables false
namespace Go.Proofs.YtlgphgipfjlbfaaDoor
open Go Go.RowKit Go.ChangeShapes

theorem weight_all {H : Type} {P : Program} {e : TypeId} : ∀ {ds : List (DataW H)} {d : DataW H}, d ∈ ds → ∀ n ∈ d.weights P e, n ∈ DataW.weightsAll P e ds
  | x :: ds, d, h, n, hn => by
    rw [DataW.weightsAll]
    rcases List.mem_cons.1 h with rfl | h
    · exact List.mem_append_left _ hn
    · exact List.mem_append_right _ (weight_all h n hn)
theorem open_arr4 {P : Program} {t s e : TypeId} (ht : P.underlying t = some (.array 4 s)) (hs : P.underlying s = some (.slice e)) (he : P.underlying e = some (.int .u8)) (hct : P.cellsOf t = 4) (hcs : P.cellsOf s = 1) (hce : P.cellsOf e = 1) (hb : P.bytesOf e = 1)
    {H : Type} {enc : TypeId × Value → H} {w : World} {base : Nat} {spare : Nat → Bool} {held : Bool} {v : Value} {d : DataW H} {ps : List MemPlace} {cs : Array Value} (hv : v = .agg cs)
    {ts : List TypeId} {ds : List (DataW H)} (hw : (DataW.weightsEach P ts ds).all (· ≤ reachBytes) = true) {j : Nat} (htj : ts[j]? = some t) (hdj : ds[j]? = some d)
    (h : DataW.Trod enc P w base spare held t v d ps) : ∃ (vs : List Value) (S : List (List Nat)), v = .agg vs.toArray ∧ S.length = 4 ∧ okS4 S ∧ (∀ d ∈ S, d.length ≤ 140737488351232) ∧ RdS w vs S := by
  subst hv
  obtain ⟨fuel, h⟩ := h
  have hr : reachBytes = 140737488351232 := by decide
  obtain ⟨xs, m, _, hx, hl, hlen, hf⟩ := DataW.trod_array ht h
  have hd : d = .agg (xs.map (·.1)) := congrArg Prod.fst hx
  rw [hct] at hl
  have hcl : (Value.agg cs).cells.toList = cs.toList := by simp [Value.cells]
  obtain ⟨L, hL⟩ : ∃ L, (Value.agg cs).cells.toList = L := ⟨_, rfl⟩
  have hag : Value.agg cs = .agg L.toArray := by rw [← hL, hcl]
  rw [hL] at hl hf
  have one : ∀ i, i < 4 → ∃ (u : Value) (l : List Nat), (L.drop i).take 1 = [u] ∧ (∀ c ∈ l, c < 256) ∧ Rd w 1 u l.length (u8s l) ∧ l.length ≤ 140737488351232 := by
    intro i hi
    have ti := hf i hi
    rw [hcs, Nat.mul_one] at ti
    obtain ⟨xi, hxi⟩ : ∃ xi, xs[i]? = some xi := ⟨_, List.getElem?_eq_getElem (by omega)⟩
    rw [hxi] at ti
    obtain ⟨u, l, h1, h2, h3, h4⟩ := open_rowW (by decide) (flat_u8 he hce).wide hs ti
    rw [flatMap_u8s] at h3
    refine ⟨u, l, h1, h2, h3, ?_⟩
    rcases h4 with ⟨_, h0⟩ | ⟨elems, rest, h5, h6⟩
    · omega
    · have hmem : xi.1 ∈ xs.map (·.1) := List.mem_map.2 ⟨xi, List.mem_of_getElem? hxi, rfl⟩
      have hwt : (elems.length + rest.length) * P.bytesOf e ∈ d.weights P t := by
        rw [hd, DataW.weights, ht]
        exact weight_all hmem _ (by rw [h5, DataW.weights, hs]; exact List.mem_cons_self ..)
      have hle := List.all_eq_true.1 hw _ (DataW.weights_mem_each htj hdj _ hwt)
      rw [hb, hr, Nat.mul_one] at hle
      have hle2 : elems.length + rest.length ≤ 140737488351232 := of_decide_eq_true hle
      omega
  obtain ⟨a, b, c, e4, rfl⟩ := list4_of hl
  obtain ⟨u0, l0, q0, k0, r0, m0⟩ := one 0 (by decide)
  obtain ⟨u1, l1, q1, k1, r1, m1⟩ := one 1 (by decide)
  obtain ⟨u2, l2, q2, k2, r2, m2⟩ := one 2 (by decide)
  obtain ⟨u3, l3, q3, k3, r3, m3⟩ := one 3 (by decide)
  simp only [List.drop_zero, List.drop_succ_cons, List.take_succ_cons, List.take_zero, List.cons.injEq, and_true] at q0 q1 q2 q3
  subst q0 q1 q2 q3
  refine ⟨[a, b, c, e4], [l0, l1, l2, l3], hag, rfl, fun d hd => ?_, fun d hd => ?_, ⟨rfl, fun i v d h1 h2 => ?_⟩⟩
  · simp only [List.mem_cons, List.not_mem_nil, or_false] at hd
    rcases hd with rfl | rfl | rfl | rfl
    · exact ⟨k0, by omega⟩
    · exact ⟨k1, by omega⟩
    · exact ⟨k2, by omega⟩
    · exact ⟨k3, by omega⟩
  · simp only [List.mem_cons, List.not_mem_nil, or_false] at hd
    rcases hd with rfl | rfl | rfl | rfl <;> assumption
  · match i with
    | 0 => cases h1; cases h2; exact r0
    | 1 => cases h1; cases h2; exact r1
    | 2 => cases h1; cases h2; exact r2
    | 3 => cases h1; cases h2; exact r3
    | i + 4 => simp at h2
end Go.Proofs.YtlgphgipfjlbfaaDoor

end

section
/- Worlds after literals. No program in sight. -/
set_option linter.unusedVariables false
set_option maxRecDepth 20000
namespace Go.Proofs.YtlgphgipfjlbfaaDoor
open Go Go.RowKit

variable {G : Nat} {T : World → Prop}

theorem alloc_next {w w' : World} {n : Nat} {cs : Array Value} {t : TypeId} (hw : w' = w.alloc (.cells cs t)) (hs : w.heap.size = n) : Blk w' n cs.toList ∧ w'.heap.size = n + 1 ∧ Below w.heap.size w w' := by
  subst hw; subst hs
  exact ⟨Blk.new w cs t, by simp, (Mods.alloc (fun _ => False) w _).below (Nat.le_refl _) (fun _ _ e => e)⟩

theorem Blk.below {w w' : World} {b : Nat} {cs : List Value} (h : Blk w b cs) (hb : Below w.heap.size w w') : Blk w' b cs := h.of_same (hb.block _ h.lt)
end Go.Proofs.YtlgphgipfjlbfaaDoor

end

section
/- Lists in strictly ascending order, whatever the order: insertion, the sorted list of some elements. No program in sight. -/
namespace Go.Proofs.YtlgphgipfjlbfaaDoor

section
variable {α : Type}

/-- A strict order. -/
structure LtPre (lt : α → α → Bool) : Prop where
  irr : ∀ a, lt a a = false
  tr : ∀ a b c, lt a b = true → lt b c = true → lt a c = true
/-- A strict order that is total. -/
structure LtOk (lt : α → α → Bool) : Prop extends LtPre lt where
  tot : ∀ a b, lt a b = false → lt b a = false → a = b

def AscB (lt : α → α → Bool) (l : List α) : Prop := l.Pairwise (fun a b => lt a b = true)
/-- An element put in its place, once. -/
def insB (lt : α → α → Bool) (x : α) : List α → List α
  | [] => [x]
  | y :: l => if lt y x then y :: insB lt x l else if lt x y then x :: y :: l else y :: l
def tabFrom (lt : α → α → Bool) (t l : List α) : List α := l.foldl (fun t x => insB lt x t) t
/-- The elements of a list, each once, in ascending order. -/
def tabB (lt : α → α → Bool) (l : List α) : List α := tabFrom lt [] l

variable {lt : α → α → Bool}
theorem LtPre.asy (h : LtPre lt) {a b : α} (hab : lt a b = true) : lt b a = false := by
  rcases Bool.eq_false_or_eq_true (lt b a) with hb | hb
  · have := h.tr a b a hab hb; rw [h.irr] at this; cases this
  · exact hb
theorem LtPre.ne (h : LtPre lt) {a b : α} (hab : lt a b = true) : a ≠ b := fun e => by subst e; rw [h.irr] at hab; cases hab
/-- Where a is not below b, b is not above. -/
theorem LtOk.le_tr (h : LtOk lt) {a b c : α} (hab : lt b a = false) (hbc : lt b c = true) : lt a c = true := by
  rcases Bool.eq_false_or_eq_true (lt a b) with e | e
  · exact h.tr a b c e hbc
  · rw [h.tot a b e hab]; exact hbc

theorem insB_mem (h : LtOk lt) (x z : α) (d : List α) : z ∈ insB lt x d ↔ z = x ∨ z ∈ d := by
  induction d with
  | nil => simp [insB]
  | cons y l ih =>
    rw [insB]
    split
    · rw [List.mem_cons, ih, List.mem_cons]
      constructor
      · rintro (h | h | h)
        · exact Or.inr (Or.inl h)
        · exact Or.inl h
        · exact Or.inr (Or.inr h)
      · rintro (h | h | h)
        · exact Or.inr (Or.inl h)
        · exact Or.inl h
        · exact Or.inr (Or.inr h)
    · next h1 =>
      split
      · simp
      · next h2 =>
        have e : y = x := h.tot y x (by simpa using h1) (by simpa using h2)
        subst e
        simp
theorem insB_asc (h : LtOk lt) (x : α) (d : List α) (ha : AscB lt d) : AscB lt (insB lt x d) := by
  induction d with
  | nil => exact List.pairwise_singleton _ _
  | cons y l ih =>
    obtain ⟨h1, h2⟩ := List.pairwise_cons.1 ha
    rw [insB]
    split
    · next hyx =>
      exact List.pairwise_cons.2 ⟨fun z hz => by
        rcases (insB_mem h x z l).1 hz with e | e
        · subst e; exact hyx
        · exact h1 z e, ih h2⟩
    · split
      · next hxy =>
        exact List.pairwise_cons.2 ⟨fun z hz => by
          rcases List.mem_cons.1 hz with e | e
          · subst e; exact hxy
          · exact h.tr _ _ _ hxy (h1 z e), ha⟩
      · exact ha
theorem insB_le (x : α) (d : List α) : (insB lt x d).length ≤ d.length + 1 := by
  induction d with
  | nil => exact Nat.le_refl _
  | cons y l ih =>
    rw [insB]
    split
    · rw [List.length_cons, List.length_cons]; omega
    · split
      · exact Nat.le_refl _
      · exact Nat.le_succ _
/-- An element that is there. -/
theorem insB_at (h : LtPre lt) (x : α) (a b : List α) (ha : ∀ z ∈ a, lt z x = true) : insB lt x (a ++ x :: b) = a ++ x :: b := by
  induction a with
  | nil => rw [List.nil_append, insB, if_neg (by rw [h.irr]; simp), if_neg (by rw [h.irr]; simp)]
  | cons y l ih =>
    rw [List.cons_append, insB, if_pos (ha y (by simp)), ih (fun z hz => ha z (by simp [hz]))]
/-- An element that is not there. -/
theorem insB_parts (h : LtPre lt) (x : α) (a b : List α) (ha : ∀ z ∈ a, lt z x = true) (hb : ∀ z, b.head? = some z → lt x z = true) : insB lt x (a ++ b) = a ++ x :: b := by
  induction a with
  | nil =>
    cases b with
    | nil => rfl
    | cons y l =>
      have := hb y rfl
      rw [List.nil_append, insB, if_neg (by rw [h.asy this]; simp), if_pos this, List.nil_append]
  | cons y l ih =>
    rw [List.cons_append, insB, if_pos (ha y (by simp)), ih (fun z hz => ha z (by simp [hz])), List.cons_append]
theorem insB_last (h : LtPre lt) (x : α) (d : List α) (hd : ∀ z ∈ d, lt z x = true) : insB lt x d = d ++ [x] := by
  have := insB_parts h x d [] hd (fun z e => by cases e)
  rwa [List.append_nil] at this

theorem tabFrom_asc (h : LtOk lt) (t l : List α) (ht : AscB lt t) : AscB lt (tabFrom lt t l) := by
  induction l generalizing t with
  | nil => exact ht
  | cons x l ih => exact ih (insB lt x t) (insB_asc h x t ht)
theorem tabFrom_mem (h : LtOk lt) (t l : List α) (z : α) : z ∈ tabFrom lt t l ↔ z ∈ t ∨ z ∈ l := by
  induction l generalizing t with
  | nil => simp [tabFrom]
  | cons x l ih =>
    show z ∈ tabFrom lt (insB lt x t) l ↔ _
    rw [ih (insB lt x t), insB_mem h, List.mem_cons]
    constructor
    · rintro ((h | h) | h)
      · exact Or.inr (Or.inl h)
      · exact Or.inl h
      · exact Or.inr (Or.inr h)
    · rintro (h | h | h)
      · exact Or.inl (Or.inr h)
      · exact Or.inl (Or.inl h)
      · exact Or.inr h
theorem tabFrom_len (t l : List α) : (tabFrom lt t l).length ≤ t.length + l.length := by
  induction l generalizing t with
  | nil => exact Nat.le_refl _
  | cons x l ih =>
    have h1 := ih (insB lt x t); have h2 := insB_le (lt := lt) x t
    show (tabFrom lt (insB lt x t) l).length ≤ _
    rw [List.length_cons]; omega
theorem tabFrom_snoc (t l : List α) (x : α) : tabFrom lt t (l ++ [x]) = insB lt x (tabFrom lt t l) := by rw [tabFrom, List.foldl_append]; rfl
theorem tabB_asc (h : LtOk lt) (l : List α) : AscB lt (tabB lt l) := tabFrom_asc h [] l List.Pairwise.nil
theorem tabB_mem (h : LtOk lt) (l : List α) (z : α) : z ∈ tabB lt l ↔ z ∈ l := by rw [tabB, tabFrom_mem h]; simp
theorem tabB_len (l : List α) : (tabB lt l).length ≤ l.length := by have := tabFrom_len (lt := lt) [] l; rw [List.length_nil] at this; rw [tabB]; omega
theorem tabB_snoc (l : List α) (x : α) : tabB lt (l ++ [x]) = insB lt x (tabB lt l) := tabFrom_snoc [] l x

theorem ascB_ext (h : LtPre lt) (a b : List α) (ha : AscB lt a) (hb : AscB lt b) (hm : ∀ x, x ∈ a ↔ x ∈ b) : a = b := by
  induction a generalizing b with
  | nil =>
    cases b with
    | nil => rfl
    | cons y l => exact absurd ((hm y).2 (List.mem_cons_self ..)) List.not_mem_nil
  | cons x a ih =>
    cases b with
    | nil => exact absurd ((hm x).1 (List.mem_cons_self ..)) List.not_mem_nil
    | cons y b =>
      obtain ⟨a1, a2⟩ := List.pairwise_cons.1 ha
      obtain ⟨b1, b2⟩ := List.pairwise_cons.1 hb
      have hxy : x = y := by
        rcases List.mem_cons.1 ((hm x).1 (List.mem_cons_self ..)) with e | e
        · exact e
        · rcases List.mem_cons.1 ((hm y).2 (List.mem_cons_self ..)) with f | f
          · exact f.symm
          · have p := b1 x e; have q := a1 y f
            rw [h.asy p] at q; cases q
      subst hxy
      rw [ih b a2 b2 (fun z => ?_)]
      constructor
      · intro hz
        rcases List.mem_cons.1 ((hm z).1 (List.mem_cons_of_mem _ hz)) with e | e
        · subst e; exact absurd rfl (h.ne (a1 z hz))
        · exact e
      · intro hz
        rcases List.mem_cons.1 ((hm z).2 (List.mem_cons_of_mem _ hz)) with e | e
        · subst e; exact absurd rfl (h.ne (b1 z hz))
        · exact e
theorem tabB_ext (h : LtOk lt) (a b : List α) (hm : ∀ x, x ∈ a ↔ x ∈ b) : tabB lt a = tabB lt b :=
  ascB_ext h.toLtPre _ _ (tabB_asc h a) (tabB_asc h b) (fun x => by rw [tabB_mem h, tabB_mem h]; exact hm x)
theorem tabB_of_asc (h : LtOk lt) (a : List α) (ha : AscB lt a) : tabB lt a = a := ascB_ext h.toLtPre _ _ (tabB_asc h a) ha (fun x => tabB_mem h a x)

/-- Ascending: neighbour by neighbour. -/
theorem ascB_snoc (h : LtPre lt) {l : List α} {x : α} : AscB lt (l ++ [x]) ↔ AscB lt l ∧ (∀ y, l.getLast? = some y → lt y x = true) := by
  constructor
  · intro ha
    obtain ⟨h1, _, h3⟩ := List.pairwise_append.1 ha
    exact ⟨h1, fun y hy => h3 y (List.mem_of_getLast? hy) x (by simp)⟩
  · rintro ⟨h1, h2⟩
    refine List.pairwise_append.2 ⟨h1, List.pairwise_singleton _ _, fun a ha b hb => ?_⟩
    simp only [List.mem_singleton] at hb
    subst hb
    rcases List.eq_nil_or_concat l with e | ⟨p, y, e⟩
    · subst e; cases ha
    · have hy : lt y b = true := h2 y (by rw [e]; simp)
      rw [List.concat_eq_append] at e
      subst e
      rcases List.mem_append.1 ha with e | e
      · exact h.tr _ _ _ ((List.pairwise_append.1 h1).2.2 a e y (by simp)) hy
      · simp only [List.mem_singleton] at e; subst e; exact hy
theorem ascB_take {l : List α} (h : AscB lt l) (i : Nat) : AscB lt (l.take i) := List.Pairwise.sublist (List.take_sublist _ _) h
theorem ascB_get {l : List α} (h : AscB lt l) {i j : Nat} (hij : i < j) (hj : j < l.length) : lt (l[i]'(by omega)) l[j] = true := List.pairwise_iff_getElem.1 h i j (by omega) hj hij
end
end Go.Proofs.YtlgphgipfjlbfaaDoor

end

section
/- Strings: their order, lists of strings as rows. No program in sight. -/
set_option linter.unusedVariables false
namespace Go.Proofs.YtlgphgipfjlbfaaDoor
open Go Go.RowKit

def bLt : List UInt8 → List UInt8 → Bool := Op.bytesLess
theorem bLt_irr (a : List UInt8) : bLt a a = false := by
  induction a with
  | nil => rfl
  | cons x a ih => simp only [bLt, Op.bytesLess] at ih ⊢; simp [ih]
theorem bLt_tr : ∀ (a b c : List UInt8), bLt a b = true → bLt b c = true → bLt a c = true
  | a, [], c, h, _ => by cases a <;> simp [bLt, Op.bytesLess] at h
  | a, b :: bs, [], _, h => by simp [bLt, Op.bytesLess] at h
  | [], b :: bs, c :: cs, _, _ => rfl
  | a :: ar, b :: bs, c :: cs, h, k => by
    have ih := bLt_tr ar bs cs
    simp only [bLt, Op.bytesLess, Bool.or_eq_true, Bool.and_eq_true, beq_iff_eq, decide_eq_true_eq] at h k ih ⊢
    rcases h with h | ⟨h1, h2⟩
    · rcases k with k | ⟨k1, k2⟩
      · exact Or.inl (UInt8.lt_trans h k)
      · subst k1; exact Or.inl h
    · subst h1
      rcases k with k | ⟨k1, k2⟩
      · exact Or.inl k
      · exact Or.inr ⟨k1, ih h2 k2⟩
theorem bLt_tot : ∀ (a b : List UInt8), bLt a b = false → bLt b a = false → a = b
  | [], [], _, _ => rfl
  | [], b :: bs, h, _ => by simp [bLt, Op.bytesLess] at h
  | a :: ar, [], _, h => by simp [bLt, Op.bytesLess] at h
  | a :: ar, b :: bs, h, k => by
    have ih := bLt_tot ar bs
    simp only [bLt, Op.bytesLess, Bool.or_eq_false_iff, Bool.and_eq_false_iff, beq_eq_false_iff_ne, decide_eq_false_iff_not, UInt8.not_lt] at h k ih
    have e : a = b := UInt8.le_antisymm k.1 h.1
    subst e
    rw [ih (by rcases h.2 with h | h; exact absurd rfl h; exact h) (by rcases k.2 with h | h; exact absurd rfl h; exact h)]

/-- The order of strings, byte by byte. -/
def ltS (a b : ByteArray) : Bool := Op.bytesLess a.toList b.toList
theorem toList_inj {a b : ByteArray} (h : a.toList = b.toList) : a = b := by
  have ha : a.toList = a.data.toList := by simp [ByteArray.toList_eq]
  have hb : b.toList = b.data.toList := by simp [ByteArray.toList_eq]
  rw [ha, hb] at h
  cases a; cases b
  simp only at h
  rw [Array.toList_inj.1 h]
theorem ltS_ok : LtOk ltS := ⟨⟨fun a => bLt_irr _, fun a b c => bLt_tr _ _ _⟩, fun a b h k => toList_inj (bLt_tot _ _ h k)⟩
theorem eqS (a b : ByteArray) : (a.toList == b.toList) = decide (a = b) := by
  by_cases h : a = b
  · subst h; simp
  · rw [decide_eq_false h, beq_eq_false_iff_ne]; exact fun e => h (toList_inj e)

def strs (l : List ByteArray) : List Value := l.map Value.string
theorem strs_length (l : List ByteArray) : (strs l).length = l.length := by simp [strs]
theorem strs_append (a b : List ByteArray) : strs (a ++ b) = strs a ++ strs b := by simp [strs]
theorem strs_get (l : List ByteArray) (j : Nat) (h : j < l.length) : (strs l)[j]? = some (.string l[j]) := by simp [strs, h]
end Go.Proofs.YtlgphgipfjlbfaaDoor

end

section
/- The place of the first element with a property. No program in sight. -/
namespace Go.Proofs.YtlgphgipfjlbfaaDoor
variable {α : Type}
/-- The index of the first element with p, or -1. -/
def firstI (p : α → Bool) (l : List α) : Int := match l.findIdx? p with
  | some i => (i : Int)
  | none => -1
theorem firstI_at {p : α → Bool} {l : List α} {j : Nat} (h : ∀ x ∈ l.take j, p x = false) {x : α} (hj : l[j]? = some x) (hp : p x = true) : firstI p l = (j : Int) := by
  have hlt : j < l.length := (List.getElem?_eq_some_iff.1 hj).1
  have e : l.findIdx? p = some j := by
    rw [List.findIdx?_eq_some_iff_getElem]
    refine ⟨hlt, by rw [(List.getElem?_eq_some_iff.1 hj).2]; exact hp, fun i hi => ?_⟩
    have hm : l[i] ∈ l.take j := by
      rw [List.mem_take_iff_getElem]
      exact ⟨i, by omega, rfl⟩
    rw [h _ hm]; simp
  rw [firstI, e]
theorem firstI_none {p : α → Bool} {l : List α} (h : ∀ x ∈ l, p x = false) : firstI p l = -1 := by
  have e : l.findIdx? p = none := by rw [List.findIdx?_eq_none_iff]; exact h
  rw [firstI, e]
theorem firstI_cases (p : α → Bool) (l : List α) : (firstI p l = -1 ∧ ∀ x ∈ l, p x = false) ∨ ∃ (j : Nat) (x : α), firstI p l = (j : Int) ∧ l[j]? = some x ∧ p x = true ∧ ∀ y ∈ l.take j, p y = false := by
  cases e : l.findIdx? p with
  | none => exact Or.inl ⟨by rw [firstI, e], List.findIdx?_eq_none_iff.1 e⟩
  | some j =>
    obtain ⟨hj, hp, hn⟩ := List.findIdx?_eq_some_iff_getElem.1 e
    refine Or.inr ⟨j, l[j], by rw [firstI, e], List.getElem?_eq_getElem hj, hp, fun y hy => ?_⟩
    obtain ⟨i, hi, rfl⟩ := List.mem_take_iff_getElem.1 hy
    have := hn i (by omega)
    simpa using this
theorem not_take_succ {p : α → Bool} {l : List α} {j : Nat} (h : ∀ x ∈ l.take j, p x = false) {x : α} (hj : l[j]? = some x) (hp : p x = false) : ∀ y ∈ l.take (j + 1), p y = false := by
  intro y hy
  rw [List.take_add_one, hj] at hy
  rcases List.mem_append.1 hy with e | e
  · exact h y e
  · simp at e; subst e; exact hp
end Go.Proofs.YtlgphgipfjlbfaaDoor

end

section
/- Layer 11: labels, their order, normal label sets, as functions on lists. No program in sight. -/
set_option linter.unusedVariables false
namespace Go.Proofs.YtlgphgipfjlbfaaDoor
open Go Go.RowKit

/-! ### Comparing, in general -/
structure CmpOk {α : Type} (cmp : α → α → Int) : Prop where
  dom : ∀ a b, cmp a b = -1 ∨ cmp a b = 0 ∨ cmp a b = 1
  eq : ∀ a b, cmp a b = 0 ↔ a = b
  flip : ∀ a b, cmp b a = - cmp a b
  tr : ∀ a b c, cmp a b = -1 → cmp b c = -1 → cmp a c = -1
theorem CmpOk.refl {α : Type} {cmp : α → α → Int} (h : CmpOk cmp) (a : α) : cmp a a = 0 := (h.eq a a).2 rfl
theorem CmpOk.lt {α : Type} {cmp : α → α → Int} (h : CmpOk cmp) : LtOk (fun a b => decide (cmp a b = -1)) :=
  ⟨⟨fun a => by rw [h.refl]; rfl, fun a b c h1 h2 => by
    simp only [decide_eq_true_eq] at h1 h2 ⊢
    exact h.tr a b c h1 h2⟩, fun a b h1 h2 => by
    simp only [decide_eq_false_iff_not] at h1 h2
    rw [h.flip a b] at h2
    rcases h.dom a b with e | e | e
    · exact absurd e h1
    · exact (h.eq a b).1 e
    · rw [e] at h2; exact absurd rfl h2⟩
/-- From an order. -/
def ordB {α : Type} (lt : α → α → Bool) (a b : α) : Int := if lt a b then -1 else if lt b a then 1 else 0
theorem ordB_ok {α : Type} {lt : α → α → Bool} (h : LtOk lt) : CmpOk (ordB lt) := by
  refine ⟨fun a b => ?_, fun a b => ?_, fun a b => ?_, fun a b c h1 h2 => ?_⟩
  · unfold ordB; split
    · exact Or.inl rfl
    · split
      · exact Or.inr (Or.inr rfl)
      · exact Or.inr (Or.inl rfl)
  · unfold ordB
    constructor
    · intro e
      split at e
      · cases e
      · next h1 =>
        split at e
        · cases e
        · next h2 => exact h.tot a b (by simpa using h1) (by simpa using h2)
    · rintro rfl; simp [h.irr]
  · unfold ordB
    rcases Bool.eq_false_or_eq_true (lt a b) with e | e
    · simp [e, h.asy e]
    · rcases Bool.eq_false_or_eq_true (lt b a) with f | f <;> simp [e, f]
  · have lt1 : ∀ x y, ordB lt x y = -1 → lt x y = true := fun x y e => by
      unfold ordB at e
      split at e
      · assumption
      · split at e <;> cases e
    have := h.tr a b c (lt1 a b h1) (lt1 b c h2)
    unfold ordB; rw [if_pos this]
/-- Pairs, first by the first. -/
def cmpP {α β : Type} (c1 : α → α → Int) (c2 : β → β → Int) (a b : α × β) : Int := if c1 a.1 b.1 = 0 then c2 a.2 b.2 else c1 a.1 b.1
theorem cmpP_ok {α β : Type} {c1 : α → α → Int} {c2 : β → β → Int} (h1 : CmpOk c1) (h2 : CmpOk c2) : CmpOk (cmpP c1 c2) := by
  refine ⟨fun a b => ?_, fun a b => ?_, fun a b => ?_, fun a b c e f => ?_⟩
  · unfold cmpP; split
    · exact h2.dom _ _
    · exact h1.dom _ _
  · obtain ⟨a1, a2⟩ := a; obtain ⟨b1, b2⟩ := b
    unfold cmpP
    split
    · next e => rw [h2.eq]; simp only at e; rw [(h1.eq _ _).1 e]; simp
    · next e =>
      constructor
      · intro h; exact absurd h e
      · rintro h; cases h; exact absurd (h1.refl _) e
  · unfold cmpP
    rw [h1.flip a.1 b.1, h2.flip a.2 b.2]
    by_cases e : c1 a.1 b.1 = 0
    · rw [if_pos e, if_pos (by omega)]
    · rw [if_neg e, if_neg (by omega)]
  · unfold cmpP at e f ⊢
    by_cases e1 : c1 a.1 b.1 = 0
    · rw [if_pos e1] at e
      rw [(h1.eq _ _).1 e1]
      by_cases f1 : c1 b.1 c.1 = 0
      · rw [if_pos f1] at f ⊢; exact h2.tr _ _ _ e f
      · rw [if_neg f1] at f ⊢; exact f
    · rw [if_neg e1] at e
      by_cases f1 : c1 b.1 c.1 = 0
      · rw [if_pos f1] at f
        rw [← (h1.eq _ _).1 f1, if_neg e1]; exact e
      · rw [if_neg f1] at f
        have := h1.tr _ _ _ e f
        rw [this, if_neg (by decide)]
/-- Lists, element by element; a proper prefix is less. -/
def cmpL {α : Type} (c : α → α → Int) : List α → List α → Int
  | [], [] => 0
  | [], _ :: _ => -1
  | _ :: _, [] => 1
  | a :: l, b :: k => if c a b = 0 then cmpL c l k else c a b
theorem cmpL_ok {α : Type} {c : α → α → Int} (h : CmpOk c) : CmpOk (cmpL c) := by
  refine ⟨fun a => ?_, fun a => ?_, fun a => ?_, fun a => ?_⟩
  · induction a with
    | nil => intro b; cases b <;> simp [cmpL]
    | cons x a ih =>
      intro b
      cases b with
      | nil => simp [cmpL]
      | cons y b => rw [cmpL]; split
                    · exact ih b
                    · exact h.dom _ _
  · induction a with
    | nil => intro b; cases b <;> simp [cmpL]
    | cons x a ih =>
      intro b
      cases b with
      | nil => simp [cmpL]
      | cons y b =>
        rw [cmpL]
        split
        · next e => rw [ih b, (h.eq _ _).1 e]; simp
        · next e =>
          constructor
          · intro g; exact absurd g e
          · rintro g; cases g; exact absurd (h.refl _) e
  · induction a with
    | nil => intro b; cases b <;> simp [cmpL]
    | cons x a ih =>
      intro b
      cases b with
      | nil => simp [cmpL]
      | cons y b =>
        rw [cmpL, cmpL, h.flip x y, ih b]
        by_cases e : c x y = 0
        · rw [if_pos e, if_pos (by omega)]
        · rw [if_neg e, if_neg (by omega)]
  · induction a with
    | nil =>
      intro b k e f
      cases k with
      | nil => cases b with
        | nil => simp [cmpL] at e
        | cons y b => simp [cmpL] at f
      | cons z k => rfl
    | cons x a ih =>
      intro b k e f
      cases b with
      | nil => simp [cmpL] at e
      | cons y b =>
        cases k with
        | nil => simp [cmpL] at f
        | cons z k =>
          rw [cmpL] at e f ⊢
          by_cases e1 : c x y = 0
          · rw [if_pos e1] at e
            rw [(h.eq _ _).1 e1]
            by_cases f1 : c y z = 0
            · rw [if_pos f1] at f ⊢; exact ih b k e f
            · rw [if_neg f1] at f ⊢; exact f
          · rw [if_neg e1] at e
            by_cases f1 : c y z = 0
            · rw [← (h.eq _ _).1 f1, if_neg e1]; exact e
            · rw [if_neg f1] at f
              have := h.tr _ _ _ e f
              rw [this, if_neg (by decide)]

/-! ### Labels -/
abbrev Lab := ByteArray × ByteArray
def ordS : ByteArray → ByteArray → Int := ordB ltS
theorem ordS_ok : CmpOk ordS := ordB_ok ltS_ok
def cmpLab : Lab → Lab → Int := cmpP ordS ordS
theorem cmpLab_ok : CmpOk cmpLab := cmpP_ok ordS_ok ordS_ok
def cmpLabs : List Lab → List Lab → Int := cmpL cmpLab
theorem cmpLabs_ok : CmpOk cmpLabs := cmpL_ok cmpLab_ok

/-- ErrName or ErrLimit of a label. -/
def oneL (x : Lab) : Nat := if x.1.size = 0 then 17 else if 65535 < x.1.size ∨ 65535 < x.2.size then 7 else 0
/-- What Check gives, the name before being p. -/
def checkFrom (p : Option ByteArray) : List Lab → Nat
  | [] => 0
  | x :: l =>
    if oneL x ≠ 0 then oneL x else
    match p with
    | none => checkFrom (some x.1) l
    | some n => if x.1 = n then 18 else if ltS x.1 n then 16 else checkFrom (some x.1) l
def checkL (l : List Lab) : Nat := checkFrom none l

/-- The order of labels, by names. -/
def ltN (a b : Lab) : Bool := ltS a.1 b.1
/-- The first error of a label. -/
def firstErr : List Lab → Nat
  | [] => 0
  | x :: l => if oneL x ≠ 0 then oneL x else firstErr l
/-- Labels are put in order, one by one; none if two have one name. -/
def putL : List Lab → List Lab → Option (List Lab)
  | out, [] => some out
  | out, x :: l => if ∃ y ∈ out, y.1 = x.1 then none else putL (insB ltN x out) l
/-- What Normalize gives. -/
def normL (l : List Lab) : Nat × List Lab := if firstErr l ≠ 0 then (firstErr l, []) else match putL [] l with
  | none => (18, [])
  | some out => (0, out)
def getL (l : List Lab) (n : ByteArray) : Option ByteArray := (l.find? fun x => decide (x.1 = n)).map Prod.snd
def stringsL (l : List Lab) : List ByteArray := l.flatMap fun x => [x.1, x.2]

theorem ltN_ok : LtPre ltN := ⟨fun a => ltS_ok.irr _, fun a b c => ltS_ok.tr _ _ _⟩
theorem ltN_ne {a b : Lab} (h : a.1 ≠ b.1) : ltN a b = false → ltN b a = true := fun h1 => by
  rcases Bool.eq_false_or_eq_true (ltN b a) with e | e
  · exact e
  · exact absurd (ltS_ok.tot _ _ h1 e) h
theorem insN_mem (x z : Lab) (d : List Lab) (hd : ∀ y ∈ d, y.1 ≠ x.1) : z ∈ insB ltN x d ↔ z = x ∨ z ∈ d := by
  induction d with
  | nil => simp [insB]
  | cons y l ih =>
    have hy := hd y (by simp)
    rw [insB]
    split
    · rw [List.mem_cons, ih (fun y hy => hd y (by simp [hy])), List.mem_cons]
      constructor
      · rintro (h | h | h)
        · exact Or.inr (Or.inl h)
        · exact Or.inl h
        · exact Or.inr (Or.inr h)
      · rintro (h | h | h)
        · exact Or.inr (Or.inl h)
        · exact Or.inl h
        · exact Or.inr (Or.inr h)
    · next h1 =>
      rw [if_pos (ltN_ne hy (by simpa using h1))]
      simp
theorem insN_asc (x : Lab) (d : List Lab) (hd : ∀ y ∈ d, y.1 ≠ x.1) (ha : AscB ltN d) : AscB ltN (insB ltN x d) := by
  induction d with
  | nil => exact List.pairwise_singleton _ _
  | cons y l ih =>
    obtain ⟨h1, h2⟩ := List.pairwise_cons.1 ha
    have hd' : ∀ y ∈ l, y.1 ≠ x.1 := fun y hy => hd y (by simp [hy])
    rw [insB]
    split
    · next hyx =>
      exact List.pairwise_cons.2 ⟨fun z hz => by
        rcases (insN_mem x z l hd').1 hz with e | e
        · subst e; exact hyx
        · exact h1 z e, ih hd' h2⟩
    · next hyx =>
      have hxy := ltN_ne (hd y (by simp)) (by simpa using hyx)
      rw [if_pos hxy]
      exact List.pairwise_cons.2 ⟨fun z hz => by
        rcases List.mem_cons.1 hz with e | e
        · subst e; exact hxy
        · exact ltN_ok.tr _ _ _ hxy (h1 z e), ha⟩

theorem firstErr_zero (l : List Lab) : firstErr l = 0 ↔ ∀ x ∈ l, oneL x = 0 := by
  induction l with
  | nil => simp [firstErr]
  | cons x l ih =>
    rw [firstErr]
    split
    · next h => constructor
                · intro e; exact absurd e h
                · intro e; exact absurd (e x (by simp)) h
    · next h => rw [ih]; simp only [List.mem_cons, forall_eq_or_imp]
                constructor
                · intro e; exact ⟨Decidable.not_not.1 h, e⟩
                · intro e; exact e.2
/-- The names of labels. -/
def namesL (l : List Lab) : List ByteArray := l.map Prod.fst
theorem putL_some (l : List Lab) : ∀ (out r : List Lab), putL out l = some r → AscB ltN out → AscB ltN r ∧ (∀ z, z ∈ r ↔ z ∈ out ∨ z ∈ l) ∧ (namesL l).Nodup ∧ (∀ y ∈ out, ∀ x ∈ l, y.1 ≠ x.1) := by
  induction l with
  | nil => intro out r h ha; simp [putL] at h; subst h; exact ⟨ha, fun z => by simp, List.nodup_nil, fun _ _ _ h => by cases h⟩
  | cons x l ih =>
    intro out r h ha
    rw [putL] at h
    split at h
    · cases h
    · next hn =>
      have hn' : ∀ y ∈ out, y.1 ≠ x.1 := fun y hy e => hn ⟨y, hy, e⟩
      obtain ⟨h1, h2, h3, h4⟩ := ih _ r h (insN_asc x out hn' ha)
      refine ⟨h1, fun z => ?_, ?_, fun y hy z hz => ?_⟩
      · rw [h2, insN_mem x z out hn', List.mem_cons]
        constructor
        · rintro ((h | h) | h)
          · exact Or.inr (Or.inl h)
          · exact Or.inl h
          · exact Or.inr (Or.inr h)
        · rintro (h | h | h)
          · exact Or.inl (Or.inr h)
          · exact Or.inl (Or.inl h)
          · exact Or.inr h
      · rw [namesL, List.map_cons, List.nodup_cons]
        refine ⟨fun hm => ?_, h3⟩
        obtain ⟨z, hz, he⟩ := List.mem_map.1 hm
        exact h4 x ((insN_mem x x out hn').2 (Or.inl rfl)) z hz he.symm
      · rcases List.mem_cons.1 hz with e | e
        · subst e; exact hn' y hy
        · exact h4 y ((insN_mem x y out hn').2 (Or.inr hy)) z e
theorem putL_of (l : List Lab) : ∀ (out : List Lab), (namesL l).Nodup → (∀ y ∈ out, ∀ x ∈ l, y.1 ≠ x.1) → ∃ r, putL out l = some r := by
  induction l with
  | nil => intro out _ _; exact ⟨out, rfl⟩
  | cons x l ih =>
    intro out hnd hd
    rw [namesL, List.map_cons, List.nodup_cons] at hnd
    have hn' : ∀ y ∈ out, y.1 ≠ x.1 := fun y hy => hd y hy x (by simp)
    rw [putL, if_neg (fun ⟨y, hy, e⟩ => hn' y hy e)]
    refine ih _ hnd.2 (fun y hy z hz => ?_)
    rcases (insN_mem x y out hn').1 hy with e | e
    · subst e; intro he; exact hnd.1 (List.mem_map.2 ⟨z, hz, he.symm⟩)
    · exact hd y e z (by simp [hz])
theorem normL_ok {l : List Lab} : (normL l).1 = 0 ↔ (∀ x ∈ l, oneL x = 0) ∧ (namesL l).Nodup := by
  unfold normL
  constructor
  · intro h
    split at h
    · next h1 => exact absurd h h1
    · next h1 =>
      split at h
      · cases h
      · next r hr => exact ⟨(firstErr_zero l).1 (Decidable.not_not.1 h1), (putL_some l [] r hr List.Pairwise.nil).2.2.1⟩
  · rintro ⟨h1, h2⟩
    rw [if_neg (not_not_intro ((firstErr_zero l).2 h1))]
    obtain ⟨r, hr⟩ := putL_of l [] h2 (fun _ h => by cases h)
    rw [hr]
theorem normL_res {l : List Lab} (h : (normL l).1 = 0) : AscB ltN (normL l).2 ∧ ∀ z, z ∈ (normL l).2 ↔ z ∈ l := by
  have h0 := normL_ok.1 h
  unfold normL
  rw [if_neg (not_not_intro ((firstErr_zero l).2 h0.1))]
  obtain ⟨r, hr⟩ := putL_of l [] h0.2 (fun _ h => by cases h)
  rw [hr]
  obtain ⟨a, b, _⟩ := putL_some l [] r hr List.Pairwise.nil
  exact ⟨a, fun z => by rw [b]; simp⟩
theorem normL_err {l : List Lab} (h : (normL l).1 ≠ 0) : (normL l).2 = [] := by
  unfold normL at h ⊢
  split
  · rfl
  · next h1 =>
    rw [if_neg h1] at h
    split
    · rfl
    · next r hr => rw [hr] at h; exact absurd rfl h
theorem norm_perm {l m : List Lab} (hp : l.Perm m) : ((normL l).1 = 0 ↔ (normL m).1 = 0) ∧ (normL l).2 = (normL m).2 := by
  have hiff : (normL l).1 = 0 ↔ (normL m).1 = 0 := by
    rw [normL_ok, normL_ok]
    have h1 : (namesL l).Nodup ↔ (namesL m).Nodup := (hp.map Prod.fst).nodup_iff
    have h2 : (∀ x ∈ l, oneL x = 0) ↔ (∀ x ∈ m, oneL x = 0) := ⟨fun h x hx => h x (hp.mem_iff.2 hx), fun h x hx => h x (hp.mem_iff.1 hx)⟩
    rw [h1, h2]
  refine ⟨hiff, ?_⟩
  by_cases h : (normL l).1 = 0
  · obtain ⟨a1, a2⟩ := normL_res h
    obtain ⟨b1, b2⟩ := normL_res (hiff.1 h)
    exact ascB_ext ltN_ok _ _ a1 b1 (fun z => by rw [a2, b2]; exact hp.mem_iff)
  · rw [normL_err h, normL_err (fun e => h (hiff.2 e))]
theorem ascN_nodup {l : List Lab} (h : AscB ltN l) : (namesL l).Nodup := by
  rw [namesL, List.Nodup, List.pairwise_map]
  exact List.Pairwise.imp (fun hab e => by unfold ltN at hab; rw [e, ltS_ok.irr] at hab; cases hab) h
theorem norm_of_asc {l : List Lab} (h : AscB ltN l) (ho : ∀ x ∈ l, oneL x = 0) : normL l = (0, l) := by
  have h0 : (normL l).1 = 0 := normL_ok.2 ⟨ho, ascN_nodup h⟩
  obtain ⟨a1, a2⟩ := normL_res h0
  have : (normL l).2 = l := ascB_ext ltN_ok _ _ a1 h a2
  exact Prod.ext h0 this
theorem norm_idem {l : List Lab} (h : (normL l).1 = 0) : normL (normL l).2 = (0, (normL l).2) := by
  obtain ⟨a1, a2⟩ := normL_res h
  exact norm_of_asc a1 (fun x hx => (normL_ok.1 h).1 x ((a2 x).1 hx))
theorem check_asc (l : List Lab) : ∀ (p : Option ByteArray), AscB ltN l → (∀ x ∈ l, oneL x = 0) → (∀ n, p = some n → ∀ x, l.head? = some x → ltS n x.1 = true) → checkFrom p l = 0 := by
  induction l with
  | nil => intro p _ _ _; rfl
  | cons x l ih =>
    intro p ha ho hp
    obtain ⟨h1, h2⟩ := List.pairwise_cons.1 ha
    have hrec : checkFrom (some x.1) l = 0 := ih (some x.1) h2 (fun y hy => ho y (by simp [hy])) (fun n hn y hy => by
      cases hn
      exact h1 y (List.mem_of_mem_head? hy))
    cases p with
    | none => rw [checkFrom, if_neg (not_not_intro (ho x (by simp)))]; exact hrec
    | some n =>
      have hl := hp n rfl x rfl
      rw [checkFrom, if_neg (not_not_intro (ho x (by simp)))]
      rw [if_neg (fun e => by rw [e, ltS_ok.irr] at hl; cases hl), if_neg (by rw [ltS_ok.asy hl]; simp)]
      exact hrec
theorem check_norm {l : List Lab} (h : (normL l).1 = 0) : checkL (normL l).2 = 0 := by
  obtain ⟨a1, a2⟩ := normL_res h
  exact check_asc _ none a1 (fun x hx => (normL_ok.1 h).1 x ((a2 x).1 hx)) (fun _ e => by cases e)
end Go.Proofs.YtlgphgipfjlbfaaDoor

end

section
/- Layer 11: the two labels of the examples. No program in sight. -/
set_option linter.unusedVariables false
namespace Go.Proofs.YtlgphgipfjlbfaaDoor
open Go Go.RowKit

def lA : ByteArray := ⟨#[97]⟩

def lB : ByteArray := ⟨#[98]⟩

def l1 : ByteArray := ⟨#[49]⟩

def l2 : ByteArray := ⟨#[50]⟩

theorem lAB : ltS lA lB = true := by simp [ltS, lA, lB, ByteArray.toList_eq, Op.bytesLess]

theorem l12 : ltS l1 l2 = true := by simp [ltS, l1, l2, ByteArray.toList_eq, Op.bytesLess]

theorem lBA : ltS lB lA = false := ltS_ok.asy lAB

theorem l21 : ltS l2 l1 = false := ltS_ok.asy l12

theorem asc_ab11 : AscB ltN [(lA, l1), (lB, l2)] := by simp [AscB, ltN, lAB]

theorem one_ab11 : ∀ x ∈ ([(lA, l1), (lB, l2)] : List Lab), oneL x = 0 := by
  intro x hx
  simp only [List.mem_cons, List.not_mem_nil, or_false] at hx
  rcases hx with rfl | rfl <;> decide

theorem norm_ba11 : normL [(lB, l2), (lA, l1)] = (0, [(lA, l1), (lB, l2)]) := by
  have h1 := norm_of_asc asc_ab11 one_ab11
  have h2 := norm_perm (l := [(lB, l2), (lA, l1)]) (m := [(lA, l1), (lB, l2)]) (List.Perm.swap _ _ _)
  rw [h1] at h2
  exact Prod.ext (h2.1.2 rfl) h2.2

theorem check_ab11 : checkL [(lA, l1), (lB, l2)] = 0 := check_asc _ none asc_ab11 one_ab11 (fun _ e => by cases e)

theorem cmp_a11 : cmpLabs [(lA, l1)] [(lA, l1), (lB, l2)] = -1 := by
  rw [cmpLabs, cmpL, if_pos (cmpLab_ok.refl _)]; rfl

theorem cmp_b11 : cmpLabs [(lA, l2)] [(lA, l1), (lB, l2)] = 1 := by
  have h : cmpLab (lA, l2) (lA, l1) = 1 := by
    rw [cmpLab, cmpP, if_pos (ordS_ok.refl _)]
    show ordB ltS l2 l1 = 1
    rw [ordB, if_neg (by rw [l21]; simp), if_pos l12]
  rw [cmpLabs, cmpL, if_neg (by rw [h]; decide), h]

theorem get_b11 : getL [(lA, l1), (lB, l2)] lB = some l2 := by
  have h : lA ≠ lB := ltS_ok.ne lAB
  simp [getL, h]
end Go.Proofs.YtlgphgipfjlbfaaDoor

end

section
/- Layer 14: sorted lists of numbers, as functions on lists. No program in sight. -/
set_option linter.unusedVariables false
namespace Go.Proofs.YtlgphgipfjlbfaaDoor

def ltI (a b : Int) : Bool := decide (a < b)
theorem ltI_ok : LtOk ltI := ⟨⟨fun a => by simp [ltI], fun a b c h k => by simp only [ltI, decide_eq_true_eq] at *; omega⟩, fun a b h k => by simp only [ltI, decide_eq_false_iff_not] at *; omega⟩
instance decAscI (l : List Int) : Decidable (AscB ltI l) := inferInstanceAs (Decidable (List.Pairwise _ _))
def interZ : List (List Int) → List Int
  | [] => []
  | a :: m => a.filter fun x => decide (∀ y ∈ m, x ∈ y)
def unionZ (m : List (List Int)) : List Int := tabB ltI m.flatten
def diffZ (a b : List Int) : List Int := a.filter fun x => decide (x ∉ b)
def uptoZ (n : Int) : List Int := (List.range n.toNat).map fun k : Nat => (k : Int)
def complZ (l : List Int) (n : Int) : List Int := (uptoZ n).filter fun x => decide (x ∉ l)
def sortZ (l : List Int) : List Int := tabB ltI l
theorem unionZ_one (l : List Int) : unionZ [l] = sortZ l := by simp [unionZ, sortZ]

theorem asc_filter {l : List Int} (p : Int → Bool) (h : AscB ltI l) : AscB ltI (l.filter p) := List.Pairwise.filter p h
theorem upto_asc (n : Int) : AscB ltI (uptoZ n) := by
  unfold uptoZ AscB
  rw [List.pairwise_map]
  refine List.Pairwise.imp (fun h => ?_) List.pairwise_lt_range
  simp only [ltI, decide_eq_true_eq]; omega
theorem upto_mem (n x : Int) : x ∈ uptoZ n ↔ 0 ≤ x ∧ x < n := by
  simp only [uptoZ, List.mem_map, List.mem_range]
  constructor
  · rintro ⟨k, hk, rfl⟩; omega
  · intro h; exact ⟨x.toNat, by omega, by omega⟩
theorem inter_asc {m : List (List Int)} (h : ∀ l ∈ m, AscB ltI l) : AscB ltI (interZ m) := by
  cases m with
  | nil => exact List.Pairwise.nil
  | cons a m => exact asc_filter _ (h a (by simp))
theorem inter_mem {m : List (List Int)} (hm : m ≠ []) (x : Int) : x ∈ interZ m ↔ ∀ l ∈ m, x ∈ l := by
  cases m with
  | nil => exact absurd rfl hm
  | cons a m => simp [interZ]
theorem union_asc (m : List (List Int)) : AscB ltI (unionZ m) := tabB_asc ltI_ok _
theorem union_mem (m : List (List Int)) (x : Int) : x ∈ unionZ m ↔ ∃ l ∈ m, x ∈ l := by rw [unionZ, tabB_mem ltI_ok, List.mem_flatten]
theorem diff_mem (a b : List Int) (x : Int) : x ∈ diffZ a b ↔ x ∈ a ∧ x ∉ b := by simp [diffZ]
theorem diff_asc {a : List Int} (b : List Int) (h : AscB ltI a) : AscB ltI (diffZ a b) := asc_filter _ h
theorem compl_mem (l : List Int) (n x : Int) : x ∈ complZ l n ↔ (0 ≤ x ∧ x < n) ∧ x ∉ l := by simp [complZ, upto_mem]
theorem compl_asc (l : List Int) (n : Int) : AscB ltI (complZ l n) := asc_filter _ (upto_asc n)
theorem sort_asc (l : List Int) : AscB ltI (sortZ l) := tabB_asc ltI_ok l
theorem sort_mem (l : List Int) (x : Int) : x ∈ sortZ l ↔ x ∈ l := tabB_mem ltI_ok l x
theorem sort_len (l : List Int) : (sortZ l).length ≤ l.length := tabB_len l
theorem ext_asc {a b : List Int} (ha : AscB ltI a) (hb : AscB ltI b) (h : ∀ x, x ∈ a ↔ x ∈ b) : a = b := ascB_ext ltI_ok.toLtPre a b ha hb h

/-- Neither depends on the order of the lists. -/
theorem inter_perm {m k : List (List Int)} (hp : m.Perm k) (hm : ∀ l ∈ m, AscB ltI l) : interZ m = interZ k := by
  by_cases h : m = []
  · subst h; rw [List.nil_perm.1 hp]
  · have hk : k ≠ [] := fun e => h (by subst e; exact List.perm_nil.1 hp)
    refine ext_asc (inter_asc hm) (inter_asc (fun l hl => hm l (hp.mem_iff.2 hl))) (fun x => ?_)
    rw [inter_mem h, inter_mem hk]
    exact ⟨fun g l hl => g l (hp.mem_iff.2 hl), fun g l hl => g l (hp.mem_iff.1 hl)⟩
theorem union_perm {m k : List (List Int)} (hp : m.Perm k) : unionZ m = unionZ k := by
  refine ext_asc (union_asc m) (union_asc k) (fun x => ?_)
  rw [union_mem, union_mem]
  exact ⟨fun ⟨l, h1, h2⟩ => ⟨l, hp.mem_iff.1 h1, h2⟩, fun ⟨l, h1, h2⟩ => ⟨l, hp.mem_iff.2 h1, h2⟩⟩
/-- The complement of a union; differences. -/
theorem morgan (a b : List Int) (n : Int) : complZ (unionZ [a, b]) n = interZ [complZ a n, complZ b n] := by
  refine ext_asc (compl_asc _ _) (inter_asc (fun l hl => ?_)) (fun x => ?_)
  · simp only [List.mem_cons, List.not_mem_nil, or_false] at hl
    rcases hl with rfl | rfl <;> exact compl_asc _ _
  · rw [compl_mem, inter_mem (by simp), union_mem]
    constructor
    · rintro ⟨h1, h2⟩ l hl
      simp only [List.mem_cons, List.not_mem_nil, or_false] at hl
      rcases hl with rfl | rfl
      · exact (compl_mem _ _ _).2 ⟨h1, fun h => h2 ⟨a, by simp, h⟩⟩
      · exact (compl_mem _ _ _).2 ⟨h1, fun h => h2 ⟨b, by simp, h⟩⟩
    · intro h
      have h1 := (compl_mem _ _ _).1 (h _ (List.mem_cons_self ..))
      have h2 := (compl_mem _ _ _).1 (h (complZ b n) (by simp))
      refine ⟨h1.1, ?_⟩
      rintro ⟨l, hl, hx⟩
      simp only [List.mem_cons, List.not_mem_nil, or_false] at hl
      rcases hl with rfl | rfl
      · exact h1.2 hx
      · exact h2.2 hx
theorem diff_all (a : List Int) (n : Int) : diffZ (complZ [] n) a = complZ a n := by
  refine ext_asc (diff_asc _ (compl_asc _ _)) (compl_asc _ _) (fun x => ?_)
  rw [diff_mem, compl_mem, compl_mem]; simp
theorem diff_compl (a b : List Int) (n : Int) : diffZ (complZ a n) b = interZ [complZ a n, complZ b n] := by
  refine ext_asc (diff_asc _ (compl_asc _ _)) (inter_asc (fun l hl => ?_)) (fun x => ?_)
  · simp only [List.mem_cons, List.not_mem_nil, or_false] at hl
    rcases hl with rfl | rfl <;> exact compl_asc _ _
  · rw [diff_mem, inter_mem (by simp)]
    constructor
    · rintro ⟨h1, h2⟩ l hl
      simp only [List.mem_cons, List.not_mem_nil, or_false] at hl
      rcases hl with rfl | rfl
      · exact h1
      · exact (compl_mem _ _ _).2 ⟨((compl_mem _ _ _).1 h1).1, h2⟩
    · intro h
      exact ⟨h _ (List.mem_cons_self ..), ((compl_mem _ _ _).1 (h (complZ b n) (by simp))).2⟩
theorem diff_self (a : List Int) : diffZ a a = [] := by
  unfold diffZ
  rw [List.filter_eq_nil_iff]
  intro x hx; simpa using hx
theorem compl_nil_len (n : Nat) : (complZ [] (n : Int)).length = n := by
  have h : complZ [] (n : Int) = uptoZ n := by unfold complZ; rw [List.filter_eq_self.2 (fun x _ => by simp)]
  rw [h]; simp [uptoZ]
end Go.Proofs.YtlgphgipfjlbfaaDoor

end

section
/- Sorting by insertion from the end, whatever the order: elements of one key keep theirs. No program in sight. -/
namespace Go.Proofs.YtlgphgipfjlbfaaDoor

theorem snoc_ind {α : Type} {p : List α → Prop} (h0 : p []) (h1 : ∀ l x, p l → p (l ++ [x])) (l : List α) : p l := by
  have h : ∀ l : List α, p l.reverse := fun l => by
    induction l with
    | nil => exact h0
    | cons x l ih => rw [List.reverse_cons]; exact h1 _ _ ih
  have := h l.reverse
  rwa [List.reverse_reverse] at this
section
variable {α : Type}
/-- A strict weak order. -/
structure LtWk (lt : α → α → Bool) : Prop extends LtPre lt where
  co : ∀ a b c, lt a c = true → lt a b = true ∨ lt b c = true
variable {lt : α → α → Bool}

/-- Where x is put: ahead of what is greater, from the end on. -/
def posE (lt : α → α → Bool) (x : α) (d : List α) : Nat := d.length - (d.reverse.takeWhile (fun y => lt x y)).length
def insE (lt : α → α → Bool) (x : α) (d : List α) : List α := d.take (posE lt x d) ++ x :: d.drop (posE lt x d)
def sortE (lt : α → α → Bool) (l : List α) : List α := l.foldl (fun d x => insE lt x d) []
theorem posE_of {x : α} {d : List α} {k : Nat} (hk : k ≤ d.length) (h1 : ∀ y ∈ d.drop k, lt x y = true) (h2 : ∀ y, 0 < k → d[k - 1]? = some y → lt x y = false) : posE lt x d = k := by
  have hs : d.reverse = (d.drop k).reverse ++ (d.take k).reverse := by rw [← List.reverse_append, List.take_append_drop]
  have ht : d.reverse.takeWhile (fun y => lt x y) = (d.drop k).reverse := by
    rw [hs, List.takeWhile_append_of_pos (fun y hy => h1 y (List.mem_reverse.1 hy))]
    have : (d.take k).reverse.takeWhile (fun y => lt x y) = [] := by
      rcases Nat.eq_zero_or_pos k with rfl | hp
      · simp
      · have hlt : k - 1 < d.length := by omega
        have hl : d.take k = d.take (k - 1) ++ [d[k - 1]] := by
          conv => lhs; rw [show k = (k - 1) + 1 by omega]
          rw [List.take_add_one, List.getElem?_eq_getElem hlt]; rfl
        rw [hl, List.reverse_append, List.reverse_singleton, List.singleton_append, List.takeWhile_cons, h2 _ hp (List.getElem?_eq_getElem hlt)]
        rfl
    rw [this, List.append_nil]
  rw [posE, ht, List.length_reverse, List.length_drop]; omega
theorem posE_spec (x : α) (d : List α) : posE lt x d ≤ d.length ∧ (∀ y ∈ d.drop (posE lt x d), lt x y = true) ∧ (∀ y, 0 < posE lt x d → d[posE lt x d - 1]? = some y → lt x y = false) := by
  induction d using snoc_ind with
  | h0 => exact ⟨Nat.le_refl _, fun y hy => by simp at hy, fun y h _ => by simp [posE] at h⟩
  | h1 d z ih =>
    by_cases hz : lt x z = true
    · have hp : posE lt x (d ++ [z]) = posE lt x d := by
        refine posE_of (by rw [List.length_append]; have := ih.1; omega) (fun y hy => ?_) (fun y h0 hy => ?_)
        · rw [List.drop_append_of_le_length ih.1] at hy
          rcases List.mem_append.1 hy with e | e
          · exact ih.2.1 y e
          · rw [List.mem_singleton.1 e]; exact hz
        · rw [List.getElem?_append_left (by have := ih.1; omega)] at hy
          exact ih.2.2 y h0 hy
      rw [hp]
      refine ⟨by rw [List.length_append]; have := ih.1; omega, fun y hy => ?_, fun y h0 hy => ?_⟩
      · rw [List.drop_append_of_le_length ih.1] at hy
        rcases List.mem_append.1 hy with e | e
        · exact ih.2.1 y e
        · rw [List.mem_singleton.1 e]; exact hz
      · rw [List.getElem?_append_left (by have := ih.1; omega)] at hy
        exact ih.2.2 y h0 hy
    · have hp : posE lt x (d ++ [z]) = d.length + 1 := by
        refine posE_of (by simp) (fun y hy => ?_) (fun y h0 hy => ?_)
        · rw [List.drop_of_length_le (by simp)] at hy; cases hy
        · rw [Nat.add_sub_cancel, List.getElem?_append_right (Nat.le_refl _), Nat.sub_self] at hy
          simp at hy; subst hy; simpa using hz
      rw [hp]
      refine ⟨by simp, fun y hy => ?_, fun y h0 hy => ?_⟩
      · rw [List.drop_of_length_le (by simp)] at hy; cases hy
      · rw [Nat.add_sub_cancel, List.getElem?_append_right (Nat.le_refl _), Nat.sub_self] at hy
        simp at hy; subst hy; simpa using hz
theorem insE_perm (x : α) (d : List α) : (insE lt x d).Perm (x :: d) := by
  unfold insE
  refine (List.perm_middle).trans ?_
  rw [List.take_append_drop]
theorem insE_len (x : α) (d : List α) : (insE lt x d).length = d.length + 1 := by rw [(insE_perm x d).length_eq, List.length_cons]

/-- Ascending, equals allowed. -/
def SrtE (lt : α → α → Bool) (d : List α) : Prop := d.Pairwise (fun a b => lt b a = false)
theorem insE_srt (h : LtWk lt) (x : α) (d : List α) (hd : SrtE lt d) : SrtE lt (insE lt x d) := by
  obtain ⟨h1, h2, h3⟩ := posE_spec (lt := lt) x d
  generalize posE lt x d = k at *
  have hk : insE lt x d = d.take (posE lt x d) ++ x :: d.drop (posE lt x d) := rfl
  have hp : posE lt x d = k := posE_of h1 h2 h3
  rw [hk, hp]
  have hsp : SrtE lt (d.take k ++ d.drop k) := by rw [List.take_append_drop]; exact hd
  obtain ⟨a1, a2, a3⟩ := List.pairwise_append.1 hsp
  refine List.pairwise_append.2 ⟨a1, List.pairwise_cons.2 ⟨fun b hb => h.asy (h2 b hb), a2⟩, fun a ha b hb => ?_⟩
  rcases List.mem_cons.1 hb with rfl | hb
  · have hp : 0 < k := by rcases Nat.eq_zero_or_pos k with rfl | hp; · simp at ha
                          · exact hp
    have hlt : k - 1 < d.length := by omega
    have hy := h3 d[k - 1] hp (List.getElem?_eq_getElem hlt)
    obtain ⟨i, hi, rfl⟩ := List.getElem_of_mem ha
    rw [List.length_take] at hi
    rw [List.getElem_take]
    rcases Bool.eq_false_or_eq_true (lt b d[i]) with e | e
    · rcases h.co b d[k - 1] d[i] e with f | f
      · rw [hy] at f; cases f
      · rcases Nat.lt_or_eq_of_le (show i ≤ k - 1 by omega) with g | g
        · have := List.pairwise_iff_getElem.1 hd i (k - 1) (by omega) hlt g
          rw [this] at f; cases f
        · simp only [g] at f; rw [h.irr] at f; cases f
    · exact e
  · exact a3 a ha b hb
theorem sortE_snoc (l : List α) (x : α) : sortE lt (l ++ [x]) = insE lt x (sortE lt l) := by rw [sortE, List.foldl_append]; rfl
theorem sortE_perm (l : List α) : (sortE lt l).Perm l := by
  induction l using snoc_ind with
  | h0 => exact List.Perm.refl _
  | h1 l x ih =>
    rw [sortE_snoc]
    exact (insE_perm x _).trans ((List.Perm.cons x ih).trans (List.perm_append_singleton x l).symm)
theorem sortE_srt (h : LtWk lt) (l : List α) : SrtE lt (sortE lt l) := by
  induction l using snoc_ind with
  | h0 => exact List.Pairwise.nil
  | h1 l x ih => rw [sortE_snoc]; exact insE_srt h x _ ih
theorem sortE_len (l : List α) : (sortE lt l).length = l.length := (sortE_perm l).length_eq
/-- No two have one key. -/
def Keys (lt : α → α → Bool) (l : List α) : Prop := l.Pairwise (fun a b => lt a b = true ∨ lt b a = true)
theorem Keys.perm {l m : List α} (h : l.Perm m) : Keys lt l ↔ Keys lt m := h.pairwise_iff (fun {_ _} e => e.symm)
theorem asc_of_srt {d : List α} (h : SrtE lt d) (hk : Keys lt d) : AscB lt d := by
  refine (List.pairwise_and_iff.2 ⟨h, hk⟩).imp (fun {_ _} e => ?_)
  rcases e.2 with f | f
  · exact f
  · rw [e.1] at f; cases f
theorem keys_of_asc {d : List α} (h : AscB lt d) : Keys lt d := h.imp (fun {_ _} e => Or.inl e)
theorem sortE_asc (h : LtWk lt) {l : List α} (hk : Keys lt l) : AscB lt (sortE lt l) := asc_of_srt (sortE_srt h l) ((Keys.perm (sortE_perm l)).2 hk)
theorem sortE_ext (h : LtWk lt) {l m : List α} (hk : Keys lt l) (hp : l.Perm m) : sortE lt l = sortE lt m :=
  ascB_ext h.toLtPre _ _ (sortE_asc h hk) (sortE_asc h ((Keys.perm hp).1 hk)) (fun x => by rw [(sortE_perm l).mem_iff, (sortE_perm m).mem_iff, hp.mem_iff])
theorem sortE_of_asc (h : LtWk lt) {l : List α} (ha : AscB lt l) : sortE lt l = l :=
  ascB_ext h.toLtPre _ _ (sortE_asc h (keys_of_asc ha)) ha (fun _ => (sortE_perm l).mem_iff)
end
end Go.Proofs.YtlgphgipfjlbfaaDoor

end
