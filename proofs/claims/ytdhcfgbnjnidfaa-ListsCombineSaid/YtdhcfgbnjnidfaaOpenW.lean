/- Arguments that came in, opened, where an element may lead on into memory (slices of slices, of structs of slices): as XOpen, but what is said of an element speaks of the world. No program in sight. -/
import Derived.Test.YtdhcfgbnjnidfaaOpen
namespace Go.Proofs.Ytdhcfgbnjnidfaa
open Go Go.RowKit Go.ChangeShapes

/-- Every reading at type e is of the cells 'f a' for an 'a' that is 'ok' in that world. -/
def FlatW (P : Program) (e : TypeId) (sz : Nat) {α : Type} (f : α → List Value) (ok : World → α → Prop) : Prop :=
  P.cellsOf e = sz ∧ ∀ (H : Type) (enc : TypeId × Value → H) (w : World) (base : Nat) (spare : Nat → Bool) (held : Bool) (fuel : Nat) (cs : List Value) (x : DataW H × List MemPlace),
    DataW.trod enc P w base spare held fuel e cs = some x → ∃ a, ok w a ∧ cs = f a

theorem Flat.wide {P : Program} {e : TypeId} {sz : Nat} {α : Type} {f : α → List Value} {ok : α → Prop} (h : Flat P e sz f ok) : FlatW P e sz f (fun _ => ok) :=
  ⟨h.1, fun H enc w base spare held fuel cs x hx => h.2 H enc w base spare held fuel cs x hx⟩
theorem FlatW.map {P : Program} {e : TypeId} {sz : Nat} {α β : Type} {f : α → List Value} {ok : World → α → Prop} (h : FlatW P e sz f ok) {g : β → List Value} {ok' : World → β → Prop} (hm : ∀ w a, ok w a → ∃ b, ok' w b ∧ f a = g b) : FlatW P e sz g ok' :=
  ⟨h.1, fun H enc w base spare held fuel cs x hx => by
    obtain ⟨a, ha, rfl⟩ := h.2 H enc w base spare held fuel cs x hx
    exact hm w a ha⟩
theorem flatW_struct2 {P : Program} {e : TypeId} {f0 f1 : Field} {s0 s1 : Nat} {α β : Type} {g0 : α → List Value} {g1 : β → List Value} {k0 : World → α → Prop} {k1 : World → β → Prop}
    (he : P.underlying e = some (.struct #[f0, f1])) (hc : P.cellsOf e = s0 + s1) (o0 : f0.offset = 0) (o1 : f1.offset = s0) (h0 : FlatW P f0.type s0 g0 k0) (h1 : FlatW P f1.type s1 g1 k1) :
    FlatW P e (s0 + s1) (fun a : α × β => g0 a.1 ++ g1 a.2) (fun w a => k0 w a.1 ∧ k1 w a.2) :=
  ⟨hc, fun H enc w base spare held fuel cs x hx => by
    obtain ⟨y0, y1, n, _, hl, t0, t1⟩ := trod_struct2 he hx
    rw [o0, h0.1] at t0
    rw [o1, h1.1] at t1
    obtain ⟨a, ha, ea⟩ := h0.2 H enc w base spare held n _ _ t0
    obtain ⟨b, hb, eb⟩ := h1.2 H enc w base spare held n _ _ t1
    refine ⟨(a, b), ⟨ha, hb⟩, ?_⟩
    show cs = g0 a ++ g1 b
    rw [← ea, ← eb]
    simp only [List.drop_zero]
    rw [List.take_of_length_le (l := cs.drop s0) (by rw [List.length_drop, hl, hc]; omega), List.take_append_drop]⟩

/-- A slice that is read. -/
theorem open_rowW {P : Program} {t e : TypeId} {sz : Nat} (hsz : 0 < sz) {α : Type} [Inhabited α] {f : α → List Value} {ok : World → α → Prop} (hF : FlatW P e sz f ok) (ht : P.underlying t = some (.slice e))
    {H : Type} {enc : TypeId × Value → H} {w : World} {base : Nat} {spare : Nat → Bool} {held : Bool} {fuel : Nat} {cs : List Value} {x : DataW H × List MemPlace} (h : DataW.trod enc P w base spare held fuel t cs = some x) :
    ∃ (v : Value) (l : List α), cs = [v] ∧ (∀ a ∈ l, ok w a) ∧ Rd w sz v l.length (l.flatMap f) ∧ ((x.1 = .nil ∧ l.length = 0) ∨ ∃ elems rest, x.1 = .slice elems rest ∧ elems.length = l.length) := by
  rcases Deep.open_slice ht h with ⟨rfl, rfl⟩ | ⟨a, len, cap, m, n', D, Pl, rfl, _, hl, hm, hmm, rfl, hel⟩
  · exact ⟨_, [], rfl, by simp, Rd.nil w sz, Or.inl ⟨rfl, rfl⟩⟩
  · have hml : len ≤ m := by rw [hmm]; split <;> omega
    have hch : ∀ i, i < len → ∃ b : α, ok w b ∧ (f b).length = sz ∧ ∀ (j : Nat) (u : Value), (f b)[j]? = some u → w.cell? (a.add (i * sz + j)) = some u := by
      intro i hi
      obtain ⟨cs', h1, h2⟩ := hel i (by omega)
      rw [hF.1] at h1
      obtain ⟨b, hb, rfl⟩ := hF.2 H enc w base spare held n' _ _ h2
      obtain ⟨h3, h4⟩ := cells_get h1
      exact ⟨b, hb, h3, fun j u hu => by rw [← Deep.add_add]; exact h4 j u hu⟩
    obtain ⟨g, hg⟩ := Deep.choose_lt hch
    have hlen : ∀ b ∈ (List.range len).map g, (f b).length = sz := by
      intro b hb
      obtain ⟨i, hi, rfl⟩ := List.mem_map.1 hb
      exact (hg i (List.mem_range.1 hi)).2.1
    refine ⟨.slice (some a) len cap, (List.range len).map g, rfl, ?_, ⟨some a, cap, by simp, ?_, by simpa using hl, hm, (fun e => by cases e), ?_⟩, Or.inr ⟨_, _, rfl, by simp⟩⟩
    · intro b hb
      obtain ⟨i, hi, rfl⟩ := List.mem_map.1 hb
      exact (hg i (List.mem_range.1 hi)).1
    · rw [flatMap_len f _ hlen]
    · intro ad e j u hu
      cases e
      have hj : j = j / sz * sz + j % sz := by rw [Nat.mul_comm]; exact (Nat.div_add_mod j sz).symm
      rw [hj] at hu
      obtain ⟨b, hb, hu'⟩ := flatMap_get f _ hlen (j / sz) (j % sz) (Nat.mod_lt _ hsz) u hu
      have hlt : j / sz < len := by
        rcases Nat.lt_or_ge (j / sz) len with h | h
        · exact h
        · rw [List.getElem?_eq_none (by simpa using h)] at hb; cases hb
      rw [List.getElem?_map, List.getElem?_range hlt] at hb
      simp at hb
      subst hb
      rw [hj]
      exact (hg (j / sz) hlt).2.2 _ u hu'
/-- A slice as an element: its value, and what it holds. -/
theorem flatW_slice {P : Program} {t e : TypeId} {sz : Nat} (hsz : 0 < sz) {α : Type} [Inhabited α] {f : α → List Value} {ok : World → α → Prop} (hF : FlatW P e sz f ok) (ht : P.underlying t = some (.slice e)) (hc : P.cellsOf t = 1) :
    FlatW P t 1 (fun a : Value × List α => [a.1]) (fun w a => (∀ x ∈ a.2, ok w x) ∧ Rd w sz a.1 a.2.length (a.2.flatMap f)) :=
  ⟨hc, fun H enc w base spare held fuel cs x hx => by
    obtain ⟨v, l, rfl, h1, h2, _⟩ := open_rowW hsz hF ht hx
    exact ⟨(v, l), ⟨h1, h2⟩, rfl⟩⟩
/-- A slice that came in. -/
theorem open_flatW {P : Program} {t e : TypeId} {sz : Nat} (hsz : 0 < sz) {α : Type} [Inhabited α] {f : α → List Value} {ok : World → α → Prop} (hF : FlatW P e sz f ok) (ht : P.underlying t = some (.slice e))
    {H : Type} {enc : TypeId × Value → H} {w : World} {base : Nat} {spare : Nat → Bool} {held : Bool} {v : Value} {d : DataW H} {ps : List MemPlace} {n c : Nat} {p : Option Addr} (hv : v = .slice p n c)
    (h : DataW.Trod enc P w base spare held t v d ps) :
    ∃ l : List α, (∀ a ∈ l, ok w a) ∧ l.length = n ∧ Rd w sz v l.length (l.flatMap f) ∧ ((d = .nil ∧ l.length = 0) ∨ ∃ elems rest, d = .slice elems rest ∧ elems.length = l.length) := by
  subst hv
  obtain ⟨fuel, h⟩ := h
  obtain ⟨v, l, hcs, h1, h2, h3⟩ := open_rowW hsz hF ht h
  simp [Value.cells] at hcs
  subst hcs
  have h2' := h2
  obtain ⟨_, _, e, _⟩ := h2'
  simp only [Value.slice.injEq] at e
  exact ⟨l, h1, e.2.1.symm, h2, h3⟩
end Go.Proofs.Ytdhcfgbnjnidfaa
