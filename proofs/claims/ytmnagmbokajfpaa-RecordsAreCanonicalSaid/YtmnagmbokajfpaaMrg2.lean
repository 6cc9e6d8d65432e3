/- Own1, Large10, First, LabP, LabSz, LabRw, Own2, LabOw, Take, From, TakeH, in one text. -/
import Derived.Test.YtmnagmbokajfpaaMrg1
import Derived.RegionTactic
import Derived.Laws.Slices
import Derived.ChangeKeysEq
import Derived.OrdersHeld

section
/- A list in a row of the call's own, one cell an element. No program in sight. -/
set_option linter.unusedVariables false
namespace Go.Proofs.Ytmnagmbokajfpaa
open Go Go.RowKit

structure Own1 (t : TypeId) {α : Type} (f : α → Value) (w wr : World) (d : List α) (v : Value) : Prop where
  row : wr.ownsRow w.heap.size t 1 v d.length (d.map f)
  bel : Below w.heap.size w wr
variable {t : TypeId} {α : Type} {f : α → Value}
theorem Own1.nil (w : World) : Own1 t f w w [] (.slice none 0 0) := ⟨World.ownsRow_nil _ _ _ _, Below.refl _ _⟩
theorem Own1.drewN {w wr : World} {d : List α} {v : Value} (h : Own1 t f w wr d v) (n : Nat) : Own1 t f w (wr.drewN n) d v :=
  ⟨(Mods.drewN (fun _ => False) wr n).owns h.row (fun _ _ e => e), h.bel.trans ((Mods.drewN (fun _ => False) wr n).below h.bel.size (fun _ _ e => e))⟩
theorem Own1.below {w wr w1 : World} {d : List α} {v : Value} (h : Own1 t f w wr d v) (hb : Below wr.heap.size wr w1) : Own1 t f w w1 d v :=
  ⟨(Mods.of_below hb (fun _ => False)).owns h.row (fun _ _ e => e), h.bel.trans (hb.mono h.bel.size)⟩
theorem Own1.pushed {w wr w1 : World} {d : List α} {v v1 : Value} {x : α} (h : Own1 t f w wr d v) (k : w1.ownsRow 0 t 1 v1 (d.length + 1) (d.map f ++ [f x])) (m : Mods (fun k => v.ownBlock = some k) wr w1) (hf : Fresh wr.heap.size v v1) : Own1 t f w w1 (d ++ [x]) v1 := by
  refine ⟨?_, h.bel.trans (m.below h.bel.size (fun k hk e => by have := (h.row.lt k e).1; omega))⟩
  rw [List.length_append, List.map_append]
  refine owns_rebase k (fun k hk => ?_)
  rcases hf k hk with e | e
  · exact (h.row.lt k e).1
  · have := h.bel.size; omega
theorem Own1.extended {w wr w1 : World} {d e : List α} {v v1 : Value} (h : Own1 t f w wr d v) (k : w1.ownsRow 0 t 1 v1 (d.length + e.length) (d.map f ++ e.map f)) (m : Mods (fun k => v.ownBlock = some k) wr w1) (hf : Fresh wr.heap.size v v1) : Own1 t f w w1 (d ++ e) v1 := by
  refine ⟨?_, h.bel.trans (m.below h.bel.size (fun k hk e => by have := (h.row.lt k e).1; omega))⟩
  rw [List.length_append, List.map_append]
  refine owns_rebase k (fun k hk => ?_)
  rcases hf k hk with e | e
  · exact (h.row.lt k e).1
  · have := h.bel.size; omega
theorem Own1.shape {w wr : World} {d : List α} {v : Value} (h : Own1 t f w wr d v) : ∃ p c, v = .slice p d.length c := (Rd.of_owns h.row).shape
theorem Own1.rd {w wr : World} {d : List α} {v : Value} (h : Own1 t f w wr d v) : Rd wr 1 v d.length (d.map f) := Rd.of_owns h.row
theorem Own1.base0 {w wr : World} {d : List α} {v : Value} (h : Own1 t f w wr d v) : wr.ownsRow 0 t 1 v d.length (d.map f) := owns_rebase h.row (fun _ _ => Nat.zero_le _)
theorem Own1.stored {w wr : World} {d e : List α} {g n c i : Nat} {y : α} (h : Own1 t f w wr d (.slice (some ⟨g, 0, none⟩) n c)) (he : d.set i y = e) : Own1 t f w (wr.setCell ⟨g, i, none⟩ (f y)) e (.slice (some ⟨g, 0, none⟩) n c) := by
  subst he
  have hn : n = d.length := by
    obtain ⟨p, c', h'⟩ := (Rd.of_owns h.row).shape
    simp only [Value.slice.injEq] at h'
    exact h'.2.1
  subst hn
  have hm : Mods (fun k => k = g) wr (wr.setCell ⟨g, i, none⟩ (f y)) := Mods.set _ _ _ _ (fun _ => rfl)
  have hg := (h.row.lt g rfl).1
  refine ⟨?_, h.bel.trans (hm.below h.bel.size (fun k hk e => by omega))⟩
  rw [List.length_set, List.map_set]
  exact (h.row.stored i _).1
theorem Own1.cell {w wr : World} {d : List α} {g n c i : Nat} (h : Own1 t f w wr d (.slice (some ⟨g, 0, none⟩) n c)) (hi : i < d.length) : wr.cell? ⟨g, i, none⟩ = some (f d[i]) ∧ wr.frozen? ⟨g, i, none⟩ = false := by
  have hn : n = d.length := by
    obtain ⟨p, c', h'⟩ := (Rd.of_owns h.row).shape
    simp only [Value.slice.injEq] at h'
    exact h'.2.1
  subst hn
  refine ⟨?_, h.row.frozenAt _⟩
  rw [h.row.cellAt i (by omega)]
  simp [hi]
/-- Cell i of a list that is read. -/
theorem rd1_cell {w : World} {b off c n : Nat} {d : List α} (h : Rd w 1 (.slice (some ⟨b, off, none⟩) n c) n (d.map f)) {i : Nat} (hi : i < d.length) : w.cell? ⟨b, off + i, none⟩ = some (f d[i]) := by
  obtain ⟨b2, o2, c2, e, _, _, hc⟩ := h.at (fun e => by have := congrArg List.length e; simp at this; subst this; simp at hi)
  simp only [Value.slice.injEq, Option.some.injEq, Addr.mk.injEq] at e
  obtain ⟨⟨rfl, rfl, _⟩, _, rfl⟩ := e
  exact hc i _ (by simp [hi])

theorem shift_setG (d : List α) (k : Nat) (y z : α) (hk : k ≤ d.length) : (d.take k ++ y :: d.drop k).set k z = d.take k ++ z :: d.drop k := by
  have hl : (d.take k).length = k := by rw [List.length_take]; omega
  rw [List.set_append_right _ _ (by omega), hl, Nat.sub_self, List.set_cons_zero]
theorem shift_eqG (d : List α) (k : Nat) (hk : k < d.length) (z : α) (hz : d[k] = z) : d.take (k + 1) ++ z :: d.drop (k + 1) = d.take k ++ z :: d.drop k := by
  have e : d.drop k = z :: d.drop (k + 1) := by rw [← hz, List.getElem_cons_drop]
  rw [List.take_add_one, List.getElem?_eq_getElem hk, hz, e, List.append_assoc]
  rfl
end Go.Proofs.Ytmnagmbokajfpaa

end

section
/- Layer 10: the statements' own bounds. -/
set_option linter.unusedVariables false
namespace Go.Proofs.Ytmnagmbokajfpaa
open Go Go.RowKit

set_option maxHeartbeats 2000000 in
theorem large10 (lv : Value) (l : List ByteArray) (w : World) (hl : Rd w 1 lv l.length (strs l)) (hs : ∀ s ∈ l, s.size ≤ 9223372036854775807) :
    Calls Try.prog 8 #[lv] w fun e w' => (e = .returned (.int .i64 1) ∨ (e = .returned (.int .i64 0) ∧ l.length ≤ 500 ∧ ∀ s ∈ l, s.size ≤ 200000)) ∧ Below w.heap.size w w' := by
  have HL := Lib.hid hl; have HS := Lib.hid hs
  obtain ⟨pl, cl, hv⟩ := hl.shape
  subst hv
  have hmax : (l.length : Int) ≤ 9223372036854775807 := by have := hl.le; unfold maxLen at this; omega
  clear hl hs
  go_enter Try.func8, Try.ntmps8
  go_wp2_with fail
  go_loopw [3, 8] (fun nv iv wr => ∃ (j N : Nat), j ≤ l.length ∧ N ≤ 200000 ∧ nv = .int .i64 (N : Int) ∧ iv = .int .i64 (j : Int) ∧ Hid ((j = 0 ∨ l.length ≤ 500) ∧ ∀ s ∈ l.take j, s.size ≤ 200000) ∧ Hid (Below w.heap.size w wr)) (fun _ iv _ => l.length - (intOf iv).toNat)
  case atStart => exact ⟨0, 0, Nat.zero_le _, Nat.zero_le _, rfl, rfl, ⟨Or.inl rfl, by intro s hs; simp at hs⟩, Below.refl _ _⟩
  case round =>
    obtain ⟨j, N, hj, hN, rfl, rfl, HF, HB⟩ := hrel
    have hNi : (N : Int) ≤ 200000 := by omega
    by_cases hlt : j < l.length
    · have hlt' : (j : Int) < (l.length : Int) := by omega
      obtain ⟨b, off, c', e, _, _, _⟩ := HL.out.at (fun e => by have := congrArg List.length e; rw [strs_length] at this; simp at this; subst this; simp at hlt)
      simp only [Value.slice.injEq] at e
      obtain ⟨rfl, _, rfl⟩ := e
      obtain ⟨x, hx⟩ : ∃ x, l[j]? = some x := ⟨_, List.getElem?_eq_getElem hlt⟩
      have hcx : wr.cell? ⟨b, off + j, none⟩ = some (.string x) := by rw [← (List.getElem?_eq_some_iff.1 hx).2]; exact rd1_cell (HL.out.below HB.out) hlt
      have HX := Lib.hid hx
      have hxm : (x.size : Int) ≤ 9223372036854775807 := by have := HS.out x (List.mem_of_getElem? hx); omega
      clear hx
      by_cases hz : (x.size : Int) ≤ 200000
      · by_cases hS : N + (1 + x.size) ≤ 200000
        · have hS' : ¬ (200000 : Int) < (N : Int) + (1 + (x.size : Int)) := by omega
          have hSm : (N : Int) + (1 + (x.size : Int)) ≤ 200000 := by omega
          by_cases h5 : l.length ≤ 500
          · have h5' : ¬ (500 : Int) < (l.length : Int) := by omega
            have HF2 : Hid ((j + 1 = 0 ∨ l.length ≤ 500) ∧ ∀ s ∈ l.take (j + 1), s.size ≤ 200000) := by
              refine ⟨Or.inr h5, fun s hs => ?_⟩
              rw [List.take_add_one, HX.out] at hs
              rcases List.mem_append.1 hs with e | e
              · exact HF.out.2 s e
              · simp at e; subst e; omega
            have hcs : ((N + (1 + x.size) : Nat) : Int) = (N : Int) + (1 + (x.size : Int)) := by omega
            have HCs := Lib.hid hcs
            have HH : Hid (N + (1 + x.size) ≤ 200000) := hS
            clear h5 hS hcs
            go_wp2_with fail
            go_round
            case rel => exact ⟨j + 1, N + (1 + x.size), by omega, HH.out, by rw [HCs.out], by go_num, HF2.out, HB.out⟩
            case measure => simp [intOf]; omega
          · have h5' : (500 : Int) < (l.length : Int) := by omega
            clear h5 hS
            go_wp2_with fail
            go_ret
            exact ⟨Or.inl rfl, HB.out⟩
        · have hS' : (200000 : Int) < (N : Int) + (1 + (x.size : Int)) := by omega
          clear hS
          go_wp2_with fail
          go_ret
          exact ⟨Or.inl rfl, HB.out⟩
      · have hz' : (200000 : Int) ≤ (x.size : Int) := by omega
        have hS' : (200000 : Int) < (N : Int) + 200001 := by omega
        go_wp2_with fail
        go_ret
        exact ⟨Or.inl rfl, HB.out⟩
    · have hlt' : ¬ (j : Int) < (l.length : Int) := by omega
      have HD : Hid (l.length ≤ 500 ∧ ∀ s ∈ l, s.size ≤ 200000) := by
        have h := HF.out
        rw [List.take_of_length_le (by omega)] at h
        refine ⟨?_, h.2⟩
        rcases h.1 with e | e <;> omega
      go_wp2_with fail
      go_ret
      exact ⟨Or.inr ⟨rfl, HD.out⟩, HB.out⟩
end Go.Proofs.Ytmnagmbokajfpaa

end

section
/- The place of the first element with a property. No program in sight. -/
namespace Go.Proofs.Ytmnagmbokajfpaa
variable {α : Type}
/-- The index of the first element with p, or -1. -/
def firstI (p : α → Bool) (l : List α) : Int := match l.findIdx? p with
  | some i => (i : Int)
  | none => -1
theorem firstI_at {p : α → Bool} {l : List α} {j : Nat} (h : ∀ x ∈ l.take j, p x = false) {x : α} (hj : l[j]? = some x) (hp : p x = true) : firstI p l = (j : Int) := by
  have hlt : j < l.length := (List.getElem?_eq_some_iff.1 hj).1
  have e : l.findIdx? p = some j := by
    rw [List.findIdx?_eq_some_iff_getElem]
    refine ⟨hlt, by rw [(List.getElem?_eq_some_iff.1 hj).2]; exact hp, fun i hi => ?_⟩
    have hm : l[i] ∈ l.take j := by
      rw [List.mem_take_iff_getElem]
      exact ⟨i, by omega, rfl⟩
    rw [h _ hm]; simp
  rw [firstI, e]
theorem firstI_none {p : α → Bool} {l : List α} (h : ∀ x ∈ l, p x = false) : firstI p l = -1 := by
  have e : l.findIdx? p = none := by rw [List.findIdx?_eq_none_iff]; exact h
  rw [firstI, e]
theorem firstI_cases (p : α → Bool) (l : List α) : (firstI p l = -1 ∧ ∀ x ∈ l, p x = false) ∨ ∃ (j : Nat) (x : α), firstI p l = (j : Int) ∧ l[j]? = some x ∧ p x = true ∧ ∀ y ∈ l.take j, p y = false := by
  cases e : l.findIdx? p with
  | none => exact Or.inl ⟨by rw [firstI, e], List.findIdx?_eq_none_iff.1 e⟩
  | some j =>
    obtain ⟨hj, hp, hn⟩ := List.findIdx?_eq_some_iff_getElem.1 e
    refine Or.inr ⟨j, l[j], by rw [firstI, e], List.getElem?_eq_getElem hj, hp, fun y hy => ?_⟩
    obtain ⟨i, hi, rfl⟩ := List.mem_take_iff_getElem.1 hy
    have := hn i (by omega)
    simpa using this
theorem not_take_succ {p : α → Bool} {l : List α} {j : Nat} (h : ∀ x ∈ l.take j, p x = false) {x : α} (hj : l[j]? = some x) (hp : p x = false) : ∀ y ∈ l.take (j + 1), p y = false := by
  intro y hy
  rw [List.take_add_one, hj] at hy
  rcases List.mem_append.1 hy with e | e
  · exact h y e
  · simp at e; subst e; exact hp
end Go.Proofs.Ytmnagmbokajfpaa

end

section
/- Layer 11: labels, their order, normal label sets, as functions on lists. No program in sight. -/
set_option linter.unusedVariables false
namespace Go.Proofs.Ytmnagmbokajfpaa
open Go Go.RowKit

/-! ### Comparing, in general -/
structure CmpOk {α : Type} (cmp : α → α → Int) : Prop where
  dom : ∀ a b, cmp a b = -1 ∨ cmp a b = 0 ∨ cmp a b = 1
  eq : ∀ a b, cmp a b = 0 ↔ a = b
  flip : ∀ a b, cmp b a = - cmp a b
  tr : ∀ a b c, cmp a b = -1 → cmp b c = -1 → cmp a c = -1
theorem CmpOk.refl {α : Type} {cmp : α → α → Int} (h : CmpOk cmp) (a : α) : cmp a a = 0 := (h.eq a a).2 rfl
theorem CmpOk.lt {α : Type} {cmp : α → α → Int} (h : CmpOk cmp) : LtOk (fun a b => decide (cmp a b = -1)) :=
  ⟨⟨fun a => by rw [h.refl]; rfl, fun a b c h1 h2 => by
    simp only [decide_eq_true_eq] at h1 h2 ⊢
    exact h.tr a b c h1 h2⟩, fun a b h1 h2 => by
    simp only [decide_eq_false_iff_not] at h1 h2
    rw [h.flip a b] at h2
    rcases h.dom a b with e | e | e
    · exact absurd e h1
    · exact (h.eq a b).1 e
    · rw [e] at h2; exact absurd rfl h2⟩
/-- From an order. -/
def ordB {α : Type} (lt : α → α → Bool) (a b : α) : Int := if lt a b then -1 else if lt b a then 1 else 0
theorem ordB_ok {α : Type} {lt : α → α → Bool} (h : LtOk lt) : CmpOk (ordB lt) := by
  refine ⟨fun a b => ?_, fun a b => ?_, fun a b => ?_, fun a b c h1 h2 => ?_⟩
  · unfold ordB; split
    · exact Or.inl rfl
    · split
      · exact Or.inr (Or.inr rfl)
      · exact Or.inr (Or.inl rfl)
  · unfold ordB
    constructor
    · intro e
      split at e
      · cases e
      · next h1 =>
        split at e
        · cases e
        · next h2 => exact h.tot a b (by simpa using h1) (by simpa using h2)
    · rintro rfl; simp [h.irr]
  · unfold ordB
    rcases Bool.eq_false_or_eq_true (lt a b) with e | e
    · simp [e, h.asy e]
    · rcases Bool.eq_false_or_eq_true (lt b a) with f | f <;> simp [e, f]
  · have lt1 : ∀ x y, ordB lt x y = -1 → lt x y = true := fun x y e => by
      unfold ordB at e
      split at e
      · assumption
      · split at e <;> cases e
    have := h.tr a b c (lt1 a b h1) (lt1 b c h2)
    unfold ordB; rw [if_pos this]
/-- Pairs, first by the first. -/
def cmpP {α β : Type} (c1 : α → α → Int) (c2 : β → β → Int) (a b : α × β) : Int := if c1 a.1 b.1 = 0 then c2 a.2 b.2 else c1 a.1 b.1
theorem cmpP_ok {α β : Type} {c1 : α → α → Int} {c2 : β → β → Int} (h1 : CmpOk c1) (h2 : CmpOk c2) : CmpOk (cmpP c1 c2) := by
  refine ⟨fun a b => ?_, fun a b => ?_, fun a b => ?_, fun a b c e f => ?_⟩
  · unfold cmpP; split
    · exact h2.dom _ _
    · exact h1.dom _ _
  · obtain ⟨a1, a2⟩ := a; obtain ⟨b1, b2⟩ := b
    unfold cmpP
    split
    · next e => rw [h2.eq]; simp only at e; rw [(h1.eq _ _).1 e]; simp
    · next e =>
      constructor
      · intro h; exact absurd h e
      · rintro h; cases h; exact absurd (h1.refl _) e
  · unfold cmpP
    rw [h1.flip a.1 b.1, h2.flip a.2 b.2]
    by_cases e : c1 a.1 b.1 = 0
    · rw [if_pos e, if_pos (by omega)]
    · rw [if_neg e, if_neg (by omega)]
  · unfold cmpP at e f ⊢
    by_cases e1 : c1 a.1 b.1 = 0
    · rw [if_pos e1] at e
      rw [(h1.eq _ _).1 e1]
      by_cases f1 : c1 b.1 c.1 = 0
      · rw [if_pos f1] at f ⊢; exact h2.tr _ _ _ e f
      · rw [if_neg f1] at f ⊢; exact f
    · rw [if_neg e1] at e
      by_cases f1 : c1 b.1 c.1 = 0
      · rw [if_pos f1] at f
        rw [← (h1.eq _ _).1 f1, if_neg e1]; exact e
      · rw [if_neg f1] at f
        have := h1.tr _ _ _ e f
        rw [this, if_neg (by decide)]
/-- Lists, element by element; a proper prefix is less. -/
def cmpL {α : Type} (c : α → α → Int) : List α → List α → Int
  | [], [] => 0
  | [], _ :: _ => -1
  | _ :: _, [] => 1
  | a :: l, b :: k => if c a b = 0 then cmpL c l k else c a b
theorem cmpL_ok {α : Type} {c : α → α → Int} (h : CmpOk c) : CmpOk (cmpL c) := by
  refine ⟨fun a => ?_, fun a => ?_, fun a => ?_, fun a => ?_⟩
  · induction a with
    | nil => intro b; cases b <;> simp [cmpL]
    | cons x a ih =>
      intro b
      cases b with
      | nil => simp [cmpL]
      | cons y b => rw [cmpL]; split
                    · exact ih b
                    · exact h.dom _ _
  · induction a with
    | nil => intro b; cases b <;> simp [cmpL]
    | cons x a ih =>
      intro b
      cases b with
      | nil => simp [cmpL]
      | cons y b =>
        rw [cmpL]
        split
        · next e => rw [ih b, (h.eq _ _).1 e]; simp
        · next e =>
          constructor
          · intro g; exact absurd g e
          · rintro g; cases g; exact absurd (h.refl _) e
  · induction a with
    | nil => intro b; cases b <;> simp [cmpL]
    | cons x a ih =>
      intro b
      cases b with
      | nil => simp [cmpL]
      | cons y b =>
        rw [cmpL, cmpL, h.flip x y, ih b]
        by_cases e : c x y = 0
        · rw [if_pos e, if_pos (by omega)]
        · rw [if_neg e, if_neg (by omega)]
  · induction a with
    | nil =>
      intro b k e f
      cases k with
      | nil => cases b with
        | nil => simp [cmpL] at e
        | cons y b => simp [cmpL] at f
      | cons z k => rfl
    | cons x a ih =>
      intro b k e f
      cases b with
      | nil => simp [cmpL] at e
      | cons y b =>
        cases k with
        | nil => simp [cmpL] at f
        | cons z k =>
          rw [cmpL] at e f ⊢
          by_cases e1 : c x y = 0
          · rw [if_pos e1] at e
            rw [(h.eq _ _).1 e1]
            by_cases f1 : c y z = 0
            · rw [if_pos f1] at f ⊢; exact ih b k e f
            · rw [if_neg f1] at f ⊢; exact f
          · rw [if_neg e1] at e
            by_cases f1 : c y z = 0
            · rw [← (h.eq _ _).1 f1, if_neg e1]; exact e
            · rw [if_neg f1] at f
              have := h.tr _ _ _ e f
              rw [this, if_neg (by decide)]

/-! ### Labels -/
abbrev Lab := ByteArray × ByteArray
def ordS : ByteArray → ByteArray → Int := ordB ltS
theorem ordS_ok : CmpOk ordS := ordB_ok ltS_ok
def cmpLab : Lab → Lab → Int := cmpP ordS ordS
theorem cmpLab_ok : CmpOk cmpLab := cmpP_ok ordS_ok ordS_ok
def cmpLabs : List Lab → List Lab → Int := cmpL cmpLab
theorem cmpLabs_ok : CmpOk cmpLabs := cmpL_ok cmpLab_ok

/-- ErrName or ErrLimit of a label. -/
def oneL (x : Lab) : Nat := if x.1.size = 0 then 17 else if 65535 < x.1.size ∨ 65535 < x.2.size then 7 else 0
/-- What Check gives, the name before being p. -/
def checkFrom (p : Option ByteArray) : List Lab → Nat
  | [] => 0
  | x :: l =>
    if oneL x ≠ 0 then oneL x else
    match p with
    | none => checkFrom (some x.1) l
    | some n => if x.1 = n then 18 else if ltS x.1 n then 16 else checkFrom (some x.1) l
def checkL (l : List Lab) : Nat := checkFrom none l

/-- The order of labels, by names. -/
def ltN (a b : Lab) : Bool := ltS a.1 b.1
/-- The first error of a label. -/
def firstErr : List Lab → Nat
  | [] => 0
  | x :: l => if oneL x ≠ 0 then oneL x else firstErr l
/-- Labels are put in order, one by one; none if two have one name. -/
def putL : List Lab → List Lab → Option (List Lab)
  | out, [] => some out
  | out, x :: l => if ∃ y ∈ out, y.1 = x.1 then none else putL (insB ltN x out) l
/-- What Normalize gives. -/
def normL (l : List Lab) : Nat × List Lab := if firstErr l ≠ 0 then (firstErr l, []) else match putL [] l with
  | none => (18, [])
  | some out => (0, out)
def getL (l : List Lab) (n : ByteArray) : Option ByteArray := (l.find? fun x => decide (x.1 = n)).map Prod.snd
def stringsL (l : List Lab) : List ByteArray := l.flatMap fun x => [x.1, x.2]

theorem ltN_ok : LtPre ltN := ⟨fun a => ltS_ok.irr _, fun a b c => ltS_ok.tr _ _ _⟩
theorem ltN_ne {a b : Lab} (h : a.1 ≠ b.1) : ltN a b = false → ltN b a = true := fun h1 => by
  rcases Bool.eq_false_or_eq_true (ltN b a) with e | e
  · exact e
  · exact absurd (ltS_ok.tot _ _ h1 e) h
theorem insN_mem (x z : Lab) (d : List Lab) (hd : ∀ y ∈ d, y.1 ≠ x.1) : z ∈ insB ltN x d ↔ z = x ∨ z ∈ d := by
  induction d with
  | nil => simp [insB]
  | cons y l ih =>
    have hy := hd y (by simp)
    rw [insB]
    split
    · rw [List.mem_cons, ih (fun y hy => hd y (by simp [hy])), List.mem_cons]
      constructor
      · rintro (h | h | h)
        · exact Or.inr (Or.inl h)
        · exact Or.inl h
        · exact Or.inr (Or.inr h)
      · rintro (h | h | h)
        · exact Or.inr (Or.inl h)
        · exact Or.inl h
        · exact Or.inr (Or.inr h)
    · next h1 =>
      rw [if_pos (ltN_ne hy (by simpa using h1))]
      simp
theorem insN_asc (x : Lab) (d : List Lab) (hd : ∀ y ∈ d, y.1 ≠ x.1) (ha : AscB ltN d) : AscB ltN (insB ltN x d) := by
  induction d with
  | nil => exact List.pairwise_singleton _ _
  | cons y l ih =>
    obtain ⟨h1, h2⟩ := List.pairwise_cons.1 ha
    have hd' : ∀ y ∈ l, y.1 ≠ x.1 := fun y hy => hd y (by simp [hy])
    rw [insB]
    split
    · next hyx =>
      exact List.pairwise_cons.2 ⟨fun z hz => by
        rcases (insN_mem x z l hd').1 hz with e | e
        · subst e; exact hyx
        · exact h1 z e, ih hd' h2⟩
    · next hyx =>
      have hxy := ltN_ne (hd y (by simp)) (by simpa using hyx)
      rw [if_pos hxy]
      exact List.pairwise_cons.2 ⟨fun z hz => by
        rcases List.mem_cons.1 hz with e | e
        · subst e; exact hxy
        · exact ltN_ok.tr _ _ _ hxy (h1 z e), ha⟩

theorem firstErr_zero (l : List Lab) : firstErr l = 0 ↔ ∀ x ∈ l, oneL x = 0 := by
  induction l with
  | nil => simp [firstErr]
  | cons x l ih =>
    rw [firstErr]
    split
    · next h => constructor
                · intro e; exact absurd e h
                · intro e; exact absurd (e x (by simp)) h
    · next h => rw [ih]; simp only [List.mem_cons, forall_eq_or_imp]
                constructor
                · intro e; exact ⟨Decidable.not_not.1 h, e⟩
                · intro e; exact e.2
/-- The names of labels. -/
def namesL (l : List Lab) : List ByteArray := l.map Prod.fst
theorem putL_some (l : List Lab) : ∀ (out r : List Lab), putL out l = some r → AscB ltN out → AscB ltN r ∧ (∀ z, z ∈ r ↔ z ∈ out ∨ z ∈ l) ∧ (namesL l).Nodup ∧ (∀ y ∈ out, ∀ x ∈ l, y.1 ≠ x.1) := by
  induction l with
  | nil => intro out r h ha; simp [putL] at h; subst h; exact ⟨ha, fun z => by simp, List.nodup_nil, fun _ _ _ h => by cases h⟩
  | cons x l ih =>
    intro out r h ha
    rw [putL] at h
    split at h
    · cases h
    · next hn =>
      have hn' : ∀ y ∈ out, y.1 ≠ x.1 := fun y hy e => hn ⟨y, hy, e⟩
      obtain ⟨h1, h2, h3, h4⟩ := ih _ r h (insN_asc x out hn' ha)
      refine ⟨h1, fun z => ?_, ?_, fun y hy z hz => ?_⟩
      · rw [h2, insN_mem x z out hn', List.mem_cons]
        constructor
        · rintro ((h | h) | h)
          · exact Or.inr (Or.inl h)
          · exact Or.inl h
          · exact Or.inr (Or.inr h)
        · rintro (h | h | h)
          · exact Or.inl (Or.inr h)
          · exact Or.inl (Or.inl h)
          · exact Or.inr h
      · rw [namesL, List.map_cons, List.nodup_cons]
        refine ⟨fun hm => ?_, h3⟩
        obtain ⟨z, hz, he⟩ := List.mem_map.1 hm
        exact h4 x ((insN_mem x x out hn').2 (Or.inl rfl)) z hz he.symm
      · rcases List.mem_cons.1 hz with e | e
        · subst e; exact hn' y hy
        · exact h4 y ((insN_mem x y out hn').2 (Or.inr hy)) z e
theorem putL_of (l : List Lab) : ∀ (out : List Lab), (namesL l).Nodup → (∀ y ∈ out, ∀ x ∈ l, y.1 ≠ x.1) → ∃ r, putL out l = some r := by
  induction l with
  | nil => intro out _ _; exact ⟨out, rfl⟩
  | cons x l ih =>
    intro out hnd hd
    rw [namesL, List.map_cons, List.nodup_cons] at hnd
    have hn' : ∀ y ∈ out, y.1 ≠ x.1 := fun y hy => hd y hy x (by simp)
    rw [putL, if_neg (fun ⟨y, hy, e⟩ => hn' y hy e)]
    refine ih _ hnd.2 (fun y hy z hz => ?_)
    rcases (insN_mem x y out hn').1 hy with e | e
    · subst e; intro he; exact hnd.1 (List.mem_map.2 ⟨z, hz, he.symm⟩)
    · exact hd y e z (by simp [hz])
theorem normL_ok {l : List Lab} : (normL l).1 = 0 ↔ (∀ x ∈ l, oneL x = 0) ∧ (namesL l).Nodup := by
  unfold normL
  constructor
  · intro h
    split at h
    · next h1 => exact absurd h h1
    · next h1 =>
      split at h
      · cases h
      · next r hr => exact ⟨(firstErr_zero l).1 (Decidable.not_not.1 h1), (putL_some l [] r hr List.Pairwise.nil).2.2.1⟩
  · rintro ⟨h1, h2⟩
    rw [if_neg (not_not_intro ((firstErr_zero l).2 h1))]
    obtain ⟨r, hr⟩ := putL_of l [] h2 (fun _ h => by cases h)
    rw [hr]
theorem normL_res {l : List Lab} (h : (normL l).1 = 0) : AscB ltN (normL l).2 ∧ ∀ z, z ∈ (normL l).2 ↔ z ∈ l := by
  have h0 := normL_ok.1 h
  unfold normL
  rw [if_neg (not_not_intro ((firstErr_zero l).2 h0.1))]
  obtain ⟨r, hr⟩ := putL_of l [] h0.2 (fun _ h => by cases h)
  rw [hr]
  obtain ⟨a, b, _⟩ := putL_some l [] r hr List.Pairwise.nil
  exact ⟨a, fun z => by rw [b]; simp⟩
theorem normL_err {l : List Lab} (h : (normL l).1 ≠ 0) : (normL l).2 = [] := by
  unfold normL at h ⊢
  split
  · rfl
  · next h1 =>
    rw [if_neg h1] at h
    split
    · rfl
    · next r hr => rw [hr] at h; exact absurd rfl h
theorem norm_perm {l m : List Lab} (hp : l.Perm m) : ((normL l).1 = 0 ↔ (normL m).1 = 0) ∧ (normL l).2 = (normL m).2 := by
  have hiff : (normL l).1 = 0 ↔ (normL m).1 = 0 := by
    rw [normL_ok, normL_ok]
    have h1 : (namesL l).Nodup ↔ (namesL m).Nodup := (hp.map Prod.fst).nodup_iff
    have h2 : (∀ x ∈ l, oneL x = 0) ↔ (∀ x ∈ m, oneL x = 0) := ⟨fun h x hx => h x (hp.mem_iff.2 hx), fun h x hx => h x (hp.mem_iff.1 hx)⟩
    rw [h1, h2]
  refine ⟨hiff, ?_⟩
  by_cases h : (normL l).1 = 0
  · obtain ⟨a1, a2⟩ := normL_res h
    obtain ⟨b1, b2⟩ := normL_res (hiff.1 h)
    exact ascB_ext ltN_ok _ _ a1 b1 (fun z => by rw [a2, b2]; exact hp.mem_iff)
  · rw [normL_err h, normL_err (fun e => h (hiff.2 e))]
theorem ascN_nodup {l : List Lab} (h : AscB ltN l) : (namesL l).Nodup := by
  rw [namesL, List.Nodup, List.pairwise_map]
  exact List.Pairwise.imp (fun hab e => by unfold ltN at hab; rw [e, ltS_ok.irr] at hab; cases hab) h
theorem norm_of_asc {l : List Lab} (h : AscB ltN l) (ho : ∀ x ∈ l, oneL x = 0) : normL l = (0, l) := by
  have h0 : (normL l).1 = 0 := normL_ok.2 ⟨ho, ascN_nodup h⟩
  obtain ⟨a1, a2⟩ := normL_res h0
  have : (normL l).2 = l := ascB_ext ltN_ok _ _ a1 h a2
  exact Prod.ext h0 this
theorem norm_idem {l : List Lab} (h : (normL l).1 = 0) : normL (normL l).2 = (0, (normL l).2) := by
  obtain ⟨a1, a2⟩ := normL_res h
  exact norm_of_asc a1 (fun x hx => (normL_ok.1 h).1 x ((a2 x).1 hx))
theorem check_asc (l : List Lab) : ∀ (p : Option ByteArray), AscB ltN l → (∀ x ∈ l, oneL x = 0) → (∀ n, p = some n → ∀ x, l.head? = some x → ltS n x.1 = true) → checkFrom p l = 0 := by
  induction l with
  | nil => intro p _ _ _; rfl
  | cons x l ih =>
    intro p ha ho hp
    obtain ⟨h1, h2⟩ := List.pairwise_cons.1 ha
    have hrec : checkFrom (some x.1) l = 0 := ih (some x.1) h2 (fun y hy => ho y (by simp [hy])) (fun n hn y hy => by
      cases hn
      exact h1 y (List.mem_of_mem_head? hy))
    cases p with
    | none => rw [checkFrom, if_neg (not_not_intro (ho x (by simp)))]; exact hrec
    | some n =>
      have hl := hp n rfl x rfl
      rw [checkFrom, if_neg (not_not_intro (ho x (by simp)))]
      rw [if_neg (fun e => by rw [e, ltS_ok.irr] at hl; cases hl), if_neg (by rw [ltS_ok.asy hl]; simp)]
      exact hrec
theorem check_norm {l : List Lab} (h : (normL l).1 = 0) : checkL (normL l).2 = 0 := by
  obtain ⟨a1, a2⟩ := normL_res h
  exact check_asc _ none a1 (fun x hx => (normL_ok.1 h).1 x ((a2 x).1 hx)) (fun _ e => by cases e)
end Go.Proofs.Ytmnagmbokajfpaa

end

section
/- Layer 11: labels whose strings a machine can hold. No program in sight. -/
namespace Go.Proofs.Ytmnagmbokajfpaa

/-- Labels whose strings a machine can hold. -/
def LabSized (l : List Lab) : Prop := ∀ x ∈ l, x.1.size ≤ 9223372036854775807 ∧ x.2.size ≤ 9223372036854775807
end Go.Proofs.Ytmnagmbokajfpaa

end

section
/- Layer 11: rows of labels: their cells, slices.Equal of two rows of the same labels. -/
set_option linter.unusedVariables false
namespace Go.Proofs.Ytmnagmbokajfpaa
open Go Go.RowKit

def labCells (l : List Lab) : List Value := l.flatMap fun r => [.string r.1, .string r.2]
theorem elemLab : Elem Try.prog 46 54 2 32 := Elem.mk' (z := .agg #[.string ⟨#[]⟩, .string ⟨#[]⟩]) Try.underlying46 (by kernel_rfl) rfl (by decide)
theorem labCells_one (l : List Lab) : ∀ u ∈ labCells l, u.oneCell' = true := by
  intro u hu
  simp only [labCells, List.mem_flatMap] at hu
  obtain ⟨r, _, hu⟩ := hu
  simp only [List.mem_cons, List.not_mem_nil, or_false] at hu
  rcases hu with rfl | rfl <;> rfl
theorem labCells_length (rs : List Lab) : (labCells rs).length = rs.length * 2 := by
  induction rs with
  | nil => rfl
  | cons r rs ih => rw [labCells, List.flatMap_cons, List.length_append, ← labCells, ih, List.length_cons]; simp; omega
theorem labCells_append (a b : List Lab) : labCells (a ++ b) = labCells a ++ labCells b := by simp [labCells, List.flatMap_append]
theorem labCells_get (rs : List Lab) (j : Nat) (x c : ByteArray) (h : rs[j]? = some (x, c)) : (labCells rs)[j * 2]? = some (.string x) ∧ (labCells rs)[j * 2 + 1]? = some (.string c) := by
  induction rs generalizing j with
  | nil => simp at h
  | cons r rs ih =>
    have e : labCells (r :: rs) = [.string r.1, .string r.2] ++ labCells rs := by simp [labCells]
    cases j with
    | zero =>
      simp at h
      subst h
      rw [e]
      exact ⟨rfl, rfl⟩
    | succ j =>
      obtain ⟨h1, h2⟩ := ih j (by simpa using h)
      rw [e, show (j + 1) * 2 = j * 2 + 2 by omega]
      exact ⟨by simpa using h1, by simpa using h2⟩

end Go.Proofs.Ytmnagmbokajfpaa

end

section
/- A list in a row of the call's own, two cells an element. No program in sight. -/
set_option linter.unusedVariables false
namespace Go.Proofs.Ytmnagmbokajfpaa
open Go Go.RowKit

section
variable {t : TypeId} {α : Type} {f1 f2 : α → Value}
def two (f1 f2 : α → Value) (d : List α) : List Value := d.flatMap fun x => [f1 x, f2 x]
theorem two_length (d : List α) : (two f1 f2 d).length = d.length * 2 := by
  induction d with
  | nil => rfl
  | cons r d ih => rw [two, List.flatMap_cons, List.length_append, ← two, ih, List.length_cons]; simp; omega
theorem two_append (a b : List α) : two f1 f2 (a ++ b) = two f1 f2 a ++ two f1 f2 b := by simp [two, List.flatMap_append]
theorem two_get (d : List α) (j : Nat) (x : α) (h : d[j]? = some x) : (two f1 f2 d)[j * 2]? = some (f1 x) ∧ (two f1 f2 d)[j * 2 + 1]? = some (f2 x) := by
  induction d generalizing j with
  | nil => simp at h
  | cons r d ih =>
    have e : two f1 f2 (r :: d) = f1 r :: f2 r :: two f1 f2 d := rfl
    cases j with
    | zero =>
      simp at h
      subst h
      rw [e]
      exact ⟨rfl, rfl⟩
    | succ j =>
      obtain ⟨h1, h2⟩ := ih j (by simpa using h)
      rw [e, show (j + 1) * 2 = j * 2 + 2 by omega]
      exact ⟨by simpa using h1, by simpa using h2⟩
theorem two_set (d : List α) (i : Nat) (y : α) : ((two f1 f2 d).set (i * 2) (f1 y)).set (i * 2 + 1) (f2 y) = two f1 f2 (d.set i y) := by
  induction d generalizing i with
  | nil => rfl
  | cons r d ih =>
    have e : two f1 f2 (r :: d) = f1 r :: f2 r :: two f1 f2 d := rfl
    cases i with
    | zero => rw [e]; rfl
    | succ i =>
      rw [e, show (i + 1) * 2 = i * 2 + 1 + 1 by omega]
      simp only [List.set_cons_succ]
      rw [ih i]; rfl

structure Own2 (t : TypeId) (f1 f2 : α → Value) (w wr : World) (d : List α) (v : Value) : Prop where
  row : wr.ownsRow w.heap.size t 2 v d.length (two f1 f2 d)
  bel : Below w.heap.size w wr
theorem Own2.nil (w : World) : Own2 t f1 f2 w w [] (.slice none 0 0) := ⟨World.ownsRow_nil _ _ _ _, Below.refl _ _⟩
theorem Own2.drewN {w wr : World} {d : List α} {v : Value} (h : Own2 t f1 f2 w wr d v) (n : Nat) : Own2 t f1 f2 w (wr.drewN n) d v :=
  ⟨(Mods.drewN (fun _ => False) wr n).owns h.row (fun _ _ e => e), h.bel.trans ((Mods.drewN (fun _ => False) wr n).below h.bel.size (fun _ _ e => e))⟩
theorem Own2.below {w wr w1 : World} {d : List α} {v : Value} (h : Own2 t f1 f2 w wr d v) (hb : Below wr.heap.size wr w1) : Own2 t f1 f2 w w1 d v :=
  ⟨(Mods.of_below hb (fun _ => False)).owns h.row (fun _ _ e => e), h.bel.trans (hb.mono h.bel.size)⟩
theorem Own2.shape {w wr : World} {d : List α} {v : Value} (h : Own2 t f1 f2 w wr d v) : ∃ p c, v = .slice p d.length c := (Rd.of_owns h.row).shape
theorem Own2.rd {w wr : World} {d : List α} {v : Value} (h : Own2 t f1 f2 w wr d v) : Rd wr 2 v d.length (two f1 f2 d) := Rd.of_owns h.row
theorem Own2.base0 {w wr : World} {d : List α} {v : Value} (h : Own2 t f1 f2 w wr d v) : wr.ownsRow 0 t 2 v d.length (two f1 f2 d) := owns_rebase h.row (fun _ _ => Nat.zero_le _)
theorem Own2.pushed {w wr w1 : World} {d : List α} {v v1 : Value} {x : α} (h : Own2 t f1 f2 w wr d v) (k : w1.ownsRow 0 t 2 v1 (d.length + 1) (two f1 f2 d ++ [f1 x, f2 x])) (m : Mods (fun k => v.ownBlock = some k) wr w1) (hf : Fresh wr.heap.size v v1) : Own2 t f1 f2 w w1 (d ++ [x]) v1 := by
  refine ⟨?_, h.bel.trans (m.below h.bel.size (fun k hk e => by have := (h.row.lt k e).1; omega))⟩
  rw [List.length_append, two_append]
  refine owns_rebase k (fun k hk => ?_)
  rcases hf k hk with e | e
  · exact (h.row.lt k e).1
  · have := h.bel.size; omega
theorem Own2.len {w wr : World} {d : List α} {p : Option Addr} {n c : Nat} (h : Own2 t f1 f2 w wr d (.slice p n c)) : n = d.length := by
  obtain ⟨p', c', h'⟩ := h.shape
  simp only [Value.slice.injEq] at h'
  exact h'.2.1
theorem Own2.stored {w wr : World} {d e : List α} {g n c i : Nat} {y : α} (h : Own2 t f1 f2 w wr d (.slice (some ⟨g, 0, none⟩) n c)) (he : d.set i y = e) : Own2 t f1 f2 w ((wr.setCell ⟨g, i * 2, none⟩ (f1 y)).setCell ⟨g, i * 2 + 1, none⟩ (f2 y)) e (.slice (some ⟨g, 0, none⟩) n c) := by
  subst he
  obtain rfl := h.len
  have hm1 : Mods (fun k => k = g) wr (wr.setCell ⟨g, i * 2, none⟩ (f1 y)) := Mods.set _ _ _ _ (fun _ => rfl)
  have hm2 : Mods (fun k => k = g) (wr.setCell ⟨g, i * 2, none⟩ (f1 y)) ((wr.setCell ⟨g, i * 2, none⟩ (f1 y)).setCell ⟨g, i * 2 + 1, none⟩ (f2 y)) := Mods.set _ _ _ _ (fun _ => rfl)
  have hg := (h.row.lt g rfl).1
  refine ⟨?_, h.bel.trans ((hm1.trans hm2 (fun _ _ e => e)).below h.bel.size (fun k hk e => by omega))⟩
  rw [List.length_set, ← two_set]
  exact ((h.row.stored (i * 2) _).1.stored (i * 2 + 1) _).1
theorem Own2.cell {w wr : World} {d : List α} {g n c i : Nat} {x : α} (h : Own2 t f1 f2 w wr d (.slice (some ⟨g, 0, none⟩) n c)) (hi : d[i]? = some x) :
    (wr.cell? ⟨g, i * 2, none⟩ = some (f1 x) ∧ wr.cell? ⟨g, i * 2 + 1, none⟩ = some (f2 x)) ∧ (wr.frozen? ⟨g, i * 2, none⟩ = false ∧ wr.frozen? ⟨g, i * 2 + 1, none⟩ = false) := by
  obtain rfl := h.len
  obtain ⟨h1, h2⟩ := two_get (f1 := f1) (f2 := f2) d i x hi
  have hlt := (List.getElem?_eq_some_iff.1 hi).1
  have hl := two_length (f1 := f1) (f2 := f2) d
  exact ⟨⟨by rw [h.row.cellAt (i * 2) (by omega)]; exact h1, by rw [h.row.cellAt (i * 2 + 1) (by omega)]; exact h2⟩, h.row.frozenAt _, h.row.frozenAt _⟩
/-- The cells of element i of a list that is read. -/
theorem rd2_cell {w : World} {b off c n : Nat} {d : List α} (h : Rd w 2 (.slice (some ⟨b, off, none⟩) n c) n (two f1 f2 d)) {i : Nat} {x : α} (hi : d[i]? = some x) :
    w.cell? ⟨b, off + i * 2, none⟩ = some (f1 x) ∧ w.cell? ⟨b, off + i * 2 + 1, none⟩ = some (f2 x) := by
  obtain ⟨h1, h2⟩ := two_get (f1 := f1) (f2 := f2) d i x hi
  obtain ⟨b2, o2, c2, e, _, _, hc⟩ := h.at (fun e => by rw [e] at h1; cases h1)
  simp only [Value.slice.injEq, Option.some.injEq, Addr.mk.injEq] at e
  obtain ⟨⟨rfl, rfl, _⟩, _, rfl⟩ := e
  exact ⟨hc _ _ h1, hc _ _ h2⟩
/-- A slice of two cells an element that is not empty has an address. -/
theorem rd2_at {w : World} {p : Option Addr} {c n : Nat} {d : List α} (h : Rd w 2 (.slice p n c) n (two f1 f2 d)) {i : Nat} {x : α} (hi : d[i]? = some x) : ∃ b off, p = some ⟨b, off, none⟩ := by
  obtain ⟨h1, _⟩ := two_get (f1 := f1) (f2 := f2) d i x hi
  obtain ⟨b2, o2, c2, e, _, _, _⟩ := h.at (fun e => by rw [e] at h1; cases h1)
  simp only [Value.slice.injEq] at e
  exact ⟨b2, o2, e.1⟩
end
theorem Own2.extended {α : Type} {t : TypeId} {f1 f2 : α → Value} {w wr w1 : World} {d e : List α} {v v1 : Value} (h : Own2 t f1 f2 w wr d v) (k : w1.ownsRow 0 t 2 v1 (d.length + e.length) (two f1 f2 d ++ two f1 f2 e)) (m : Mods (fun k => v.ownBlock = some k) wr w1) (hf : Fresh wr.heap.size v v1) : Own2 t f1 f2 w w1 (d ++ e) v1 := by
  refine ⟨?_, h.bel.trans (m.below h.bel.size (fun k hk e => by have := (h.row.lt k e).1; omega))⟩
  rw [List.length_append, two_append]
  refine owns_rebase k (fun k hk => ?_)
  rcases hf k hk with e | e
  · exact (h.row.lt k e).1
  · have := h.bel.size; omega

end Go.Proofs.Ytmnagmbokajfpaa

end

section
/- Layer 11: labels in a row of the call's own; an empty string. No program in sight. -/
set_option linter.unusedVariables false
set_option maxRecDepth 20000
namespace Go.Proofs.Ytmnagmbokajfpaa
open Go Go.RowKit

abbrev OwnL := Own2 54 (fun x : Lab => Value.string x.1) (fun x : Lab => Value.string x.2)
theorem labCells_two (l : List Lab) : labCells l = two (fun x : Lab => Value.string x.1) (fun x : Lab => Value.string x.2) l := rfl

theorem empty_size (n : ByteArray) : n.toList.isEmpty = decide (n.size = 0) := by
  rw [ByteArray.toList_eq]
  cases n with
  | mk d => cases d with
    | mk l => cases l <;> simp [ByteArray.size]

end Go.Proofs.Ytmnagmbokajfpaa

end

section
/- A region that draws its order, walked in ONE order: all but the calls yield the same in whatever world, so they are taken before a call; the calls come up alone. No program in sight. -/
namespace Go.Proofs.Ytmnagmbokajfpaa
open Go Go.RowKit

/-- The order L is allowed to stand for all: an operation that is no call comes up free; a call comes up alone. -/
def orderB (md : Region.Mode) (ops : Array Oper) (calls : List Nat) : List Nat → Array Bool → Bool
  | [], listed => (Region.ready md ops listed).isEmpty
  | i :: rest, listed => (if calls.contains i then Region.ready md ops listed == [i] else Region.free md ops listed i && (Region.ready md ops listed).contains i) && orderB md ops calls rest (listed.setIfInBounds i true)

/-- The operations of a region in the order L. -/
def taken (l : List Oper) (L : List Nat) : List (Nat × Oper) := L.map fun i => (i, (l[i]?).getD { dst := none, op := .move (.tmp 0), type := 0, pos := "", after := #[], guard := none })

def wpTake (P : Program) (ops : Array Oper) (Q : Exit → Act → World → Prop) (calls : List Nat) : List (Nat × Oper) → Act → World → Prop
  | [], a, w => Q .normal a w
  | (i, o) :: rest, a, w => if Region.wanted o (yielded ops a.tmps) = true then
        (if calls.contains i = true then o.wp P a w (wpTake P ops Q calls rest) Q else ∃ v, (∀ w, (execOp a.eval o).run P w = .ok (.value v) w) ∧ wpTake P ops Q calls rest (a.put o.dst v) w)
      else wpTake P ops Q calls rest (a.put o.dst undef) w

theorem put_defers (a : Act) (d : Option Tmp) (v : Value) : (a.put d v).defers = a.defers := by cases d <;> rfl

section
variable {P : Program} {l : List Oper} {Q : Exit → Act → World → Prop} {md : Region.Mode} {calls : List Nat}

theorem wpAny_of_take (hs : Region.noSelect l.toArray = true) (hQ : ∀ c (a a' : Act) w, a.defers = a'.defers → Q (.panic c) a w → Q (.panic c) a' w) : ∀ (L : List Nat) (listed : Array Bool) (a : Act) (w : World) (fuel : Nat), L.length ≤ fuel →
    (∀ i ∈ L, i < l.length) → orderB md l.toArray calls L listed = true → wpTake P l.toArray Q calls (taken l L) a w → wpAny P md l.toArray Q fuel listed a w
  | [], listed, a, w, fuel, _, _, hB, h => wpAny_done (by simpa [orderB] using hB) h fuel
  | i :: rest, listed, a, w, 0, hf, _, _, _ => by simp at hf
  | i :: rest, listed, a, w, fuel + 1, hf, hl, hB, h => by
    have hf' : rest.length ≤ fuel := by simpa using hf
    have hl' : ∀ j ∈ rest, j < l.length := fun j hj => hl j (by simp [hj])
    have hi : i < l.length := hl i (by simp)
    unfold orderB at hB
    rw [Bool.and_eq_true] at hB
    obtain ⟨h1, h2⟩ := hB
    have ho : l.toArray[i]? = some l[i] := by simp [hi]
    have e : taken l (i :: rest) = (i, l[i]) :: taken l rest := by simp [taken, hi]
    rw [e] at h
    unfold wpTake at h
    generalize l[i] = o at *
    by_cases hc : calls.contains i = true
    · rw [if_pos hc] at h1 h
      have hr : Region.ready md l.toArray listed = [i] := by simpa using h1
      refine wpAny_all hr (by simp) (fun j hj => ?_)
      obtain rfl : j = i := by simpa using hj
      unfold wpOp
      simp only [ho]
      split
      · next hw =>
        rw [if_pos hw] at h
        exact .inl (Oper.wp_mono (fun a w h => wpAny_of_take hs hQ rest _ a w fuel hf' hl' h2 h) h)
      · next hw =>
        rw [if_neg hw] at h
        exact wpAny_of_take hs hQ rest _ _ w fuel hf' hl' h2 h
    · rw [if_neg hc] at h1 h
      rw [Bool.and_eq_true] at h1
      by_cases hw : Region.wanted o (yielded l.toArray a.tmps) = true
      · rw [if_pos hw] at h
        obtain ⟨v, hv, h⟩ := h
        exact wpAny_take ho hs h1.1 h1.2 (fun c a w h => hQ c _ _ w (put_defers _ _ _) h) (.inl ⟨hw, hv⟩) (wpAny_of_take hs hQ rest _ _ w fuel hf' hl' h2 h)
      · rw [if_neg hw] at h
        exact wpAny_take ho hs h1.1 h1.2 (fun c a w h => hQ c _ _ w (put_defers _ _ _) h) (.inr ⟨by simpa using hw, rfl⟩) (wpAny_of_take hs hQ rest _ _ w fuel hf' hl' h2 h)

/-- A region that draws its order, by one order of it. -/
theorem wp_region_take {id : Nat} {a : Act} {w : World} (calls L : List Nat) (hm : P.follows .mixedOrders = true) (hs : Region.noSelect l.toArray = true) (hB : (decide (L.length ≤ l.length) && (L.all (fun i => decide (i < l.length)) && orderB .any l.toArray calls L (Array.replicate l.length false))) = true)
    (hQ : ∀ c (a a' : Act) w, a.defers = a'.defers → Q (.panic c) a w → Q (.panic c) a' w) (h : wpTake P l.toArray Q calls (taken l L) a w.drew) : (Code.region id l.toArray true).wp P Q a w := by
  rw [Bool.and_eq_true, Bool.and_eq_true] at hB
  refine wp_region_any hm (wpAny_of_take hs hQ L _ a _ _ (by simpa using hB.1) (by simpa using hB.2.1) (by simpa using hB.2.2) h)

variable {ops : Array Oper}
theorem take_nil {a : Act} {w : World} (h : Q .normal a w) : wpTake P ops Q calls [] a w := h
theorem take_skip {i : Nat} {o : Oper} {rest : List (Nat × Oper)} {a : Act} {w : World} (hw : Region.wanted o (yielded ops a.tmps) = false) (h : wpTake P ops Q calls rest (a.put o.dst undef) w) : wpTake P ops Q calls ((i, o) :: rest) a w := by
  unfold wpTake
  simp only [hw]
  exact h
theorem take_move {i : Nat} {o : Oper} {rest : List (Nat × Oper)} {a : Act} {w : World} (x : Operand) (hx : o.op = .move x ∨ o.op = .assign x) (hc : calls.contains i = false) (hw : Region.wanted o (yielded ops a.tmps) = true)
    (h : wpTake P ops Q calls rest (a.put o.dst (a.eval x)) w) : wpTake P ops Q calls ((i, o) :: rest) a w := by
  unfold wpTake
  simp only [hw, hc]
  refine ⟨_, fun w => ?_, h⟩
  rcases hx with hx | hx <;> unfold execOp <;> simp [hx]
theorem take_blind {i : Nat} {o : Oper} {rest : List (Nat × Oper)} {a : Act} {w : World} (hc : calls.contains i = false) (hw : Region.wanted o (yielded ops a.tmps) = true)
    (h : ∃ v, (∀ w, (execOp a.eval o).run P w = .ok (.value v) w) ∧ wpTake P ops Q calls rest (a.put o.dst v) w) : wpTake P ops Q calls ((i, o) :: rest) a w := by
  unfold wpTake
  simp only [hw, hc]
  exact h
theorem take_call {i : Nat} {o : Oper} {rest : List (Nat × Oper)} {a : Act} {w : World} (hc : calls.contains i = true) (hw : Region.wanted o (yielded ops a.tmps) = true)
    (h : ∀ K : Act → World → Prop, (∀ a w, wpTake P ops Q calls rest a w → K a w) → o.wp P a w K Q) : wpTake P ops Q calls ((i, o) :: rest) a w := by
  unfold wpTake
  simp only [hw, hc]
  exact h _ (fun _ _ h => h)
end
end Go.Proofs.Ytmnagmbokajfpaa

end

section
/- 's[i:]' of a slice that is read. No program in sight. -/
namespace Go.Proofs.Ytmnagmbokajfpaa
open Go Go.RowKit

theorem Addr.add_add (ad : Addr) (i j : Nat) : (ad.add i).add j = ad.add (i + j) := by
  unfold Addr.add
  by_cases hi : i = 0
  · simp [hi]
  · by_cases hj : j = 0
    · simp [hi, hj]
    · simp [hi, hj, Nat.add_assoc]

theorem Rd.from {w : World} {sz : Nat} {p : Option Addr} {n c : Nat} {vs : List Value} (h : Rd w sz (.slice p n c) n vs) (i : Nat) (hi : i ≤ n) :
    Rd w sz (sliced p i n c sz) (n - i) (vs.drop (i * sz)) := by
  obtain ⟨p', c', e, h1, h2, h3, h4, h5⟩ := h
  cases e
  refine ⟨_, _, rfl, by rw [List.length_drop, h1, Nat.sub_mul], by omega, by omega, ?_, ?_⟩
  · intro hp
    split at hp
    · obtain ⟨rfl, rfl⟩ := h4 hp; simp
    · cases p with
      | none => obtain ⟨rfl, rfl⟩ := h4 rfl; simp
      | some a => simp at hp
  · intro ad had j u hu
    rw [List.getElem?_drop] at hu
    split at had
    · next hc =>
      have hlt := (List.getElem?_eq_some_iff.1 hu).1
      rw [h1] at hlt
      have : n = i := by omega
      subst this
      omega
    · cases p with
      | none => simp at had
      | some a =>
        simp only [Option.map_some, Option.some.injEq] at had
        subst had
        rw [Addr.add_add]
        exact h5 a rfl _ u hu

theorem Rd.upto {w : World} {sz : Nat} {p : Option Addr} {n c : Nat} {vs : List Value} (h : Rd w sz (.slice p n c) n vs) (i : Nat) (hi : i ≤ n) :
    Rd w sz (.slice p i c) i (vs.take (i * sz)) := by
  obtain ⟨p', c', e, h1, h2, h3, h4, h5⟩ := h
  cases e
  refine ⟨_, _, rfl, ?_, by omega, by omega, fun e => ?_, ?_⟩
  · rw [List.length_take, h1]
    exact Nat.min_eq_left (Nat.mul_le_mul_right _ hi)
  · obtain ⟨rfl, rfl⟩ := h4 e; exact ⟨by omega, rfl⟩
  · intro ad had j u hu
    refine h5 ad had j u ?_
    rw [List.getElem?_take] at hu
    split at hu
    · exact hu
    · cases hu
theorem Rd.fromTo {w : World} {sz : Nat} {p : Option Addr} {n c : Nat} {vs : List Value} (h : Rd w sz (.slice p n c) n vs) (i k : Nat) (hi : i ≤ k) (hk : k ≤ n) :
    Rd w sz (sliced p i k c sz) (k - i) ((vs.take (k * sz)).drop (i * sz)) := (h.upto k hk).from i hi
theorem sliced_zero (p : Option Addr) (n c sz : Nat) : sliced p 0 n c sz = .slice p n c := by
  unfold sliced
  split
  · simp
  · cases p with
    | none => simp
    | some a => simp [Addr.add]

section
variable {P : Program}
theorem wpList_upto {t e : TypeId} {sz bytes : Nat} (hE : Elem P t e sz bytes) (w : World) (p : Option Addr) (n c i : Nat) (hi : i ≤ n) (hnc : n ≤ c)
    {ops : Array Oper} {rest : List Oper} {o : Oper} {a : Act} {Q : Exit → Act → World → Prop} (hgd : Region.wanted o (yielded ops a.tmps) = true) (s x : Operand) (ho : o.op = .slice t s none (some x) none)
    (hs : a.eval s = .slice p n c) (hx : a.eval x = .int .i64 (i : Int))
    (h : wpList P ops Q rest (a.put o.dst (.slice p i c)) w) : wpList P ops Q (o :: rest) a w := by
  obtain ⟨inf, z, hinf, hz, hsize, hby, hzs⟩ := hE.hi
  refine BigFrame.wpList_want hgd fun K hK => ?_
  have helem : P.elem t = e := by simp [Program.elem, hE.ht]
  have hu : P.underlying t = some (.slice (P.elem t)) := by rw [helem]; exact hE.ht
  have hcell : P.cellsOf (P.elem t) = sz := by rw [helem]; simp [Program.cellsOf, hinf, hsize]
  have hr : (Instr.sliceAt t (.slice p n c) none (some (.int .i64 (i : Int))) none).run P w = .ok (.slice p i c) w := by
    have hsz := run_sizeOf (w := w) (show P.info? (P.elem t) = some inf by rw [helem]; exact hinf)
    rw [run_sliceAt_slice (h := hu), run_slice_h (ht := hu) (h0 := by omega) (h2 := by omega), hsz, hcell]
    simp only [Result.andThen, Int.toNat_natCast, sliced_zero]
  unfold Oper.wp execOp
  simp only [ho, Sem.run_bind, Sem.run_pure, Result.andThen_ok, hs, hx, hr, Option.map_some, Option.map_none]
  exact hK _ _ h
theorem wpList_from {t e : TypeId} {sz bytes : Nat} (hE : Elem P t e sz bytes) (w : World) (v : Value) (n i : Nat) (vs : List Value) (h0 : Rd w sz v n vs) (hi : i ≤ n)
    {ops : Array Oper} {rest : List Oper} {o : Oper} {a : Act} {Q : Exit → Act → World → Prop} (hgd : Region.wanted o (yielded ops a.tmps) = true) (s x : Operand) (ho : o.op = .slice t s (some x) none none)
    (hs : a.eval s = v) (hx : a.eval x = .int .i64 (i : Int))
    (h : ∀ p c, Rd w sz (.slice p (n - i) c) (n - i) (vs.drop (i * sz)) → wpList P ops Q rest (a.put o.dst (.slice p (n - i) c)) w) : wpList P ops Q (o :: rest) a w := by
  obtain ⟨inf, z, hinf, hz, hsize, hby, hzs⟩ := hE.hi
  obtain ⟨p, c, hv⟩ := h0.shape
  subst hv
  refine BigFrame.wpList_want hgd fun K hK => ?_
  have helem : P.elem t = e := by simp [Program.elem, hE.ht]
  have hu : P.underlying t = some (.slice (P.elem t)) := by rw [helem]; exact hE.ht
  have hcell : P.cellsOf (P.elem t) = sz := by rw [helem]; simp [Program.cellsOf, hinf, hsize]
  have hr : (Instr.sliceAt t (.slice p n c) (some (.int .i64 (i : Int))) none none).run P w = .ok (sliced p i n c sz) w := by
    have hsz := run_sizeOf (w := w) (show P.info? (P.elem t) = some inf by rw [helem]; exact hinf)
    rw [run_sliceAt_slice (h := hu), run_slice_l (ht := hu) (h0 := by omega) (h1 := by omega), hsz, hcell]
    simp [Result.andThen]
  unfold Oper.wp execOp
  simp only [ho, Sem.run_bind, Sem.run_pure, Result.andThen_ok, hs, hx, hr, Option.map_some, Option.map_none]
  exact hK _ _ (h _ _ (h0.from i hi))
end
end Go.Proofs.Ytmnagmbokajfpaa

end

section
/- A region that draws its order, walked in ONE order, where operations beside the calls may read memory: a condition S on the world, which every call keeps, says what they read. No program in sight. -/
namespace Go.Proofs.Ytmnagmbokajfpaa
open Go Go.RowKit

def wpTakeH (P : Program) (ops : Array Oper) (Q : Exit → Act → World → Prop) (calls : List Nat) (S : World → Prop) : List (Nat × Oper) → Act → World → Prop
  | [], a, w => Q .normal a w
  | (i, o) :: rest, a, w => if Region.wanted o (yielded ops a.tmps) = true then
        (if calls.contains i = true then o.wp P a w (fun a' w' => S w' ∧ wpTakeH P ops Q calls S rest a' w') Q else ∃ v, (∀ w, S w → (execOp a.eval o).run P w = .ok (.value v) w) ∧ wpTakeH P ops Q calls S rest (a.put o.dst v) w)
      else wpTakeH P ops Q calls S rest (a.put o.dst undef) w

section
variable {P : Program} {l : List Oper} {Q : Exit → Act → World → Prop} {md : Region.Mode} {calls : List Nat} {S : World → Prop}

theorem wpAnyH_of_take (hs : Region.noSelect l.toArray = true) (hQ : ∀ c (a a' : Act) w, a.defers = a'.defers → Q (.panic c) a w → Q (.panic c) a' w) : ∀ (L : List Nat) (listed : Array Bool) (a : Act) (w : World) (fuel : Nat), L.length ≤ fuel →
    (∀ i ∈ L, i < l.length) → orderB md l.toArray calls L listed = true → S w → wpTakeH P l.toArray Q calls S (taken l L) a w → wpAnyH P md l.toArray Q S fuel listed a w
  | [], listed, a, w, fuel, _, _, hB, _, h => wpAnyH_done (by simpa [orderB] using hB) h fuel
  | i :: rest, listed, a, w, 0, hf, _, _, _, _ => by simp at hf
  | i :: rest, listed, a, w, fuel + 1, hf, hl, hB, hS, h => by
    have hf' : rest.length ≤ fuel := by simpa using hf
    have hl' : ∀ j ∈ rest, j < l.length := fun j hj => hl j (by simp [hj])
    have hi : i < l.length := hl i (by simp)
    unfold orderB at hB
    rw [Bool.and_eq_true] at hB
    obtain ⟨h1, h2⟩ := hB
    have ho : l.toArray[i]? = some l[i] := by simp [hi]
    have e : taken l (i :: rest) = (i, l[i]) :: taken l rest := by simp [taken, hi]
    rw [e] at h
    unfold wpTakeH at h
    generalize l[i] = o at *
    by_cases hc : calls.contains i = true
    · rw [if_pos hc] at h1 h
      have hr : Region.ready md l.toArray listed = [i] := by simpa using h1
      refine wpAnyH_all hr (by simp) (fun j hj => ?_)
      obtain rfl : j = i := by simpa using hj
      unfold wpOp
      simp only [ho]
      split
      · next hw =>
        rw [if_pos hw] at h
        exact .inl (Oper.wp_mono (fun a w h => ⟨h.1, wpAnyH_of_take hs hQ rest _ a w fuel hf' hl' h2 h.1 h.2⟩) h)
      · next hw =>
        rw [if_neg hw] at h
        exact ⟨hS, wpAnyH_of_take hs hQ rest _ _ w fuel hf' hl' h2 hS h⟩
    · rw [if_neg hc] at h1 h
      rw [Bool.and_eq_true] at h1
      by_cases hw : Region.wanted o (yielded l.toArray a.tmps) = true
      · rw [if_pos hw] at h
        obtain ⟨v, hv, h⟩ := h
        exact wpAnyH_take ho hs h1.1 h1.2 (fun c a w h => hQ c _ _ w (put_defers _ _ _) h) (.inl ⟨hw, hv⟩) hS (wpAnyH_of_take hs hQ rest _ _ w fuel hf' hl' h2 hS h)
      · rw [if_neg hw] at h
        exact wpAnyH_take ho hs h1.1 h1.2 (fun c a w h => hQ c _ _ w (put_defers _ _ _) h) (.inr ⟨by simpa using hw, rfl⟩) hS (wpAnyH_of_take hs hQ rest _ _ w fuel hf' hl' h2 hS h)

theorem wp_region_takeH {id : Nat} {a : Act} {w : World} (S : World → Prop) (calls L : List Nat) (hm : P.follows .mixedOrders = true) (hs : Region.noSelect l.toArray = true) (hB : (decide (L.length ≤ l.length) && (L.all (fun i => decide (i < l.length)) && orderB .any l.toArray calls L (Array.replicate l.length false))) = true)
    (hQ : ∀ c (a a' : Act) w, a.defers = a'.defers → Q (.panic c) a w → Q (.panic c) a' w) (hS : S w.drew) (h : wpTakeH P l.toArray Q calls S (taken l L) a w.drew) : (Code.region id l.toArray true).wp P Q a w := by
  rw [Bool.and_eq_true, Bool.and_eq_true] at hB
  refine wp_region_held hm (wpAnyH_of_take hs hQ L _ a _ _ (by simpa using hB.1) (by simpa using hB.2.1) (by simpa using hB.2.2) hS h)

variable {ops : Array Oper}
theorem takeH_nil {a : Act} {w : World} (h : Q .normal a w) : wpTakeH P ops Q calls S [] a w := h
theorem takeH_skip {i : Nat} {o : Oper} {rest : List (Nat × Oper)} {a : Act} {w : World} (hw : Region.wanted o (yielded ops a.tmps) = false) (h : wpTakeH P ops Q calls S rest (a.put o.dst undef) w) : wpTakeH P ops Q calls S ((i, o) :: rest) a w := by
  unfold wpTakeH
  simp only [hw]
  exact h
theorem takeH_blind {i : Nat} {o : Oper} {rest : List (Nat × Oper)} {a : Act} {w : World} (hc : calls.contains i = false) (hw : Region.wanted o (yielded ops a.tmps) = true)
    (h : ∃ v, (∀ w, (execOp a.eval o).run P w = .ok (.value v) w) ∧ wpTakeH P ops Q calls S rest (a.put o.dst v) w) : wpTakeH P ops Q calls S ((i, o) :: rest) a w := by
  unfold wpTakeH
  simp only [hw, hc]
  obtain ⟨v, h1, h2⟩ := h
  exact ⟨v, fun w _ => h1 w, h2⟩
/-- An operation that reads memory: what it yields holds in every world that meets S. -/
theorem takeH_read {i : Nat} {o : Oper} {rest : List (Nat × Oper)} {a : Act} {w : World} (hc : calls.contains i = false) (hw : Region.wanted o (yielded ops a.tmps) = true) (v : Value)
    (h1 : ∀ w, S w → (execOp a.eval o).run P w = .ok (.value v) w) (h : wpTakeH P ops Q calls S rest (a.put o.dst v) w) : wpTakeH P ops Q calls S ((i, o) :: rest) a w := by
  unfold wpTakeH
  simp only [hw, hc]
  exact ⟨v, h1, h⟩
theorem takeH_call {i : Nat} {o : Oper} {rest : List (Nat × Oper)} {a : Act} {w : World} (hc : calls.contains i = true) (hw : Region.wanted o (yielded ops a.tmps) = true)
    (h : ∀ K : Act → World → Prop, (∀ a w, S w → wpTakeH P ops Q calls S rest a w → K a w) → o.wp P a w K Q) : wpTakeH P ops Q calls S ((i, o) :: rest) a w := by
  unfold wpTakeH
  simp only [hw, hc]
  exact h (fun a' w' => S w' ∧ wpTakeH P ops Q calls S rest a' w') (fun _ _ h1 h2 => ⟨h1, h2⟩)
/-- An operation that comes up alone, run in the world at hand. -/
theorem takeH_now {i : Nat} {o : Oper} {rest : List (Nat × Oper)} {a : Act} {w : World} (hc : calls.contains i = true) (hw : Region.wanted o (yielded ops a.tmps) = true) (v : Value) (h1 : (execOp a.eval o).run P w = .ok (.value v) w) (hS : S w)
    (h : wpTakeH P ops Q calls S rest (a.put o.dst v) w) : wpTakeH P ops Q calls S ((i, o) :: rest) a w := by
  unfold wpTakeH
  simp only [hw, hc]
  show o.wp P a w (fun a' w' => S w' ∧ wpTakeH P ops Q calls S rest a' w') Q
  unfold Oper.wp
  rw [h1]
  exact ⟨hS, h⟩

/-- What 's[:i]' yields. -/
theorem exec_upto {t e : TypeId} {sz bytes : Nat} (hE : Elem P t e sz bytes) (w : World) (p : Option Addr) (n c i : Nat) (hi : i ≤ n) (hnc : n ≤ c) {o : Oper} {a : Act} (s x : Operand) (ho : o.op = .slice t s none (some x) none)
    (hs : a.eval s = .slice p n c) (hx : a.eval x = .int .i64 (i : Int)) : (execOp a.eval o).run P w = .ok (.value (.slice p i c)) w := by
  obtain ⟨inf, z, hinf, hz, hsize, hby, hzs⟩ := hE.hi
  have helem : P.elem t = e := by simp [Program.elem, hE.ht]
  have hu : P.underlying t = some (.slice (P.elem t)) := by rw [helem]; exact hE.ht
  have hcell : P.cellsOf (P.elem t) = sz := by rw [helem]; simp [Program.cellsOf, hinf, hsize]
  have hr : (Instr.sliceAt t (.slice p n c) none (some (.int .i64 (i : Int))) none).run P w = .ok (.slice p i c) w := by
    have hsz := run_sizeOf (w := w) (show P.info? (P.elem t) = some inf by rw [helem]; exact hinf)
    rw [run_sliceAt_slice (h := hu), run_slice_h (ht := hu) (h0 := by omega) (h2 := by omega), hsz, hcell]
    simp only [Result.andThen, Int.toNat_natCast, sliced_zero]
  unfold execOp
  simp only [ho, Sem.run_bind, Sem.run_pure, Result.andThen_ok, hs, hx, hr, Option.map_some, Option.map_none]
/-- What 's[i:]' yields. -/
theorem exec_from {t e : TypeId} {sz bytes : Nat} (hE : Elem P t e sz bytes) (w : World) (p : Option Addr) (n c i : Nat) (hi : i ≤ n) {o : Oper} {a : Act} (s x : Operand) (ho : o.op = .slice t s (some x) none none)
    (hs : a.eval s = .slice p n c) (hx : a.eval x = .int .i64 (i : Int)) : (execOp a.eval o).run P w = .ok (.value (sliced p i n c sz)) w := by
  obtain ⟨inf, z, hinf, hz, hsize, hby, hzs⟩ := hE.hi
  have helem : P.elem t = e := by simp [Program.elem, hE.ht]
  have hu : P.underlying t = some (.slice (P.elem t)) := by rw [helem]; exact hE.ht
  have hcell : P.cellsOf (P.elem t) = sz := by rw [helem]; simp [Program.cellsOf, hinf, hsize]
  have hr : (Instr.sliceAt t (.slice p n c) (some (.int .i64 (i : Int))) none none).run P w = .ok (sliced p i n c sz) w := by
    have hsz := run_sizeOf (w := w) (show P.info? (P.elem t) = some inf by rw [helem]; exact hinf)
    rw [run_sliceAt_slice (h := hu), run_slice_l (ht := hu) (h0 := by omega) (h1 := by omega), hsz, hcell]
    simp [Result.andThen]
  unfold execOp
  simp only [ho, Sem.run_bind, Sem.run_pure, Result.andThen_ok, hs, hx, hr, Option.map_some, Option.map_none]
/-- What a conversion yields. -/
theorem exec_convert {o : Oper} {a : Act} {w : World} (src dst : TypeId) (s : Operand) {v u : Value} (ho : o.op = .convert src dst s) (hs : a.eval s = v) (h : (convert src dst v).run P w = .ok u w) : (execOp a.eval o).run P w = .ok (.value u) w := by
  unfold execOp
  simp only [ho, Sem.run_bind, Sem.run_pure, Result.andThen_ok, hs, h]
end
end Go.Proofs.Ytmnagmbokajfpaa

end
