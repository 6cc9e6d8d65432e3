/- A region that draws its order, walked in ONE order: all but the calls yield the same in whatever world, so they are taken before a call; the calls come up alone. No program in sight. -/
import Derived.Test.YtdhcfgbnjnidfaaSlice
import Derived.RegionTactic
namespace Go.Proofs.Ytdhcfgbnjnidfaa
open Go Go.RowKit

/-- The order L is allowed to stand for all: an operation that is no call comes up free; a call comes up alone. -/
def orderB (md : Region.Mode) (ops : Array Oper) (calls : List Nat) : List Nat → Array Bool → Bool
  | [], listed => (Region.ready md ops listed).isEmpty
  | i :: rest, listed => (if calls.contains i then Region.ready md ops listed == [i] else Region.free md ops listed i && (Region.ready md ops listed).contains i) && orderB md ops calls rest (listed.setIfInBounds i true)

/-- The operations of a region in the order L. -/
def taken (l : List Oper) (L : List Nat) : List (Nat × Oper) := L.map fun i => (i, (l[i]?).getD { dst := none, op := .move (.tmp 0), type := 0, pos := "", after := #[], guard := none })

def wpTake (P : Program) (ops : Array Oper) (Q : Exit → Act → World → Prop) (calls : List Nat) : List (Nat × Oper) → Act → World → Prop
  | [], a, w => Q .normal a w
  | (i, o) :: rest, a, w => if Region.wanted o (yielded ops a.tmps) = true then
        (if calls.contains i = true then o.wp P a w (wpTake P ops Q calls rest) Q else ∃ v, (∀ w, (execOp a.eval o).run P w = .ok (.value v) w) ∧ wpTake P ops Q calls rest (a.put o.dst v) w)
      else wpTake P ops Q calls rest (a.put o.dst undef) w

theorem put_defers (a : Act) (d : Option Tmp) (v : Value) : (a.put d v).defers = a.defers := by cases d <;> rfl

section
variable {P : Program} {l : List Oper} {Q : Exit → Act → World → Prop} {md : Region.Mode} {calls : List Nat}

theorem wpAny_of_take (hs : Region.noSelect l.toArray = true) (hQ : ∀ c (a a' : Act) w, a.defers = a'.defers → Q (.panic c) a w → Q (.panic c) a' w) : ∀ (L : List Nat) (listed : Array Bool) (a : Act) (w : World) (fuel : Nat), L.length ≤ fuel →
    (∀ i ∈ L, i < l.length) → orderB md l.toArray calls L listed = true → wpTake P l.toArray Q calls (taken l L) a w → wpAny P md l.toArray Q fuel listed a w
  | [], listed, a, w, fuel, _, _, hB, h => wpAny_done (by simpa [orderB] using hB) h fuel
  | i :: rest, listed, a, w, 0, hf, _, _, _ => by simp at hf
  | i :: rest, listed, a, w, fuel + 1, hf, hl, hB, h => by
    have hf' : rest.length ≤ fuel := by simpa using hf
    have hl' : ∀ j ∈ rest, j < l.length := fun j hj => hl j (by simp [hj])
    have hi : i < l.length := hl i (by simp)
    unfold orderB at hB
    rw [Bool.and_eq_true] at hB
    obtain ⟨h1, h2⟩ := hB
    have ho : l.toArray[i]? = some l[i] := by simp [hi]
    have e : taken l (i :: rest) = (i, l[i]) :: taken l rest := by simp [taken, hi]
    rw [e] at h
    unfold wpTake at h
    generalize l[i] = o at *
    by_cases hc : calls.contains i = true
    · rw [if_pos hc] at h1 h
      have hr : Region.ready md l.toArray listed = [i] := by simpa using h1
      refine wpAny_all hr (by simp) (fun j hj => ?_)
      obtain rfl : j = i := by simpa using hj
      unfold wpOp
      simp only [ho]
      split
      · next hw =>
        rw [if_pos hw] at h
        exact .inl (Oper.wp_mono (fun a w h => wpAny_of_take hs hQ rest _ a w fuel hf' hl' h2 h) h)
      · next hw =>
        rw [if_neg hw] at h
        exact wpAny_of_take hs hQ rest _ _ w fuel hf' hl' h2 h
    · rw [if_neg hc] at h1 h
      rw [Bool.and_eq_true] at h1
      by_cases hw : Region.wanted o (yielded l.toArray a.tmps) = true
      · rw [if_pos hw] at h
        obtain ⟨v, hv, h⟩ := h
        exact wpAny_take ho hs h1.1 h1.2 (fun c a w h => hQ c _ _ w (put_defers _ _ _) h) (.inl ⟨hw, hv⟩) (wpAny_of_take hs hQ rest _ _ w fuel hf' hl' h2 h)
      · rw [if_neg hw] at h
        exact wpAny_take ho hs h1.1 h1.2 (fun c a w h => hQ c _ _ w (put_defers _ _ _) h) (.inr ⟨by simpa using hw, rfl⟩) (wpAny_of_take hs hQ rest _ _ w fuel hf' hl' h2 h)

/-- A region that draws its order, by one order of it. -/
theorem wp_region_take {id : Nat} {a : Act} {w : World} (calls L : List Nat) (hm : P.follows .mixedOrders = true) (hs : Region.noSelect l.toArray = true) (hB : (decide (L.length ≤ l.length) && (L.all (fun i => decide (i < l.length)) && orderB .any l.toArray calls L (Array.replicate l.length false))) = true)
    (hQ : ∀ c (a a' : Act) w, a.defers = a'.defers → Q (.panic c) a w → Q (.panic c) a' w) (h : wpTake P l.toArray Q calls (taken l L) a w.drew) : (Code.region id l.toArray true).wp P Q a w := by
  rw [Bool.and_eq_true, Bool.and_eq_true] at hB
  refine wp_region_any hm (wpAny_of_take hs hQ L _ a _ _ (by simpa using hB.1) (by simpa using hB.2.1) (by simpa using hB.2.2) h)

variable {ops : Array Oper}
theorem take_nil {a : Act} {w : World} (h : Q .normal a w) : wpTake P ops Q calls [] a w := h
theorem take_skip {i : Nat} {o : Oper} {rest : List (Nat × Oper)} {a : Act} {w : World} (hw : Region.wanted o (yielded ops a.tmps) = false) (h : wpTake P ops Q calls rest (a.put o.dst undef) w) : wpTake P ops Q calls ((i, o) :: rest) a w := by
  unfold wpTake
  simp only [hw]
  exact h
theorem take_move {i : Nat} {o : Oper} {rest : List (Nat × Oper)} {a : Act} {w : World} (x : Operand) (hx : o.op = .move x ∨ o.op = .assign x) (hc : calls.contains i = false) (hw : Region.wanted o (yielded ops a.tmps) = true)
    (h : wpTake P ops Q calls rest (a.put o.dst (a.eval x)) w) : wpTake P ops Q calls ((i, o) :: rest) a w := by
  unfold wpTake
  simp only [hw, hc]
  refine ⟨_, fun w => ?_, h⟩
  rcases hx with hx | hx <;> unfold execOp <;> simp [hx]
theorem take_blind {i : Nat} {o : Oper} {rest : List (Nat × Oper)} {a : Act} {w : World} (hc : calls.contains i = false) (hw : Region.wanted o (yielded ops a.tmps) = true)
    (h : ∃ v, (∀ w, (execOp a.eval o).run P w = .ok (.value v) w) ∧ wpTake P ops Q calls rest (a.put o.dst v) w) : wpTake P ops Q calls ((i, o) :: rest) a w := by
  unfold wpTake
  simp only [hw, hc]
  exact h
theorem take_call {i : Nat} {o : Oper} {rest : List (Nat × Oper)} {a : Act} {w : World} (hc : calls.contains i = true) (hw : Region.wanted o (yielded ops a.tmps) = true)
    (h : ∀ K : Act → World → Prop, (∀ a w, wpTake P ops Q calls rest a w → K a w) → o.wp P a w K Q) : wpTake P ops Q calls ((i, o) :: rest) a w := by
  unfold wpTake
  simp only [hw, hc]
  exact h _ (fun _ _ h => h)
end
end Go.Proofs.Ytdhcfgbnjnidfaa
