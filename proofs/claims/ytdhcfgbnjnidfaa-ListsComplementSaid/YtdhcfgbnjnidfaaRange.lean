/- A range over a function, at the widest fence. No program in sight. -/
import Derived.RangeFuncNested
import Derived.RangeFuncBound
import Derived.RangeFuncCalls
import Derived.RangeFuncLeaves
import Derived.RangeFuncBox
import Derived.OwnWalkIn
import Derived.Shelf.Abstract
import Derived.TacticsInMore
import Derived.LoopNIn
import Derived.LoopIn
import Derived.Test.YtdhcfgbnjnidfaaSlice
namespace Go.Proofs.Ytdhcfgbnjnidfaa
open Go Go.RowKit Go.Shelf

/-- In a round an operation that defers nothing is carried out as everywhere. -/
theorem operIn_round {P : Program} {l n : Nat} {o : Oper} {a : Act} {w : World} {next next' : Act → World → Prop} {Q : Exit → Act → World → Prop} (hd : ∀ c, o.op ≠ .defer c) (hn : ∀ a w, next a w → next' a w) (hQ : ¬ LetsOut Q)
    (h : o.wp P a w next Q) : o.wpIn (Fence.wide.inRound l) n P a w next' Q := by
  refine ⟨fun _ _ => trivial, ?_⟩
  show o.uponIn _ n P a next' Q ((o.semAt (some l) a.eval).run P w)
  rw [Oper.semAt_some l a.eval o hd]
  unfold Oper.wp at h
  have hdep : (Fence.wide.inRound l).depth.isSome = true → 1 ≤ n := fun h => by cases h
  revert h
  generalize (execOp a.eval o).run P w = r
  intro h
  cases r with
  | ok v w1 =>
    cases v with
    | value v => exact hn _ _ h
    | skip => exact hn _ _ h
    | defer d => exact hn _ _ h
    | enter f args =>
      refine ⟨hdep, CallsIn.inRound l (callsIn_wide.2 (Calls.mono h ?_))⟩
      intro e w2 h2
      cases e with
      | returned v => exact hn _ _ h2
      | panicked ch => exact h2
      | outgrown => exact absurd h2 hQ
    | row row args =>
      refine ⟨hdep, fun c cs _ => ?_⟩
      obtain ⟨v, w2, h2, s⟩ := h c cs
      exact ⟨v, w2, hn _ _ h2, stepsIn_wide.2 s⟩
    | _ => exact h.elim
  | halt hh w1 =>
    cases hh with
    | panic v => exact h
    | _ => exact h.elim

theorem wpListIn_round {P : Program} {l n : Nat} {ops : Array Oper} {Q : Exit → Act → World → Prop} (hQ : ¬ LetsOut Q) : ∀ (os : List Oper) (a : Act) (w : World), (∀ o ∈ os, ∀ c, o.op ≠ .defer c) →
    wpList P ops Q os a w → wpListIn (Fence.wide.inRound l) n P ops Q os a w
  | [], _, _, _, h => h
  | o :: os, a, w, hd, h => by
    unfold wpListIn
    unfold wpList at h
    split
    · next hw =>
      rw [if_pos hw] at h
      rcases h with h | h
      · exact operIn_round (hd o (by simp)) (fun a w => wpListIn_round hQ os a w (fun o h => hd o (by simp [h]))) hQ h
      · exact absurd h.2 hQ
    · next hw =>
      rw [if_neg hw] at h
      exact ⟨fun _ _ => trivial, wpListIn_round hQ os _ _ (fun o h => hd o (by simp [h])) h⟩

/-! ### What the caller says of its own memory abides the loop's own steps -/
theorem row_other {W : World} {row : Option Nat} {b : Nat} {cs : Array Value} {t : TypeId} {fz : Nat × Nat} (h : W.heap[b]? = some (.cells cs t fz)) (hr : ∀ r, row = some r → ∃ o : Obj, W.heap[r]? = some o ∧ o.isCells = false) : some b ≠ row := fun e => by
  obtain ⟨o, ho, hc⟩ := hr b e.symm
  rw [h] at ho; cases ho; cases hc
theorem own_blk {β : Type} (b : Nat) (f : β → List Value) : Own (fun s W => Blk W b (f s)) := by
  rintro s W W' row ⟨t, h⟩ hg hr
  exact ⟨t, (hg.block b (Array.getElem?_eq_some_iff.1 h).1 (row_other h hr)).trans h⟩
theorem owns_abides {W W' : World} {row : Option Nat} {base : Nat} {e : TypeId} {sz : Nat} {v : Value} {n : Nat} {xs : List Value} (h : W.ownsRow base e sz v n xs) (hg : W.grownBy W' row) (hr : ∀ r, row = some r → ∃ o : Obj, W.heap[r]? = some o ∧ o.isCells = false) : W'.ownsRow base e sz v n xs := by
  refine h.kept hg ?_
  rcases h.2 with ⟨rfl, _⟩ | ⟨g, cap, cur, rfl, _, hgb, _⟩
  · exact .inl rfl
  · exact .inr (fun e => row_other hgb hr e)
theorem ownFrom_mods {β : Type} {B : Nat} {S : Nat → Prop} {w : World} (hB : w.heap.size ≤ B) : OwnFrom B (fun (_ : β) W => Mods S w W) := by
  intro s W W' row h hg hr
  refine ⟨hg.os.trans h.os, hg.tape.trans h.tape, hg.output.trans h.output, Nat.le_trans h.size hg.size, fun k hk hs => ?_⟩
  refine (hg.block k (by have := h.size; omega) (fun e => ?_)).trans (h.block k hk hs)
  have := (hr k e.symm).1
  omega
theorem ownFrom_pure {β : Type} {B : Nat} (p : β → Prop) : OwnFrom B (fun s (_ : World) => p s) := fun _ _ _ _ h _ _ => h
/-- The box holds a row that the call may write, which has come of v. -/
def Holds (e : TypeId) (sz b : Nat) (v : Value) (n : Nat) (xs : List Value) (w W : World) : Prop :=
  ∃ v', Blk W b [v'] ∧ W.ownsRow 0 e sz v' n xs ∧ Fresh w.heap.size v v' ∧ (v'.ownBlock ≠ some b) ∧ Mods (fun k => v.ownBlock = some k) w W
theorem ownFrom_holds {β : Type} {B : Nat} {w : World} (hB : w.heap.size ≤ B) (e : TypeId) (sz b : Nat) (v : Value) (n : β → Nat) (xs : β → List Value) : OwnFrom B (fun s W => Holds e sz b v (n s) (xs s) w W) := by
  rintro s W W' row ⟨v', h1, h2, h3, h4, h5⟩ hg hr
  have hr' : ∀ r, row = some r → ∃ o : Obj, W.heap[r]? = some o ∧ o.isCells = false := fun r e => (hr r e).2
  exact ⟨v', own_blk b (fun _ : Unit => [v']) () W W' row h1 hg hr', owns_abides h2 hg hr', h3, h4, ownFrom_mods hB () W W' row h5 hg hr⟩
theorem KeepsOthers.of_mods {S : Nat → Prop} {W W' : World} (h : Mods S W W') (hS : ∀ k o, S k → W.heap[k]? = some o → o.isCells = true) : KeepsOthers W W' :=
  ⟨h.size, fun k o hk ho => (h.block k (Array.getElem?_eq_some_iff.1 hk).1 (fun e => by rw [hS k o e hk] at ho; cases ho)).trans hk⟩
theorem owns_isCells {W : World} {base : Nat} {e : TypeId} {sz : Nat} {v : Value} {n : Nat} {xs : List Value} (h : W.ownsRow base e sz v n xs) : ∀ k o, v.ownBlock = some k → W.heap[k]? = some o → o.isCells = true := by
  intro k o hk ho
  rcases h.2 with ⟨rfl, _⟩ | ⟨g, cap, cur, rfl, _, hgb, _⟩
  · simp [Value.ownBlock] at hk
  · obtain rfl : g = k := by simpa [Value.ownBlock] using hk
    rw [hgb] at ho; cases ho; rfl
/-- An append in the body of a round: the box holds the longer row. -/
theorem Holds.pushed {e : TypeId} {sz b : Nat} {v v1 v2 : Value} {n m : Nat} {xs ys : List Value} {w W w1 : World} (hb : w.heap.size ≤ b) (h1 : Blk W b [v1]) (h2 : W.ownsRow 0 e sz v1 n xs) (h3 : Fresh w.heap.size v v1) (h4 : v1.ownBlock ≠ some b) (h5 : Mods (fun k => v.ownBlock = some k) w W)
    (k1 : w1.ownsRow 0 e sz v2 m ys) (k2 : Mods (fun k => v1.ownBlock = some k) W w1) (k3 : Fresh W.heap.size v1 v2) :
    Holds e sz b v m ys w (w1.setCell ⟨b, 0, none⟩ v2) ∧ KeepsOthers W (w1.setCell ⟨b, 0, none⟩ v2) := by
  have hne : v2.ownBlock ≠ some b := fun e => by
    rcases k3 b e with e | e
    · exact h4 e
    · have := h1.lt; omega
  refine ⟨⟨v2, ?_, ?_, ?_, hne, ?_⟩, (KeepsOthers.of_mods k2 (owns_isCells h2)).trans (KeepsOthers.setCell _ _ _)⟩
  · simpa using (k2.blk h1 h4).set 0 v2
  · exact (Mods.set (fun k => k = b) w1 ⟨b, 0, none⟩ v2 (fun _ => rfl)).owns k1 (fun k hk e => hne (by rw [hk, e]))
  · exact h3.trans k3 h5.size
  · refine (h5.trans k2 (fun j hj e => ?_)).trans (Mods.set (fun k => k = b) w1 ⟨b, 0, none⟩ v2 (fun _ => rfl)) (fun j hj e => by omega)
    rcases h3 j e with e | e
    · exact e
    · omega
theorem not_letsOut_body {α : Type} {id B : Nat} {Kp : World → World → Prop} {I : List α → World → Prop} {Ix : Code → List α → World → Prop} {xs : List α} {W : World} : ¬ LetsOut (Exit.inBlock id (ownPostG B Kp I Ix xs W)) := by
  rintro ⟨_, _, h⟩; exact h
theorem Mods.putObj {S : Nat → Prop} {w W : World} (h : Mods S w W) {D : Nat} (hD : w.heap.size ≤ D) (o : Obj) : Mods S w (W.putObj D o) := by
  have hg := grownBy_putObj' W D o
  exact ⟨hg.os.trans h.os, hg.tape.trans h.tape, hg.output.trans h.output, Nat.le_trans h.size hg.size, fun k hk hs => (hg.block k (by have := h.size; omega) (fun e => by cases e; omega)).trans (h.block k hk hs)⟩
end Go.Proofs.Ytdhcfgbnjnidfaa
