/- A region that draws its order, walked in ONE order: all but the calls yield the same in whatever world, so they are taken before a call; the calls come up alone. No program in sight. -/
import Derived.Test.YtejaacejlbhndaaSlice
import Derived.RegionTactic
import Derived.BigQuiet
namespace Go.Proofs.Ytejaacejlbhndaa
open Go Go.RowKit

/-- The order L is allowed to stand for all: an operation that is no call comes up free; a call comes up alone. -/
def orderB (md : Region.Mode) (ops : Array Oper) (calls : List Nat) : List Nat → Array Bool → Bool
  | [], listed => (Region.ready md ops listed).isEmpty
  | i :: rest, listed => (if calls.contains i then Region.ready md ops listed == [i] else Region.free md ops listed i && (Region.ready md ops listed).contains i) && orderB md ops calls rest (listed.setIfInBounds i true)

def wpTake (P : Program) (ops : Array Oper) (Q : Exit → Act → World → Prop) (calls : List Nat) : List Nat → Act → World → Prop
  | [], a, w => Q .normal a w
  | i :: rest, a, w => match ops[i]? with
    | none => False
    | some o => if Region.wanted o (yielded ops a.tmps) = true then
        (if calls.contains i = true then o.wp P a w (wpTake P ops Q calls rest) Q else ∃ v, (∀ w, (execOp a.eval o).run P w = .ok (.value v) w) ∧ wpTake P ops Q calls rest (a.put o.dst v) w)
      else wpTake P ops Q calls rest (a.put o.dst undef) w

theorem put_defers (a : Act) (d : Option Tmp) (v : Value) : (a.put d v).defers = a.defers := by cases d <;> rfl

section
variable {P : Program} {ops : Array Oper} {Q : Exit → Act → World → Prop} {md : Region.Mode} {calls : List Nat}

theorem wpAny_of_take (hs : Region.noSelect ops = true) (hQ : ∀ c (a a' : Act) w, a.defers = a'.defers → Q (.panic c) a w → Q (.panic c) a' w) : ∀ (L : List Nat) (listed : Array Bool) (a : Act) (w : World) (fuel : Nat), L.length ≤ fuel →
    orderB md ops calls L listed = true → wpTake P ops Q calls L a w → wpAny P md ops Q fuel listed a w
  | [], listed, a, w, fuel, _, hB, h => wpAny_done (by simpa [orderB] using hB) h fuel
  | i :: rest, listed, a, w, 0, hf, _, _ => by simp at hf
  | i :: rest, listed, a, w, fuel + 1, hf, hB, h => by
    have hf' : rest.length ≤ fuel := by simpa using hf
    unfold orderB at hB
    rw [Bool.and_eq_true] at hB
    obtain ⟨h1, h2⟩ := hB
    unfold wpTake at h
    cases ho : ops[i]? with
    | none => rw [ho] at h; exact h.elim
    | some o =>
      rw [ho] at h
      simp only at h
      by_cases hc : calls.contains i = true
      · rw [if_pos hc] at h1 h
        have hr : Region.ready md ops listed = [i] := by simpa using h1
        refine wpAny_all hr (by simp) (fun j hj => ?_)
        obtain rfl : j = i := by simpa using hj
        unfold wpOp
        simp only [ho]
        split
        · next hw =>
          rw [if_pos hw] at h
          exact .inl (Oper.wp_mono (fun a w h => wpAny_of_take hs hQ rest _ a w fuel hf' h2 h) h)
        · next hw =>
          rw [if_neg hw] at h
          exact wpAny_of_take hs hQ rest _ _ w fuel hf' h2 h
      · rw [if_neg hc] at h1 h
        rw [Bool.and_eq_true] at h1
        by_cases hw : Region.wanted o (yielded ops a.tmps) = true
        · rw [if_pos hw] at h
          obtain ⟨v, hv, h⟩ := h
          exact wpAny_take ho hs h1.1 h1.2 (fun c a w h => hQ c _ _ w (put_defers _ _ _) h) (.inl ⟨hw, hv⟩) (wpAny_of_take hs hQ rest _ _ w fuel hf' h2 h)
        · rw [if_neg hw] at h
          exact wpAny_take ho hs h1.1 h1.2 (fun c a w h => hQ c _ _ w (put_defers _ _ _) h) (.inr ⟨by simpa using hw, rfl⟩) (wpAny_of_take hs hQ rest _ _ w fuel hf' h2 h)

/-- A region that draws its order, by one order of it. -/
theorem wp_region_take {id : Nat} {l : List Oper} {a : Act} {w : World} (calls L : List Nat) (hm : P.follows .mixedOrders = true) (hs : Region.noSelect l.toArray = true) (hB : (decide (L.length ≤ l.length) && orderB .any l.toArray calls L (Array.replicate l.length false)) = true)
    (hQ : ∀ c (a a' : Act) w, a.defers = a'.defers → Q (.panic c) a w → Q (.panic c) a' w) (h : wpTake P l.toArray Q calls L a w.drew) : (Code.region id l.toArray true).wp P Q a w := by
  rw [Bool.and_eq_true] at hB
  refine wp_region_any hm (wpAny_of_take hs hQ L _ a _ _ (by simpa using hB.1) (by simpa using hB.2) h)

theorem take_nil {a : Act} {w : World} (h : Q .normal a w) : wpTake P ops Q calls [] a w := h
theorem take_skip {i : Nat} {o : Oper} {rest : List Nat} {a : Act} {w : World} (ho : ops[i]? = some o) (hw : Region.wanted o (yielded ops a.tmps) = false) (h : wpTake P ops Q calls rest (a.put o.dst undef) w) : wpTake P ops Q calls (i :: rest) a w := by
  unfold wpTake
  simp only [ho, hw]
  exact h
theorem take_blind {i : Nat} {o : Oper} {rest : List Nat} {a : Act} {w : World} (ho : ops[i]? = some o) (hc : calls.contains i = false) (hw : Region.wanted o (yielded ops a.tmps) = true) (v : Value) (hv : ∀ w, (execOp a.eval o).run P w = .ok (.value v) w)
    (h : wpTake P ops Q calls rest (a.put o.dst v) w) : wpTake P ops Q calls (i :: rest) a w := by
  unfold wpTake
  simp only [ho, hw, hc]
  exact ⟨v, hv, h⟩
theorem take_call {i : Nat} {o : Oper} {rest : List Nat} {a : Act} {w : World} (ho : ops[i]? = some o) (hc : calls.contains i = true) (hw : Region.wanted o (yielded ops a.tmps) = true)
    (h : ∀ K : Act → World → Prop, (∀ a w, wpTake P ops Q calls rest a w → K a w) → o.wp P a w K Q) : wpTake P ops Q calls (i :: rest) a w := by
  unfold wpTake
  simp only [ho, hw, hc]
  exact h _ (fun _ _ h => h)
end

theorem blind_move {P : Program} {o : Oper} {a : Act} (x : Operand) (h : o.op = .move x) : ∀ w, (execOp a.eval o).run P w = .ok (.value (a.eval x)) w := BigFrame.run_move x h
theorem blind_assign {P : Program} {o : Oper} {a : Act} (x : Operand) (h : o.op = .assign x) : ∀ w, (execOp a.eval o).run P w = .ok (.value (a.eval x)) w := BigFrame.run_assign x h

open Lean Meta Elab Tactic BigFrame in
/-- The next operation, where it is no call: passed over, or its value by go_simp. -/
elab "take_op" : tactic => withMainContext do
  let g ← getMainGoal
  let t := (← instantiateMVars (← g.getType)).consumeMData
  unless t.isAppOfArity ``wpTake 7 do throwError "take_op: no walk of a region"
  let args := t.getAppArgs
  let (P, ops, Q, calls, L, a, w) := (args[0]!, args[1]!, args[2]!, args[3]!, args[4]!, args[5]!, args[6]!)
  unless L.isAppOfArity ``List.cons 3 do throwError "take_op: the walk is at its end"
  let rest := L.getArg! 2
  let some i := (L.getArg! 1).nat? | throwError "take_op: which operation?"
  unless ops.isAppOfArity ``List.toArray 2 do throwError "take_op: the region is not written out"
  let some opsL := Go.listElems (ops.getArg! 1) | throwError "take_op: the region is not written out"
  let some callsL := Go.listElems calls | throwError "take_op: the calls are not written out"
  let some o := opsL.toArray[i]? | throwError "take_op: no such operation"
  let some slots := slotsOf a | throwError "take_op: the frame is not written out"
  let R : RegionAt := { P, md := mkConst ``Region.Mode.any, ops, Q, opsL := opsL.toArray, opsV := ⟨#[], #[], #[]⟩, blind := false, seen := ← IO.mkRef {} }
  let some want := wantedAt R slots o | throwError "take_op: operation {i}: its guard is not decided"
  let ho ← mkEqRefl (← mkAppM ``Option.some #[o])
  if !want then
    let some a' := putDst a o (mkConst ``undef) | throwError "take_op: which slot?"
    let h ← mkFreshExprSyntheticOpaqueMVar (mkAppN (mkConst ``wpTake) #[P, ops, Q, calls, rest, a', w]) (← g.getTag)
    g.assign (mkAppN (mkConst ``take_skip) #[P, ops, Q, calls, L.getArg! 1, o, rest, a, w, ho, ← mkEqRefl (mkConst ``Bool.false), h])
    replaceMainGoal [h.mvarId!]
    return
  if callsL.any (fun c => c.nat? == some i) then throwError "take_op: operation {i} is a call"
  let op := o.getArg! 1
  let mut found : Option (Lean.Expr × Lean.Expr) := none
  if op.isAppOfArity ``Op.move 1 || op.isAppOfArity ``Op.assign 1 then
    if let some v := operandAt slots op.appArg! then
      let law := if op.isAppOfArity ``Op.move 1 then ``blind_move else ``blind_assign
      found := some (v, mkAppN (mkConst law) #[P, o, a, op.appArg!, ← mkEqRefl op])
  let (v, hv) ← match found with
    | some x => pure x
    | none => do
      let v ← mkFreshExprMVar (mkConst ``Value)
      let lhs ← withLocalDeclD `w (mkConst ``World) fun w => do
        let ex ← mkAppM ``execOp #[← mkAppM ``Act.eval #[a], o]
        let run ← mkAppM ``Sem.run #[P, ex, w]
        let rhs ← mkAppM ``Result.ok #[← mkAppM ``Next.value #[v], w]
        mkForallFVars #[w] (← mkEq run rhs)
      let hv ← mkFreshExprSyntheticOpaqueMVar lhs
      let gs ← getGoals
      setGoals [hv.mvarId!]
      evalTactic (← `(tactic| (intro w; go_simp)))
      unless (← getGoals).isEmpty do evalTactic (← `(tactic| with_reducible rfl))
      unless (← getGoals).isEmpty do throwError "take_op: operation {i} is not run to its end"
      setGoals gs
      pure (← instantiateMVars v, ← instantiateMVars hv)
  let some a' := putDst a o v | throwError "take_op: which slot?"
  let h ← mkFreshExprSyntheticOpaqueMVar (mkAppN (mkConst ``wpTake) #[P, ops, Q, calls, rest, a', w]) (← g.getTag)
  g.assign (mkAppN (mkConst ``take_blind) #[P, ops, Q, calls, L.getArg! 1, o, rest, a, w, ho, ← mkEqRefl (mkConst ``Bool.false), ← mkEqRefl (mkConst ``Bool.true), v, hv, h])
  replaceMainGoal [h.mvarId!]

open Lean Meta Elab Tactic BigFrame in
/-- The next operation is a call: the goal is 'o.wp P a w K Q', with 'K', 'hK' brought in. -/
elab "take_call" : tactic => withMainContext do
  let g ← getMainGoal
  let t := (← instantiateMVars (← g.getType)).consumeMData
  unless t.isAppOfArity ``wpTake 7 do throwError "take_call: no walk of a region"
  let args := t.getAppArgs
  let (P, ops, Q, calls, L, a, w) := (args[0]!, args[1]!, args[2]!, args[3]!, args[4]!, args[5]!, args[6]!)
  unless L.isAppOfArity ``List.cons 3 do throwError "take_call: the walk is at its end"
  let some i := (L.getArg! 1).nat? | throwError "take_call: which operation?"
  let some opsL := Go.listElems (ops.getArg! 1) | throwError "take_call: the region is not written out"
  let some o := opsL.toArray[i]? | throwError "take_call: no such operation"
  let ho ← mkEqRefl (← mkAppM ``Option.some #[o])
  let f := mkAppN (mkConst ``take_call) #[P, ops, Q, calls, L.getArg! 1, o, L.getArg! 2, a, w, ho, ← mkEqRefl (mkConst ``Bool.true), ← mkEqRefl (mkConst ``Bool.true)]
  let .forallE _ dom _ _ ← inferType f | throwError "take_call: the law has changed its shape"
  let h ← mkFreshExprSyntheticOpaqueMVar dom (← g.getTag)
  g.assign (mkApp f h)
  let (_, g') ← h.mvarId!.introN 2 [`K, `hK]
  replaceMainGoal [g']

/-- Operations that are no calls, as many as there are. -/
macro "take_run" : tactic => `(tactic| repeat take_op)
/-- Behind a call: on with the walk. -/
macro "take_on" : tactic => `(tactic| (refine $(Lean.mkIdent `hK) _ _ ?_; clear $(Lean.mkIdent `hK) $(Lean.mkIdent `K); take_run))
end Go.Proofs.Ytejaacejlbhndaa
