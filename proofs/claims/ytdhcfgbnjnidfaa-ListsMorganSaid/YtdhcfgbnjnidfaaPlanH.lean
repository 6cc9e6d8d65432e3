/- A region that draws its order, walked by a plan, where operations beside the calls may read memory: a condition S on the world, which what the plan runs keeps, says what they read. No program in sight. -/
import Derived.Test.YtdhcfgbnjnidfaaPlan
import Derived.Test.YtdhcfgbnjnidfaaTakeR
namespace Go.Proofs.Ytdhcfgbnjnidfaa
open Go Go.RowKit

def wpPlanH (P : Program) (ops : Array Oper) (Q : Exit → Act → World → Prop) (S : World → Prop) : Plan → Act → World → Prop
  | .done, a, w => Q .normal a w
  | .take i p, a, w => match ops[i]? with
    | none => False
    | some o => if Region.wanted o (yielded ops a.tmps) = true then ∃ v, (∀ w, S w → (execOp a.eval o).run P w = .ok (.value v) w) ∧ wpPlanH P ops Q S p (a.put o.dst v) w else wpPlanH P ops Q S p (a.put o.dst undef) w
  | .one i p, a, w => wpNum P ops Q i (fun a w => S w ∧ wpPlanH P ops Q S p a w) a w
  | .two i j p q, a, w => wpNum P ops Q i (fun a w => S w ∧ wpPlanH P ops Q S p a w) a w ∧ wpNum P ops Q j (fun a w => S w ∧ wpPlanH P ops Q S q a w) a w

section
variable {P : Program} {ops : Array Oper} {Q : Exit → Act → World → Prop} {S : World → Prop} {md : Region.Mode}
theorem wpAnyH_of_plan (hs : Region.noSelect ops = true) (hQ : ∀ c (a a' : Act) w, a.defers = a'.defers → Q (.panic c) a w → Q (.panic c) a' w) : ∀ (p : Plan) (listed : Array Bool) (a : Act) (w : World) (fuel : Nat), p.steps ≤ fuel →
    planOk md ops p listed = true → S w → wpPlanH P ops Q S p a w → wpAnyH P md ops Q S fuel listed a w
  | .done, listed, a, w, fuel, _, hB, _, h => wpAnyH_done (by simpa [planOk] using hB) h fuel
  | .take i p, listed, a, w, 0, hf, _, _, _ => by simp [Plan.steps] at hf
  | .take i p, listed, a, w, fuel + 1, hf, hB, hS, h => by
    have hf' : p.steps ≤ fuel := by simpa [Plan.steps] using hf
    simp only [planOk, Bool.and_eq_true] at hB
    unfold wpPlanH at h
    cases ho : ops[i]? with
    | none => rw [ho] at h; exact h.elim
    | some o =>
      rw [ho] at h
      simp only at h
      by_cases hw : Region.wanted o (yielded ops a.tmps) = true
      · rw [if_pos hw] at h
        obtain ⟨v, hv, h⟩ := h
        exact wpAnyH_take ho hs hB.1.1 hB.1.2 (fun c a w h => hQ c _ _ w (put_defers _ _ _) h) (.inl ⟨hw, hv⟩) hS (wpAnyH_of_plan hs hQ p _ _ w fuel hf' hB.2 hS h)
      · rw [if_neg hw] at h
        exact wpAnyH_take ho hs hB.1.1 hB.1.2 (fun c a w h => hQ c _ _ w (put_defers _ _ _) h) (.inr ⟨by simpa using hw, rfl⟩) hS (wpAnyH_of_plan hs hQ p _ _ w fuel hf' hB.2 hS h)
  | .one i p, listed, a, w, 0, hf, _, _, _ => by simp [Plan.steps] at hf
  | .one i p, listed, a, w, fuel + 1, hf, hB, hS, h => by
    have hf' : p.steps ≤ fuel := by simpa [Plan.steps] using hf
    simp only [planOk, Bool.and_eq_true, beq_iff_eq] at hB
    refine wpAnyH_all hB.1 (by simp) (fun j hj => ?_)
    obtain rfl : j = i := by simpa using hj
    exact wpOp_of_num (fun a w h => ⟨h.1, wpAnyH_of_plan hs hQ p _ a w fuel hf' hB.2 h.1 h.2⟩) h
  | .two i j p q, listed, a, w, 0, hf, _, _, _ => by simp [Plan.steps] at hf
  | .two i j p q, listed, a, w, fuel + 1, hf, hB, hS, h => by
    have hf' : max p.steps q.steps ≤ fuel := by simpa [Plan.steps] using hf
    simp only [planOk, Bool.and_eq_true, beq_iff_eq] at hB
    refine wpAnyH_all hB.1 (by simp) (fun m hm => ?_)
    have hm' : m = i ∨ m = j := by simpa using hm
    rcases hm' with rfl | rfl
    · exact wpOp_of_num (fun a w h => ⟨h.1, wpAnyH_of_plan hs hQ p _ a w fuel (by omega) hB.2.1 h.1 h.2⟩) h.1
    · exact wpOp_of_num (fun a w h => ⟨h.1, wpAnyH_of_plan hs hQ q _ a w fuel (by omega) hB.2.2 h.1 h.2⟩) h.2
theorem wp_region_planH {id : Nat} {a : Act} {w : World} (S : World → Prop) (p : Plan) (hm : P.follows .mixedOrders = true) (hs : Region.noSelect ops = true) (hB : (decide (p.steps ≤ ops.size) && planOk .any ops p (Array.replicate ops.size false)) = true)
    (hQ : ∀ c (a a' : Act) w, a.defers = a'.defers → Q (.panic c) a w → Q (.panic c) a' w) (hS : S w.drew) (h : wpPlanH P ops Q S p a w.drew) : (Code.region id ops true).wp P Q a w := by
  rw [Bool.and_eq_true] at hB
  exact wp_region_held hm (wpAnyH_of_plan hs hQ p _ _ _ _ (by simpa using hB.1) hB.2 hS h)

/-- A plan whose operations are written out. -/
inductive PlanO where
  | done
  | take (o : Oper) (p : PlanO)
  | one (o : Oper) (p : PlanO)
  | two (o1 o2 : Oper) (p q : PlanO)
def noOp : Oper := { dst := none, op := .move (.tmp 0), type := 0, pos := "", after := #[], guard := none }
def planned (l : List Oper) : Plan → PlanO
  | .done => .done
  | .take i p => .take (l[i]?.getD noOp) (planned l p)
  | .one i p => .one (l[i]?.getD noOp) (planned l p)
  | .two i j p q => .two (l[i]?.getD noOp) (l[j]?.getD noOp) (planned l p) (planned l q)
def planIn (n : Nat) : Plan → Bool
  | .done => true
  | .take i p => decide (i < n) && planIn n p
  | .one i p => decide (i < n) && planIn n p
  | .two i j p q => decide (i < n) && (decide (j < n) && (planIn n p && planIn n q))
def wpNumO (P : Program) (ops : Array Oper) (Q : Exit → Act → World → Prop) (o : Oper) (K : Act → World → Prop) (a : Act) (w : World) : Prop :=
  if Region.wanted o (yielded ops a.tmps) = true then o.wp P a w K Q else K (a.put o.dst undef) w
def wpPlanO (P : Program) (ops : Array Oper) (Q : Exit → Act → World → Prop) (S : World → Prop) : PlanO → Act → World → Prop
  | .done, a, w => Q .normal a w
  | .take o p, a, w => if Region.wanted o (yielded ops a.tmps) = true then ∃ v, (∀ w, S w → (execOp a.eval o).run P w = .ok (.value v) w) ∧ wpPlanO P ops Q S p (a.put o.dst v) w else wpPlanO P ops Q S p (a.put o.dst undef) w
  | .one o p, a, w => wpNumO P ops Q o (fun a w => S w ∧ wpPlanO P ops Q S p a w) a w
  | .two o1 o2 p q, a, w => wpNumO P ops Q o1 (fun a w => S w ∧ wpPlanO P ops Q S p a w) a w ∧ wpNumO P ops Q o2 (fun a w => S w ∧ wpPlanO P ops Q S q a w) a w
end
section
variable {P : Program} {l : List Oper} {Q : Exit → Act → World → Prop} {S : World → Prop}
theorem num_of_O {i : Nat} (hi : i < l.length) {K K' : Act → World → Prop} {a : Act} {w : World} (hK : ∀ a w, K a w → K' a w) (h : wpNumO P l.toArray Q (l[i]?.getD noOp) K a w) : wpNum P l.toArray Q i K' a w := by
  have ho : l[i]?.getD noOp = l[i] := by simp [hi]
  rw [ho] at h
  unfold wpNumO at h
  unfold wpNum
  have h2 : l.toArray[i]? = some l[i] := by simp [hi]
  simp only [h2]
  split
  · next hw => rw [if_pos hw] at h; exact Oper.wp_mono hK h
  · next hw => rw [if_neg hw] at h; exact hK _ _ h
theorem planH_of_O : ∀ (p : Plan) (a : Act) (w : World), planIn l.length p = true → wpPlanO P l.toArray Q S (planned l p) a w → wpPlanH P l.toArray Q S p a w
  | .done, a, w, _, h => h
  | .take i p, a, w, hi, h => by
    simp only [planIn, Bool.and_eq_true, decide_eq_true_eq] at hi
    have ho : l[i]?.getD noOp = l[i] := by simp [hi.1]
    have h2 : l.toArray[i]? = some l[i] := by simp [hi.1]
    unfold planned wpPlanO at h
    rw [ho] at h
    unfold wpPlanH
    simp only [h2]
    split
    · next hw =>
      rw [if_pos hw] at h
      obtain ⟨v, h3, h4⟩ := h
      exact ⟨v, h3, planH_of_O p _ _ hi.2 h4⟩
    · next hw => rw [if_neg hw] at h; exact planH_of_O p _ _ hi.2 h
  | .one i p, a, w, hi, h => by
    simp only [planIn, Bool.and_eq_true, decide_eq_true_eq] at hi
    exact num_of_O hi.1 (fun a w h => ⟨h.1, planH_of_O p a w hi.2 h.2⟩) h
  | .two i j p q, a, w, hi, h => by
    simp only [planIn, Bool.and_eq_true, decide_eq_true_eq] at hi
    exact ⟨num_of_O hi.1 (fun a w h => ⟨h.1, planH_of_O p a w hi.2.2.1 h.2⟩) h.1, num_of_O hi.2.1 (fun a w h => ⟨h.1, planH_of_O q a w hi.2.2.2 h.2⟩) h.2⟩
/-- The region, by a plan whose operations are written out. -/
theorem wp_region_planO {id : Nat} {a : Act} {w : World} (S : World → Prop) (p : Plan) (hm : P.follows .mixedOrders = true) (hs : Region.noSelect l.toArray = true) (hB : (planIn l.length p && (decide (p.steps ≤ l.toArray.size) && planOk .any l.toArray p (Array.replicate l.toArray.size false))) = true)
    (hQ : ∀ c (a a' : Act) w, a.defers = a'.defers → Q (.panic c) a w → Q (.panic c) a' w) (hS : S w.drew) (h : wpPlanO P l.toArray Q S (planned l p) a w.drew) : (Code.region id l.toArray true).wp P Q a w := by
  rw [Bool.and_eq_true] at hB
  exact wp_region_planH S p hm hs hB.2 hQ hS (planH_of_O p _ _ hB.1 h)
variable {ops : Array Oper}
theorem takeP_done {a : Act} {w : World} (h : Q .normal a w) : wpPlanO P ops Q S .done a w := h
theorem takeP_skip {o : Oper} {p : PlanO} {a : Act} {w : World} (hw : Region.wanted o (yielded ops a.tmps) = false) (h : wpPlanO P ops Q S p (a.put o.dst undef) w) : wpPlanO P ops Q S (.take o p) a w := by
  unfold wpPlanO
  simp only [hw]
  exact h
theorem takeP_blind {o : Oper} {p : PlanO} {a : Act} {w : World} (hw : Region.wanted o (yielded ops a.tmps) = true)
    (h : ∃ v, (∀ w, (execOp a.eval o).run P w = .ok (.value v) w) ∧ wpPlanO P ops Q S p (a.put o.dst v) w) : wpPlanO P ops Q S (.take o p) a w := by
  unfold wpPlanO
  simp only [hw]
  obtain ⟨v, h1, h2⟩ := h
  exact ⟨v, fun w _ => h1 w, h2⟩
theorem takeP_reads {o : Oper} {p : PlanO} {a : Act} {w : World} (hw : Region.wanted o (yielded ops a.tmps) = true)
    (h : ∃ v, (∀ w, S w → (execOp a.eval o).run P w = .ok (.value v) w) ∧ wpPlanO P ops Q S p (a.put o.dst v) w) : wpPlanO P ops Q S (.take o p) a w := by
  unfold wpPlanO
  simp only [hw]
  exact h
theorem takeP_one {o : Oper} {p : PlanO} {a : Act} {w : World} (hw : Region.wanted o (yielded ops a.tmps) = true) (h : ∀ K : Act → World → Prop, (∀ a w, S w → wpPlanO P ops Q S p a w → K a w) → o.wp P a w K Q) : wpPlanO P ops Q S (.one o p) a w := by
  unfold wpPlanO wpNumO
  simp only [hw]
  exact h _ (fun _ _ h1 h2 => ⟨h1, h2⟩)
/-- An operation that is run at once. -/
theorem takeP_run {o : Oper} {p : PlanO} {a : Act} {w : World} (hw : Region.wanted o (yielded ops a.tmps) = true) (v : Value) (w2 : World) (hr : (execOp a.eval o).run P w = .ok (.value v) w2) (hS : S w2) (h : wpPlanO P ops Q S p (a.put o.dst v) w2) : wpPlanO P ops Q S (.one o p) a w := by
  refine takeP_one hw (fun K hK => ?_)
  unfold Oper.wp
  rw [hr]
  exact hK _ _ hS h
theorem takeP_two {o1 o2 : Oper} {p q : PlanO} {a : Act} {w : World} (h1 : wpPlanO P ops Q S (.one o1 p) a w) (h2 : wpPlanO P ops Q S (.one o2 q) a w) : wpPlanO P ops Q S (.two o1 o2 p q) a w := ⟨h1, h2⟩
end
end Go.Proofs.Ytdhcfgbnjnidfaa
