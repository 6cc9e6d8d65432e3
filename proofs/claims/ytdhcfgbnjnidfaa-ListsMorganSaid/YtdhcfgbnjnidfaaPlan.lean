/- A region that draws its order, walked by a plan: what may be taken first, what comes up alone, and two that may come up in either order. In the rounds of a range over a function, too. 's[i:j:k]' within a fence. No program in sight. -/
import Derived.Test.YtdhcfgbnjnidfaaTakeR
import Derived.Test.YtdhcfgbnjnidfaaRange
import Derived.OrdersIn
namespace Go.Proofs.Ytdhcfgbnjnidfaa
open Go Go.RowKit

inductive Plan where
  | done
  | take (i : Nat) (p : Plan)
  | one (i : Nat) (p : Plan)
  | two (i j : Nat) (p q : Plan)

def planOk (md : Region.Mode) (ops : Array Oper) : Plan → Array Bool → Bool
  | .done, listed => (Region.ready md ops listed).isEmpty
  | .take i p, listed => Region.free md ops listed i && (Region.ready md ops listed).contains i && planOk md ops p (listed.setIfInBounds i true)
  | .one i p, listed => Region.ready md ops listed == [i] && planOk md ops p (listed.setIfInBounds i true)
  | .two i j p q, listed => Region.ready md ops listed == [i, j] && (planOk md ops p (listed.setIfInBounds i true) && planOk md ops q (listed.setIfInBounds j true))
def Plan.steps : Plan → Nat
  | .done => 0
  | .take _ p => p.steps + 1
  | .one _ p => p.steps + 1
  | .two _ _ p q => max p.steps q.steps + 1

/-- An operation of the region, by its number. -/
def wpNum (P : Program) (ops : Array Oper) (Q : Exit → Act → World → Prop) (i : Nat) (K : Act → World → Prop) (a : Act) (w : World) : Prop :=
  match ops[i]? with
  | none => False
  | some o => if Region.wanted o (yielded ops a.tmps) = true then o.wp P a w K Q else K (a.put o.dst undef) w
def wpPlan (P : Program) (ops : Array Oper) (Q : Exit → Act → World → Prop) : Plan → Act → World → Prop
  | .done, a, w => Q .normal a w
  | .take i p, a, w => match ops[i]? with
    | none => False
    | some o => if Region.wanted o (yielded ops a.tmps) = true then ∃ v, (∀ w, (execOp a.eval o).run P w = .ok (.value v) w) ∧ wpPlan P ops Q p (a.put o.dst v) w else wpPlan P ops Q p (a.put o.dst undef) w
  | .one i p, a, w => wpNum P ops Q i (wpPlan P ops Q p) a w
  | .two i j p q, a, w => wpNum P ops Q i (wpPlan P ops Q p) a w ∧ wpNum P ops Q j (wpPlan P ops Q q) a w

section
variable {P : Program} {ops : Array Oper} {Q : Exit → Act → World → Prop} {md : Region.Mode}
theorem wpOp_of_num {i : Nat} {K K' : Act → World → Prop} {a : Act} {w : World} (hK : ∀ a w, K a w → K' a w) (h : wpNum P ops Q i K a w) : wpOp P ops Q i K' a w := by
  unfold wpNum at h
  unfold wpOp
  cases ho : ops[i]? with
  | none => rw [ho] at h; exact h.elim
  | some o =>
    rw [ho] at h
    simp only at h ⊢
    split
    · next hw =>
      rw [if_pos hw] at h
      exact .inl (Oper.wp_mono hK h)
    · next hw =>
      rw [if_neg hw] at h
      exact hK _ _ h
theorem wpAny_of_plan (hs : Region.noSelect ops = true) (hQ : ∀ c (a a' : Act) w, a.defers = a'.defers → Q (.panic c) a w → Q (.panic c) a' w) : ∀ (p : Plan) (listed : Array Bool) (a : Act) (w : World) (fuel : Nat), p.steps ≤ fuel →
    planOk md ops p listed = true → wpPlan P ops Q p a w → wpAny P md ops Q fuel listed a w
  | .done, listed, a, w, fuel, _, hB, h => wpAny_done (by simpa [planOk] using hB) h fuel
  | .take i p, listed, a, w, 0, hf, _, _ => by simp [Plan.steps] at hf
  | .take i p, listed, a, w, fuel + 1, hf, hB, h => by
    have hf' : p.steps ≤ fuel := by simpa [Plan.steps] using hf
    simp only [planOk, Bool.and_eq_true] at hB
    unfold wpPlan at h
    cases ho : ops[i]? with
    | none => rw [ho] at h; exact h.elim
    | some o =>
      rw [ho] at h
      simp only at h
      by_cases hw : Region.wanted o (yielded ops a.tmps) = true
      · rw [if_pos hw] at h
        obtain ⟨v, hv, h⟩ := h
        exact wpAny_take ho hs hB.1.1 hB.1.2 (fun c a w h => hQ c _ _ w (put_defers _ _ _) h) (.inl ⟨hw, hv⟩) (wpAny_of_plan hs hQ p _ _ w fuel hf' hB.2 h)
      · rw [if_neg hw] at h
        exact wpAny_take ho hs hB.1.1 hB.1.2 (fun c a w h => hQ c _ _ w (put_defers _ _ _) h) (.inr ⟨by simpa using hw, rfl⟩) (wpAny_of_plan hs hQ p _ _ w fuel hf' hB.2 h)
  | .one i p, listed, a, w, 0, hf, _, _ => by simp [Plan.steps] at hf
  | .one i p, listed, a, w, fuel + 1, hf, hB, h => by
    have hf' : p.steps ≤ fuel := by simpa [Plan.steps] using hf
    simp only [planOk, Bool.and_eq_true, beq_iff_eq] at hB
    refine wpAny_all hB.1 (by simp) (fun j hj => ?_)
    obtain rfl : j = i := by simpa using hj
    exact wpOp_of_num (fun a w h => wpAny_of_plan hs hQ p _ a w fuel hf' hB.2 h) h
  | .two i j p q, listed, a, w, 0, hf, _, _ => by simp [Plan.steps] at hf
  | .two i j p q, listed, a, w, fuel + 1, hf, hB, h => by
    have hf' : max p.steps q.steps ≤ fuel := by simpa [Plan.steps] using hf
    simp only [planOk, Bool.and_eq_true, beq_iff_eq] at hB
    refine wpAny_all hB.1 (by simp) (fun m hm => ?_)
    have hm' : m = i ∨ m = j := by simpa using hm
    rcases hm' with rfl | rfl
    · exact wpOp_of_num (fun a w h => wpAny_of_plan hs hQ p _ a w fuel (by omega) hB.2.1 h) h.1
    · exact wpOp_of_num (fun a w h => wpAny_of_plan hs hQ q _ a w fuel (by omega) hB.2.2 h) h.2

/-- In a round, as everywhere. -/
theorem wpAnyIn_round {r n : Nat} (hQ : ¬ LetsOut Q) (hd : ∀ o ∈ ops.toList, ∀ c, o.op ≠ .defer c) : ∀ (fuel : Nat) (listed : Array Bool) (a : Act) (w : World), wpAny P md ops Q fuel listed a w → wpAnyIn (Fence.wide.inRound r) n P md ops Q fuel listed a w
  | 0, _, _, _, h => h
  | fuel + 1, listed, a, w, h => ⟨h.1, fun i hi => by
    have h2 := h.2 i hi
    unfold wpOp at h2
    unfold wpOpIn
    cases ho : ops[i]? with
    | none =>
      rw [ho] at h2
      exact wpAnyIn_round hQ hd fuel _ _ _ h2
    | some o =>
      rw [ho] at h2
      simp only at h2 ⊢
      have hmem : o ∈ ops.toList := by
        rw [← Array.getElem?_toList] at ho
        exact List.mem_of_getElem? ho
      split
      · next hw =>
        rw [if_pos hw] at h2
        rcases h2 with h2 | h2
        · exact operIn_round (hd o hmem) (fun a w => wpAnyIn_round hQ hd fuel _ a w) hQ h2
        · exact absurd h2.2 hQ
      · next hw =>
        rw [if_neg hw] at h2
        exact ⟨fun _ _ => trivial, wpAnyIn_round hQ hd fuel _ _ _ h2⟩⟩
theorem wpIn_region_plan {r n id : Nat} {a : Act} {w : World} (p : Plan) (hm : P.follows .mixedOrders = true) (hs : Region.noSelect ops = true) (hB : (decide (p.steps ≤ ops.size) && planOk .any ops p (Array.replicate ops.size false)) = true)
    (hl : ¬ LetsOut Q) (hd : ∀ o ∈ ops.toList, ∀ c, o.op ≠ .defer c) (hQ : ∀ c (a a' : Act) w, a.defers = a'.defers → Q (.panic c) a w → Q (.panic c) a' w) (h : wpPlan P ops Q p a w.drew) : (Code.region id ops true).wpIn (Fence.wide.inRound r) n P Q a w := by
  rw [Bool.and_eq_true] at hB
  exact wpIn_region_any hm (wpAnyIn_round hl hd _ _ _ _ (wpAny_of_plan hs hQ p _ _ _ _ (by simpa using hB.1) hB.2 h))
theorem wp_region_plan {id : Nat} {a : Act} {w : World} (p : Plan) (hm : P.follows .mixedOrders = true) (hs : Region.noSelect ops = true) (hB : (decide (p.steps ≤ ops.size) && planOk .any ops p (Array.replicate ops.size false)) = true)
    (hQ : ∀ c (a a' : Act) w, a.defers = a'.defers → Q (.panic c) a w → Q (.panic c) a' w) (h : wpPlan P ops Q p a w.drew) : (Code.region id ops true).wp P Q a w := by
  rw [Bool.and_eq_true] at hB
  exact wp_region_any hm (wpAny_of_plan hs hQ p _ _ _ _ (by simpa using hB.1) hB.2 h)

theorem plan_done {a : Act} {w : World} (h : Q .normal a w) : wpPlan P ops Q .done a w := h
theorem plan_take {i : Nat} {o : Oper} {p : Plan} {a : Act} {w : World} (ho : ops[i]? = some o) (hw : Region.wanted o (yielded ops a.tmps) = true) (v : Value) (hv : ∀ w, (execOp a.eval o).run P w = .ok (.value v) w) (h : wpPlan P ops Q p (a.put o.dst v) w) : wpPlan P ops Q (.take i p) a w := by
  unfold wpPlan
  simp only [ho, hw]
  exact ⟨v, hv, h⟩
theorem plan_one {i : Nat} {o : Oper} {p : Plan} {a : Act} {w : World} (ho : ops[i]? = some o) (hw : Region.wanted o (yielded ops a.tmps) = true) (h : ∀ K : Act → World → Prop, (∀ a w, wpPlan P ops Q p a w → K a w) → o.wp P a w K Q) : wpPlan P ops Q (.one i p) a w := by
  unfold wpPlan wpNum
  simp only [ho, hw]
  exact h _ (fun _ _ h => h)
theorem plan_run {i : Nat} {o : Oper} {p : Plan} {a : Act} {w : World} (ho : ops[i]? = some o) (hw : Region.wanted o (yielded ops a.tmps) = true) (v : Value) (w2 : World) (hr : (execOp a.eval o).run P w = .ok (.value v) w2) (h : wpPlan P ops Q p (a.put o.dst v) w2) : wpPlan P ops Q (.one i p) a w := by
  refine plan_one ho hw (fun K hK => ?_)
  unfold Oper.wp
  rw [hr]
  exact hK _ _ h
/-- 'append(s, x...)', alone. -/
theorem plan_extend {t e : TypeId} {sz bytes : Nat} (hE : Elem P t e sz bytes) {i : Nat} {o : Oper} {p : Plan} {a : Act} {w : World} (ho : ops[i]? = some o) (hw : Region.wanted o (yielded ops a.tmps) = true) (s x : Operand)
    (hop : o.op = .call { callee := .builtin .append, args := #[s, x], argTypes := #[t, t] }) {v v2 : Value} (hs : a.eval s = v) (hx : a.eval x = v2) {n m : Nat} {xs news : List Value} (hown : w.ownsRow 0 e sz v n xs) (hr : Rd w sz v2 m news) (h1 : ∀ u ∈ news, u.oneCell' = true) (hb : (n + m) * bytes ≤ 140737488355328 ∧ n + m ≤ maxLen)
    (h : ∀ v' w', w'.ownsRow 0 e sz v' (n + m) (xs ++ news) → Mods (fun k => v.ownBlock = some k) w w' → Fresh w.heap.size v v' → wpPlan P ops Q p (a.put o.dst v') w') : wpPlan P ops Q (.one i p) a w := by
  obtain ⟨v', w', hrun, h2, h3, h4⟩ := exec_extend hE w v v2 n m xs news hown hr h1 hb s x hop hs hx
  exact plan_run ho hw v' w' hrun (h v' w' h2 h3 h4)
theorem plan_two {i j : Nat} {p q : Plan} {a : Act} {w : World} (h1 : wpPlan P ops Q (.one i p) a w) (h2 : wpPlan P ops Q (.one j q) a w) : wpPlan P ops Q (.two i j p q) a w := ⟨h1, h2⟩
end

section
variable {P : Program} {ops : Array Oper} {rest : List Oper} {o : Oper} {a : Act} {w : World} {Q : Exit → Act → World → Prop} {n : Nat}
/-- An operation that yields a value, within the widest fence. -/
theorem wpListIn_run (hgd : Region.wanted o (yielded ops a.tmps) = true) (v : Value) (w2 : World) (hr : (execOp a.eval o).run P w = .ok (.value v) w2) (h : wpListIn Fence.wide n P ops Q rest (a.put o.dst v) w2) : wpListIn Fence.wide n P ops Q (o :: rest) a w := by
  unfold wpListIn
  rw [if_pos hgd]
  refine ⟨fun _ _ => trivial, ?_⟩
  show o.uponIn _ n P a _ Q ((o.semAt none a.eval).run P w)
  rw [Oper.semAt_none, hr]
  exact h
/-- What 's[i:k:k]' yields. -/
theorem exec_slice3 {t e : TypeId} {sz bytes : Nat} (hE : Elem P t e sz bytes) (w : World) (p : Option Addr) (m c i k : Nat) (hi : i < k) (hk : k ≤ c) {o : Oper} {a : Act} (s x y z : Operand) (ho : o.op = .slice t s (some x) (some y) (some z))
    (hs : a.eval s = .slice p m c) (hx : a.eval x = .int .i64 (i : Int)) (hy : a.eval y = .int .i64 (k : Int)) (hz : a.eval z = .int .i64 (k : Int)) : (execOp a.eval o).run P w = .ok (.value (.slice (p.map (·.add (i * sz))) (k - i) (k - i))) w := by
  obtain ⟨inf, z0, hinf, hz0, hsize, hby, hzs⟩ := hE.hi
  have helem : P.elem t = e := by simp [Program.elem, hE.ht]
  have hu : P.underlying t = some (.slice (P.elem t)) := by rw [helem]; exact hE.ht
  have hr : (Instr.sliceAt t (.slice p m c) (some (.int .i64 (i : Int))) (some (.int .i64 (k : Int))) (some (.int .i64 (k : Int)))).run P w = .ok (.slice (p.map (·.add (i * sz))) (k - i) (k - i)) w := by
    have hsz := run_sizeOf (w := w) (show P.info? (P.elem t) = some inf by rw [helem]; exact hinf)
    rw [run_sliceAt_slice (h := hu), run_slice_lhm (ht := hu) (h0 := by omega) (h1 := by omega) (h2 := by omega) (h3 := by omega), hsz]
    have hcell : P.cellsOf (P.elem t) = sz := by rw [helem]; simp [Program.cellsOf, hinf, hsize]
    have hne : ¬ k = i := by omega
    simp [Result.andThen, sliced, hne, hcell]
  unfold execOp
  simp only [ho, Sem.run_bind, Sem.run_pure, Result.andThen_ok, hs, hx, hy, hz, hr, Option.map_some]
/-- What 'min(x, y)' yields. -/
theorem exec_min (w : World) {o : Oper} {a : Act} (x y : Operand) (t1 t2 : TypeId) (X Y R : Int) (ho : o.op = .call { callee := .builtin .min, args := #[x, y], argTypes := #[t1, t2] }) (hx : a.eval x = .int .i64 X) (hy : a.eval y = .int .i64 Y) (hR : (if Y < X then Y else X) = R) : (execOp a.eval o).run P w = .ok (.value (.int .i64 R)) w := by
  subst hR
  unfold execOp
  simp only [ho, resolve, invoke, BigFrame.builtin_min, Sem.run_bind, Sem.run_pure, Result.andThen_ok, List.map_toArray, List.map_cons, List.map_nil, hx, hy, run_min_int2]
end
end Go.Proofs.Ytdhcfgbnjnidfaa
