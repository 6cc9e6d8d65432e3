/- A region that draws its order, walked in ONE order, where operations beside the calls may read memory: a condition S on the world, which every call keeps, says what they read. No program in sight. -/
import Derived.Test.YtdhcfgbnjnidfaaTake
import Derived.Test.YtdhcfgbnjnidfaaFrom
import Derived.OrdersHeld
namespace Go.Proofs.Ytdhcfgbnjnidfaa
open Go Go.RowKit

def wpTakeH (P : Program) (ops : Array Oper) (Q : Exit → Act → World → Prop) (calls : List Nat) (S : World → Prop) : List (Nat × Oper) → Act → World → Prop
  | [], a, w => Q .normal a w
  | (i, o) :: rest, a, w => if Region.wanted o (yielded ops a.tmps) = true then
        (if calls.contains i = true then o.wp P a w (fun a' w' => S w' ∧ wpTakeH P ops Q calls S rest a' w') Q else ∃ v, (∀ w, S w → (execOp a.eval o).run P w = .ok (.value v) w) ∧ wpTakeH P ops Q calls S rest (a.put o.dst v) w)
      else wpTakeH P ops Q calls S rest (a.put o.dst undef) w

section
variable {P : Program} {l : List Oper} {Q : Exit → Act → World → Prop} {md : Region.Mode} {calls : List Nat} {S : World → Prop}

theorem wpAnyH_of_take (hs : Region.noSelect l.toArray = true) (hQ : ∀ c (a a' : Act) w, a.defers = a'.defers → Q (.panic c) a w → Q (.panic c) a' w) : ∀ (L : List Nat) (listed : Array Bool) (a : Act) (w : World) (fuel : Nat), L.length ≤ fuel →
    (∀ i ∈ L, i < l.length) → orderB md l.toArray calls L listed = true → S w → wpTakeH P l.toArray Q calls S (taken l L) a w → wpAnyH P md l.toArray Q S fuel listed a w
  | [], listed, a, w, fuel, _, _, hB, _, h => wpAnyH_done (by simpa [orderB] using hB) h fuel
  | i :: rest, listed, a, w, 0, hf, _, _, _, _ => by simp at hf
  | i :: rest, listed, a, w, fuel + 1, hf, hl, hB, hS, h => by
    have hf' : rest.length ≤ fuel := by simpa using hf
    have hl' : ∀ j ∈ rest, j < l.length := fun j hj => hl j (by simp [hj])
    have hi : i < l.length := hl i (by simp)
    unfold orderB at hB
    rw [Bool.and_eq_true] at hB
    obtain ⟨h1, h2⟩ := hB
    have ho : l.toArray[i]? = some l[i] := by simp [hi]
    have e : taken l (i :: rest) = (i, l[i]) :: taken l rest := by simp [taken, hi]
    rw [e] at h
    unfold wpTakeH at h
    generalize l[i] = o at *
    by_cases hc : calls.contains i = true
    · rw [if_pos hc] at h1 h
      have hr : Region.ready md l.toArray listed = [i] := by simpa using h1
      refine wpAnyH_all hr (by simp) (fun j hj => ?_)
      obtain rfl : j = i := by simpa using hj
      unfold wpOp
      simp only [ho]
      split
      · next hw =>
        rw [if_pos hw] at h
        exact .inl (Oper.wp_mono (fun a w h => ⟨h.1, wpAnyH_of_take hs hQ rest _ a w fuel hf' hl' h2 h.1 h.2⟩) h)
      · next hw =>
        rw [if_neg hw] at h
        exact ⟨hS, wpAnyH_of_take hs hQ rest _ _ w fuel hf' hl' h2 hS h⟩
    · rw [if_neg hc] at h1 h
      rw [Bool.and_eq_true] at h1
      by_cases hw : Region.wanted o (yielded l.toArray a.tmps) = true
      · rw [if_pos hw] at h
        obtain ⟨v, hv, h⟩ := h
        exact wpAnyH_take ho hs h1.1 h1.2 (fun c a w h => hQ c _ _ w (put_defers _ _ _) h) (.inl ⟨hw, hv⟩) hS (wpAnyH_of_take hs hQ rest _ _ w fuel hf' hl' h2 hS h)
      · rw [if_neg hw] at h
        exact wpAnyH_take ho hs h1.1 h1.2 (fun c a w h => hQ c _ _ w (put_defers _ _ _) h) (.inr ⟨by simpa using hw, rfl⟩) hS (wpAnyH_of_take hs hQ rest _ _ w fuel hf' hl' h2 hS h)

theorem wp_region_takeH {id : Nat} {a : Act} {w : World} (S : World → Prop) (calls L : List Nat) (hm : P.follows .mixedOrders = true) (hs : Region.noSelect l.toArray = true) (hB : (decide (L.length ≤ l.length) && (L.all (fun i => decide (i < l.length)) && orderB .any l.toArray calls L (Array.replicate l.length false))) = true)
    (hQ : ∀ c (a a' : Act) w, a.defers = a'.defers → Q (.panic c) a w → Q (.panic c) a' w) (hS : S w.drew) (h : wpTakeH P l.toArray Q calls S (taken l L) a w.drew) : (Code.region id l.toArray true).wp P Q a w := by
  rw [Bool.and_eq_true, Bool.and_eq_true] at hB
  refine wp_region_held hm (wpAnyH_of_take hs hQ L _ a _ _ (by simpa using hB.1) (by simpa using hB.2.1) (by simpa using hB.2.2) hS h)

variable {ops : Array Oper}
theorem takeH_nil {a : Act} {w : World} (h : Q .normal a w) : wpTakeH P ops Q calls S [] a w := h
theorem takeH_skip {i : Nat} {o : Oper} {rest : List (Nat × Oper)} {a : Act} {w : World} (hw : Region.wanted o (yielded ops a.tmps) = false) (h : wpTakeH P ops Q calls S rest (a.put o.dst undef) w) : wpTakeH P ops Q calls S ((i, o) :: rest) a w := by
  unfold wpTakeH
  simp only [hw]
  exact h
theorem takeH_blind {i : Nat} {o : Oper} {rest : List (Nat × Oper)} {a : Act} {w : World} (hc : calls.contains i = false) (hw : Region.wanted o (yielded ops a.tmps) = true)
    (h : ∃ v, (∀ w, (execOp a.eval o).run P w = .ok (.value v) w) ∧ wpTakeH P ops Q calls S rest (a.put o.dst v) w) : wpTakeH P ops Q calls S ((i, o) :: rest) a w := by
  unfold wpTakeH
  simp only [hw, hc]
  obtain ⟨v, h1, h2⟩ := h
  exact ⟨v, fun w _ => h1 w, h2⟩
/-- An operation that reads memory: what it yields holds in every world that meets S. -/
theorem takeH_read {i : Nat} {o : Oper} {rest : List (Nat × Oper)} {a : Act} {w : World} (hc : calls.contains i = false) (hw : Region.wanted o (yielded ops a.tmps) = true) (v : Value)
    (h1 : ∀ w, S w → (execOp a.eval o).run P w = .ok (.value v) w) (h : wpTakeH P ops Q calls S rest (a.put o.dst v) w) : wpTakeH P ops Q calls S ((i, o) :: rest) a w := by
  unfold wpTakeH
  simp only [hw, hc]
  exact ⟨v, h1, h⟩
theorem takeH_call {i : Nat} {o : Oper} {rest : List (Nat × Oper)} {a : Act} {w : World} (hc : calls.contains i = true) (hw : Region.wanted o (yielded ops a.tmps) = true)
    (h : ∀ K : Act → World → Prop, (∀ a w, S w → wpTakeH P ops Q calls S rest a w → K a w) → o.wp P a w K Q) : wpTakeH P ops Q calls S ((i, o) :: rest) a w := by
  unfold wpTakeH
  simp only [hw, hc]
  exact h (fun a' w' => S w' ∧ wpTakeH P ops Q calls S rest a' w') (fun _ _ h1 h2 => ⟨h1, h2⟩)
/-- An operation that comes up alone, run in the world at hand. -/
theorem takeH_now {i : Nat} {o : Oper} {rest : List (Nat × Oper)} {a : Act} {w : World} (hc : calls.contains i = true) (hw : Region.wanted o (yielded ops a.tmps) = true) (v : Value) (h1 : (execOp a.eval o).run P w = .ok (.value v) w) (hS : S w)
    (h : wpTakeH P ops Q calls S rest (a.put o.dst v) w) : wpTakeH P ops Q calls S ((i, o) :: rest) a w := by
  unfold wpTakeH
  simp only [hw, hc]
  show o.wp P a w (fun a' w' => S w' ∧ wpTakeH P ops Q calls S rest a' w') Q
  unfold Oper.wp
  rw [h1]
  exact ⟨hS, h⟩

/-- What 's[:i]' yields. -/
theorem exec_upto {t e : TypeId} {sz bytes : Nat} (hE : Elem P t e sz bytes) (w : World) (p : Option Addr) (n c i : Nat) (hi : i ≤ n) (hnc : n ≤ c) {o : Oper} {a : Act} (s x : Operand) (ho : o.op = .slice t s none (some x) none)
    (hs : a.eval s = .slice p n c) (hx : a.eval x = .int .i64 (i : Int)) : (execOp a.eval o).run P w = .ok (.value (.slice p i c)) w := by
  obtain ⟨inf, z, hinf, hz, hsize, hby, hzs⟩ := hE.hi
  have helem : P.elem t = e := by simp [Program.elem, hE.ht]
  have hu : P.underlying t = some (.slice (P.elem t)) := by rw [helem]; exact hE.ht
  have hcell : P.cellsOf (P.elem t) = sz := by rw [helem]; simp [Program.cellsOf, hinf, hsize]
  have hr : (Instr.sliceAt t (.slice p n c) none (some (.int .i64 (i : Int))) none).run P w = .ok (.slice p i c) w := by
    have hsz := run_sizeOf (w := w) (show P.info? (P.elem t) = some inf by rw [helem]; exact hinf)
    rw [run_sliceAt_slice (h := hu), run_slice_h (ht := hu) (h0 := by omega) (h2 := by omega), hsz, hcell]
    simp only [Result.andThen, Int.toNat_natCast, sliced_zero]
  unfold execOp
  simp only [ho, Sem.run_bind, Sem.run_pure, Result.andThen_ok, hs, hx, hr, Option.map_some, Option.map_none]
/-- What 's[i:]' yields. -/
theorem exec_from {t e : TypeId} {sz bytes : Nat} (hE : Elem P t e sz bytes) (w : World) (p : Option Addr) (n c i : Nat) (hi : i ≤ n) {o : Oper} {a : Act} (s x : Operand) (ho : o.op = .slice t s (some x) none none)
    (hs : a.eval s = .slice p n c) (hx : a.eval x = .int .i64 (i : Int)) : (execOp a.eval o).run P w = .ok (.value (sliced p i n c sz)) w := by
  obtain ⟨inf, z, hinf, hz, hsize, hby, hzs⟩ := hE.hi
  have helem : P.elem t = e := by simp [Program.elem, hE.ht]
  have hu : P.underlying t = some (.slice (P.elem t)) := by rw [helem]; exact hE.ht
  have hcell : P.cellsOf (P.elem t) = sz := by rw [helem]; simp [Program.cellsOf, hinf, hsize]
  have hr : (Instr.sliceAt t (.slice p n c) (some (.int .i64 (i : Int))) none none).run P w = .ok (sliced p i n c sz) w := by
    have hsz := run_sizeOf (w := w) (show P.info? (P.elem t) = some inf by rw [helem]; exact hinf)
    rw [run_sliceAt_slice (h := hu), run_slice_l (ht := hu) (h0 := by omega) (h1 := by omega), hsz, hcell]
    simp [Result.andThen]
  unfold execOp
  simp only [ho, Sem.run_bind, Sem.run_pure, Result.andThen_ok, hs, hx, hr, Option.map_some, Option.map_none]
/-- What a conversion yields. -/
theorem exec_convert {o : Oper} {a : Act} {w : World} (src dst : TypeId) (s : Operand) {v u : Value} (ho : o.op = .convert src dst s) (hs : a.eval s = v) (h : (convert src dst v).run P w = .ok u w) : (execOp a.eval o).run P w = .ok (.value u) w := by
  unfold execOp
  simp only [ho, Sem.run_bind, Sem.run_pure, Result.andThen_ok, hs, h]
end
end Go.Proofs.Ytdhcfgbnjnidfaa
