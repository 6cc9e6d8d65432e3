/- 's[i:]' of a slice that is read. No program in sight. -/
import Derived.Test.YtdhcfgbnjnidfaaSlice
import Derived.Laws.Slices
import Derived.ChangeKeysEq
namespace Go.Proofs.Ytdhcfgbnjnidfaa
open Go Go.RowKit

theorem Addr.add_add (ad : Addr) (i j : Nat) : (ad.add i).add j = ad.add (i + j) := by
  unfold Addr.add
  by_cases hi : i = 0
  · simp [hi]
  · by_cases hj : j = 0
    · simp [hi, hj]
    · simp [hi, hj, Nat.add_assoc]

theorem Rd.from {w : World} {sz : Nat} {p : Option Addr} {n c : Nat} {vs : List Value} (h : Rd w sz (.slice p n c) n vs) (i : Nat) (hi : i ≤ n) :
    Rd w sz (sliced p i n c sz) (n - i) (vs.drop (i * sz)) := by
  obtain ⟨p', c', e, h1, h2, h3, h4, h5⟩ := h
  cases e
  refine ⟨_, _, rfl, by rw [List.length_drop, h1, Nat.sub_mul], by omega, by omega, ?_, ?_⟩
  · intro hp
    split at hp
    · obtain ⟨rfl, rfl⟩ := h4 hp; simp
    · cases p with
      | none => obtain ⟨rfl, rfl⟩ := h4 rfl; simp
      | some a => simp at hp
  · intro ad had j u hu
    rw [List.getElem?_drop] at hu
    split at had
    · next hc =>
      have hlt := (List.getElem?_eq_some_iff.1 hu).1
      rw [h1] at hlt
      have : n = i := by omega
      subst this
      omega
    · cases p with
      | none => simp at had
      | some a =>
        simp only [Option.map_some, Option.some.injEq] at had
        subst had
        rw [Addr.add_add]
        exact h5 a rfl _ u hu

theorem Rd.upto {w : World} {sz : Nat} {p : Option Addr} {n c : Nat} {vs : List Value} (h : Rd w sz (.slice p n c) n vs) (i : Nat) (hi : i ≤ n) :
    Rd w sz (.slice p i c) i (vs.take (i * sz)) := by
  obtain ⟨p', c', e, h1, h2, h3, h4, h5⟩ := h
  cases e
  refine ⟨_, _, rfl, ?_, by omega, by omega, fun e => ?_, ?_⟩
  · rw [List.length_take, h1]
    exact Nat.min_eq_left (Nat.mul_le_mul_right _ hi)
  · obtain ⟨rfl, rfl⟩ := h4 e; exact ⟨by omega, rfl⟩
  · intro ad had j u hu
    refine h5 ad had j u ?_
    rw [List.getElem?_take] at hu
    split at hu
    · exact hu
    · cases hu
theorem Rd.fromTo {w : World} {sz : Nat} {p : Option Addr} {n c : Nat} {vs : List Value} (h : Rd w sz (.slice p n c) n vs) (i k : Nat) (hi : i ≤ k) (hk : k ≤ n) :
    Rd w sz (sliced p i k c sz) (k - i) ((vs.take (k * sz)).drop (i * sz)) := (h.upto k hk).from i hi
theorem sliced_zero (p : Option Addr) (n c sz : Nat) : sliced p 0 n c sz = .slice p n c := by
  unfold sliced
  split
  · simp
  · cases p with
    | none => simp
    | some a => simp [Addr.add]

section
variable {P : Program}
theorem wpList_upto {t e : TypeId} {sz bytes : Nat} (hE : Elem P t e sz bytes) (w : World) (p : Option Addr) (n c i : Nat) (hi : i ≤ n) (hnc : n ≤ c)
    {ops : Array Oper} {rest : List Oper} {o : Oper} {a : Act} {Q : Exit → Act → World → Prop} (hgd : Region.wanted o (yielded ops a.tmps) = true) (s x : Operand) (ho : o.op = .slice t s none (some x) none)
    (hs : a.eval s = .slice p n c) (hx : a.eval x = .int .i64 (i : Int))
    (h : wpList P ops Q rest (a.put o.dst (.slice p i c)) w) : wpList P ops Q (o :: rest) a w := by
  obtain ⟨inf, z, hinf, hz, hsize, hby, hzs⟩ := hE.hi
  refine BigFrame.wpList_want hgd fun K hK => ?_
  have helem : P.elem t = e := by simp [Program.elem, hE.ht]
  have hu : P.underlying t = some (.slice (P.elem t)) := by rw [helem]; exact hE.ht
  have hcell : P.cellsOf (P.elem t) = sz := by rw [helem]; simp [Program.cellsOf, hinf, hsize]
  have hr : (Instr.sliceAt t (.slice p n c) none (some (.int .i64 (i : Int))) none).run P w = .ok (.slice p i c) w := by
    have hsz := run_sizeOf (w := w) (show P.info? (P.elem t) = some inf by rw [helem]; exact hinf)
    rw [run_sliceAt_slice (h := hu), run_slice_h (ht := hu) (h0 := by omega) (h2 := by omega), hsz, hcell]
    simp only [Result.andThen, Int.toNat_natCast, sliced_zero]
  unfold Oper.wp execOp
  simp only [ho, Sem.run_bind, Sem.run_pure, Result.andThen_ok, hs, hx, hr, Option.map_some, Option.map_none]
  exact hK _ _ h
theorem wpList_from {t e : TypeId} {sz bytes : Nat} (hE : Elem P t e sz bytes) (w : World) (v : Value) (n i : Nat) (vs : List Value) (h0 : Rd w sz v n vs) (hi : i ≤ n)
    {ops : Array Oper} {rest : List Oper} {o : Oper} {a : Act} {Q : Exit → Act → World → Prop} (hgd : Region.wanted o (yielded ops a.tmps) = true) (s x : Operand) (ho : o.op = .slice t s (some x) none none)
    (hs : a.eval s = v) (hx : a.eval x = .int .i64 (i : Int))
    (h : ∀ p c, Rd w sz (.slice p (n - i) c) (n - i) (vs.drop (i * sz)) → wpList P ops Q rest (a.put o.dst (.slice p (n - i) c)) w) : wpList P ops Q (o :: rest) a w := by
  obtain ⟨inf, z, hinf, hz, hsize, hby, hzs⟩ := hE.hi
  obtain ⟨p, c, hv⟩ := h0.shape
  subst hv
  refine BigFrame.wpList_want hgd fun K hK => ?_
  have helem : P.elem t = e := by simp [Program.elem, hE.ht]
  have hu : P.underlying t = some (.slice (P.elem t)) := by rw [helem]; exact hE.ht
  have hcell : P.cellsOf (P.elem t) = sz := by rw [helem]; simp [Program.cellsOf, hinf, hsize]
  have hr : (Instr.sliceAt t (.slice p n c) (some (.int .i64 (i : Int))) none none).run P w = .ok (sliced p i n c sz) w := by
    have hsz := run_sizeOf (w := w) (show P.info? (P.elem t) = some inf by rw [helem]; exact hinf)
    rw [run_sliceAt_slice (h := hu), run_slice_l (ht := hu) (h0 := by omega) (h1 := by omega), hsz, hcell]
    simp [Result.andThen]
  unfold Oper.wp execOp
  simp only [ho, Sem.run_bind, Sem.run_pure, Result.andThen_ok, hs, hx, hr, Option.map_some, Option.map_none]
  exact hK _ _ (h _ _ (h0.from i hi))
end
end Go.Proofs.Ytdhcfgbnjnidfaa
