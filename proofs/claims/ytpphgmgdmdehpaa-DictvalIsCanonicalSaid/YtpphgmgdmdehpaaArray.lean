/- Arrays of numbers as values: a variable that holds one, loads, stores, elements. No program in sight. -/
import Derived.Test.YtpphgmgdmdehpaaSlice
import Derived.Laws.Rows
import Derived.Laws.PanicsMore
namespace Go.Proofs.Ytpphgmgdmdehpaa
open Go Go.RowKit

def u32s (l : List Nat) : List Value := l.map fun n : Nat => Value.int .u32 (n : Int)
theorem u32s_length (l : List Nat) : (u32s l).length = l.length := by simp [u32s]
theorem u32s_one (l : List Nat) : ∀ u ∈ u32s l, u.oneCell' = true := by
  intro u hu
  simp only [u32s, List.mem_map] at hu
  obtain ⟨n, _, rfl⟩ := hu
  rfl
theorem u32s_get (l : List Nat) (i x : Nat) (h : l[i]? = some x) : (u32s l)[i]? = some (.int .u32 (x : Int)) := by simp [u32s, h]
theorem u32s_set (l : List Nat) (i x : Nat) : (u32s l).set i (.int .u32 (x : Int)) = u32s (l.set i x) := by simp [u32s, List.map_set]

/-- Whether a type's values are made of several cells. -/
def manyCells : TypeDesc → Bool
  | .struct _ | .array _ _ => true
  | _ => false
/-- An array type t of n elements of type e, each one cell, whose zero value is z. -/
structure Arr (P : Program) (t e : TypeId) (n : Nat) (z : Value) : Prop where
  ht : P.underlying t = some (.array n e)
  hi : ∃ i, P.info? t = some i ∧ i.zero = some (.agg (List.replicate n z).toArray) ∧ i.size = n
  he : ∃ i, P.info? e = some i ∧ i.size = 1
  hl : ∃ d, P.underlying e = some d ∧ manyCells d = false

theorem Arr.mk' {P : Program} {t e : TypeId} {n : Nat} {z : Value} (ht : P.underlying t = some (.array n e)) (hi : (P.info? t).map (fun i => (i.zero, i.size)) = some (some (.agg (List.replicate n z).toArray), n)) (he : (P.info? e).map (·.size) = some 1)
    {d : TypeDesc} (hd : P.underlying e = some d) (hl : manyCells d = false) : Arr P t e n z := by
  obtain ⟨i, h1, h2⟩ := Option.map_eq_some_iff.1 hi
  obtain ⟨j, h3, h4⟩ := Option.map_eq_some_iff.1 he
  simp only [Prod.mk.injEq] at h2
  exact ⟨ht, ⟨i, h1, h2.1, h2.2⟩, ⟨j, h3, h4⟩, ⟨d, hd, hl⟩⟩

theorem mods_setRow (w : World) (g : Nat) (cs : Array Value) : Mods (fun k => k = g) w (w.setRow g cs) :=
  ⟨rfl, rfl, rfl, by simp, fun k _ hs => setRow_other w g k cs hs⟩

section
variable {P : Program} {ops : Array Oper} {rest : List Oper} {o : Oper} {a : Act} {w : World} {Q : Exit → Act → World → Prop} {t e : TypeId} {n : Nat} {z : Value}

/-- A new variable that holds the array. -/
theorem wpList_boxA (hg : o.guard = none) (t : TypeId) (x : Operand) (ho : o.op = .box t x) (cs : List Value) (hx : a.eval x = .agg cs.toArray)
    (h : ∀ w', Blk w' w.heap.size cs → Below w.heap.size w w' → w'.heap.size = w.heap.size + 1 → wpList P ops Q rest (a.put o.dst (.pointer (some ⟨w.heap.size, 0, none⟩))) w') : wpList P ops Q (o :: rest) a w := by
  refine wpList_plain hg fun K hK => ?_
  unfold Oper.wp execOp
  simp only [ho, hx, Sem.run_bind, Instr.box, newVar, newRow, run_newObj_alloc, Sem.run_pure, Result.andThen_ok]
  exact hK _ _ (h _ (by simpa [Value.cells] using Blk.new w cs.toArray t) ((Below.refl _ _).alloc (Nat.le_refl _) _) (by simp))

/-- A new variable that holds the zero value. -/
theorem wpList_allocA (hA : Arr P t e n z) (hg : o.guard = none) (ho : o.op = .alloc t)
    (h : ∀ w', Blk w' w.heap.size (List.replicate n z) → Below w.heap.size w w' → w'.heap.size = w.heap.size + 1 → wpList P ops Q rest (a.put o.dst (.pointer (some ⟨w.heap.size, 0, none⟩))) w') : wpList P ops Q (o :: rest) a w := by
  obtain ⟨i, hi, hz, hs⟩ := hA.hi
  refine wpList_plain hg fun K hK => ?_
  have hzv : (zeroValue t).run P w = .ok (.agg (List.replicate n z).toArray) w := by simp [zeroValue, typeInfo, hi, hz]
  unfold Oper.wp execOp
  simp only [ho, Sem.run_bind, Instr.alloc, hzv, newVar, newRow, run_newObj_alloc, Sem.run_pure, Result.andThen_ok]
  exact hK _ _ (h _ (by simpa [Value.cells] using Blk.new w (List.replicate n z).toArray t) ((Below.refl _ _).alloc (Nat.le_refl _) _) (by simp))

/-- The whole array loaded. -/
theorem wpList_loadA (hA : Arr P t e n z) (hgd : o.guard = none) (x : Operand) (ho : o.op = .load t x) (g : Nat) (hx : a.eval x = .pointer (some ⟨g, 0, none⟩)) (cs : List Value) (hb : Blk w g cs) (hl : cs.length = n)
    (h : wpList P ops Q rest (a.put o.dst (.agg cs.toArray)) w) : wpList P ops Q (o :: rest) a w := by
  obtain ⟨u, hg⟩ := hb
  obtain ⟨i, hi, _, hs⟩ := hA.hi
  exact wpList_load_row hgd t x ho g hx u cs.toArray (0, 0) _ hg hA.ht rfl (by rw [hi]; simp [hs, hl]) h

/-- The whole array stored. -/
theorem wpList_storeA (hA : Arr P t e n z) (hgd : o.guard = none) (x y : Operand) (ho : o.op = .store t x y) (g : Nat) (hx : a.eval x = .pointer (some ⟨g, 0, none⟩)) (cs old : List Value) (hy : a.eval y = .agg cs.toArray)
    (hb : Blk w g old) (hold : old.length = n) (hl : cs.length = n) (h1 : ∀ u ∈ cs, u.oneCell' = true)
    (h : ∀ w', Blk w' g cs → Mods (fun k => k = g) w w' → w'.heap.size = w.heap.size → wpList P ops Q rest (a.put o.dst undef) w') : wpList P ops Q (o :: rest) a w := by
  obtain ⟨u, hg⟩ := hb
  obtain ⟨i, hi, _, hs⟩ := hA.hi
  refine wpList_store_row hgd t x y ho g cs.toArray hx hy u old.toArray hg (by rw [hi]; simp [hs, hl]) (by simp [hold, hl]) (by simpa using h1) ?_
  exact h _ ⟨u, setRow_heap w g _ _ u _ hg⟩ (mods_setRow w g _) (by simp)

/-- One element of an array. -/
theorem wpList_indexA (hA : Arr P t e n z) (hgd : o.guard = none) (x y : Operand) (ho : o.op = .index t x y) (cs : List Value) (hx : a.eval x = .agg cs.toArray) (i : Nat) (hy : a.eval y = .int .i64 (i : Int)) (hi : i < n) (v : Value) (hv : cs[i]? = some v)
    (h : wpList P ops Q rest (a.put o.dst v) w) : wpList P ops Q (o :: rest) a w := by
  obtain ⟨ie, hie, hs⟩ := hA.he
  obtain ⟨d, hd, hnd⟩ := hA.hl
  refine wpList_plain hgd fun K hK => ?_
  have hag : (isAgg e).run P w = .ok false w := by
    unfold isAgg
    rw [Sem.run_bind, run_underlying hd w]
    cases d <;> simp_all [manyCells]
  have hr : (Instr.index t (.agg cs.toArray) (.int .i64 (i : Int))).run P w = .ok v w := by
    have hp : (part e cs.toArray i).run P w = .ok v w := by
      unfold part
      simp [Sem.run_bind, hag, hv]
    simp [Instr.index, asIntOf, Sem.run_bind, run_underlying hA.ht w, sizeOf, typeInfo, hie, hs, hp]
    exact fun hn => absurd hn (by omega)
  unfold Oper.wp execOp
  simp only [ho, hx, hy, Sem.run_bind, hr, Result.andThen_ok]
  exact hK _ _ h

/-- A result that lies in a variable. -/
theorem resultsA (hA : Arr P t e n z) {fn : Func} {p : Tmp} (h : fn.results = #[.cell p t]) (tmps : Array Value) (g : Nat) (hp : tmps.getD p undef = .pointer (some ⟨g, 0, none⟩)) (cs : List Value) (hb : Blk w g cs) (hl : cs.length = n) :
    (results fn tmps).run P w = .ok (.agg cs.toArray) w := by
  obtain ⟨u, hg⟩ := hb
  obtain ⟨i, hi, _, hs⟩ := hA.hi
  exact results_cell_row h tmps w g u cs.toArray (0, 0) _ hp hg hA.ht rfl (by rw [hi]; simp [hs, hl])
end
end Go.Proofs.Ytpphgmgdmdehpaa
