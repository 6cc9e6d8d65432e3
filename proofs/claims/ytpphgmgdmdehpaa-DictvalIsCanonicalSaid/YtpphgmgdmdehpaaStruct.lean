/- Structs of numbers as values: a variable that holds one, loads, stores, results. No program in sight. -/
import Derived.Test.YtpphgmgdmdehpaaArray
import Derived.Deep.MidRow
namespace Go.Proofs.Ytpphgmgdmdehpaa
open Go Go.RowKit

/-- A struct type t of n cells, whose zero value is made of zs. -/
structure Str (P : Program) (t : TypeId) (n : Nat) (zs : List Value) : Prop where
  ht : ∃ d, P.underlying t = some d ∧ manyCells d = true
  hi : ∃ i, P.info? t = some i ∧ i.zero = some (.agg zs.toArray) ∧ i.size = n
  hz : zs.length = n
theorem Str.mk' {P : Program} {t : TypeId} {n : Nat} {zs : List Value} {d : TypeDesc} (ht : P.underlying t = some d) (hd : manyCells d = true) (hi : (P.info? t).map (fun i => (i.zero, i.size)) = some (some (.agg zs.toArray), n)) (hz : zs.length = n) : Str P t n zs := by
  obtain ⟨i, h1, h2⟩ := Option.map_eq_some_iff.1 hi
  simp only [Prod.mk.injEq] at h2
  exact ⟨⟨d, ht, hd⟩, ⟨i, h1, h2.1, h2.2⟩, hz⟩

theorem Blk.rangeAt {w : World} {g : Nat} {cs : List Value} (h : Blk w g cs) : w.rangeAt g 0 cs := fun j v hv => by rw [Nat.zero_add, h.cell]; simpa using hv

/-- A stretch that is left in one way alone. -/
theorem wp_normal {P : Program} {c : Code} {Q : Exit → Act → World → Prop} {a : Act} {w : World} (h : c.wp P (fun e a w => e = .normal ∧ Q .normal a w) a w) : c.wp P Q a w := wp_mono h (fun _ _ _ h => h.1 ▸ h.2)

/-- The facts of a variable of three cells that a walk wants before it stores into it. -/
theorem Blk.three {w : World} {g : Nat} {a b c : Value} (h : Blk w g [a, b, c]) : (w.cell? ⟨g, 0, none⟩ = some a ∧ w.cell? ⟨g, 1, none⟩ = some b ∧ w.cell? ⟨g, 2, none⟩ = some c) ∧ (w.frozen? ⟨g, 0, none⟩ = false ∧ w.frozen? ⟨g, 1, none⟩ = false ∧ w.frozen? ⟨g, 2, none⟩ = false) :=
  ⟨⟨by rw [h.cell]; rfl, by rw [h.cell]; rfl, by rw [h.cell]; rfl⟩, h.free 0, h.free 1, h.free 2⟩
theorem Blk.set3 {w : World} {g : Nat} {a b c : Value} (h : Blk w g [a, b, c]) (x y z : Value) : Blk (((w.setCell ⟨g, 0, none⟩ x).setCell ⟨g, 1, none⟩ y).setCell ⟨g, 2, none⟩ z) g [x, y, z] := by
  simpa using ((h.set 0 x).set 1 y).set 2 z
theorem mods_set3 (w : World) (g : Nat) (x y z : Value) : Mods (fun k => k = g) w (((w.setCell ⟨g, 0, none⟩ x).setCell ⟨g, 1, none⟩ y).setCell ⟨g, 2, none⟩ z) :=
  ((Mods.set (fun k => k = g) w ⟨g, 0, none⟩ x (fun _ => rfl)).trans (Mods.set (fun k => k = g) _ ⟨g, 1, none⟩ y (fun _ => rfl)) (fun _ _ e => e)).trans (Mods.set (fun k => k = g) _ ⟨g, 2, none⟩ z (fun _ => rfl)) (fun _ _ e => e)

section
variable {P : Program} {ops : Array Oper} {rest : List Oper} {o : Oper} {a : Act} {w : World} {Q : Exit → Act → World → Prop} {t : TypeId} {n : Nat} {zs : List Value}

/-- A new variable that holds the zero value. -/
theorem wpList_allocS (hA : Str P t n zs) (hg : o.guard = none) (ho : o.op = .alloc t)
    (h : ∀ w', Blk w' w.heap.size zs → Below w.heap.size w w' → w'.heap.size = w.heap.size + 1 → wpList P ops Q rest (a.put o.dst (.pointer (some ⟨w.heap.size, 0, none⟩))) w') : wpList P ops Q (o :: rest) a w := by
  obtain ⟨i, hi, hz, hs⟩ := hA.hi
  refine wpList_plain hg fun K hK => ?_
  have hzv : (zeroValue t).run P w = .ok (.agg zs.toArray) w := by simp [zeroValue, typeInfo, hi, hz]
  unfold Oper.wp execOp
  simp only [ho, Sem.run_bind, Instr.alloc, hzv, newVar, newRow, run_newObj_alloc, Sem.run_pure, Result.andThen_ok]
  exact hK _ _ (h _ (by simpa [Value.cells] using Blk.new w zs.toArray t) ((Below.refl _ _).alloc (Nat.le_refl _) _) (by simp))

/-- A struct loaded from wherever its cells lie. -/
theorem wpList_loadS (hA : Str P t n zs) (hgd : o.guard = none) (x : Operand) (ho : o.op = .load t x) (g m : Nat) (hx : a.eval x = .pointer (some ⟨g, m, none⟩)) (cs : List Value) (hb : w.rangeAt g m cs) (hl : cs.length = n)
    (h : wpList P ops Q rest (a.put o.dst (.agg cs.toArray)) w) : wpList P ops Q (o :: rest) a w := by
  obtain ⟨i, hi, _, hs⟩ := hA.hi
  obtain ⟨d, hu, hd⟩ := hA.ht
  exact wpList_load_mid hgd t x ho g m hx cs d hb hu (by cases d <;> simp_all [manyCells, TypeDesc.isRow]) (by rw [hi]; simp [hs, hl]) h

/-- A struct stored into a variable of its own. -/
theorem wpList_storeS (hA : Str P t n zs) (hgd : o.guard = none) (x y : Operand) (ho : o.op = .store t x y) (g : Nat) (hx : a.eval x = .pointer (some ⟨g, 0, none⟩)) (cs old : List Value) (hy : a.eval y = .agg cs.toArray)
    (hb : Blk w g old) (hold : old.length = n) (hl : cs.length = n) (h1 : ∀ u ∈ cs, u.oneCell' = true)
    (h : ∀ w', Blk w' g cs → Mods (fun k => k = g) w w' → w'.heap.size = w.heap.size → wpList P ops Q rest (a.put o.dst undef) w') : wpList P ops Q (o :: rest) a w := by
  obtain ⟨u, hg⟩ := hb
  obtain ⟨i, hi, _, hs⟩ := hA.hi
  refine wpList_store_row hgd t x y ho g cs.toArray hx hy u old.toArray hg (by rw [hi]; simp [hs, hl]) (by simp [hold, hl]) (by simpa using h1) ?_
  exact h _ ⟨u, setRow_heap w g _ _ u _ hg⟩ (mods_setRow w g _) (by simp)

/-- A result that lies in a variable. -/
theorem run_loadS (hA : Str P t n zs) (g : Nat) (cs : List Value) (hb : Blk w g cs) (hl : cs.length = n) : (loadVar t ⟨g, 0, none⟩).run P w = .ok (.agg cs.toArray) w := by
  obtain ⟨i, hi, _, hs⟩ := hA.hi
  obtain ⟨d, hu, hd⟩ := hA.ht
  exact run_loadVar_mid w g 0 t cs d hb.rangeAt hu (by cases d <;> simp_all [manyCells, TypeDesc.isRow]) (by rw [hi]; simp [hs, hl])
theorem resultsS (hA : Str P t n zs) {fn : Func} {p : Tmp} (h : fn.results = #[.cell p t]) (tmps : Array Value) (g : Nat) (hp : tmps.getD p undef = .pointer (some ⟨g, 0, none⟩)) (cs : List Value) (hb : Blk w g cs) (hl : cs.length = n) :
    (results fn tmps).run P w = .ok (.agg cs.toArray) w := by
  have hp' : tmps[p]?.getD undef = .pointer (some ⟨g, 0, none⟩) := by simpa using hp
  simp [results, h, hp', asAddr, run_loadS hA g cs hb hl]
theorem resultsS2 (hA : Str P t n zs) {fn : Func} {p u : Tmp} (h : fn.results = #[.cell p t, .tmp u]) (tmps : Array Value) (g : Nat) (hp : tmps.getD p undef = .pointer (some ⟨g, 0, none⟩)) (cs : List Value) (hb : Blk w g cs) (hl : cs.length = n) :
    (results fn tmps).run P w = .ok (.tuple #[.agg cs.toArray, tmps.getD u undef]) w := by
  have hp' : tmps[p]?.getD undef = .pointer (some ⟨g, 0, none⟩) := by simpa using hp
  simp [results, h, hp', asAddr, run_loadS hA g cs hb hl]
end
end Go.Proofs.Ytpphgmgdmdehpaa
