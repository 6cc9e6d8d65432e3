/- RcG, BlkTwo, Array, BlkThree, Struct, RcH, RcL, RcM, RcN, in one text. -/
import Derived.Test.YtmnagmbokajfpaaMrg6
import Derived.Test.YtmnagmbokajfpaaMrg4
import Derived.Test.YtmnagmbokajfpaaMrg10
import Derived.StillTailTactics
import Derived.Test.YtmnagmbokajfpaaMrg1
import Derived.Laws.Rows
import Derived.Laws.PanicsMore
import Derived.Deep.MidRow
import Derived.Deep.CutRange
import Derived.Deep.Cut

section
/- Layer 13, the program's own: its reader; what a reading leaves, also after an error; number, symbol, label, length. -/
set_option linter.unusedVariables false
set_option maxRecDepth 20000
namespace Go.Proofs.Ytmnagmbokajfpaa
open Go Go.RowKit

/-- What a reading gives where the error e is noted already; what stands behind it, with its value, offset and error. -/
def outE {α : Type} (o : Out α) (e : Nat) : Out α := if e = 0 then o else .bad e
def fin {α : Type} (x : α) (a e : Nat) : Out α := if e = 0 then .ok x a else .bad e
theorem outE_zero {α : Type} (o : Out α) : outE o 0 = o := rfl
theorem outE_ne {α : Type} (o : Out α) {e : Nat} (h : e ≠ 0) : outE o e = .bad e := if_neg h
theorem fin_ok {α : Type} {o : Out α} {e a e' : Nat} {x : α} (h : outE o e = fin x a e') (h0 : e' = 0) : e = 0 ∧ o = .ok x a := by
  unfold outE fin at h
  subst h0
  split at h
  · exact ⟨by assumption, h⟩
  · cases h
theorem fin_bad {α : Type} {o : Out α} {e a e' : Nat} {x : α} (h : outE o e = fin x a e') (h0 : e' ≠ 0) : (e = 0 ∧ o = .bad e') ∨ (e ≠ 0 ∧ e = e') := by
  unfold outE fin at h
  rw [if_neg h0] at h
  split at h
  · exact Or.inl ⟨by assumption, h⟩
  · cases h; exact Or.inr ⟨h0, rfl⟩
theorem fin_pair {α β : Type} {p : List Nat → Nat → Out α} {q : List Nat → Nat → Out β} {B : List Nat} {a e a1 e1 a2 e2 : Nat} {x : α} {y : β} (h1 : outE (p B a) e = fin x a1 e1) (h2 : outE (q B a1) e1 = fin y a2 e2) : outE (pPair p q B a) e = fin (x, y) a2 e2 := by
  by_cases c1 : e1 = 0
  · obtain ⟨rfl, k1⟩ := fin_ok h1 c1
    by_cases c2 : e2 = 0
    · obtain ⟨_, k2⟩ := fin_ok h2 c2
      rw [outE_zero, pair_ok k1 k2, fin, if_pos c2]
    · rcases fin_bad h2 c2 with ⟨_, k2⟩ | ⟨k, _⟩
      · rw [outE_zero, pair_no2 k1 k2, fin, if_neg c2]
      · exact absurd c1 k
  · have c2 : e2 = e1 := by
      rw [outE_ne _ c1] at h2
      unfold fin at h2
      split at h2
      · cases h2
      · cases h2; rfl
    subst c2
    rcases fin_bad h1 c1 with ⟨rfl, k1⟩ | ⟨k, rfl⟩
    · rw [outE_zero, pair_no1 k1, fin, if_neg c1]
    · rw [outE_ne _ k, fin, if_neg c1]

/-- The reader of records at block g, over the reader at block q. -/
structure RcRd (w : World) (g q : Nat) (v : Value) (B : List Nat) (tv : Value) (t : List ByteArray) (a e : Nat) : Prop where
  blk : Blk w g [.pointer (some ⟨q, 0, none⟩), .int .i64 (B.length : Int), tv]
  rr : RRd w q v B a (e : Int)
  tb : Rd w 1 tv t.length (strs t)
  at_ : a ≤ B.length
  gq : g ≠ q
  tq : t ≠ [] → ∀ k, tv.ownBlock = some k → k ≠ q
theorem RcRd.cells {w : World} {g q : Nat} {v : Value} {B : List Nat} {tv : Value} {t : List ByteArray} {a e : Nat} (h : RcRd w g q v B tv t a e) : w.cell? ⟨g, 0, none⟩ = some (.pointer (some ⟨q, 0, none⟩)) ∧ w.cell? ⟨g, 1, none⟩ = some (.int .i64 (B.length : Int)) ∧ w.cell? ⟨g, 2, none⟩ = some tv :=
  ⟨h.blk.cell 0, h.blk.cell 1, h.blk.cell 2⟩
/-- The reader below has gone on. -/
theorem RcRd.next {w w' : World} {g q : Nat} {v : Value} {B : List Nat} {tv : Value} {t : List ByteArray} {a e a' e' : Nat} (h : RcRd w g q v B tv t a e) (hm : Mods (fun k => k = q) w w') (hr : RRd w' q v B a' (e' : Int)) (ha : a' ≤ B.length) : RcRd w' g q v B tv t a' e' :=
  ⟨hm.blk h.blk h.gq, hr, h.tb.mods' hm (fun e => h.tq (strs_ne e)), ha, h.gq, h.tq⟩
theorem RcRd.mods {S : Nat → Prop} {w w' : World} {g q : Nat} {v : Value} {B : List Nat} {tv : Value} {t : List ByteArray} {a e : Nat} (h : RcRd w g q v B tv t a e) (hm : Mods S w w') (hg : ¬ S g) (hq : ¬ S q) (hv : B ≠ [] → ∀ k, v.ownBlock = some k → ¬ S k) (ht : t ≠ [] → ∀ k, tv.ownBlock = some k → ¬ S k) : RcRd w' g q v B tv t a e :=
  ⟨hm.blk h.blk hg, h.rr.mods' hm hq hv, h.tb.mods' hm (fun e => ht (strs_ne e)), h.at_, h.gq, h.tq⟩
theorem RcRd.below {w w' : World} {g q : Nat} {v : Value} {B : List Nat} {tv : Value} {t : List ByteArray} {a e : Nat} (h : RcRd w g q v B tv t a e) (hb : Below w.heap.size w w') : RcRd w' g q v B tv t a e :=
  h.mods (Mods.of_below hb (fun _ => False)) (fun h => h) (fun h => h) (fun _ _ _ h => h) (fun _ _ _ h => h)
/-- All that the reader leads to lies below N. -/
structure RcLow (N g q : Nat) (v : Value) (B : List Nat) (tv : Value) (t : List ByteArray) : Prop where
  g : g < N
  q : q < N
  v : B ≠ [] → ∀ k, v.ownBlock = some k → k < N
  t : t ≠ [] → ∀ k, tv.ownBlock = some k → k < N
theorem strs_ne' {l : List ByteArray} (h : l ≠ []) : strs l ≠ [] := fun e => h (List.eq_nil_of_length_eq_zero (by have := congrArg List.length e; rw [strs_length] at this; exact this))
theorem u8s_ne' {B : List Nat} (h : B ≠ []) : u8s B ≠ [] := fun e => h (List.eq_nil_of_length_eq_zero (by have := congrArg List.length e; rw [u8s_length] at this; exact this))
theorem RcRd.low {w : World} {g q : Nat} {v : Value} {B : List Nat} {tv : Value} {t : List ByteArray} {a e : Nat} (h : RcRd w g q v B tv t a e) : RcLow w.heap.size g q v B tv t :=
  ⟨h.blk.lt, h.rr.blk.lt, fun hne => h.rr.rd.lt (u8s_ne' hne), fun hne => h.tb.lt (strs_ne' hne)⟩

/-- A number, whatever stands there. -/
theorem rc_number (g q : Nat) (v : Value) (B : List Nat) (tv : Value) (t : List ByteArray) (a e : Nat) (w : World) (h : RcRd w g q v B tv t a e) (hB : ∀ c ∈ B, c < 256) (hz : B.length ≤ 100000000) :
    Calls Try.prog 47 #[.pointer (some ⟨g, 0, none⟩)] w fun en w' => Mods (fun k => k = q) w w' ∧ ∃ n a' e' : Nat, en = .returned (.int .u64 (n : Int)) ∧ n < 18446744073709551616 ∧ RcRd w' g q v B tv t a' e' ∧ outE (outUint B a 18446744073709551615) e = fin n a' e' ∧ (e' ≠ 0 → n = 0) := by
  have H := Lib.hid h
  obtain ⟨g0, g1, g2⟩ := h.cells
  have ha := h.at_
  have hrr := h.rr
  clear h
  by_cases he : e = 0
  · subst he
    have HU := Lib.hid (rd_uint q v B a 18446744073709551615 w hrr hB ha (by omega))
    rw [show ((18446744073709551615 : Nat) : Int) = 18446744073709551615 from rfl] at HU
    have hcs : (∃ k, k ≠ 0 ∧ outUint B a 18446744073709551615 = .bad k) ∨ ∃ n b, outUint B a 18446744073709551615 = .ok n b ∧ n < 18446744073709551616 ∧ b ≤ B.length := by
      rcases outCount_cases hB ha with ⟨k, hk, ho, _⟩ | ⟨n, b, ho, hn, _, hb, _⟩
      · exact Or.inl ⟨k, hk, ho⟩
      · exact Or.inr ⟨n, b, ho, hn, hb⟩
    clear hrr hB
    go_enter Try.func47, Try.ntmps47
    go_wp2_with fail
    refine HU.out.mono ?_
    rintro en w1 ⟨hm, hg⟩
    have HM := Lib.hid hm
    clear HU hm
    rcases hcs with ⟨k, hk, ho⟩ | ⟨n, b, ho, hn, hb⟩
    · rw [ho] at hg
      have HO := Lib.hid ho
      obtain ⟨rfl, hR⟩ := hg
      have HR := Lib.hid (H.out.next HM.out hR ha)
      clear hR ho
      go_wp2_with fail
      go_ret
      exact ⟨HM.out, 0, a, k, rfl, by decide, HR.out, by rw [HO.out, outE_zero, fin, if_neg hk], fun _ => rfl⟩
    · rw [ho] at hg
      have HO := Lib.hid ho
      obtain ⟨rfl, hR⟩ := hg
      have HR := Lib.hid (H.out.next (e' := 0) HM.out hR hb)
      clear hR ho
      go_wp2_with fail
      go_ret
      exact ⟨HM.out, n, b, 0, rfl, hn, HR.out, by rw [HO.out, outE_zero, fin, if_pos rfl], fun h => absurd rfl h⟩
  · have HU := Lib.hid (rd_uint_err q v B a 18446744073709551615 (e : Int) (by omega) w hrr)
    rw [show ((18446744073709551615 : Nat) : Int) = 18446744073709551615 from rfl] at HU
    clear hrr hB
    go_enter Try.func47, Try.ntmps47
    go_wp2_with fail
    refine HU.out.mono ?_
    rintro en w1 ⟨rfl, hb⟩
    have HR := Lib.hid (H.out.below hb)
    have HM : Hid (Mods (fun k => k = q) w w1) := Mods.of_below hb _
    clear HU hb
    go_wp2_with fail
    go_ret
    exact ⟨HM.out, 0, a, e, rfl, by decide, HR.out, by rw [outE_ne _ he, fin, if_neg he], fun _ => rfl⟩

/-- An error is noted, if none is. -/
theorem rc_fail (g q : Nat) (v : Value) (B : List Nat) (tv : Value) (t : List ByteArray) (a e x : Nat) (w : World) (h : RcRd w g q v B tv t a e) :
    Calls Try.prog 49 #[.pointer (some ⟨q, 0, none⟩), .int .i64 (x : Int)] w fun en w' => en = .returned (.tuple #[]) ∧ RcRd w' g q v B tv t a (if e = 0 then x else e) ∧ Mods (fun k => k = q) w w' := by
  refine (rd_fail q v B a (e : Int) (x : Int) w h.rr).mono ?_
  rintro en w' ⟨rfl, hR, hm⟩
  refine ⟨rfl, h.next hm ?_ h.at_, hm⟩
  by_cases he : e = 0
  · rw [if_pos (by omega)] at hR
    rw [if_pos he]; exact hR
  · rw [if_neg (by omega)] at hR
    rw [if_neg he]; exact hR
end Go.Proofs.Ytmnagmbokajfpaa

end

section
/- Variables of two cells. No program in sight. -/
set_option linter.unusedVariables false
namespace Go.Proofs.Ytmnagmbokajfpaa
open Go Go.RowKit

theorem Blk.set2 {w : World} {g : Nat} {a b : Value} (h : Blk w g [a, b]) (x y : Value) : Blk ((w.setCell ⟨g, 0, none⟩ x).setCell ⟨g, 1, none⟩ y) g [x, y] := by
  simpa using (h.set 0 x).set 1 y

theorem Blk.two {w : World} {g : Nat} {a b : Value} (h : Blk w g [a, b]) : (w.cell? ⟨g, 0, none⟩ = some a ∧ w.cell? ⟨g, 1, none⟩ = some b) ∧ (w.frozen? ⟨g, 0, none⟩ = false ∧ w.frozen? ⟨g, 1, none⟩ = false) :=
  ⟨⟨by rw [h.cell]; rfl, by rw [h.cell]; rfl⟩, h.free 0, h.free 1⟩
end Go.Proofs.Ytmnagmbokajfpaa

end

section
/- Arrays of numbers as values: a variable that holds one, loads, stores, elements. No program in sight. -/
namespace Go.Proofs.Ytmnagmbokajfpaa
open Go Go.RowKit

def u32s (l : List Nat) : List Value := l.map fun n : Nat => Value.int .u32 (n : Int)
theorem u32s_length (l : List Nat) : (u32s l).length = l.length := by simp [u32s]
theorem u32s_one (l : List Nat) : ∀ u ∈ u32s l, u.oneCell' = true := by
  intro u hu
  simp only [u32s, List.mem_map] at hu
  obtain ⟨n, _, rfl⟩ := hu
  rfl
theorem u32s_get (l : List Nat) (i x : Nat) (h : l[i]? = some x) : (u32s l)[i]? = some (.int .u32 (x : Int)) := by simp [u32s, h]
theorem u32s_set (l : List Nat) (i x : Nat) : (u32s l).set i (.int .u32 (x : Int)) = u32s (l.set i x) := by simp [u32s, List.map_set]

/-- Whether a type's values are made of several cells. -/
def manyCells : TypeDesc → Bool
  | .struct _ | .array _ _ => true
  | _ => false
/-- An array type t of n elements of type e, each one cell, whose zero value is z. -/
structure Arr (P : Program) (t e : TypeId) (n : Nat) (z : Value) : Prop where
  ht : P.underlying t = some (.array n e)
  hi : ∃ i, P.info? t = some i ∧ i.zero = some (.agg (List.replicate n z).toArray) ∧ i.size = n
  he : ∃ i, P.info? e = some i ∧ i.size = 1
  hl : ∃ d, P.underlying e = some d ∧ manyCells d = false

theorem Arr.mk' {P : Program} {t e : TypeId} {n : Nat} {z : Value} (ht : P.underlying t = some (.array n e)) (hi : (P.info? t).map (fun i => (i.zero, i.size)) = some (some (.agg (List.replicate n z).toArray), n)) (he : (P.info? e).map (·.size) = some 1)
    {d : TypeDesc} (hd : P.underlying e = some d) (hl : manyCells d = false) : Arr P t e n z := by
  obtain ⟨i, h1, h2⟩ := Option.map_eq_some_iff.1 hi
  obtain ⟨j, h3, h4⟩ := Option.map_eq_some_iff.1 he
  simp only [Prod.mk.injEq] at h2
  exact ⟨ht, ⟨i, h1, h2.1, h2.2⟩, ⟨j, h3, h4⟩, ⟨d, hd, hl⟩⟩

theorem mods_setRow (w : World) (g : Nat) (cs : Array Value) : Mods (fun k => k = g) w (w.setRow g cs) :=
  ⟨rfl, rfl, rfl, by simp, fun k _ hs => setRow_other w g k cs hs⟩

section
variable {P : Program} {ops : Array Oper} {rest : List Oper} {o : Oper} {a : Act} {w : World} {Q : Exit → Act → World → Prop} {t e : TypeId} {n : Nat} {z : Value}

/-- A new variable that holds the array. -/
theorem wpList_boxA (hg : o.guard = none) (t : TypeId) (x : Operand) (ho : o.op = .box t x) (cs : List Value) (hx : a.eval x = .agg cs.toArray)
    (h : ∀ w', Blk w' w.heap.size cs → Below w.heap.size w w' → w'.heap.size = w.heap.size + 1 → wpList P ops Q rest (a.put o.dst (.pointer (some ⟨w.heap.size, 0, none⟩))) w') : wpList P ops Q (o :: rest) a w := by
  refine wpList_plain hg fun K hK => ?_
  unfold Oper.wp execOp
  simp only [ho, hx, Sem.run_bind, Instr.box, newVar, newRow, run_newObj_alloc, Sem.run_pure, Result.andThen_ok]
  exact hK _ _ (h _ (by simpa [Value.cells] using Blk.new w cs.toArray t) ((Below.refl _ _).alloc (Nat.le_refl _) _) (by simp))

/-- A new variable that holds the zero value. -/
theorem wpList_allocA (hA : Arr P t e n z) (hg : o.guard = none) (ho : o.op = .alloc t)
    (h : ∀ w', Blk w' w.heap.size (List.replicate n z) → Below w.heap.size w w' → w'.heap.size = w.heap.size + 1 → wpList P ops Q rest (a.put o.dst (.pointer (some ⟨w.heap.size, 0, none⟩))) w') : wpList P ops Q (o :: rest) a w := by
  obtain ⟨i, hi, hz, hs⟩ := hA.hi
  refine wpList_plain hg fun K hK => ?_
  have hzv : (zeroValue t).run P w = .ok (.agg (List.replicate n z).toArray) w := by simp [zeroValue, typeInfo, hi, hz]
  unfold Oper.wp execOp
  simp only [ho, Sem.run_bind, Instr.alloc, hzv, newVar, newRow, run_newObj_alloc, Sem.run_pure, Result.andThen_ok]
  exact hK _ _ (h _ (by simpa [Value.cells] using Blk.new w (List.replicate n z).toArray t) ((Below.refl _ _).alloc (Nat.le_refl _) _) (by simp))

/-- The whole array loaded. -/
theorem wpList_loadA (hA : Arr P t e n z) (hgd : o.guard = none) (x : Operand) (ho : o.op = .load t x) (g : Nat) (hx : a.eval x = .pointer (some ⟨g, 0, none⟩)) (cs : List Value) (hb : Blk w g cs) (hl : cs.length = n)
    (h : wpList P ops Q rest (a.put o.dst (.agg cs.toArray)) w) : wpList P ops Q (o :: rest) a w := by
  obtain ⟨u, hg⟩ := hb
  obtain ⟨i, hi, _, hs⟩ := hA.hi
  exact wpList_load_row hgd t x ho g hx u cs.toArray (0, 0) _ hg hA.ht rfl (by rw [hi]; simp [hs, hl]) h

/-- The whole array stored. -/
theorem wpList_storeA (hA : Arr P t e n z) (hgd : o.guard = none) (x y : Operand) (ho : o.op = .store t x y) (g : Nat) (hx : a.eval x = .pointer (some ⟨g, 0, none⟩)) (cs old : List Value) (hy : a.eval y = .agg cs.toArray)
    (hb : Blk w g old) (hold : old.length = n) (hl : cs.length = n) (h1 : ∀ u ∈ cs, u.oneCell' = true)
    (h : ∀ w', Blk w' g cs → Mods (fun k => k = g) w w' → w'.heap.size = w.heap.size → wpList P ops Q rest (a.put o.dst undef) w') : wpList P ops Q (o :: rest) a w := by
  obtain ⟨u, hg⟩ := hb
  obtain ⟨i, hi, _, hs⟩ := hA.hi
  refine wpList_store_row hgd t x y ho g cs.toArray hx hy u old.toArray hg (by rw [hi]; simp [hs, hl]) (by simp [hold, hl]) (by simpa using h1) ?_
  exact h _ ⟨u, setRow_heap w g _ _ u _ hg⟩ (mods_setRow w g _) (by simp)

/-- One element of an array. -/
theorem wpList_indexA (hA : Arr P t e n z) (hgd : o.guard = none) (x y : Operand) (ho : o.op = .index t x y) (cs : List Value) (hx : a.eval x = .agg cs.toArray) (i : Nat) (hy : a.eval y = .int .i64 (i : Int)) (hi : i < n) (v : Value) (hv : cs[i]? = some v)
    (h : wpList P ops Q rest (a.put o.dst v) w) : wpList P ops Q (o :: rest) a w := by
  obtain ⟨ie, hie, hs⟩ := hA.he
  obtain ⟨d, hd, hnd⟩ := hA.hl
  refine wpList_plain hgd fun K hK => ?_
  have hag : (isAgg e).run P w = .ok false w := by
    unfold isAgg
    rw [Sem.run_bind, run_underlying hd w]
    cases d <;> simp_all [manyCells]
  have hr : (Instr.index t (.agg cs.toArray) (.int .i64 (i : Int))).run P w = .ok v w := by
    have hp : (part e cs.toArray i).run P w = .ok v w := by
      unfold part
      simp [Sem.run_bind, hag, hv]
    simp [Instr.index, asIntOf, Sem.run_bind, run_underlying hA.ht w, sizeOf, typeInfo, hie, hs, hp]
    exact fun hn => absurd hn (by omega)
  unfold Oper.wp execOp
  simp only [ho, hx, hy, Sem.run_bind, hr, Result.andThen_ok]
  exact hK _ _ h

/-- A result that lies in a variable. -/
theorem resultsA (hA : Arr P t e n z) {fn : Func} {p : Tmp} (h : fn.results = #[.cell p t]) (tmps : Array Value) (g : Nat) (hp : tmps.getD p undef = .pointer (some ⟨g, 0, none⟩)) (cs : List Value) (hb : Blk w g cs) (hl : cs.length = n) :
    (results fn tmps).run P w = .ok (.agg cs.toArray) w := by
  obtain ⟨u, hg⟩ := hb
  obtain ⟨i, hi, _, hs⟩ := hA.hi
  exact results_cell_row h tmps w g u cs.toArray (0, 0) _ hp hg hA.ht rfl (by rw [hi]; simp [hs, hl])
end
end Go.Proofs.Ytmnagmbokajfpaa

end

section
/- Variables of three cells. No program in sight. -/
namespace Go.Proofs.Ytmnagmbokajfpaa
open Go Go.RowKit

/-- The facts of a variable of three cells that a walk wants before it stores into it. -/
theorem Blk.three {w : World} {g : Nat} {a b c : Value} (h : Blk w g [a, b, c]) : (w.cell? ⟨g, 0, none⟩ = some a ∧ w.cell? ⟨g, 1, none⟩ = some b ∧ w.cell? ⟨g, 2, none⟩ = some c) ∧ (w.frozen? ⟨g, 0, none⟩ = false ∧ w.frozen? ⟨g, 1, none⟩ = false ∧ w.frozen? ⟨g, 2, none⟩ = false) :=
  ⟨⟨by rw [h.cell]; rfl, by rw [h.cell]; rfl, by rw [h.cell]; rfl⟩, h.free 0, h.free 1, h.free 2⟩

theorem Blk.set3 {w : World} {g : Nat} {a b c : Value} (h : Blk w g [a, b, c]) (x y z : Value) : Blk (((w.setCell ⟨g, 0, none⟩ x).setCell ⟨g, 1, none⟩ y).setCell ⟨g, 2, none⟩ z) g [x, y, z] := by
  simpa using ((h.set 0 x).set 1 y).set 2 z

theorem mods_set3 (w : World) (g : Nat) (x y z : Value) : Mods (fun k => k = g) w (((w.setCell ⟨g, 0, none⟩ x).setCell ⟨g, 1, none⟩ y).setCell ⟨g, 2, none⟩ z) :=
  ((Mods.set (fun k => k = g) w ⟨g, 0, none⟩ x (fun _ => rfl)).trans (Mods.set (fun k => k = g) _ ⟨g, 1, none⟩ y (fun _ => rfl)) (fun _ _ e => e)).trans (Mods.set (fun k => k = g) _ ⟨g, 2, none⟩ z (fun _ => rfl)) (fun _ _ e => e)
end Go.Proofs.Ytmnagmbokajfpaa

end

section
/- Structs of numbers as values: a variable that holds one, loads, stores, results. No program in sight. -/
namespace Go.Proofs.Ytmnagmbokajfpaa
open Go Go.RowKit

/-- A struct type t of n cells, whose zero value is made of zs. -/
structure Str (P : Program) (t : TypeId) (n : Nat) (zs : List Value) : Prop where
  ht : ∃ d, P.underlying t = some d ∧ manyCells d = true
  hi : ∃ i, P.info? t = some i ∧ i.zero = some (.agg zs.toArray) ∧ i.size = n
  hz : zs.length = n
theorem Str.mk' {P : Program} {t : TypeId} {n : Nat} {zs : List Value} {d : TypeDesc} (ht : P.underlying t = some d) (hd : manyCells d = true) (hi : (P.info? t).map (fun i => (i.zero, i.size)) = some (some (.agg zs.toArray), n)) (hz : zs.length = n) : Str P t n zs := by
  obtain ⟨i, h1, h2⟩ := Option.map_eq_some_iff.1 hi
  simp only [Prod.mk.injEq] at h2
  exact ⟨⟨d, ht, hd⟩, ⟨i, h1, h2.1, h2.2⟩, hz⟩

theorem Blk.rangeAt {w : World} {g : Nat} {cs : List Value} (h : Blk w g cs) : w.rangeAt g 0 cs := fun j v hv => by rw [Nat.zero_add, h.cell]; simpa using hv

section
variable {P : Program} {ops : Array Oper} {rest : List Oper} {o : Oper} {a : Act} {w : World} {Q : Exit → Act → World → Prop} {t : TypeId} {n : Nat} {zs : List Value}

/-- A new variable that holds the zero value. -/
theorem wpList_allocS (hA : Str P t n zs) (hg : o.guard = none) (ho : o.op = .alloc t)
    (h : ∀ w', Blk w' w.heap.size zs → Below w.heap.size w w' → w'.heap.size = w.heap.size + 1 → wpList P ops Q rest (a.put o.dst (.pointer (some ⟨w.heap.size, 0, none⟩))) w') : wpList P ops Q (o :: rest) a w := by
  obtain ⟨i, hi, hz, hs⟩ := hA.hi
  refine wpList_plain hg fun K hK => ?_
  have hzv : (zeroValue t).run P w = .ok (.agg zs.toArray) w := by simp [zeroValue, typeInfo, hi, hz]
  unfold Oper.wp execOp
  simp only [ho, Sem.run_bind, Instr.alloc, hzv, newVar, newRow, run_newObj_alloc, Sem.run_pure, Result.andThen_ok]
  exact hK _ _ (h _ (by simpa [Value.cells] using Blk.new w zs.toArray t) ((Below.refl _ _).alloc (Nat.le_refl _) _) (by simp))

/-- A struct loaded from wherever its cells lie. -/
theorem wpList_loadS (hA : Str P t n zs) (hgd : o.guard = none) (x : Operand) (ho : o.op = .load t x) (g m : Nat) (hx : a.eval x = .pointer (some ⟨g, m, none⟩)) (cs : List Value) (hb : w.rangeAt g m cs) (hl : cs.length = n)
    (h : wpList P ops Q rest (a.put o.dst (.agg cs.toArray)) w) : wpList P ops Q (o :: rest) a w := by
  obtain ⟨i, hi, _, hs⟩ := hA.hi
  obtain ⟨d, hu, hd⟩ := hA.ht
  exact wpList_load_mid hgd t x ho g m hx cs d hb hu (by cases d <;> simp_all [manyCells, TypeDesc.isRow]) (by rw [hi]; simp [hs, hl]) h

/-- A struct stored into a variable of its own. -/
theorem wpList_storeS (hA : Str P t n zs) (hgd : o.guard = none) (x y : Operand) (ho : o.op = .store t x y) (g : Nat) (hx : a.eval x = .pointer (some ⟨g, 0, none⟩)) (cs old : List Value) (hy : a.eval y = .agg cs.toArray)
    (hb : Blk w g old) (hold : old.length = n) (hl : cs.length = n) (h1 : ∀ u ∈ cs, u.oneCell' = true)
    (h : ∀ w', Blk w' g cs → Mods (fun k => k = g) w w' → w'.heap.size = w.heap.size → wpList P ops Q rest (a.put o.dst undef) w') : wpList P ops Q (o :: rest) a w := by
  obtain ⟨u, hg⟩ := hb
  obtain ⟨i, hi, _, hs⟩ := hA.hi
  refine wpList_store_row hgd t x y ho g cs.toArray hx hy u old.toArray hg (by rw [hi]; simp [hs, hl]) (by simp [hold, hl]) (by simpa using h1) ?_
  exact h _ ⟨u, setRow_heap w g _ _ u _ hg⟩ (mods_setRow w g _) (by simp)

/-- A result that lies in a variable. -/
theorem run_loadS (hA : Str P t n zs) (g : Nat) (cs : List Value) (hb : Blk w g cs) (hl : cs.length = n) : (loadVar t ⟨g, 0, none⟩).run P w = .ok (.agg cs.toArray) w := by
  obtain ⟨i, hi, _, hs⟩ := hA.hi
  obtain ⟨d, hu, hd⟩ := hA.ht
  exact run_loadVar_mid w g 0 t cs d hb.rangeAt hu (by cases d <;> simp_all [manyCells, TypeDesc.isRow]) (by rw [hi]; simp [hs, hl])
theorem resultsS (hA : Str P t n zs) {fn : Func} {p : Tmp} (h : fn.results = #[.cell p t]) (tmps : Array Value) (g : Nat) (hp : tmps.getD p undef = .pointer (some ⟨g, 0, none⟩)) (cs : List Value) (hb : Blk w g cs) (hl : cs.length = n) :
    (results fn tmps).run P w = .ok (.agg cs.toArray) w := by
  have hp' : tmps[p]?.getD undef = .pointer (some ⟨g, 0, none⟩) := by simpa using hp
  simp [results, h, hp', asAddr, run_loadS hA g cs hb hl]
theorem resultsS2 (hA : Str P t n zs) {fn : Func} {p u : Tmp} (h : fn.results = #[.cell p t, .tmp u]) (tmps : Array Value) (g : Nat) (hp : tmps.getD p undef = .pointer (some ⟨g, 0, none⟩)) (cs : List Value) (hb : Blk w g cs) (hl : cs.length = n) :
    (results fn tmps).run P w = .ok (.tuple #[.agg cs.toArray, tmps.getD u undef]) w := by
  have hp' : tmps[p]?.getD undef = .pointer (some ⟨g, 0, none⟩) := by simpa using hp
  simp [results, h, hp', asAddr, run_loadS hA g cs hb hl]
end
end Go.Proofs.Ytmnagmbokajfpaa

end

section
/- Layer 13, the program's own: symbol, length, label. -/
set_option linter.unusedVariables false
set_option maxRecDepth 20000
namespace Go.Proofs.Ytmnagmbokajfpaa
open Go Go.RowKit

section
variable {α : Type} {g : Nat → Option α} {z : Nat} {B : List Nat} {a e n a1 e1 : Nat}
theorem pnum_ok {x : α} (hB : ∀ c ∈ B, c < 256) (ha : a ≤ B.length) (h : outE (outUint B a 18446744073709551615) e = fin n a1 e1) (h0 : e1 = 0) (hg : g n = some x) : outE (pNum g z B a) e = fin x a1 e1 := by
  obtain ⟨rfl, ho⟩ := fin_ok h h0
  rcases pNum_cases g z hB ha with ⟨k, _, hu, _⟩ | ⟨m, b, hu, _, _, _, hc⟩
  · rw [hu] at ho; cases ho
  · rw [hu] at ho; cases ho
    rw [outE_zero, hc, hg, fin, if_pos h0]
theorem pnum_no (x : α) (hz : z ≠ 0) (hB : ∀ c ∈ B, c < 256) (ha : a ≤ B.length) (h : outE (outUint B a 18446744073709551615) e = fin n a1 e1) (h0 : e1 = 0) (hg : g n = none) : outE (pNum g z B a) e = fin x a1 z := by
  obtain ⟨rfl, ho⟩ := fin_ok h h0
  rcases pNum_cases g z hB ha with ⟨k, _, hu, _⟩ | ⟨m, b, hu, _, _, _, hc⟩
  · rw [hu] at ho; cases ho
  · rw [hu] at ho; cases ho
    rw [outE_zero, hc, hg, fin, if_neg hz]
theorem pnum_bad (x : α) (hB : ∀ c ∈ B, c < 256) (ha : a ≤ B.length) (h : outE (outUint B a 18446744073709551615) e = fin n a1 e1) (h0 : e1 ≠ 0) : outE (pNum g z B a) e = fin x a1 e1 := by
  rcases fin_bad h h0 with ⟨rfl, ho⟩ | ⟨k, rfl⟩
  · rcases pNum_cases g z hB ha with ⟨k, _, hu, hc⟩ | ⟨m, b, hu, _⟩
    · rw [hu] at ho; cases ho
      rw [outE_zero, hc, fin, if_neg h0]
    · rw [hu] at ho; cases ho
  · rw [outE_ne _ k, fin, if_neg k]
end

set_option maxHeartbeats 4000000 in
theorem rc_symbol (g q : Nat) (v : Value) (B : List Nat) (tv : Value) (t : List ByteArray) (a e : Nat) (w : World) (h : RcRd w g q v B tv t a e) (hB : ∀ c ∈ B, c < 256) (hz : B.length ≤ 100000000) (hn : t.length ≤ 1000000) :
    Calls Try.prog 61 #[.pointer (some ⟨g, 0, none⟩)] w fun en w' => Mods (fun k => k = q) w w' ∧ ∃ (s : ByteArray) (a' e' : Nat), en = .returned (.string s) ∧ RcRd w' g q v B tv t a' e' ∧ outE (pSym t B a) e = fin s a' e' := by
  have HU := Lib.hid (rc_number g q v B tv t a e w h hB hz)
  have HB := Lib.hid hB; have HA := Lib.hid h.at_
  obtain ⟨pt, ct, hv⟩ := h.tb.shape
  subst hv
  have hni : (t.length : Int) ≤ 1000000 := by omega
  have hw : IntKind.u64.wrap (t.length : Int) = (t.length : Int) := by rw [IntKind.wrap_u64]; omega
  clear h hB hz hn
  go_enter Try.func61, Try.ntmps61
  go_wp2_with fail
  refine HU.out.mono ?_
  rintro en w1 ⟨hm, n, a1, e1, rfl, hn, hR, hf, h0⟩
  have HM := Lib.hid hm; have HR := Lib.hid hR; have HF := Lib.hid hf
  obtain ⟨g0, g1, g2⟩ := hR.cells
  clear HU hm hR hf h0 hn
  by_cases hlt : n < t.length
  · have hlt' : (n : Int) < (t.length : Int) := by omega
    obtain ⟨s, hs⟩ : ∃ s, t[n]? = some s := ⟨_, List.getElem?_eq_getElem hlt⟩
    obtain ⟨b, off, c', e', _, _, hcell⟩ := HR.out.tb.at (fun e => by have := congrArg List.length e; rw [strs_length] at this; rw [this] at hlt; simp at hlt)
    simp only [Value.slice.injEq] at e'
    obtain ⟨rfl, _, rfl⟩ := e'
    have d0 : w1.cell? ⟨b, off + n, none⟩ = some (.string s) := hcell n _ (by rw [strs, List.getElem?_map, hs]; rfl)
    have HX : Hid (outE (pSym t B a) e = fin s a1 e1) := by
      show _ = _
      by_cases he : e1 = 0
      · exact pnum_ok HB.out HA.out HF.out he hs
      · exact pnum_bad s HB.out HA.out HF.out he
    clear hs hcell hlt
    go_wp2_with fail
    go_ret
    exact ⟨HM.out, s, a1, e1, rfl, HR.out, HX.out⟩
  · have hlt' : ¬ (n : Int) < (t.length : Int) := by omega
    have hle' : (t.length : Int) ≤ (n : Int) := by omega
    have HX : Hid (outE (pSym t B a) e = fin ByteArray.empty a1 (if e1 = 0 then 14 else e1)) := by
      show _ = _
      by_cases he : e1 = 0
      · rw [if_pos he]; exact pnum_no _ (by decide) HB.out HA.out HF.out he (List.getElem?_eq_none (by omega))
      · rw [if_neg he]; exact pnum_bad _ HB.out HA.out HF.out he
    have HFl := Lib.hid (rc_fail g q v B (.slice pt t.length ct) t a1 e1 14 w1 HR.out)
    rw [show ((14 : Nat) : Int) = 14 from rfl] at HFl
    clear hlt
    go_wp2_with fail
    refine HFl.out.mono ?_
    rintro en w2 ⟨rfl, hR2, hm2⟩
    have HR2 := Lib.hid hR2
    have HM2 := Lib.hid (HM.out.trans hm2 (fun _ _ e => e))
    clear HFl hR2 hm2 g0 g1 g2
    go_wp2_with fail
    go_ret
    exact ⟨HM2.out, _, _, _, rfl, HR2.out, HX.out⟩

def lenNat (n : Nat) : Bool := decide (1 ≤ n ∧ n ≤ 2147483647)
theorem is_len_u64 (n : Nat) (w : World) : Calls Try.prog 62 #[.int .u64 (n : Int)] w fun en w' => en = .returned (.bool (lenNat n)) ∧ w' = w := by
  by_cases h1 : 1 ≤ n
  · have h1' : (1 : Int) ≤ (n : Int) := by omega
    by_cases h2 : n ≤ 2147483647
    · have h2' : (n : Int) ≤ 2147483647 := by omega
      have HD : Hid (lenNat n = true) := decide_eq_true ⟨h1, h2⟩
      clear h1 h2
      go_enter Try.func62, Try.ntmps62
      go_wp2_with fail
      go_ret
      exact ⟨by rw [HD.out]; rfl, rfl⟩
    · have h2' : ¬ (n : Int) ≤ 2147483647 := by omega
      have HD : Hid (lenNat n = false) := decide_eq_false (fun h => h2 h.2)
      clear h1 h2
      go_enter Try.func62, Try.ntmps62
      go_wp2_with fail
      go_ret
      exact ⟨by rw [HD.out]; rfl, rfl⟩
  · have h1' : ¬ (1 : Int) ≤ (n : Int) := by omega
    have HD : Hid (lenNat n = false) := decide_eq_false (fun h => h1 h.1)
    clear h1
    go_enter Try.func62, Try.ntmps62
    go_wp2_with fail
    go_ret
    exact ⟨by rw [HD.out]; rfl, rfl⟩

set_option maxHeartbeats 4000000 in
theorem rc_length (g q : Nat) (v : Value) (B : List Nat) (tv : Value) (t : List ByteArray) (a e : Nat) (w : World) (h : RcRd w g q v B tv t a e) (hB : ∀ c ∈ B, c < 256) (hz : B.length ≤ 100000000) :
    Calls Try.prog 54 #[.pointer (some ⟨g, 0, none⟩)] w fun en w' => Mods (fun k => k = q) w w' ∧ ∃ (x : Int) (a' e' : Nat), en = .returned (.int .i64 x) ∧ RcRd w' g q v B tv t a' e' ∧ outE (pLen B a) e = fin x a' e' := by
  have HU := Lib.hid (rc_number g q v B tv t a e w h hB hz)
  have HB := Lib.hid hB; have HA := Lib.hid h.at_
  clear h hB hz
  go_enter Try.func54, Try.ntmps54
  go_wp2_with fail
  refine HU.out.mono ?_
  rintro en w1 ⟨hm, n, a1, e1, rfl, hn, hR, hf, h0⟩
  have HM := Lib.hid hm; have HR := Lib.hid hR; have HF := Lib.hid hf; have H0 := Lib.hid h0
  obtain ⟨g0, g1, g2⟩ := hR.cells
  have HIs := Lib.hid (is_len_u64 n w1)
  clear HU hm hR hf h0
  by_cases hok : 1 ≤ n ∧ n ≤ 2147483647
  · rw [show lenNat n = true from decide_eq_true hok] at HIs
    have hw : IntKind.i64.wrap (n : Int) = (n : Int) := by rw [IntKind.wrap_i64]; omega
    have he : e1 = 0 := Decidable.byContradiction fun he => by have := H0.out he; omega
    have HX : Hid (outE (pLen B a) e = fin (n : Int) a1 e1) := pnum_ok HB.out HA.out HF.out he (if_pos hok)
    clear hok he
    go_wp2_with fail
    refine HIs.out.mono ?_
    rintro en w2 ⟨rfl, rfl⟩
    clear HIs
    go_wp2_with fail
    go_ret
    exact ⟨HM.out, _, a1, e1, rfl, HR.out, HX.out⟩
  · rw [show lenNat n = false from decide_eq_false hok] at HIs
    have HX : Hid (outE (pLen B a) e = fin (0 : Int) a1 (if e1 = 0 then 23 else e1)) := by
      show _ = _
      by_cases he : e1 = 0
      · rw [if_pos he]; exact pnum_no _ (by decide) HB.out HA.out HF.out he (if_neg hok)
      · rw [if_neg he]; exact pnum_bad _ HB.out HA.out HF.out he
    have HFl := Lib.hid (rc_fail g q v B tv t a1 e1 23 w1 HR.out)
    rw [show ((23 : Nat) : Int) = 23 from rfl] at HFl
    clear hok
    go_wp2_with fail
    refine HIs.out.mono ?_
    rintro en w2 ⟨rfl, rfl⟩
    clear HIs
    go_wp2_with fail
    refine HFl.out.mono ?_
    rintro en w3 ⟨rfl, hR2, hm2⟩
    have HR2 := Lib.hid hR2
    have HM2 := Lib.hid (HM.out.trans hm2 (fun _ _ e => e))
    clear HFl hR2 hm2 g0 g1 g2
    go_wp2_with fail
    go_ret
    exact ⟨HM2.out, _, _, _, rfl, HR2.out, HX.out⟩

theorem strLab13 : Str Try.prog 54 2 [.string ⟨#[]⟩, .string ⟨#[]⟩] := Str.mk' Try.underlying54 rfl (by kernel_rfl) rfl
set_option maxHeartbeats 4000000 in
theorem rc_label (g q : Nat) (v : Value) (B : List Nat) (tv : Value) (t : List ByteArray) (a e : Nat) (w : World) (h : RcRd w g q v B tv t a e) (hB : ∀ c ∈ B, c < 256) (hz : B.length ≤ 100000000) (hn : t.length ≤ 1000000) :
    Calls Try.prog 52 #[.pointer (some ⟨g, 0, none⟩)] w fun en w' => Mods (fun k => k = q) w w' ∧ ∃ (x : Lab) (a' e' : Nat), en = .returned (.agg #[.string x.1, .string x.2]) ∧ RcRd w' g q v B tv t a' e' ∧ outE (pLab t B a) e = fin x a' e' := by
  have hb1 : Below w.heap.size w (w.alloc (.cells #[.string ⟨#[]⟩, .string ⟨#[]⟩] 54)) := (Below.refl _ w).alloc (Nat.le_refl _) _
  have HM1 : Hid (Mods (fun k => k = q) w (w.alloc (.cells #[.string ⟨#[]⟩, .string ⟨#[]⟩] 54))) := Mods.of_below hb1 _
  have HR1 := Lib.hid (h.below hb1)
  have HG : Hid (Blk (w.alloc (.cells #[.string ⟨#[]⟩, .string ⟨#[]⟩] 54)) w.heap.size [.string ⟨#[]⟩, .string ⟨#[]⟩]) := Blk.new _ _ _
  have HQ : Hid (w.heap.size ≠ q) := fun e => by have := h.rr.blk.lt; omega
  have HB := Lib.hid hB; have HZ := Lib.hid hz; have HN := Lib.hid hn
  have HLw := Lib.hid h.low
  clear h hB hz hn hb1
  go_enter Try.func52, Try.ntmps52
  go_wp2_with fail
  generalize w.alloc (.cells #[.string ⟨#[]⟩, .string ⟨#[]⟩] 54) = w1 at *
  obtain ⟨r, hr⟩ : ∃ r, w.heap.size = r := ⟨_, rfl⟩
  have HRw := Lib.hid hr
  rw [hr] at HG HQ ⊢
  clear hr
  refine (rc_symbol g q v B tv t a e w1 HR1.out HB.out HZ.out HN.out).mono ?_
  rintro en w2 ⟨hm2, s1, a1, e1, rfl, hR2, hf1⟩
  have HM2 := Lib.hid (HM1.out.trans hm2 (fun _ _ e => e)); have HR2 := Lib.hid hR2; have HF1 := Lib.hid hf1
  have HG2 := Lib.hid (hm2.blk HG.out HQ.out)
  clear hm2 hR2 hf1 HG HM1 HR1
  go_wp2_with fail
  refine (rc_symbol g q v B tv t a1 e1 w2 HR2.out HB.out HZ.out HN.out).mono ?_
  rintro en w3 ⟨hm3, s2, a2, e2, rfl, hR3, hf2⟩
  have HM3 := Lib.hid (HM2.out.trans hm3 (fun _ _ e => e)); have HR3 := Lib.hid hR3
  have HF : Hid (outE (pLab t B a) e = fin (s1, s2) a2 e2) := fin_pair HF1.out hf2
  have HG3 := Lib.hid (hm3.blk HG2.out HQ.out)
  have HG4 := Lib.hid (HG3.out.set2 (.string s1) (.string s2))
  obtain ⟨⟨c0, c1⟩, f0, f1⟩ := HG3.out.two
  have HM4 : Hid (Mods (fun k => k = q) w ((w3.setCell ⟨r, 0, none⟩ (.string s1)).setCell ⟨r, 1, none⟩ (.string s2))) := (HM3.out.trans (Mods.set (fun k => k = r) _ _ _ (fun _ => rfl)) (fun j hj e => by have := HRw.out; omega)).trans (Mods.set (fun k => k = r) _ _ _ (fun _ => rfl)) (fun j hj e => by have := HRw.out; omega)
  have HR4 : Hid (RcRd ((w3.setCell ⟨r, 0, none⟩ (.string s1)).setCell ⟨r, 1, none⟩ (.string s2)) g q v B tv t a2 e2) := by
    have hm : Mods (fun k => k = r) w3 ((w3.setCell ⟨r, 0, none⟩ (.string s1)).setCell ⟨r, 1, none⟩ (.string s2)) := (Mods.set (fun k => k = r) _ _ _ (fun _ => rfl)).trans (Mods.set (fun k => k = r) _ _ _ (fun _ => rfl)) (fun _ _ e => e)
    have hl := HLw.out; have hr := HRw.out
    exact HR3.out.mods hm (fun e => by have := hl.g; omega) (fun e => by have := hl.q; omega) (fun hne k hk e => by have := hl.v hne k hk; omega) (fun hne k hk e => by have := hl.t hne k hk; omega)
  clear hm3 hR3 hf2 HG2 HM2 HR2 HF1
  go_wp2_with fail
  refine bodyPost_ret (resultsS (p := 2) strLab13 (by kernel_rfl) _ r rfl [.string s1, .string s2] HG4.out rfl) rfl ?_
  exact ⟨HM4.out, (s1, s2), a2, e2, rfl, HR4.out, HF.out⟩
end Go.Proofs.Ytmnagmbokajfpaa

end

section
/- Layer 13, the program's own: where the reading of a list stands, also after an error. No program in sight. -/
set_option linter.unusedVariables false
namespace Go.Proofs.Ytmnagmbokajfpaa
open Go Go.RowKit

section
variable {α : Type} {p : List Nat → Nat → Out α} {B : List Nat} {a e n b e1 i x : Nat} {acc : List α} {T : Out (List α)}
theorem list_start (hB : ∀ c ∈ B, c < 256) (ha : a ≤ B.length) (h : outE (outUint B a 18446744073709551615) e = fin n b e1) (hn : ¬ B.length - b < n) : outE (pList 0 p B a) e = outE (pMany p B (n - 0) b []) e1 := by
  rw [Nat.sub_zero]
  by_cases h0 : e1 = 0
  · obtain ⟨rfl, ho⟩ := fin_ok h h0
    subst h0
    rcases outCount_cases hB ha with ⟨k, _, hu, _⟩ | ⟨m, b', hu, _, _, _, hc⟩
    · rw [hu] at ho; cases ho
    · rw [hu] at ho; cases ho
      rw [outE_zero, outE_zero, pList_count, hc, if_neg hn]
      simp
  · rcases fin_bad h h0 with ⟨rfl, ho⟩ | ⟨k, rfl⟩
    · rcases outCount_cases hB ha with ⟨k, _, hu, hc⟩ | ⟨m, b', hu, _⟩
      · rw [hu] at ho; cases ho
        rw [outE_zero, outE_ne _ h0, pList_count, hc]
      · rw [hu] at ho; cases ho
    · rw [outE_ne _ k, outE_ne _ k]
theorem list_short (hB : ∀ c ∈ B, c < 256) (ha : a ≤ B.length) (h : outE (outUint B a 18446744073709551615) e = fin n b e1) (h1 : e1 ≠ 0 → n = 0) (hn : B.length - b < n) : e1 = 0 ∧ outE (pList 0 p B a) e = outE (pMany p B (n - 0) b []) 3 := by
  have h0 : e1 = 0 := Decidable.byContradiction fun h0 => by have := h1 h0; omega
  refine ⟨h0, ?_⟩
  obtain ⟨rfl, ho⟩ := fin_ok h h0
  rcases outCount_cases hB ha with ⟨k, _, hu, _⟩ | ⟨m, b', hu, _, _, _, hc⟩
  · rw [hu] at ho; cases ho
  · rw [hu] at ho; cases ho
    rw [outE_zero, outE_ne _ (by decide), pList_count, hc, if_pos hn]
theorem list_step {y : α} {x' e' : Nat} (hi : i < n) (h : T = outE (pMany p B (n - i) x acc) e) (hx : outE (p B x) e = fin y x' e') (h0 : e' = 0) : T = outE (pMany p B (n - (i + 1)) x' (acc ++ [y])) e' := by
  obtain ⟨rfl, ho⟩ := fin_ok hx h0
  subst h0
  rw [outE_zero] at h ⊢
  exact many_ok hi h ho
theorem list_break {y : α} {x' e' : Nat} (hi : i < n) (h : T = outE (pMany p B (n - i) x acc) e) (hx : outE (p B x) e = fin y x' e') (h0 : e' ≠ 0) : T = fin acc x' e' := by
  rcases fin_bad hx h0 with ⟨rfl, ho⟩ | ⟨k, rfl⟩
  · rw [outE_zero] at h
    rw [many_no hi h ho, fin, if_neg h0]
  · rw [h, outE_ne _ k, fin, if_neg k]
theorem list_end (hi : n ≤ i) (h : T = outE (pMany p B (n - i) x acc) e) : T = fin acc x e := by
  rw [h, show n - i = 0 by omega, pMany]; rfl
end
end Go.Proofs.Ytmnagmbokajfpaa

end

section
/- Layer 13, the program's own: lists of labels. -/
set_option linter.unusedVariables false
set_option maxRecDepth 20000
namespace Go.Proofs.Ytmnagmbokajfpaa
open Go Go.RowKit

set_option maxHeartbeats 16000000 in
theorem gl_labels (g q : Nat) (v : Value) (B : List Nat) (tv : Value) (t : List ByteArray) (a e : Nat) (w : World) (h : RcRd w g q v B tv t a e) (hB : ∀ c ∈ B, c < 256) (hz : B.length ≤ 100000000) (hn : t.length ≤ 1000000) :
    Calls Try.prog 51 #[.pointer (some ⟨g, 0, none⟩), .func (.func 52) #[.pointer (some ⟨g, 0, none⟩)] #[]] w fun en w' => Mods (fun k => k = q) w w' ∧ ∃ (l : List Lab) (r : Value) (a' e' : Nat), en = .returned r ∧ w'.ownsRow w.heap.size 54 2 r l.length (labCells l) ∧ RcRd w' g q v B tv t a' e' ∧ outE (pLabs t B a) e = fin l a' e' := by
  have HU := Lib.hid (rc_number g q v B tv t a e w h hB hz)
  have HB := Lib.hid hB; have HZ := Lib.hid hz; have HN := Lib.hid hn; have HA := Lib.hid h.at_; have HLw := Lib.hid h.low
  have hbm : (B.length : Int) ≤ 100000000 := by omega
  obtain ⟨T, hT⟩ : ∃ T, outE (pLabs t B a) e = T := ⟨_, rfl⟩
  have HT := Lib.hid hT
  rw [hT]
  clear h hB hz hn hT
  go_enter Try.func51, Try.ntmps51
  go_wp2_with fail
  refine HU.out.mono ?_
  rintro en w1 ⟨hm, n, b, e1, rfl, hn, hR, hf, h0⟩
  have HM1 := Lib.hid hm; have HR1 := Lib.hid hR; have HF := Lib.hid hf; have H0 := Lib.hid h0; have HNn := Lib.hid hn
  have hbl := hR.at_
  have hw : IntKind.u64.wrap ((B.length : Int) - (b : Int)) = ((B.length - b : Nat) : Int) := by rw [IntKind.wrap_u64]; omega
  obtain ⟨g0, g1, g2⟩ := hR.cells
  have HAt := Lib.hid (fun k => rd_at q v B b (e1 : Int) (w1.drewN k) (HR1.out.rr.drewN k))
  obtain ⟨D, hD⟩ : ∃ D, B.length - b = D := ⟨_, rfl⟩
  have HD := Lib.hid hD
  rw [hD] at hw
  clear HU hm hR hf h0 hn hD
  go_wp2_with fail
  go_quiet ((go_at_call 48; exact Calls.quiet_of_same (HAt.out _)))
  have HR2 := Lib.hid (HR1.out.below (below_drewN w1 nq))
  have HM2 : Hid (Mods (fun k => k = q) w (w1.drewN nq)) := HM1.out.trans (Mods.drewN _ _ _) (fun _ _ e => e)
  clear HAt HM1 HR1 g0 g1 g2
  generalize w1.drewN nq = w2 at *
  obtain ⟨g0, g1, g2⟩ := HR2.out.cells
  go_upto_if 22 with fail
  go_cut [22] from 10 to 28 (fun bv wx => ∃ (bb : Bool) (e2 : Nat), bv = .bool bb ∧ Hid (T = outE (pMany (pLab t) B (n - 0) b []) e2 ∧ (e2 = 0 → n ≤ 100000000)) ∧ Hid (RcRd wx g q v B tv t b e2) ∧ Hid (Mods (fun k => k = q) w wx))
  case first =>
    by_cases hlt : D < n
    · have hlt' : (D : Int) < (n : Int) := by omega
      obtain ⟨he1, hst⟩ := list_short (p := pLab t) HB.out HA.out HF.out H0.out (by have := HD.out; omega)
      subst he1
      have hfl := rc_fail g q v B tv t b 0 3 w2 HR2.out
      rw [if_pos rfl, show ((3 : Nat) : Int) = 3 from rfl] at hfl
      have HFl := Lib.hid hfl
      have HX : Hid (T = outE (pMany (pLab t) B (n - 0) b []) 3 ∧ ((3 : Nat) = 0 → n ≤ 100000000)) := ⟨HT.out.symm.trans hst, fun h => absurd h (by decide)⟩
      clear hst hlt hfl
      go_wp2_with fail
      refine HFl.out.mono ?_
      rintro en w3 ⟨rfl, hR3, hm3⟩
      have HR3 := Lib.hid hR3
      have HM3 := Lib.hid (HM2.out.trans hm3 (fun _ _ e => e))
      clear HFl hR3 hm3
      go_wp2_with fail
      go_meet
      exact ⟨_, 3, rfl, HX.out, HR3.out, HM3.out⟩
    · have hlt' : ¬ (D : Int) < (n : Int) := by omega
      have HX : Hid (T = outE (pMany (pLab t) B (n - 0) b []) e1 ∧ (e1 = 0 → n ≤ 100000000)) := ⟨HT.out.symm.trans (list_start HB.out HA.out HF.out (by have := HD.out; omega)), fun _ => by have := HD.out; omega⟩
      go_wp2_with fail
      go_meet
      exact ⟨_, e1, rfl, HX.out, HR2.out, HM2.out⟩
  case rest =>
  obtain ⟨bb, e2, rfl, HX, HR3, HM3⟩ := hcut
  clear g0 g1 g2 HR2 HM2 HD hw hbl
  go_wp2_with fail
  have HO0 : Hid (wc.ownsRow w.heap.size 54 2 (.slice none 0 0) ([] : List Lab).length (labCells [])) := World.ownsRow_nil _ _ _ _
  go_loopw [6, 29] (fun vv iv wr => ∃ (i x e' : Nat) (acc : List Lab), i ≤ n ∧ iv = .int .u64 (i : Int) ∧ Hid (acc.length = i ∧ (e' = 0 → n ≤ 100000000) ∧ T = outE (pMany (pLab t) B (n - i) x acc) e') ∧ Hid (wr.ownsRow w.heap.size 54 2 vv acc.length (labCells acc)) ∧ Hid (Mods (fun k => k = q) w wr) ∧ Hid (RcRd wr g q v B tv t x e')) (fun _ iv _ => n - (intOf iv).toNat)
  case atStart => exact ⟨0, b, e2, [], Nat.zero_le _, rfl, ⟨rfl, HX.out.2, HX.out.1⟩, HO0.out, HM3.out, HR3.out⟩
  case round =>
    obtain ⟨i, x, e', acc, hi, rfl, HI, HO, HM, HR⟩ := hrel
    clear HX HR3 HM3 HO0
    obtain ⟨pv, cv, hvv⟩ := (Rd.of_owns HO.out).shape
    subst hvv
    by_cases hlt : i < n
    · have hlt' : (i : Int) < (n : Int) := by omega
      have HGt := Lib.hid (rc_label g q v B tv t x e' wr HR.out HB.out HZ.out HN.out)
      go_wp2_with fail
      refine HGt.out.mono ?_
      rintro en w3 ⟨hm3, ⟨s1, s2⟩, x3, e3, rfl, hR3, hf3⟩
      have HF3 := Lib.hid hf3
      have HM3 := Lib.hid (HM.out.trans hm3 (fun _ _ e => e))
      have HO3 : Hid (w3.ownsRow w.heap.size 54 2 (.slice pv acc.length cv) acc.length (labCells acc)) := hm3.owns HO.out (fun k hk e => by have := (HO.out.lt k hk).1; have := HLw.out.q; omega)
      have hbA : Hid (Below w3.heap.size w3 (w3.alloc (.cells #[.string s1, .string s2] 54))) := (Below.refl _ w3).alloc (Nat.le_refl _) _
      have HM4 := Lib.hid (HM3.out.trans (Mods.of_below hbA.out (fun k => k = q)) (fun _ _ e => e))
      have HR4 := Lib.hid (hR3.below hbA.out)
      have HO4 : Hid ((w3.alloc (.cells #[.string s1, .string s2] 54)).ownsRow w.heap.size 54 2 (.slice pv acc.length cv) acc.length (labCells acc)) := (Mods.of_below hbA.out (fun _ => False)).owns HO3.out (fun _ _ e => e)
      have HG : Hid (Blk (w3.alloc (.cells #[.string s1, .string s2] 54)) w3.heap.size [.string s1, .string s2]) := Blk.new _ _ _
      have HS3 : Hid (w.heap.size ≤ w3.heap.size) := HM3.out.size
      obtain ⟨g0, g1, g2⟩ := HR4.out.cells
      obtain ⟨⟨c0, c1⟩, f0, f1⟩ := HG.out.two
      clear HGt hm3 hR3 hf3 HO HM HR HO3 HM3 hbA
      go_wp2_with fail
      generalize w3.alloc (.cells #[.string s1, .string s2] 54) = w4 at *
      obtain ⟨r, hr⟩ : ∃ r, w3.heap.size = r := ⟨_, rfl⟩
      rw [hr] at HG HS3 c0 c1 f0 f1 ⊢
      clear hr
      have HEr := Lib.hid (rd_err q v B x3 (e3 : Int) w4 HR4.out.rr)
      refine HEr.out.mono ?_
      rintro en w5 ⟨rfl, rfl⟩
      clear HEr
      by_cases he : e3 = 0
      · subst he
        have HI2 : Hid ((acc ++ [(s1, s2)]).length = i + 1 ∧ ((0 : Nat) = 0 → n ≤ 100000000) ∧ T = outE (pMany (pLab t) B (n - (i + 1)) x3 (acc ++ [(s1, s2)])) 0) := by
          obtain ⟨a1, a2, a3⟩ := HI.out
          have he' : e' = 0 := (fin_ok HF3.out rfl).1
          exact ⟨by rw [List.length_append, a1]; rfl, fun _ => a2 he', list_step hlt a3 HF3.out rfl⟩
        have hnm : (n : Int) ≤ 100000000 := by have := HI2.out.2.1 rfl; omega
        have HLb : Hid ((acc.length + 1) * 32 ≤ 140737488355328 ∧ acc.length + 1 ≤ maxLen) := by show _ ∧ _; have := HI.out.1; unfold maxLen; omega
        have HOz : Hid (w5.ownsRow 0 54 2 (.slice pv acc.length cv) acc.length (labCells acc)) := owns_rebase HO4.out (fun _ _ => Nat.zero_le _)
        clear HF3 HI HG hlt
        go_wp2_with (at_builtin; refine wpList_push elemLab _ #[.string s1, .string s2] _ _ _ HOz.out rfl (by simp [Value.oneCell']) HLb.out rfl _ _ rfl rfl rfl ?_)
        intro v6 w6 k1 m1 h1
        have hof : ∀ k, (Value.slice pv acc.length cv).ownBlock = some k → w.heap.size ≤ k := fun k hk => (HO4.out.lt k hk).1
        have HO6 : Hid (w6.ownsRow w.heap.size 54 2 v6 (acc ++ [(s1, s2)]).length (labCells (acc ++ [(s1, s2)]))) := by
          show World.ownsRow _ _ _ _ _ _ _
          rw [List.length_append, labCells_append]
          refine owns_rebase k1 (fun k hk => ?_)
          rcases h1 k hk with e | e
          · exact hof k e
          · have := HM4.out.size; omega
        have HM6 : Hid (Mods (fun k => k = q) w w6) := HM4.out.trans m1 (fun j hj e => by have := hof j e; omega)
        have HR6 : Hid (RcRd w6 g q v B tv t x3 0) := HR4.out.mods m1 (fun e => by have := hof g e; have := HLw.out.g; omega) (fun e => by have := hof q e; have := HLw.out.q; omega) (fun hne k hk e => by have := hof k e; have := HLw.out.v hne k hk; omega) (fun hne k hk e => by have := hof k e; have := HLw.out.t hne k hk; omega)
        obtain ⟨p6, c6, hv6⟩ := (Rd.of_owns HO6.out).shape
        subst hv6
        clear k1 m1 h1 hof HOz HO4 HM4 HR4 c0 c1 f0 f1 g0 g1 g2
        generalize acc ++ [(s1, s2)] = acc2 at *
        go_wp2_with fail
        go_round
        case rel => exact ⟨i + 1, x3, 0, acc2, by omega, by go_num, ⟨HI2.out.1, fun _ => HI2.out.2.1 trivial, HI2.out.2.2⟩, HO6.out, HM6.out, HR6.out⟩
        case measure => simp [intOf]; omega
      · have heb : ((e3 : Int) == 0) = false := by rw [beq_eq_false_iff_ne]; omega
        have HX : Hid (T = fin acc x3 e3) := list_break hlt HI.out.2.2 HF3.out he
        clear HI HF3 HG he c0 c1 f0 f1 g0 g1 g2
        go_wp2_with fail
        go_ret
        exact ⟨HM4.out, acc, _, x3, e3, rfl, HO4.out, HR4.out, HX.out⟩
    · have hlt' : ¬ (i : Int) < (n : Int) := by omega
      have HX : Hid (T = fin acc x e') := list_end (by omega) HI.out.2.2
      go_wp2_with fail
      go_ret
      first
        | exact ⟨HM.out, acc, _, x, e', rfl, HO.out, HR.out, HX.out⟩
        | exact ⟨HM.out, acc, _, rfl, HO.out, x, e', HR.out, HX.out⟩
end Go.Proofs.Ytmnagmbokajfpaa

end

section
/- Layer 13, the program's own: lists of lengths. -/
set_option linter.unusedVariables false
set_option maxRecDepth 20000
namespace Go.Proofs.Ytmnagmbokajfpaa
open Go Go.RowKit

/-- The lengths of chunks, of which there may be none. -/
def pLens0 : List Nat → Nat → Out (List Int) := pList 0 pLen
set_option maxHeartbeats 16000000 in
theorem gl_lengths (g q : Nat) (v : Value) (B : List Nat) (tv : Value) (t : List ByteArray) (a e : Nat) (w : World) (h : RcRd w g q v B tv t a e) (hB : ∀ c ∈ B, c < 256) (hz : B.length ≤ 100000000) (hn : t.length ≤ 1000000) :
    Calls Try.prog 53 #[.pointer (some ⟨g, 0, none⟩), .func (.func 54) #[.pointer (some ⟨g, 0, none⟩)] #[]] w fun en w' => Mods (fun k => k = q) w w' ∧ ∃ (l : List Int) (r : Value) (a' e' : Nat), en = .returned r ∧ w'.ownsRow w.heap.size 3 1 r l.length (i64s l) ∧ RcRd w' g q v B tv t a' e' ∧ outE (pLens0 B a) e = fin l a' e' := by
  have HU := Lib.hid (rc_number g q v B tv t a e w h hB hz)
  have HB := Lib.hid hB; have HZ := Lib.hid hz; have HN := Lib.hid hn; have HA := Lib.hid h.at_; have HLw := Lib.hid h.low
  have hbm : (B.length : Int) ≤ 100000000 := by omega
  obtain ⟨T, hT⟩ : ∃ T, outE (pLens0 B a) e = T := ⟨_, rfl⟩
  have HT := Lib.hid hT
  rw [hT]
  clear h hB hz hn hT
  go_enter Try.func53, Try.ntmps53
  go_wp2_with fail
  refine HU.out.mono ?_
  rintro en w1 ⟨hm, n, b, e1, rfl, hn, hR, hf, h0⟩
  have HM1 := Lib.hid hm; have HR1 := Lib.hid hR; have HF := Lib.hid hf; have H0 := Lib.hid h0; have HNn := Lib.hid hn
  have hbl := hR.at_
  have hw : IntKind.u64.wrap ((B.length : Int) - (b : Int)) = ((B.length - b : Nat) : Int) := by rw [IntKind.wrap_u64]; omega
  obtain ⟨g0, g1, g2⟩ := hR.cells
  have HAt := Lib.hid (fun k => rd_at q v B b (e1 : Int) (w1.drewN k) (HR1.out.rr.drewN k))
  obtain ⟨D, hD⟩ : ∃ D, B.length - b = D := ⟨_, rfl⟩
  have HD := Lib.hid hD
  rw [hD] at hw
  clear HU hm hR hf h0 hn hD
  go_wp2_with fail
  go_quiet ((go_at_call 48; exact Calls.quiet_of_same (HAt.out _)))
  have HR2 := Lib.hid (HR1.out.below (below_drewN w1 nq))
  have HM2 : Hid (Mods (fun k => k = q) w (w1.drewN nq)) := HM1.out.trans (Mods.drewN _ _ _) (fun _ _ e => e)
  clear HAt HM1 HR1 g0 g1 g2
  generalize w1.drewN nq = w2 at *
  obtain ⟨g0, g1, g2⟩ := HR2.out.cells
  go_upto_if 22 with fail
  go_cut [22] from 10 to 28 (fun bv wx => ∃ (bb : Bool) (e2 : Nat), bv = .bool bb ∧ Hid (T = outE (pMany pLen B (n - 0) b []) e2 ∧ (e2 = 0 → n ≤ 100000000)) ∧ Hid (RcRd wx g q v B tv t b e2) ∧ Hid (Mods (fun k => k = q) w wx))
  case first =>
    by_cases hlt : D < n
    · have hlt' : (D : Int) < (n : Int) := by omega
      obtain ⟨he1, hst⟩ := list_short (p := pLen) HB.out HA.out HF.out H0.out (by have := HD.out; omega)
      subst he1
      have hfl := rc_fail g q v B tv t b 0 3 w2 HR2.out
      rw [if_pos rfl, show ((3 : Nat) : Int) = 3 from rfl] at hfl
      have HFl := Lib.hid hfl
      have HX : Hid (T = outE (pMany pLen B (n - 0) b []) 3 ∧ ((3 : Nat) = 0 → n ≤ 100000000)) := ⟨HT.out.symm.trans hst, fun h => absurd h (by decide)⟩
      clear hst hlt hfl
      go_wp2_with fail
      refine HFl.out.mono ?_
      rintro en w3 ⟨rfl, hR3, hm3⟩
      have HR3 := Lib.hid hR3
      have HM3 := Lib.hid (HM2.out.trans hm3 (fun _ _ e => e))
      clear HFl hR3 hm3
      go_wp2_with fail
      go_meet
      exact ⟨_, 3, rfl, HX.out, HR3.out, HM3.out⟩
    · have hlt' : ¬ (D : Int) < (n : Int) := by omega
      have HX : Hid (T = outE (pMany pLen B (n - 0) b []) e1 ∧ (e1 = 0 → n ≤ 100000000)) := ⟨HT.out.symm.trans (list_start HB.out HA.out HF.out (by have := HD.out; omega)), fun _ => by have := HD.out; omega⟩
      go_wp2_with fail
      go_meet
      exact ⟨_, e1, rfl, HX.out, HR2.out, HM2.out⟩
  case rest =>
  obtain ⟨bb, e2, rfl, HX, HR3, HM3⟩ := hcut
  clear g0 g1 g2 HR2 HM2 HD hw hbl
  go_wp2_with fail
  have HO0 : Hid (wc.ownsRow w.heap.size 3 1 (.slice none 0 0) ([] : List Int).length (i64s [])) := World.ownsRow_nil _ _ _ _
  go_loopw [6, 29] (fun vv iv wr => ∃ (i x e' : Nat) (acc : List Int), i ≤ n ∧ iv = .int .u64 (i : Int) ∧ Hid (acc.length = i ∧ (e' = 0 → n ≤ 100000000) ∧ T = outE (pMany pLen B (n - i) x acc) e') ∧ Hid (wr.ownsRow w.heap.size 3 1 vv acc.length (i64s acc)) ∧ Hid (Mods (fun k => k = q) w wr) ∧ Hid (RcRd wr g q v B tv t x e')) (fun _ iv _ => n - (intOf iv).toNat)
  case atStart => exact ⟨0, b, e2, [], Nat.zero_le _, rfl, ⟨rfl, HX.out.2, HX.out.1⟩, HO0.out, HM3.out, HR3.out⟩
  case round =>
    obtain ⟨i, x, e', acc, hi, rfl, HI, HO, HM, HR⟩ := hrel
    clear HX HR3 HM3 HO0
    obtain ⟨pv, cv, hvv⟩ := (Rd.of_owns HO.out).shape
    subst hvv
    by_cases hlt : i < n
    · have hlt' : (i : Int) < (n : Int) := by omega
      have HGt := Lib.hid (rc_length g q v B tv t x e' wr HR.out HB.out HZ.out)
      go_wp2_with fail
      refine HGt.out.mono ?_
      rintro en w3 ⟨hm3, s1, x3, e3, rfl, hR3, hf3⟩
      have HF3 := Lib.hid hf3
      have HM3 := Lib.hid (HM.out.trans hm3 (fun _ _ e => e))
      have HO3 : Hid (w3.ownsRow w.heap.size 3 1 (.slice pv acc.length cv) acc.length (i64s acc)) := hm3.owns HO.out (fun k hk e => by have := (HO.out.lt k hk).1; have := HLw.out.q; omega)
      have HM4 := HM3
      have HR4 := Lib.hid hR3
      have HO4 := HO3
      obtain ⟨g0, g1, g2⟩ := HR4.out.cells
      clear HGt hm3 hR3 hf3 HO HM HR HO3 HM3
      go_wp2_with fail
      have HEr := Lib.hid (rd_err q v B x3 (e3 : Int) w3 HR4.out.rr)
      refine HEr.out.mono ?_
      rintro en w5 ⟨rfl, rfl⟩
      clear HEr
      by_cases he : e3 = 0
      · subst he
        have HI2 : Hid ((acc ++ [s1]).length = i + 1 ∧ ((0 : Nat) = 0 → n ≤ 100000000) ∧ T = outE (pMany pLen B (n - (i + 1)) x3 (acc ++ [s1])) 0) := by
          obtain ⟨a1, a2, a3⟩ := HI.out
          have he' : e' = 0 := (fin_ok HF3.out rfl).1
          exact ⟨by rw [List.length_append, a1]; rfl, fun _ => a2 he', list_step hlt a3 HF3.out rfl⟩
        have hnm : (n : Int) ≤ 100000000 := by have := HI2.out.2.1 rfl; omega
        have HLb : Hid ((acc.length + 1) * 8 ≤ 140737488355328 ∧ acc.length + 1 ≤ maxLen) := by show _ ∧ _; have := HI.out.1; unfold maxLen; omega
        have HOz : Hid (w5.ownsRow 0 3 1 (.slice pv acc.length cv) acc.length (i64s acc)) := owns_rebase HO4.out (fun _ _ => Nat.zero_le _)
        clear HF3 HI hlt
        go_wp2_with (at_builtin; refine wpList_push elemInt13 _ #[.int .i64 s1] _ _ _ HOz.out rfl (one_cell _ rfl) HLb.out rfl _ _ rfl rfl rfl ?_)
        intro v6 w6 k1 m1 h1
        have hof : ∀ k, (Value.slice pv acc.length cv).ownBlock = some k → w.heap.size ≤ k := fun k hk => (HO4.out.lt k hk).1
        have HO6 : Hid (w6.ownsRow w.heap.size 3 1 v6 (acc ++ [s1]).length (i64s (acc ++ [s1]))) := by
          show World.ownsRow _ _ _ _ _ _ _
          rw [List.length_append, i64s_append]
          refine owns_rebase k1 (fun k hk => ?_)
          rcases h1 k hk with e | e
          · exact hof k e
          · have := HM4.out.size; omega
        have HM6 : Hid (Mods (fun k => k = q) w w6) := HM4.out.trans m1 (fun j hj e => by have := hof j e; omega)
        have HR6 : Hid (RcRd w6 g q v B tv t x3 0) := HR4.out.mods m1 (fun e => by have := hof g e; have := HLw.out.g; omega) (fun e => by have := hof q e; have := HLw.out.q; omega) (fun hne k hk e => by have := hof k e; have := HLw.out.v hne k hk; omega) (fun hne k hk e => by have := hof k e; have := HLw.out.t hne k hk; omega)
        obtain ⟨p6, c6, hv6⟩ := (Rd.of_owns HO6.out).shape
        subst hv6
        clear k1 m1 h1 hof HOz HO4 HM4 HR4 g0 g1 g2
        generalize acc ++ [s1] = acc2 at *
        go_wp2_with fail
        go_round
        case rel => exact ⟨i + 1, x3, 0, acc2, by omega, by go_num, ⟨HI2.out.1, fun _ => HI2.out.2.1 trivial, HI2.out.2.2⟩, HO6.out, HM6.out, HR6.out⟩
        case measure => simp [intOf]; omega
      · have heb : ((e3 : Int) == 0) = false := by rw [beq_eq_false_iff_ne]; omega
        have HX : Hid (T = fin acc x3 e3) := list_break hlt HI.out.2.2 HF3.out he
        clear HI HF3 he g0 g1 g2
        go_wp2_with fail
        go_ret
        exact ⟨HM4.out, acc, _, x3, e3, rfl, HO4.out, HR4.out, HX.out⟩
    · have hlt' : ¬ (i : Int) < (n : Int) := by omega
      have HX : Hid (T = fin acc x e') := list_end (by omega) HI.out.2.2
      go_wp2_with fail
      go_ret
      first
        | exact ⟨HM.out, acc, _, x, e', rfl, HO.out, HR.out, HX.out⟩
        | exact ⟨HM.out, acc, _, rfl, HO.out, x, e', HR.out, HX.out⟩
end Go.Proofs.Ytmnagmbokajfpaa

end
