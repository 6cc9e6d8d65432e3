/- TakeH, TakeR, LabSL, Ref11S, LabGt, Ref11D, LabI, AlivL, Alive11, Large10, Large11, Field11, LbA, in one text. -/
import Derived.Test.YtpgdedehhaibmaaMrg3
import Derived.OrdersHeld
import Derived.Test.YtpgdedehhaibmaaMrg2
import Derived.Lib.Bytealg
import Derived.Laws.Externs
import Derived.Shelf.SlSortCmp.QuietGrown

section
/- A region that draws its order, walked in ONE order, where operations beside the calls may read memory: a condition S on the world, which every call keeps, says what they read. No program in sight. -/
namespace Go.Proofs.Ytpgdedehhaibmaa
open Go Go.RowKit

def wpTakeH (P : Program) (ops : Array Oper) (Q : Exit → Act → World → Prop) (calls : List Nat) (S : World → Prop) : List (Nat × Oper) → Act → World → Prop
  | [], a, w => Q .normal a w
  | (i, o) :: rest, a, w => if Region.wanted o (yielded ops a.tmps) = true then
        (if calls.contains i = true then o.wp P a w (fun a' w' => S w' ∧ wpTakeH P ops Q calls S rest a' w') Q else ∃ v, (∀ w, S w → (execOp a.eval o).run P w = .ok (.value v) w) ∧ wpTakeH P ops Q calls S rest (a.put o.dst v) w)
      else wpTakeH P ops Q calls S rest (a.put o.dst undef) w

section
variable {P : Program} {l : List Oper} {Q : Exit → Act → World → Prop} {md : Region.Mode} {calls : List Nat} {S : World → Prop}

theorem wpAnyH_of_take (hs : Region.noSelect l.toArray = true) (hQ : ∀ c (a a' : Act) w, a.defers = a'.defers → Q (.panic c) a w → Q (.panic c) a' w) : ∀ (L : List Nat) (listed : Array Bool) (a : Act) (w : World) (fuel : Nat), L.length ≤ fuel →
    (∀ i ∈ L, i < l.length) → orderB md l.toArray calls L listed = true → S w → wpTakeH P l.toArray Q calls S (taken l L) a w → wpAnyH P md l.toArray Q S fuel listed a w
  | [], listed, a, w, fuel, _, _, hB, _, h => wpAnyH_done (by simpa [orderB] using hB) h fuel
  | i :: rest, listed, a, w, 0, hf, _, _, _, _ => by simp at hf
  | i :: rest, listed, a, w, fuel + 1, hf, hl, hB, hS, h => by
    have hf' : rest.length ≤ fuel := by simpa using hf
    have hl' : ∀ j ∈ rest, j < l.length := fun j hj => hl j (by simp [hj])
    have hi : i < l.length := hl i (by simp)
    unfold orderB at hB
    rw [Bool.and_eq_true] at hB
    obtain ⟨h1, h2⟩ := hB
    have ho : l.toArray[i]? = some l[i] := by simp [hi]
    have e : taken l (i :: rest) = (i, l[i]) :: taken l rest := by simp [taken, hi]
    rw [e] at h
    unfold wpTakeH at h
    generalize l[i] = o at *
    by_cases hc : calls.contains i = true
    · rw [if_pos hc] at h1 h
      have hr : Region.ready md l.toArray listed = [i] := by simpa using h1
      refine wpAnyH_all hr (by simp) (fun j hj => ?_)
      obtain rfl : j = i := by simpa using hj
      unfold wpOp
      simp only [ho]
      split
      · next hw =>
        rw [if_pos hw] at h
        exact .inl (Oper.wp_mono (fun a w h => ⟨h.1, wpAnyH_of_take hs hQ rest _ a w fuel hf' hl' h2 h.1 h.2⟩) h)
      · next hw =>
        rw [if_neg hw] at h
        exact ⟨hS, wpAnyH_of_take hs hQ rest _ _ w fuel hf' hl' h2 hS h⟩
    · rw [if_neg hc] at h1 h
      rw [Bool.and_eq_true] at h1
      by_cases hw : Region.wanted o (yielded l.toArray a.tmps) = true
      · rw [if_pos hw] at h
        obtain ⟨v, hv, h⟩ := h
        exact wpAnyH_take ho hs h1.1 h1.2 (fun c a w h => hQ c _ _ w (put_defers _ _ _) h) (.inl ⟨hw, hv⟩) hS (wpAnyH_of_take hs hQ rest _ _ w fuel hf' hl' h2 hS h)
      · rw [if_neg hw] at h
        exact wpAnyH_take ho hs h1.1 h1.2 (fun c a w h => hQ c _ _ w (put_defers _ _ _) h) (.inr ⟨by simpa using hw, rfl⟩) hS (wpAnyH_of_take hs hQ rest _ _ w fuel hf' hl' h2 hS h)

theorem wp_region_takeH {id : Nat} {a : Act} {w : World} (S : World → Prop) (calls L : List Nat) (hm : P.follows .mixedOrders = true) (hs : Region.noSelect l.toArray = true) (hB : (decide (L.length ≤ l.length) && (L.all (fun i => decide (i < l.length)) && orderB .any l.toArray calls L (Array.replicate l.length false))) = true)
    (hQ : ∀ c (a a' : Act) w, a.defers = a'.defers → Q (.panic c) a w → Q (.panic c) a' w) (hS : S w.drew) (h : wpTakeH P l.toArray Q calls S (taken l L) a w.drew) : (Code.region id l.toArray true).wp P Q a w := by
  rw [Bool.and_eq_true, Bool.and_eq_true] at hB
  refine wp_region_held hm (wpAnyH_of_take hs hQ L _ a _ _ (by simpa using hB.1) (by simpa using hB.2.1) (by simpa using hB.2.2) hS h)

variable {ops : Array Oper}
theorem takeH_nil {a : Act} {w : World} (h : Q .normal a w) : wpTakeH P ops Q calls S [] a w := h
theorem takeH_skip {i : Nat} {o : Oper} {rest : List (Nat × Oper)} {a : Act} {w : World} (hw : Region.wanted o (yielded ops a.tmps) = false) (h : wpTakeH P ops Q calls S rest (a.put o.dst undef) w) : wpTakeH P ops Q calls S ((i, o) :: rest) a w := by
  unfold wpTakeH
  simp only [hw]
  exact h
theorem takeH_blind {i : Nat} {o : Oper} {rest : List (Nat × Oper)} {a : Act} {w : World} (hc : calls.contains i = false) (hw : Region.wanted o (yielded ops a.tmps) = true)
    (h : ∃ v, (∀ w, (execOp a.eval o).run P w = .ok (.value v) w) ∧ wpTakeH P ops Q calls S rest (a.put o.dst v) w) : wpTakeH P ops Q calls S ((i, o) :: rest) a w := by
  unfold wpTakeH
  simp only [hw, hc]
  obtain ⟨v, h1, h2⟩ := h
  exact ⟨v, fun w _ => h1 w, h2⟩
/-- An operation that reads memory: what it yields holds in every world that meets S. -/
theorem takeH_read {i : Nat} {o : Oper} {rest : List (Nat × Oper)} {a : Act} {w : World} (hc : calls.contains i = false) (hw : Region.wanted o (yielded ops a.tmps) = true) (v : Value)
    (h1 : ∀ w, S w → (execOp a.eval o).run P w = .ok (.value v) w) (h : wpTakeH P ops Q calls S rest (a.put o.dst v) w) : wpTakeH P ops Q calls S ((i, o) :: rest) a w := by
  unfold wpTakeH
  simp only [hw, hc]
  exact ⟨v, h1, h⟩
theorem takeH_call {i : Nat} {o : Oper} {rest : List (Nat × Oper)} {a : Act} {w : World} (hc : calls.contains i = true) (hw : Region.wanted o (yielded ops a.tmps) = true)
    (h : ∀ K : Act → World → Prop, (∀ a w, S w → wpTakeH P ops Q calls S rest a w → K a w) → o.wp P a w K Q) : wpTakeH P ops Q calls S ((i, o) :: rest) a w := by
  unfold wpTakeH
  simp only [hw, hc]
  exact h (fun a' w' => S w' ∧ wpTakeH P ops Q calls S rest a' w') (fun _ _ h1 h2 => ⟨h1, h2⟩)
/-- An operation that comes up alone, run in the world at hand. -/
theorem takeH_now {i : Nat} {o : Oper} {rest : List (Nat × Oper)} {a : Act} {w : World} (hc : calls.contains i = true) (hw : Region.wanted o (yielded ops a.tmps) = true) (v : Value) (h1 : (execOp a.eval o).run P w = .ok (.value v) w) (hS : S w)
    (h : wpTakeH P ops Q calls S rest (a.put o.dst v) w) : wpTakeH P ops Q calls S ((i, o) :: rest) a w := by
  unfold wpTakeH
  simp only [hw, hc]
  show o.wp P a w (fun a' w' => S w' ∧ wpTakeH P ops Q calls S rest a' w') Q
  unfold Oper.wp
  rw [h1]
  exact ⟨hS, h⟩

/-- What 's[:i]' yields. -/
theorem exec_upto {t e : TypeId} {sz bytes : Nat} (hE : Elem P t e sz bytes) (w : World) (p : Option Addr) (n c i : Nat) (hi : i ≤ n) (hnc : n ≤ c) {o : Oper} {a : Act} (s x : Operand) (ho : o.op = .slice t s none (some x) none)
    (hs : a.eval s = .slice p n c) (hx : a.eval x = .int .i64 (i : Int)) : (execOp a.eval o).run P w = .ok (.value (.slice p i c)) w := by
  obtain ⟨inf, z, hinf, hz, hsize, hby, hzs⟩ := hE.hi
  have helem : P.elem t = e := by simp [Program.elem, hE.ht]
  have hu : P.underlying t = some (.slice (P.elem t)) := by rw [helem]; exact hE.ht
  have hcell : P.cellsOf (P.elem t) = sz := by rw [helem]; simp [Program.cellsOf, hinf, hsize]
  have hr : (Instr.sliceAt t (.slice p n c) none (some (.int .i64 (i : Int))) none).run P w = .ok (.slice p i c) w := by
    have hsz := run_sizeOf (w := w) (show P.info? (P.elem t) = some inf by rw [helem]; exact hinf)
    rw [run_sliceAt_slice (h := hu), run_slice_h (ht := hu) (h0 := by omega) (h2 := by omega), hsz, hcell]
    simp only [Result.andThen, Int.toNat_natCast, sliced_zero]
  unfold execOp
  simp only [ho, Sem.run_bind, Sem.run_pure, Result.andThen_ok, hs, hx, hr, Option.map_some, Option.map_none]
/-- What 's[i:]' yields. -/
theorem exec_from {t e : TypeId} {sz bytes : Nat} (hE : Elem P t e sz bytes) (w : World) (p : Option Addr) (n c i : Nat) (hi : i ≤ n) {o : Oper} {a : Act} (s x : Operand) (ho : o.op = .slice t s (some x) none none)
    (hs : a.eval s = .slice p n c) (hx : a.eval x = .int .i64 (i : Int)) : (execOp a.eval o).run P w = .ok (.value (sliced p i n c sz)) w := by
  obtain ⟨inf, z, hinf, hz, hsize, hby, hzs⟩ := hE.hi
  have helem : P.elem t = e := by simp [Program.elem, hE.ht]
  have hu : P.underlying t = some (.slice (P.elem t)) := by rw [helem]; exact hE.ht
  have hcell : P.cellsOf (P.elem t) = sz := by rw [helem]; simp [Program.cellsOf, hinf, hsize]
  have hr : (Instr.sliceAt t (.slice p n c) (some (.int .i64 (i : Int))) none none).run P w = .ok (sliced p i n c sz) w := by
    have hsz := run_sizeOf (w := w) (show P.info? (P.elem t) = some inf by rw [helem]; exact hinf)
    rw [run_sliceAt_slice (h := hu), run_slice_l (ht := hu) (h0 := by omega) (h1 := by omega), hsz, hcell]
    simp [Result.andThen]
  unfold execOp
  simp only [ho, Sem.run_bind, Sem.run_pure, Result.andThen_ok, hs, hx, hr, Option.map_some, Option.map_none]
/-- What a conversion yields. -/
theorem exec_convert {o : Oper} {a : Act} {w : World} (src dst : TypeId) (s : Operand) {v u : Value} (ho : o.op = .convert src dst s) (hs : a.eval s = v) (h : (convert src dst v).run P w = .ok u w) : (execOp a.eval o).run P w = .ok (.value u) w := by
  unfold execOp
  simp only [ho, Sem.run_bind, Sem.run_pure, Result.andThen_ok, hs, h]
end
end Go.Proofs.Ytpgdedehhaibmaa

end

section
/- More steps of a drawing region that is walked in one order: loads under the region's condition; operations that make memory, alone. No program in sight. -/
namespace Go.Proofs.Ytpgdedehhaibmaa
open Go Go.RowKit

section
variable {P : Program} {ops : Array Oper} {Q : Exit → Act → World → Prop} {calls : List Nat} {S : World → Prop}
/-- An operation that reads memory. -/
theorem takeH_reads {i : Nat} {o : Oper} {rest : List (Nat × Oper)} {a : Act} {w : World} (hc : calls.contains i = false) (hw : Region.wanted o (yielded ops a.tmps) = true)
    (h : ∃ v, (∀ w, S w → (execOp a.eval o).run P w = .ok (.value v) w) ∧ wpTakeH P ops Q calls S rest (a.put o.dst v) w) : wpTakeH P ops Q calls S ((i, o) :: rest) a w := by
  obtain ⟨v, h1, h2⟩ := h
  exact takeH_read hc hw v h1 h2
/-- An operation that comes up alone and makes memory. -/
theorem takeH_run {i : Nat} {o : Oper} {rest : List (Nat × Oper)} {a : Act} {w : World} (hc : calls.contains i = true) (hw : Region.wanted o (yielded ops a.tmps) = true) (v : Value) (w2 : World) (h1 : (execOp a.eval o).run P w = .ok (.value v) w2) (hS : S w2)
    (h : wpTakeH P ops Q calls S rest (a.put o.dst v) w2) : wpTakeH P ops Q calls S ((i, o) :: rest) a w := by
  unfold wpTakeH
  simp only [hw, hc]
  show o.wp P a w (fun a' w' => S w' ∧ wpTakeH P ops Q calls S rest a' w') Q
  unfold Oper.wp
  rw [h1]
  exact ⟨hS, h⟩
/-- What 's[i:k]' yields. -/
theorem exec_fromTo {t e : TypeId} {sz bytes : Nat} (hE : Elem P t e sz bytes) (w : World) (p : Option Addr) (n c i k : Nat) (hi : i ≤ k) (hk : k ≤ c) {o : Oper} {a : Act} (s x y : Operand) (ho : o.op = .slice t s (some x) (some y) none)
    (hs : a.eval s = .slice p n c) (hx : a.eval x = .int .i64 (i : Int)) (hy : a.eval y = .int .i64 (k : Int)) : (execOp a.eval o).run P w = .ok (.value (sliced p i k c sz)) w := by
  obtain ⟨inf, z, hinf, hz, hsize, hby, hzs⟩ := hE.hi
  have helem : P.elem t = e := by simp [Program.elem, hE.ht]
  have hu : P.underlying t = some (.slice (P.elem t)) := by rw [helem]; exact hE.ht
  have hcell : P.cellsOf (P.elem t) = sz := by rw [helem]; simp [Program.cellsOf, hinf, hsize]
  have hr : (Instr.sliceAt t (.slice p n c) (some (.int .i64 (i : Int))) (some (.int .i64 (k : Int))) none).run P w = .ok (sliced p i k c sz) w := by
    have hsz := run_sizeOf (w := w) (show P.info? (P.elem t) = some inf by rw [helem]; exact hinf)
    rw [run_sliceAt_slice (h := hu), run_slice_lh (ht := hu) (h0 := by omega) (h1 := by omega) (h2 := by omega), hsz, hcell]
    simp [Result.andThen]
  unfold execOp
  simp only [ho, Sem.run_bind, Sem.run_pure, Result.andThen_ok, hs, hx, hy, hr, Option.map_some, Option.map_none]
/-- What 'append(s, x...)' yields. -/
theorem exec_extend {t e : TypeId} {sz bytes : Nat} (hE : Elem P t e sz bytes) (w : World) (v v2 : Value) (n m : Nat) (xs news : List Value) (hown : w.ownsRow 0 e sz v n xs) (hr : Rd w sz v2 m news) (h1 : ∀ u ∈ news, u.oneCell' = true) (hb : (n + m) * bytes ≤ 140737488355328 ∧ n + m ≤ maxLen)
    {o : Oper} {a : Act} (s x : Operand) (ho : o.op = .call { callee := .builtin .append, args := #[s, x], argTypes := #[t, t] }) (hs : a.eval s = v) (hx : a.eval x = v2) :
    ∃ v' w', (execOp a.eval o).run P w = .ok (.value v') w' ∧ w'.ownsRow 0 e sz v' (n + m) (xs ++ news) ∧ Mods (fun k => v.ownBlock = some k) w w' ∧ Fresh w.heap.size v v' := by
  obtain ⟨i, z, hi, hz, hsize, hby, hzs⟩ := hE.hi
  obtain ⟨p, c, rfl, hl, hc1, hc2, hnil, hcell⟩ := hr
  cases p with
  | none =>
    obtain ⟨rfl, rfl⟩ := hnil rfl
    obtain rfl : news = [] := List.eq_nil_of_length_eq_zero (by simpa using hl)
    have hr := run_append_owned_none (P := P) w 0 t o.type e i sz hE.ht hi v n xs hown
    refine ⟨v, w, ?_, by simpa using hown, Mods.refl _ _, Fresh.refl _ _⟩
    unfold execOp
    simp only [ho, resolve, invoke, builtin, Sem.run_bind, Sem.run_pure, Result.andThen_ok, List.map_toArray, List.map_cons, List.map_nil, hs, hx, hr]
  | some ad =>
    obtain ⟨v', w', hr, h2, h3, h4⟩ := run_app (P := P) w t o.type e i z sz bytes hE.ht hi hz hsize hby hzs hE.pos v n xs hown ad m c news hl (hcell ad rfl) h1 hb.2 hb.1
    refine ⟨v', w', ?_, h2, h3, h4⟩
    unfold execOp
    simp only [ho, resolve, invoke, builtin, Sem.run_bind, Sem.run_pure, Result.andThen_ok, List.map_toArray, List.map_cons, List.map_nil, hs, hx, hr]
/-- 'append(s, x...)', alone. -/
theorem takeH_extend {t e : TypeId} {sz bytes : Nat} (hE : Elem P t e sz bytes) {i : Nat} {o : Oper} {rest : List (Nat × Oper)} {a : Act} {w : World} (hc : calls.contains i = true) (hw : Region.wanted o (yielded ops a.tmps) = true) (s x : Operand)
    (ho : o.op = .call { callee := .builtin .append, args := #[s, x], argTypes := #[t, t] }) {v v2 : Value} (hs : a.eval s = v) (hx : a.eval x = v2) {n m : Nat} {xs news : List Value} (hown : w.ownsRow 0 e sz v n xs) (hr : Rd w sz v2 m news) (h1 : ∀ u ∈ news, u.oneCell' = true) (hb : (n + m) * bytes ≤ 140737488355328 ∧ n + m ≤ maxLen)
    (h : ∀ v' w', w'.ownsRow 0 e sz v' (n + m) (xs ++ news) → Mods (fun k => v.ownBlock = some k) w w' → Fresh w.heap.size v v' → S w' ∧ wpTakeH P ops Q calls S rest (a.put o.dst v') w') : wpTakeH P ops Q calls S ((i, o) :: rest) a w := by
  obtain ⟨v', w', hrun, h2, h3, h4⟩ := exec_extend hE w v v2 n m xs news hown hr h1 hb s x ho hs hx
  obtain ⟨h5, h6⟩ := h v' w' h2 h3 h4
  exact takeH_run hc hw v' w' hrun h5 h6
end
end Go.Proofs.Ytpgdedehhaibmaa

end

section
/- Layer 11: the names and values of labels, one after the other: their number, one label more. No program in sight. -/
set_option linter.unusedVariables false
namespace Go.Proofs.Ytpgdedehhaibmaa
open Go Go.RowKit

theorem stringsL_len (l : List Lab) : (stringsL l).length = 2 * l.length := by
  induction l with
  | nil => rfl
  | cons x l ih => rw [stringsL, List.flatMap_cons, List.length_append, ← stringsL, ih, List.length_cons]; simp; omega

theorem stringsL_step {l : List Lab} {i : Nat} {x : Lab} (hx : l[i]? = some x) : stringsL (l.take (i + 1)) = stringsL (l.take i) ++ [x.1, x.2] := by
  rw [List.take_add_one, hx]; simp [stringsL]

end Go.Proofs.Ytpgdedehhaibmaa

end

section
/- Layer 11: the reference's Strings. -/
set_option linter.unusedVariables false
set_option maxRecDepth 20000
namespace Go.Proofs.Ytpgdedehhaibmaa
open Go Go.RowKit

set_option maxHeartbeats 2000000 in
theorem ref_strings11 (lv : Value) (l : List Lab) (w : World) (hl : Rd w 2 lv l.length (labCells l)) (hn : l.length ≤ 1000000) :
    Calls Try.prog 23 #[lv] w fun e w' => ∃ r, e = .returned r ∧ Own1 9 Value.string w w' (stringsL l) r := by
  have HL := Lib.hid hl
  obtain ⟨pl, cl, hv⟩ := hl.shape
  subst hv
  have hmx : (l.length : Int) ≤ 1000000 := by omega
  clear hl hn
  go_enter Try.func23, Try.ntmps23
  go_wp2_with fail
  go_loopw [3, 4] (fun vv iv wr => ∃ (i : Nat), i ≤ l.length ∧ iv = .int .i64 (i : Int) ∧ Hid (Own1 9 Value.string w wr (stringsL (l.take i)) vv)) (fun _ iv _ => l.length - (intOf iv).toNat)
  case atStart => exact ⟨0, Nat.zero_le _, rfl, Own1.nil w⟩
  case round =>
    obtain ⟨i, hi, rfl, HO⟩ := hrel
    have him : (i : Int) ≤ 1000000 := by omega
    by_cases hlt : i < l.length
    · have hlt' : (i : Int) < (l.length : Int) := by omega
      obtain ⟨⟨yn, yv⟩, hx⟩ : ∃ x, l[i]? = some x := ⟨_, List.getElem?_eq_getElem hlt⟩
      obtain ⟨b, off, e⟩ := rd2_at HL.out hx
      subst e
      obtain ⟨c0, c1⟩ := rd2_cell (HL.out.below HO.out.bel) hx
      have HSt := Lib.hid (stringsL_step hx)
      have hl1 : (stringsL (l.take i)).length ≤ 2000000 := by rw [stringsL_len, List.length_take]; omega
      have HXx := Lib.hid hx
      clear hx
      obtain ⟨pv, cv, hvv⟩ := HO.out.shape
      subst hvv
      have HBd : Hid (((stringsL (l.take i)).length + 2) * 16 ≤ 140737488355328 ∧ (stringsL (l.take i)).length + 2 ≤ maxLen) := by show _ ∧ _; unfold maxLen; omega
      clear hl1
      have HLit : Hid (Rd (wr.alloc (.cells #[.string yn, .string yv] 9)) 1 (.slice (some ⟨wr.heap.size, 0, none⟩) 2 2) 2 (strs [yn, yv])) :=
        Rd.of_owns (World.ownsRow_lit (base := 0) wr #[.string yn, .string yv] 2 (Nat.zero_le _) (by simp [maxLen]) (by simp))
      generalize stringsL (l.take i) = acc at *
      have HC : Hid (∀ w' : World, (w'.cell? ⟨b, off + i * 2, none⟩ = some (.string yn) ∧ w'.cell? ⟨b, off + i * 2 + 1, none⟩ = some (.string yv) ∧ True) → (w'.cell? ⟨b, off + i * 2, none⟩ = some (.string yn) ∧ w'.cell? ⟨b, off + i * 2 + 1, none⟩ = some (.string yv) ∧ True)) := fun _ h => h
      have HCc : Hid (∀ w', Below w.heap.size w w' → w'.cell? ⟨b, off + i * 2, none⟩ = some (.string yn) ∧ w'.cell? ⟨b, off + i * 2 + 1, none⟩ = some (.string yv) ∧ True) := fun w' hb => ⟨(rd2_cell (HL.out.below hb) HXx.out).1, (rd2_cell (HL.out.below hb) HXx.out).2, trivial⟩
      clear c0 c1
      go_wp2_with fail
      refine wp_region_takeH (fun w' => w'.cell? ⟨b, off + i * 2, none⟩ = some (.string yn) ∧ w'.cell? ⟨b, off + i * 2 + 1, none⟩ = some (.string yv) ∧ True) [11, 12] [0, 1, 2, 3, 4, 5, 6, 7, 8, 9, 10, 11, 12, 13] (by kernel_rfl) (by kernel_rfl) (by kernel_rfl) ?_ ?_ ?_
      · intro c a a' w hd h; exact ⟨hd ▸ h.1, h.2⟩
      · exact HCc.out _ (HO.out.bel.trans ⟨rfl, rfl, rfl, Nat.le_refl _, fun _ _ => rfl⟩)
      simp only [taken, List.map_cons, List.map_nil, List.getElem?_cons_succ, List.getElem?_cons_zero, Option.getD_some]
      repeat (first
        | (refine takeH_skip rfl ?_; simp only [Act.put, List.setIfInBounds_toArray, List.set_cons_succ, List.set_cons_zero])
        | (refine takeH_blind rfl rfl ?_; apply Exists.intro; refine ⟨fun w => ?_, ?_⟩; (go_simp; try with_reducible rfl); simp only [Act.put, List.setIfInBounds_toArray, List.set_cons_succ, List.set_cons_zero])
        | (refine takeH_reads rfl rfl ?_; apply Exists.intro; refine ⟨fun w' hS => ?_, ?_⟩; (obtain ⟨d0, d1, d2⟩ := HC.out w' hS; go_simp; try with_reducible rfl); simp only [Act.put, List.setIfInBounds_toArray, List.set_cons_succ, List.set_cons_zero]))
      have HB3 : Hid (Below wr.heap.size wr (wr.alloc (.cells #[.string yn, .string yv] 9)).drew) := ((Below.refl _ wr).alloc (Nat.le_refl _) _).trans ⟨rfl, rfl, rfl, Nat.le_refl _, fun _ _ => rfl⟩
      have HO3 := Lib.hid (HO.out.below HB3.out)
      have HLd : Hid (Rd (wr.alloc (.cells #[.string yn, .string yv] 9)).drew 1 (.slice (some ⟨wr.heap.size, 0, none⟩) 2 2) 2 (strs [yn, yv])) := HLit.out.mods (Mods.drew (fun _ => False) _) (fun _ _ e => e)
      refine takeH_run rfl rfl (.slice (some ⟨wr.heap.size, 0, none⟩) 2 2) (wr.alloc (.cells #[.string yn, .string yv] 9)).drew (by go_simp; try rfl) (HCc.out _ HO3.out.bel) ?_
      simp only [Act.put, List.setIfInBounds_toArray, List.set_cons_succ, List.set_cons_zero]
      have HOb := Lib.hid HO3.out.base0
      generalize (wr.alloc (.cells #[.string yn, .string yv] 9)).drew = w2 at *
      refine takeH_extend Try.elemStr rfl rfl _ _ rfl rfl rfl HOb.out HLd.out (strs_one _) HBd.out ?_
      intro v3 w3 k1 k2 k3
      have HO4 : Hid (Own1 9 Value.string w w3 (stringsL (l.take (i + 1))) v3) := by show Own1 _ _ _ _ _ _; rw [HSt.out]; exact HO3.out.extended (e := [yn, yv]) k1 k2 k3
      refine ⟨HCc.out _ HO4.out.bel, ?_⟩
      obtain ⟨p3, c3, hv3⟩ : ∃ p c, v3 = .slice p (acc.length + 2) c := (Rd.of_owns k1).shape
      subst hv3
      clear k1 k2 k3 HOb HLd HLit HO3 HCc
      repeat (first
        | (refine takeH_skip rfl ?_; simp only [Act.put, List.setIfInBounds_toArray, List.set_cons_succ, List.set_cons_zero])
        | (refine takeH_blind rfl rfl ?_; apply Exists.intro; refine ⟨fun w => ?_, ?_⟩; (go_simp; try with_reducible rfl); simp only [Act.put, List.setIfInBounds_toArray, List.set_cons_succ, List.set_cons_zero]))
      refine takeH_nil ?_
      go_wp2_with fail
      go_round
      case rel => exact ⟨i + 1, by omega, by go_num, HO4.out⟩
      case measure => simp [intOf]; omega
    · have hlt' : ¬ (i : Int) < (l.length : Int) := by omega
      rw [List.take_of_length_le (by omega)] at HO
      obtain ⟨pv, cv, hvv⟩ := HO.out.shape
      subst hvv
      go_wp2_with fail
      go_ret
      exact ⟨_, rfl, HO.out⟩
end Go.Proofs.Ytpgdedehhaibmaa

end

section
/- Layer 11: the value of a label. No program in sight. -/
set_option linter.unusedVariables false
namespace Go.Proofs.Ytpgdedehhaibmaa
open Go Go.RowKit

def getV (o : Option ByteArray) : Value := .tuple #[.string (o.getD ⟨#[]⟩), .bool o.isSome]
theorem getL_at {l : List Lab} {i : Nat} {n : ByteArray} {x : Lab} (h : ∀ y ∈ l.take i, y.1 ≠ n) (hx : l[i]? = some x) (hn : x.1 = n) : getL l n = some x.2 := by
  have e : l = l.take i ++ x :: l.drop (i + 1) := by
    have hlt := (List.getElem?_eq_some_iff.1 hx).1
    rw [← (List.getElem?_eq_some_iff.1 hx).2, List.getElem_cons_drop, List.take_append_drop]
  rw [getL, e, List.find?_append, List.find?_cons_of_pos (by simpa using hn)]
  rw [List.find?_eq_none.2 (fun y hy => by simpa using h y hy)]
  rfl
theorem getL_none {l : List Lab} {n : ByteArray} (h : ∀ y ∈ l, y.1 ≠ n) : getL l n = none := by
  rw [getL, List.find?_eq_none.2 (fun y hy => by simpa using h y hy)]; rfl

end Go.Proofs.Ytpgdedehhaibmaa

end

section
/- Layer 11: the reference's Get and Strings. -/
set_option linter.unusedVariables false
set_option maxRecDepth 20000
namespace Go.Proofs.Ytpgdedehhaibmaa
open Go Go.RowKit

set_option maxHeartbeats 2000000 in
theorem ref_get11 (lv : Value) (l : List Lab) (n : ByteArray) (w : World) (hl : Rd w 2 lv l.length (labCells l)) (hn : l.length ≤ 1000000) :
    Calls Try.prog 20 #[lv, .string n] w fun e w' => e = .returned (getV (getL l n)) ∧ Below w.heap.size w w' := by
  have HL := Lib.hid hl
  obtain ⟨pl, cl, hv⟩ := hl.shape
  subst hv
  have hmx : (l.length : Int) ≤ 1000000 := by omega
  clear hl hn
  go_enter Try.func20, Try.ntmps20
  go_wp2_with fail
  go_loopw [6] (fun iv wr => ∃ (i : Nat), i ≤ l.length ∧ iv = .int .i64 (i : Int) ∧ Hid (∀ y ∈ l.take i, y.1 ≠ n) ∧ Hid (Below w.heap.size w wr)) (fun iv _ => l.length - (intOf iv).toNat)
  case atStart => exact ⟨0, Nat.zero_le _, rfl, (by intro x hx; simp at hx), Below.refl _ _⟩
  case round =>
    obtain ⟨i, hi, rfl, HF, HB⟩ := hrel
    have him : (i : Int) ≤ 1000000 := by omega
    by_cases hlt : i < l.length
    · have hlt' : (i : Int) < (l.length : Int) := by omega
      obtain ⟨⟨yn, yv⟩, hx⟩ : ∃ x, l[i]? = some x := ⟨_, List.getElem?_eq_getElem hlt⟩
      obtain ⟨b, off, e⟩ := rd2_at HL.out hx
      subst e
      obtain ⟨c0, c1⟩ := rd2_cell (HL.out.below HB.out) hx
      have HX := Lib.hid hx
      clear hx
      by_cases hy : yn = n
      · subst hy
        have hse : (yn.toList == yn.toList) = true := by simp
        have HG : Hid (getL l yn = some yv) := getL_at HF.out HX.out rfl
        go_wp2_with fail
        go_ret2
        exact ⟨by rw [HG.out]; rfl, HB.out⟩
      · have hse : (yn.toList == n.toList) = false := by rw [eqS]; simpa using hy
        have HF2 : Hid (∀ y ∈ l.take (i + 1), y.1 ≠ n) := by
          intro y hy2
          rw [List.take_add_one, HX.out] at hy2
          rcases List.mem_append.1 hy2 with e | e
          · exact HF.out y e
          · simp at e; subst e; exact hy
        clear hy
        go_wp2_with fail
        go_round
        case rel => exact ⟨i + 1, by omega, by go_num, HF2.out, HB.out⟩
        case measure => simp [intOf]; omega
    · have hlt' : ¬ (i : Int) < (l.length : Int) := by omega
      have HG : Hid (getL l n = none) := getL_none (by have h := HF.out; rwa [List.take_of_length_le (by omega)] at h)
      go_wp2_with fail
      go_ret2
      exact ⟨by rw [HG.out]; rfl, HB.out⟩

end Go.Proofs.Ytpgdedehhaibmaa

end

section
/- Layer 11: what the walks ask of the program's Check, Normalize, Compare, Get and Strings, whatever they look like inside. -/
set_option linter.unusedVariables false
namespace Go.Proofs.Ytpgdedehhaibmaa
open Go Go.RowKit

/-- T w: what the program's own memory, in the blocks below G, must hold. -/
structure LaIf (G : Nat) (T : World → Prop) : Prop where
  keeps : ∀ {S : Nat → Prop} {w w' : World}, T w → Mods S w w' → (∀ k, k < G → ¬ S k) → T w'
  low : ∀ {w : World}, T w → G ≤ w.heap.size
  check : ∀ (lv : Value) (l : List Lab) (w : World), T w → Rd w 2 lv l.length (labCells l) → LabSized l → l.length ≤ 100000 →
    Calls Try.prog 11 #[lv] w fun e w' => e = .returned (.int .i64 (checkL l : Int)) ∧ Below w.heap.size w w'
  norm : ∀ (lv : Value) (l : List Lab) (w : World), T w → Rd w 2 lv l.length (labCells l) → LabSized l → l.length ≤ 100000 →
    Calls Try.prog 14 #[lv] w (GotLb w (normL l))
  compare : ∀ (av bv : Value) (a b : List Lab) (w : World), T w → Rd w 2 av a.length (labCells a) → Rd w 2 bv b.length (labCells b) → LabSized a → LabSized b → a.length ≤ 100000 → b.length ≤ 100000 →
    Calls Try.prog 17 #[av, bv] w fun e w' => e = .returned (.int .i64 (cmpLabs a b)) ∧ Below w.heap.size w w'
  get : ∀ (lv : Value) (l : List Lab) (n : ByteArray) (w : World), T w → Rd w 2 lv l.length (labCells l) → LabSized l → l.length ≤ 100000 →
    Calls Try.prog 19 #[lv, .string n] w fun e w' => e = .returned (getV (getL l n)) ∧ Below w.heap.size w w'
  strings : ∀ (lv : Value) (l : List Lab) (w : World), T w → Rd w 2 lv l.length (labCells l) → LabSized l → l.length ≤ 100000 →
    Calls Try.prog 22 #[lv] w fun e w' => ∃ r, e = .returned r ∧ GotL w (stringsL l) r w'
theorem LaIf.below {G : Nat} {T : World → Prop} (I : LaIf G T) {w w' : World} (h : T w) (hb : Below w.heap.size w w') : T w' := I.keeps h (Mods.of_below hb (fun _ => False)) (fun _ _ h => h)
end Go.Proofs.Ytpgdedehhaibmaa

end

section
/- Layer 11: the two labels of the examples. No program in sight. -/
set_option linter.unusedVariables false
namespace Go.Proofs.Ytpgdedehhaibmaa
open Go Go.RowKit

def lA : ByteArray := ⟨#[97]⟩

def lB : ByteArray := ⟨#[98]⟩

def l1 : ByteArray := ⟨#[49]⟩

def l2 : ByteArray := ⟨#[50]⟩

theorem lAB : ltS lA lB = true := by simp [ltS, lA, lB, ByteArray.toList_eq, Op.bytesLess]

theorem l12 : ltS l1 l2 = true := by simp [ltS, l1, l2, ByteArray.toList_eq, Op.bytesLess]

theorem lBA : ltS lB lA = false := ltS_ok.asy lAB

theorem l21 : ltS l2 l1 = false := ltS_ok.asy l12

theorem asc_ab11 : AscB ltN [(lA, l1), (lB, l2)] := by simp [AscB, ltN, lAB]

theorem one_ab11 : ∀ x ∈ ([(lA, l1), (lB, l2)] : List Lab), oneL x = 0 := by
  intro x hx
  simp only [List.mem_cons, List.not_mem_nil, or_false] at hx
  rcases hx with rfl | rfl <;> decide

theorem norm_ba11 : normL [(lB, l2), (lA, l1)] = (0, [(lA, l1), (lB, l2)]) := by
  have h1 := norm_of_asc asc_ab11 one_ab11
  have h2 := norm_perm (l := [(lB, l2), (lA, l1)]) (m := [(lA, l1), (lB, l2)]) (List.Perm.swap _ _ _)
  rw [h1] at h2
  exact Prod.ext (h2.1.2 rfl) h2.2

theorem check_ab11 : checkL [(lA, l1), (lB, l2)] = 0 := check_asc _ none asc_ab11 one_ab11 (fun _ e => by cases e)

theorem cmp_a11 : cmpLabs [(lA, l1)] [(lA, l1), (lB, l2)] = -1 := by
  rw [cmpLabs, cmpL, if_pos (cmpLab_ok.refl _)]; rfl

theorem cmp_b11 : cmpLabs [(lA, l2)] [(lA, l1), (lB, l2)] = 1 := by
  have h : cmpLab (lA, l2) (lA, l1) = 1 := by
    rw [cmpLab, cmpP, if_pos (ordS_ok.refl _)]
    show ordB ltS l2 l1 = 1
    rw [ordB, if_neg (by rw [l21]; simp), if_pos l12]
  rw [cmpLabs, cmpL, if_neg (by rw [h]; decide), h]

theorem get_b11 : getL [(lA, l1), (lB, l2)] lB = some l2 := by
  have h : lA ≠ lB := ltS_ok.ne lAB
  simp [getL, h]
end Go.Proofs.Ytpgdedehhaibmaa

end

section
/- Layer 11: the examples of the chapter, over the interface. -/
set_option linter.unusedVariables false
namespace Go.Proofs.Ytpgdedehhaibmaa
open Go Go.RowKit
variable {G : Nat} {T : World → Prop}

theorem sized_ab11 : LabSized [(lA, l1), (lB, l2)] := by
  intro x hx
  simp only [List.mem_cons, List.not_mem_nil, or_false] at hx
  rcases hx with rfl | rfl <;> decide
theorem sized_ba11 : LabSized [(lB, l2), (lA, l1)] := by
  intro x hx
  simp only [List.mem_cons, List.not_mem_nil, or_false] at hx
  rcases hx with rfl | rfl <;> decide
theorem sized_a11 : LabSized [(lA, l1)] := by
  intro x hx
  simp only [List.mem_cons, List.not_mem_nil, or_false] at hx
  subst hx; decide
theorem sized_b11 : LabSized [(lA, l2)] := by
  intro x hx
  simp only [List.mem_cons, List.not_mem_nil, or_false] at hx
  subst hx; decide

set_option maxHeartbeats 4000000 in
theorem alive_of11 (I : LaIf G T) (w : World) (hT : T w) : Calls Try.prog 10 #[] w fun e w' => e = .returned (.bool true) ∧ Below w.heap.size w w' := by
  have HT := Lib.hid hT
  clear hT
  go_enter Try.func10, Try.ntmps10
  go_wp2_with fail
  have hb1 : Below w.heap.size w (w.alloc (.cells #[.string ⟨#[97]⟩, .string ⟨#[49]⟩] 30)) := (Below.refl _ _).alloc (Nat.le_refl _) _
  have hb2 : Below w.heap.size w ((w.alloc (.cells #[.string ⟨#[97]⟩, .string ⟨#[49]⟩] 30)).alloc (.cells #[.string ⟨#[98]⟩, .string ⟨#[50]⟩] 30)) := hb1.alloc hb1.size _
  have HB0 : Hid (Below w.heap.size w (((w.alloc (.cells #[.string ⟨#[97]⟩, .string ⟨#[49]⟩] 30)).alloc (.cells #[.string ⟨#[98]⟩, .string ⟨#[50]⟩] 30)).alloc (.cells #[.string ⟨#[98]⟩, .string ⟨#[50]⟩, .string ⟨#[97]⟩, .string ⟨#[49]⟩] 30))) := hb2.alloc hb2.size _
  have hk1 : Blk (w.alloc (.cells #[.string ⟨#[97]⟩, .string ⟨#[49]⟩] 30)) w.heap.size [.string ⟨#[97]⟩, .string ⟨#[49]⟩] := Blk.new w _ _
  have hs1 : (w.alloc (.cells #[.string ⟨#[97]⟩, .string ⟨#[49]⟩] 30)).heap.size = w.heap.size + 1 := World.size_alloc _ _
  have hk2 : Blk ((w.alloc (.cells #[.string ⟨#[97]⟩, .string ⟨#[49]⟩] 30)).alloc (.cells #[.string ⟨#[98]⟩, .string ⟨#[50]⟩] 30)) (w.heap.size + 1) [.string ⟨#[98]⟩, .string ⟨#[50]⟩] := by rw [← hs1]; exact Blk.new _ _ _
  have hs2 : ((w.alloc (.cells #[.string ⟨#[97]⟩, .string ⟨#[49]⟩] 30)).alloc (.cells #[.string ⟨#[98]⟩, .string ⟨#[50]⟩] 30)).heap.size = w.heap.size + 1 + 1 := by rw [World.size_alloc, hs1]
  have HK1 : Hid (Blk (((w.alloc (.cells #[.string ⟨#[97]⟩, .string ⟨#[49]⟩] 30)).alloc (.cells #[.string ⟨#[98]⟩, .string ⟨#[50]⟩] 30)).alloc (.cells #[.string ⟨#[98]⟩, .string ⟨#[50]⟩, .string ⟨#[97]⟩, .string ⟨#[49]⟩] 30)) w.heap.size [.string ⟨#[97]⟩, .string ⟨#[49]⟩]) := (hk1.alloc _).alloc _
  have HK2 : Hid (Blk (((w.alloc (.cells #[.string ⟨#[97]⟩, .string ⟨#[49]⟩] 30)).alloc (.cells #[.string ⟨#[98]⟩, .string ⟨#[50]⟩] 30)).alloc (.cells #[.string ⟨#[98]⟩, .string ⟨#[50]⟩, .string ⟨#[97]⟩, .string ⟨#[49]⟩] 30)) (w.heap.size + 1) [.string ⟨#[98]⟩, .string ⟨#[50]⟩]) := hk2.alloc _
  have HL0 : Hid (Rd (((w.alloc (.cells #[.string ⟨#[97]⟩, .string ⟨#[49]⟩] 30)).alloc (.cells #[.string ⟨#[98]⟩, .string ⟨#[50]⟩] 30)).alloc (.cells #[.string ⟨#[98]⟩, .string ⟨#[50]⟩, .string ⟨#[97]⟩, .string ⟨#[49]⟩] 30)) 2 (.slice (some ⟨w.heap.size + 1 + 1, 0, none⟩) 2 2) ([(lB, l2), (lA, l1)] : List Lab).length (labCells [(lB, l2), (lA, l1)])) := by
    rw [← hs2]
    exact Rd.of_owns (World.ownsRow_lit (base := 0) _ #[.string ⟨#[98]⟩, .string ⟨#[50]⟩, .string ⟨#[97]⟩, .string ⟨#[49]⟩] 2 (Nat.zero_le _) (by simp [maxLen]) (by simp))
  have HZ : Hid ((((w.alloc (.cells #[.string ⟨#[97]⟩, .string ⟨#[49]⟩] 30)).alloc (.cells #[.string ⟨#[98]⟩, .string ⟨#[50]⟩] 30)).alloc (.cells #[.string ⟨#[98]⟩, .string ⟨#[50]⟩, .string ⟨#[97]⟩, .string ⟨#[49]⟩] 30)).heap.size = w.heap.size + 1 + 1 + 1) := by
    show _ = _
    rw [World.size_alloc, hs2]
  have HT0 := Lib.hid (I.below HT.out HB0.out)
  clear hb1 hb2 hk1 hs1 hk2 hs2
  generalize ((w.alloc (.cells #[.string ⟨#[97]⟩, .string ⟨#[49]⟩] 30)).alloc (.cells #[.string ⟨#[98]⟩, .string ⟨#[50]⟩] 30)).alloc (.cells #[.string ⟨#[98]⟩, .string ⟨#[50]⟩, .string ⟨#[97]⟩, .string ⟨#[49]⟩] 30) = w0 at *
  have hno := I.norm _ [(lB, l2), (lA, l1)] w0 HT0.out HL0.out sized_ba11 (by decide)
  rw [norm_ba11] at hno
  have HNo := Lib.hid hno
  clear hno HL0
  refine HNo.out.mono ?_
  rintro e w1 ⟨⟨r1, rfl, hr1, _⟩, hB⟩
  have HR1 : Hid (Rd w1 2 r1 ([(lA, l1), (lB, l2)] : List Lab).length (labCells [(lA, l1), (lB, l2)])) := hr1
  have HB1 := Lib.hid (HB0.out.trans (hB.mono HB0.out.size))
  have HT1 := Lib.hid (I.below HT0.out hB)
  have HK11 : Hid (Blk w1 w.heap.size [.string ⟨#[97]⟩, .string ⟨#[49]⟩]) := HK1.out.of_same (hB.block _ HK1.out.lt)
  have HK21 : Hid (Blk w1 (w.heap.size + 1) [.string ⟨#[98]⟩, .string ⟨#[50]⟩]) := HK2.out.of_same (hB.block _ HK2.out.lt)
  obtain ⟨q1, c1, hv⟩ : ∃ p c, r1 = .slice p 2 c := hr1.shape
  subst hv
  have hge := I.get _ [(lA, l1), (lB, l2)] lB w1 HT1.out HR1.out sized_ab11 (by decide)
  rw [get_b11] at hge
  have HGe : Hid (Calls Try.prog 19 #[.slice q1 2 c1, .string ⟨#[98]⟩] w1 fun e w' => e = .returned (.tuple #[.string ⟨#[50]⟩, .bool true]) ∧ Below w1.heap.size w1 w') := hge
  clear hge hr1 hB HNo HB0 HT0 HK1 HK2 HT HZ
  go_wp2_with fail
  refine HGe.out.mono ?_
  rintro e w2 ⟨rfl, hB⟩
  have HB2 := Lib.hid (HB1.out.trans (hB.mono HB1.out.size))
  have HT2 := Lib.hid (I.below HT1.out hB)
  have HR2 := Lib.hid (HR1.out.below hB)
  have HK12 : Hid (Blk w2 w.heap.size [.string ⟨#[97]⟩, .string ⟨#[49]⟩]) := HK11.out.of_same (hB.block _ HK11.out.lt)
  have HK22 : Hid (Blk w2 (w.heap.size + 1) [.string ⟨#[98]⟩, .string ⟨#[50]⟩]) := HK21.out.of_same (hB.block _ HK21.out.lt)
  have h10 : w2.cell? ⟨w.heap.size, 0, none⟩ = some (.string ⟨#[97]⟩) := HK12.out.cell 0
  have h11 : w2.cell? ⟨w.heap.size, 1, none⟩ = some (.string ⟨#[49]⟩) := HK12.out.cell 1
  have h20 : w2.cell? ⟨w.heap.size + 1, 0, none⟩ = some (.string ⟨#[98]⟩) := HK22.out.cell 0
  have h21 : w2.cell? ⟨w.heap.size + 1, 1, none⟩ = some (.string ⟨#[50]⟩) := HK22.out.cell 1
  clear hB HGe HR1 HB1 HT1 HK11 HK21
  go_wp2_with fail
  have hba : Below w2.heap.size w2 (w2.alloc (.cells #[.string ⟨#[97]⟩, .string ⟨#[49]⟩, .string ⟨#[98]⟩, .string ⟨#[50]⟩] 30)) := (Below.refl _ _).alloc (Nat.le_refl _) _
  have HB3 := Lib.hid (HB2.out.trans (hba.mono HB2.out.size))
  have HT3 := Lib.hid (I.below HT2.out hba)
  have HR3 := Lib.hid (HR2.out.below hba)
  have HK13 : Hid (Blk (w2.alloc (.cells #[.string ⟨#[97]⟩, .string ⟨#[49]⟩, .string ⟨#[98]⟩, .string ⟨#[50]⟩] 30)) w.heap.size [.string ⟨#[97]⟩, .string ⟨#[49]⟩]) := HK12.out.alloc _
  have HLt : Hid (Rd (w2.alloc (.cells #[.string ⟨#[97]⟩, .string ⟨#[49]⟩, .string ⟨#[98]⟩, .string ⟨#[50]⟩] 30)) 2 (.slice (some ⟨w2.heap.size, 0, none⟩) 2 2) ([(lA, l1), (lB, l2)] : List Lab).length (labCells [(lA, l1), (lB, l2)])) :=
    Rd.of_owns (World.ownsRow_lit (base := 0) w2 #[.string ⟨#[97]⟩, .string ⟨#[49]⟩, .string ⟨#[98]⟩, .string ⟨#[50]⟩] 2 (Nat.zero_le _) (by simp [maxLen]) (by simp))
  clear h10 h11 h20 h21 hba HB2 HT2 HR2 HK12 HK22
  generalize w2.alloc (.cells #[.string ⟨#[97]⟩, .string ⟨#[49]⟩, .string ⟨#[98]⟩, .string ⟨#[50]⟩] 30) = w3 at *
  refine (equal_lab _ _ [(lA, l1), (lB, l2)] w3 (by decide) HR3.out HLt.out).mono ?_
  rintro e w4 ⟨rfl, hB⟩
  have HB4 := Lib.hid (HB3.out.trans (hB.mono HB3.out.size))
  have HT4 := Lib.hid (I.below HT3.out hB)
  have HR4 := Lib.hid (HR3.out.below hB)
  have HK14 : Hid (Blk w4 w.heap.size [.string ⟨#[97]⟩, .string ⟨#[49]⟩]) := HK13.out.of_same (hB.block _ HK13.out.lt)
  have hck := I.check _ [(lA, l1), (lB, l2)] w4 HT4.out HR4.out sized_ab11 (by decide)
  rw [check_ab11] at hck
  have HCk : Hid (Calls Try.prog 11 #[.slice q1 2 c1] w4 fun e w' => e = .returned (.int .i64 0) ∧ Below w4.heap.size w4 w') := hck
  clear hck hB HB3 HT3 HR3 HK13 HLt
  go_wp2_with fail
  refine HCk.out.mono ?_
  rintro e w5 ⟨rfl, hB⟩
  have HB5 := Lib.hid (HB4.out.trans (hB.mono HB4.out.size))
  have HT5 := Lib.hid (I.below HT4.out hB)
  have HR5 := Lib.hid (HR4.out.below hB)
  have HK15 : Hid (Blk w5 w.heap.size [.string ⟨#[97]⟩, .string ⟨#[49]⟩]) := HK14.out.of_same (hB.block _ HK14.out.lt)
  have h10 : w5.cell? ⟨w.heap.size, 0, none⟩ = some (.string ⟨#[97]⟩) := HK15.out.cell 0
  have h11 : w5.cell? ⟨w.heap.size, 1, none⟩ = some (.string ⟨#[49]⟩) := HK15.out.cell 1
  clear hB HCk HB4 HT4 HR4 HK14
  go_wp2_with fail
  have hba : Below w5.heap.size w5 (w5.alloc (.cells #[.string ⟨#[97]⟩, .string ⟨#[49]⟩] 30)) := (Below.refl _ _).alloc (Nat.le_refl _) _
  have HB6 := Lib.hid (HB5.out.trans (hba.mono HB5.out.size))
  have HT6 := Lib.hid (I.below HT5.out hba)
  have HR6 := Lib.hid (HR5.out.below hba)
  have HL6 : Hid (Rd (w5.alloc (.cells #[.string ⟨#[97]⟩, .string ⟨#[49]⟩] 30)) 2 (.slice (some ⟨w5.heap.size, 0, none⟩) 1 1) ([(lA, l1)] : List Lab).length (labCells [(lA, l1)])) :=
    Rd.of_owns (World.ownsRow_lit (base := 0) w5 #[.string ⟨#[97]⟩, .string ⟨#[49]⟩] 1 (Nat.zero_le _) (by simp [maxLen]) (by simp))
  clear h10 h11 hba HB5 HT5 HR5 HK15
  generalize w5.alloc (.cells #[.string ⟨#[97]⟩, .string ⟨#[49]⟩] 30) = w6 at *
  have hcm := I.compare _ _ [(lA, l1)] [(lA, l1), (lB, l2)] w6 HT6.out HL6.out HR6.out sized_a11 sized_ab11 (by decide) (by decide)
  rw [cmp_a11] at hcm
  refine hcm.mono ?_
  rintro e w7 ⟨rfl, hB⟩
  have HB7 := Lib.hid (HB6.out.trans (hB.mono HB6.out.size))
  have HT7 := Lib.hid (I.below HT6.out hB)
  have HR7 := Lib.hid (HR6.out.below hB)
  clear hB hcm HB6 HT6 HR6 HL6
  go_wp2_with fail
  have hba : Below w7.heap.size w7 (w7.alloc (.cells #[.string ⟨#[97]⟩, .string ⟨#[50]⟩] 30)) := (Below.refl _ _).alloc (Nat.le_refl _) _
  have HB8 := Lib.hid (HB7.out.trans (hba.mono HB7.out.size))
  have HT8 := Lib.hid (I.below HT7.out hba)
  have HR8 := Lib.hid (HR7.out.below hba)
  have HL8 : Hid (Rd (w7.alloc (.cells #[.string ⟨#[97]⟩, .string ⟨#[50]⟩] 30)) 2 (.slice (some ⟨w7.heap.size, 0, none⟩) 1 1) ([(lA, l2)] : List Lab).length (labCells [(lA, l2)])) :=
    Rd.of_owns (World.ownsRow_lit (base := 0) w7 #[.string ⟨#[97]⟩, .string ⟨#[50]⟩] 1 (Nat.zero_le _) (by simp [maxLen]) (by simp))
  clear hba HB7 HT7 HR7
  generalize w7.alloc (.cells #[.string ⟨#[97]⟩, .string ⟨#[50]⟩] 30) = w8 at *
  have hcm := I.compare _ _ [(lA, l2)] [(lA, l1), (lB, l2)] w8 HT8.out HL8.out HR8.out sized_b11 sized_ab11 (by decide) (by decide)
  rw [cmp_b11] at hcm
  refine hcm.mono ?_
  rintro e w9 ⟨rfl, hB⟩
  have HB9 := Lib.hid (HB8.out.trans (hB.mono HB8.out.size))
  have HT9 := Lib.hid (I.below HT8.out hB)
  have HR9 := Lib.hid (HR8.out.below hB)
  have HSt := Lib.hid (I.strings _ [(lA, l1), (lB, l2)] w9 HT9.out HR9.out sized_ab11 (by decide))
  clear hB hcm HB8 HT8 HR8 HL8
  go_wp2_with fail
  refine HSt.out.mono ?_
  rintro e w10 ⟨r, rfl, hg⟩
  have HB10 := Lib.hid (HB9.out.trans (hg.bel.mono HB9.out.size))
  obtain ⟨q, c, hv⟩ : ∃ p c, r = .slice p 4 c := hg.rd.shape
  subst hv
  clear hg HSt
  go_wp2_with fail
  go_ret
  exact ⟨rfl, HB10.out⟩
end Go.Proofs.Ytpgdedehhaibmaa

end

section
/- Layer 10: the statements' own bounds. -/
set_option linter.unusedVariables false
namespace Go.Proofs.Ytpgdedehhaibmaa
open Go Go.RowKit

set_option maxHeartbeats 2000000 in
theorem large10 (lv : Value) (l : List ByteArray) (w : World) (hl : Rd w 1 lv l.length (strs l)) (hs : ∀ s ∈ l, s.size ≤ 9223372036854775807) :
    Calls Try.prog 26 #[lv] w fun e w' => (e = .returned (.int .i64 1) ∨ (e = .returned (.int .i64 0) ∧ l.length ≤ 500 ∧ ∀ s ∈ l, s.size ≤ 200000)) ∧ Below w.heap.size w w' := by
  have HL := Lib.hid hl; have HS := Lib.hid hs
  obtain ⟨pl, cl, hv⟩ := hl.shape
  subst hv
  have hmax : (l.length : Int) ≤ 9223372036854775807 := by have := hl.le; unfold maxLen at this; omega
  clear hl hs
  go_enter Try.func26, Try.ntmps26
  go_wp2_with fail
  go_loopw [3, 8] (fun nv iv wr => ∃ (j N : Nat), j ≤ l.length ∧ N ≤ 200000 ∧ nv = .int .i64 (N : Int) ∧ iv = .int .i64 (j : Int) ∧ Hid ((j = 0 ∨ l.length ≤ 500) ∧ ∀ s ∈ l.take j, s.size ≤ 200000) ∧ Hid (Below w.heap.size w wr)) (fun _ iv _ => l.length - (intOf iv).toNat)
  case atStart => exact ⟨0, 0, Nat.zero_le _, Nat.zero_le _, rfl, rfl, ⟨Or.inl rfl, by intro s hs; simp at hs⟩, Below.refl _ _⟩
  case round =>
    obtain ⟨j, N, hj, hN, rfl, rfl, HF, HB⟩ := hrel
    have hNi : (N : Int) ≤ 200000 := by omega
    by_cases hlt : j < l.length
    · have hlt' : (j : Int) < (l.length : Int) := by omega
      obtain ⟨b, off, c', e, _, _, _⟩ := HL.out.at (fun e => by have := congrArg List.length e; rw [strs_length] at this; simp at this; subst this; simp at hlt)
      simp only [Value.slice.injEq] at e
      obtain ⟨rfl, _, rfl⟩ := e
      obtain ⟨x, hx⟩ : ∃ x, l[j]? = some x := ⟨_, List.getElem?_eq_getElem hlt⟩
      have hcx : wr.cell? ⟨b, off + j, none⟩ = some (.string x) := by rw [← (List.getElem?_eq_some_iff.1 hx).2]; exact rd1_cell (HL.out.below HB.out) hlt
      have HX := Lib.hid hx
      have hxm : (x.size : Int) ≤ 9223372036854775807 := by have := HS.out x (List.mem_of_getElem? hx); omega
      clear hx
      by_cases hz : (x.size : Int) ≤ 200000
      · by_cases hS : N + (1 + x.size) ≤ 200000
        · have hS' : ¬ (200000 : Int) < (N : Int) + (1 + (x.size : Int)) := by omega
          have hSm : (N : Int) + (1 + (x.size : Int)) ≤ 200000 := by omega
          by_cases h5 : l.length ≤ 500
          · have h5' : ¬ (500 : Int) < (l.length : Int) := by omega
            have HF2 : Hid ((j + 1 = 0 ∨ l.length ≤ 500) ∧ ∀ s ∈ l.take (j + 1), s.size ≤ 200000) := by
              refine ⟨Or.inr h5, fun s hs => ?_⟩
              rw [List.take_add_one, HX.out] at hs
              rcases List.mem_append.1 hs with e | e
              · exact HF.out.2 s e
              · simp at e; subst e; omega
            have hcs : ((N + (1 + x.size) : Nat) : Int) = (N : Int) + (1 + (x.size : Int)) := by omega
            have HCs := Lib.hid hcs
            have HH : Hid (N + (1 + x.size) ≤ 200000) := hS
            clear h5 hS hcs
            go_wp2_with fail
            go_round
            case rel => exact ⟨j + 1, N + (1 + x.size), by omega, HH.out, by rw [HCs.out], by go_num, HF2.out, HB.out⟩
            case measure => simp [intOf]; omega
          · have h5' : (500 : Int) < (l.length : Int) := by omega
            clear h5 hS
            go_wp2_with fail
            go_ret
            exact ⟨Or.inl rfl, HB.out⟩
        · have hS' : (200000 : Int) < (N : Int) + (1 + (x.size : Int)) := by omega
          clear hS
          go_wp2_with fail
          go_ret
          exact ⟨Or.inl rfl, HB.out⟩
      · have hz' : (200000 : Int) ≤ (x.size : Int) := by omega
        have hS' : (200000 : Int) < (N : Int) + 200001 := by omega
        go_wp2_with fail
        go_ret
        exact ⟨Or.inl rfl, HB.out⟩
    · have hlt' : ¬ (j : Int) < (l.length : Int) := by omega
      have HD : Hid (l.length ≤ 500 ∧ ∀ s ∈ l, s.size ≤ 200000) := by
        have h := HF.out
        rw [List.take_of_length_le (by omega)] at h
        refine ⟨?_, h.2⟩
        rcases h.1 with e | e <;> omega
      go_wp2_with fail
      go_ret
      exact ⟨Or.inr ⟨rfl, HD.out⟩, HB.out⟩
end Go.Proofs.Ytpgdedehhaibmaa

end

section
/- Layer 11: the statements' own bound. -/
set_option linter.unusedVariables false
namespace Go.Proofs.Ytpgdedehhaibmaa
open Go Go.RowKit

theorem stringsL_mem {l : List Lab} {x : Lab} (h : x ∈ l) : x.1 ∈ stringsL l ∧ x.2 ∈ stringsL l := by
  rw [stringsL]
  exact ⟨List.mem_flatMap.2 ⟨x, h, by simp⟩, List.mem_flatMap.2 ⟨x, h, by simp⟩⟩
set_option maxHeartbeats 1000000 in
theorem large11 (lv : Value) (l : List Lab) (w : World) (hl : Rd w 2 lv l.length (labCells l)) (hs : LabSized l) :
    Calls Try.prog 9 #[lv] w fun e w' => (e = .returned (.int .i64 1) ∨ (e = .returned (.int .i64 0) ∧ l.length ≤ 200 ∧ ∀ s ∈ stringsL l, s.size ≤ 200000)) ∧ Below w.heap.size w w' := by
  have HL := Lib.hid hl; have HS := Lib.hid hs
  obtain ⟨pl, cl, hv⟩ := hl.shape
  subst hv
  clear hl hs
  by_cases hlt : (200 : Int) < (l.length : Int)
  · go_enter Try.func9, Try.ntmps9
    go_wp2_with fail
    go_ret
    exact ⟨Or.inl rfl, Below.refl _ _⟩
  · have HN : Hid (l.length ≤ 200) := by show _ ≤ _; omega
    have HSt := Lib.hid (ref_strings11 _ l w HL.out (by omega))
    have HSs : Hid (∀ s ∈ stringsL l, s.size ≤ 9223372036854775807) := fun s hs => by
      obtain ⟨x, hx, h⟩ := List.mem_flatMap.1 hs
      simp only [List.mem_cons, List.not_mem_nil, or_false] at h
      rcases h with rfl | rfl
      · exact (HS.out x hx).1
      · exact (HS.out x hx).2
    generalize stringsL l = st at *
    go_enter Try.func9, Try.ntmps9
    go_wp2_with fail
    refine HSt.out.mono ?_
    rintro e w2 ⟨r, rfl, hO⟩
    have HB2 := Lib.hid hO.bel
    have HLg := Lib.hid (large10 _ st w2 hO.rd HSs.out)
    obtain ⟨p2, c2, hv⟩ := hO.shape
    subst hv
    clear hO HSt
    go_wp2_with fail
    refine HLg.out.mono ?_
    rintro e w3 ⟨he, hB⟩
    have HB3 := Lib.hid (HB2.out.trans (hB.mono HB2.out.size))
    rcases he with rfl | ⟨rfl, _, h6⟩
    · go_wp2_with fail
      go_ret
      exact ⟨Or.inl rfl, HB3.out⟩
    · have H6 := Lib.hid h6
      clear h6
      go_wp2_with fail
      go_ret
      exact ⟨Or.inr ⟨rfl, HN.out, H6.out⟩, HB3.out⟩
end Go.Proofs.Ytpgdedehhaibmaa

end

section
/- Layer 11: labels as arguments. -/
namespace Go.Proofs.Ytpgdedehhaibmaa
open Go Go.RowKit
def labCell (a : Lab) : List Value := [.string a.1, .string a.2]
def labOk (a : Lab) : Prop := a.1.size ≤ 9223372036854775807 ∧ a.2.size ≤ 9223372036854775807
theorem flat_lab : Flat Try.prog 30 2 labCell labOk :=
  (flat_struct2 Try.underlying30 (by kernel_rfl) rfl rfl (flat_string Try.underlying9 (by kernel_rfl)) (flat_string Try.underlying9 (by kernel_rfl))).map fun a h =>
    ⟨a, ⟨by have := h.1; unfold maxLen at this; omega, by have := h.2; unfold maxLen at this; omega⟩, rfl⟩
end Go.Proofs.Ytpgdedehhaibmaa

end

section
/- Layer 11, the program's own: strings.Compare, the parts of a label, compareBy, compareNames, compareLabels: they draw and lay blocks of their own, and turn nothing. -/
set_option linter.unusedVariables false
set_option maxRecDepth 20000
namespace Go.Proofs.Ytpgdedehhaibmaa
open Go Go.RowKit

/-- Draws and new blocks, and nothing else. -/
def Grw (w w' : World) : Prop := ∃ q os, w' = Go.Sort.grow (w.drewN q) os
theorem Grw.refl (w : World) : Grw w w := ⟨0, #[], by rw [Go.Sort.grow_empty]; rfl⟩
theorem Grw.trans {a b c : World} (h : Grw a b) (k : Grw b c) : Grw a c := by
  obtain ⟨q, os, rfl⟩ := h
  obtain ⟨r, ps, rfl⟩ := k
  exact ⟨q + r, os ++ ps, by show Go.Sort.grow (Go.Sort.grow ((a.drewN q).drewN r) os) ps = _; rw [Go.Sort.grow_grow, World.drewN_drewN]⟩
theorem Grw.alloc {a b : World} (h : Grw a b) (o : Obj) : Grw a (b.alloc o) := h.trans ⟨0, #[o], by rw [Go.Sort.alloc_eq_grow]; rfl⟩
theorem Grw.drew {a b : World} (h : Grw a b) : Grw a b.drew := h.trans ⟨1, #[], by rw [Go.Sort.grow_empty]; rfl⟩
theorem Grw.drewN {a b : World} (h : Grw a b) (n : Nat) : Grw a (b.drewN n) := h.trans ⟨n, #[], by rw [Go.Sort.grow_empty]⟩
theorem Grw.grow {a b : World} (h : Grw a b) (n : Nat) (os : Array Obj) : Grw a (Go.Sort.grow (b.drewN n) os) := h.trans ⟨n, os, rfl⟩
theorem Grw.below {w w' : World} (h : Grw w w') : Below w.heap.size w w' := by
  obtain ⟨q, os, rfl⟩ := h
  exact ⟨rfl, rfl, rfl, by rw [Go.Sort.size_grow]; exact Nat.le_add_right _ _, fun k hk => Go.Sort.heap_grow_old (w.drewN q) os hk⟩
theorem Grw.size {w w' : World} (h : Grw w w') : w.heap.size ≤ w'.heap.size := h.below.size
theorem Grw.blk {w w' : World} (h : Grw w w') {b : Nat} {cs : List Value} (hb : Blk w b cs) : Blk w' b cs := hb.of_same (h.below.block b hb.lt)

theorem ordS_bytes (a b : ByteArray) : Lib.compareBytes a.data.toList b.data.toList = ordS a b := by
  have key : ∀ (a b : List UInt8), Lib.compareBytes a b = if Op.bytesLess a b then -1 else if Op.bytesLess b a then 1 else 0 := by
    intro a
    induction a with
    | nil => intro b; cases b <;> simp [Lib.compareBytes, Op.bytesLess]
    | cons x a ih =>
      intro b
      cases b with
      | nil => simp [Lib.compareBytes, Op.bytesLess]
      | cons y b =>
        rw [Lib.compareBytes, ih b]
        by_cases h1 : x < y
        · simp [Op.bytesLess, h1]
        · by_cases h2 : y < x
          · have hne : ¬ x = y := fun e => by subst e; exact h1 h2
            simp [Op.bytesLess, h1, h2, hne]
          · have e : x = y := UInt8.le_antisymm (UInt8.not_lt.1 h2) (UInt8.not_lt.1 h1)
            subst e
            simp [Op.bytesLess, h1]
  have ha : a.toList = a.data.toList := by simp [ByteArray.toList_eq]
  have hb : b.toList = b.data.toList := by simp [ByteArray.toList_eq]
  rw [key, ordS, ordB, ltS, ltS, ha, hb]

theorem cmpString_any (a b : ByteArray) (w : World) : Calls Try.prog 51 #[.string a, .string b] w fun e w' => e = .returned (.int .i64 (ordS a b)) ∧ w' = w := by
  rw [← ordS_bytes]
  go_enter Try.func51, Try.ntmps51
  go_wp2_with fail
  rw [run_callFunc_extern Try.func57 (by kernel_rfl) (by kernel_rfl) (by kernel_rfl) (e := Extern.BytealgCompare.compare) (by kernel_rfl), Lib.run_compareString]
  simp only [Result.andThen]
  rw [Oper.upon_value]
  go_wp2_with fail
  go_ret
  exact ⟨rfl, rfl⟩

theorem strCompare_any (a b : ByteArray) (w : World) : Calls Try.prog 40 #[.string a, .string b] w fun e w' => e = .returned (.int .i64 (ordS a b)) ∧ w' = w := by
  have HC := Lib.hid (cmpString_any a b)
  generalize ordS a b = c at *
  go_enter Try.func40, Try.ntmps40
  go_wp2_with fail
  refine (HC.out _).mono ?_
  rintro e w' ⟨rfl, rfl⟩
  go_wp2_with fail
  go_ret
  exact ⟨rfl, rfl⟩

/-- A label as a value. -/
def labV (x : Lab) : Value := .agg #[.string x.1, .string x.2]

theorem nameOf_any (x : Lab) (w : World) : Calls Try.prog 36 #[labV x] w fun e w' => e = .returned (.string x.1) ∧ Grw w w' := by
  obtain ⟨n, v⟩ := x
  show Calls Try.prog 36 #[.agg #[.string n, .string v]] w _
  have HB := Lib.hid ((Grw.refl w).alloc (.cells #[.string n, .string v] 30))
  go_enter Try.func36, Try.ntmps36
  go_wp2_with fail
  go_ret
  exact ⟨rfl, HB.out⟩
theorem valueOf_any (x : Lab) (w : World) : Calls Try.prog 39 #[labV x] w fun e w' => e = .returned (.string x.2) ∧ Grw w w' := by
  obtain ⟨n, v⟩ := x
  show Calls Try.prog 39 #[.agg #[.string n, .string v]] w _
  have HB := Lib.hid ((Grw.refl w).alloc (.cells #[.string n, .string v] 30))
  go_enter Try.func39, Try.ntmps39
  go_wp2_with fail
  go_ret
  exact ⟨rfl, HB.out⟩
end Go.Proofs.Ytpgdedehhaibmaa

end
