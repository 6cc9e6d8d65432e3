/- ArrV, LayS, Ref16B, Pairs, Count, OutE, Ref04R, Ref16F, GotS, WrapS, Ref03, Ref03P, Ref03B, Ref04E, SecErr, in one text. -/
import Derived.Test.YtlgphgipfjlbfaaDoorMrg4
import Derived.BigFrame
import Derived.Test.YtlgphgipfjlbfaaDoorMrg2
import Derived.Test.YtlgphgipfjlbfaaDoorMrg1
import Derived.Test.YtlgphgipfjlbfaaDoorMrg3
import Derived.Laws.BitsAllLaws

section
/- Arrays in variables laid down at once with what a call gave back; the loads and the comparison of arrays behind '&&'. No program in sight. -/
set_option linter.unusedVariables false
set_option linter.unusedSimpArgs false
namespace Go.Proofs.YtlgphgipfjlbfaaDoor
open Go Go.RowKit

section
variable {P : Program} {ops : Array Oper} {rest : List Oper} {a : Act} {w : World} {Q : Exit → Act → World → Prop} {t e : TypeId} {n : Nat} {z : Value}

theorem mods_fresh {w w1 w2 : World} {k : Nat} (hb : Below w.heap.size w w1) (hm : Mods (fun j => j = k) w1 w2) (hk : w.heap.size ≤ k) : Below w.heap.size w w2 :=
  hb.trans (hm.below hb.size (fun j hj e => by omega))

/-- 'x := f()': a new variable and the array that it gets. -/
theorem wpList_varA (hA : Arr P t e n z) {o1 o2 : Oper} (hg1 : o1.guard = none) (ho1 : o1.op = .alloc t) (hg2 : o2.guard = none) (x y : Operand) (ho2 : o2.op = .store t x y) (cs : List Value)
    (hx : (a.put o1.dst (.pointer (some ⟨w.heap.size, 0, none⟩))).eval x = .pointer (some ⟨w.heap.size, 0, none⟩))
    (hy : (a.put o1.dst (.pointer (some ⟨w.heap.size, 0, none⟩))).eval y = .agg cs.toArray) (hl : cs.length = n) (h1 : ∀ u ∈ cs, u.oneCell' = true)
    (h : ∀ w', Blk w' w.heap.size cs → Below w.heap.size w w' → w'.heap.size = w.heap.size + 1 → wpList P ops Q rest ((a.put o1.dst (.pointer (some ⟨w.heap.size, 0, none⟩))).put o2.dst undef) w') : wpList P ops Q (o1 :: o2 :: rest) a w := by
  refine wpList_allocA hA hg1 ho1 fun w1 hk hb hs => ?_
  refine wpList_storeA hA hg2 x y ho2 w.heap.size hx cs _ hy hk (by simp) hl h1 fun w2 hk2 hm hs2 => ?_
  exact h w2 hk2 (mods_fresh hb hm (Nat.le_refl _)) (by omega)

/-- 'x, y, .. := f()': two new variables and their arrays. -/
theorem wpList_varA2 {t2 e2 : TypeId} {n2 : Nat} {z2 : Value} (hA : Arr P t e n z) (hB : Arr P t2 e2 n2 z2) {o1 o2 o3 o4 : Oper} (hg1 : o1.guard = none) (ho1 : o1.op = .alloc t) (hg2 : o2.guard = none) (ho2 : o2.op = .alloc t2)
    (hg3 : o3.guard = none) (x y : Operand) (ho3 : o3.op = .store t x y) (hg4 : o4.guard = none) (x2 y2 : Operand) (ho4 : o4.op = .store t2 x2 y2) (cs ds : List Value)
    (hx : ((a.put o1.dst (.pointer (some ⟨w.heap.size, 0, none⟩))).put o2.dst (.pointer (some ⟨w.heap.size + 1, 0, none⟩))).eval x = .pointer (some ⟨w.heap.size, 0, none⟩))
    (hy : ((a.put o1.dst (.pointer (some ⟨w.heap.size, 0, none⟩))).put o2.dst (.pointer (some ⟨w.heap.size + 1, 0, none⟩))).eval y = .agg cs.toArray) (hl : cs.length = n) (h1 : ∀ u ∈ cs, u.oneCell' = true)
    (hx2 : (((a.put o1.dst (.pointer (some ⟨w.heap.size, 0, none⟩))).put o2.dst (.pointer (some ⟨w.heap.size + 1, 0, none⟩))).put o3.dst undef).eval x2 = .pointer (some ⟨w.heap.size + 1, 0, none⟩))
    (hy2 : (((a.put o1.dst (.pointer (some ⟨w.heap.size, 0, none⟩))).put o2.dst (.pointer (some ⟨w.heap.size + 1, 0, none⟩))).put o3.dst undef).eval y2 = .agg ds.toArray) (hl2 : ds.length = n2) (h2 : ∀ u ∈ ds, u.oneCell' = true)
    (h : ∀ w', Blk w' w.heap.size cs → Blk w' (w.heap.size + 1) ds → Below w.heap.size w w' → w'.heap.size = w.heap.size + 2 → wpList P ops Q rest ((((a.put o1.dst (.pointer (some ⟨w.heap.size, 0, none⟩))).put o2.dst (.pointer (some ⟨w.heap.size + 1, 0, none⟩))).put o3.dst undef).put o4.dst undef) w') : wpList P ops Q (o1 :: o2 :: o3 :: o4 :: rest) a w := by
  refine wpList_allocA hA hg1 ho1 fun w1 hk hb hs => ?_
  refine wpList_allocA hB hg2 ho2 fun w2 hj hb2 hs2 => ?_
  rw [hs] at hj hb2 hs2 ⊢
  have hb12 : Below w.heap.size w w2 := hb.trans (hb2.mono (by omega))
  have hk2 : Blk w2 w.heap.size (List.replicate n z) := hk.of_same (hb2.block _ (by omega))
  refine wpList_storeA hA hg3 x y ho3 w.heap.size hx cs _ hy hk2 (by simp) hl h1 fun w3 hk3 hm hs3 => ?_
  have hj3 : Blk w3 (w.heap.size + 1) (List.replicate n2 z2) := hm.blk hj (fun e => by omega)
  refine wpList_storeA hB hg4 x2 y2 ho4 (w.heap.size + 1) hx2 ds _ hy2 hj3 (by simp) hl2 h2 fun w4 hj4 hm4 hs4 => ?_
  have hb3 := mods_fresh hb12 hm (Nat.le_refl _)
  exact h w4 (hm4.blk hk3 (fun e => by omega)) hj4 (mods_fresh hb3 hm4 (by omega)) (by omega)

/-- The whole array loaded, behind '&&' too. -/
theorem wpList_loadG (hA : Arr P t e n z) {o : Oper} (hgd : Region.wanted o (yielded ops a.tmps) = true) (x : Operand) (ho : o.op = .load t x) (g : Nat) (hx : a.eval x = .pointer (some ⟨g, 0, none⟩)) (cs : List Value) (hb : Blk w g cs) (hl : cs.length = n)
    (h : wpList P ops Q rest (a.put o.dst (.agg cs.toArray)) w) : wpList P ops Q (o :: rest) a w := by
  refine BigFrame.wpList_want hgd fun K hK => ?_
  unfold Oper.wp
  simp only [Sem.run_bind, exec_loadA hA x ho hx hb hl, Result.andThen_ok]
  exact hK _ _ h

theorem run_eq5 (hA : Arr P t e 5 z) (he : P.underlying e = some (.int .i64)) (l m : List Nat) (ha : l.length = 5) (hb : m.length = 5) (w : World) :
    (Op.equalIn 10000 t (.agg (natI l).toArray) (.agg (natI m).toArray)).run P w = .ok (decide (l = m)) w := by
  obtain ⟨a0, a1, a2, a3, a4, rfl⟩ := list5_of ha
  obtain ⟨b0, b1, b2, b3, b4, rfl⟩ := list5_of hb
  obtain ⟨i, hi, hs⟩ := hA.he
  have hag : ∀ w, (isAgg e).run P w = .ok false w := fun w => by
    unfold isAgg
    rw [Sem.run_bind, run_underlying he w]
    rfl
  have hp : ∀ (cs : Array Value) (k : Nat) (w : World), k < cs.size → (part e cs k).run P w = .ok (cs.getD k undef) w := fun cs k w h => by
    unfold part
    simp [Sem.run_bind, hag, h]
  have hz : ∀ w, (sizeOf e).run P w = .ok 1 w := fun w => by rw [run_sizeOf w hi]; simp [Program.cellsOf, hi, hs]
  have hq : ∀ (x y : Int) (w : World), (Op.equalIn 9999 e (.int .i64 x) (.int .i64 y)).run P w = .ok (x == y) w := fun x y w => run_equalIn_int w 9998 e .i64 .i64 x y he
  show (Op.equalIn (9999 + 1) t _ _).run P w = _
  rw [Op.equalIn]
  simp only [Sem.run_bind, run_underlying hA.ht, Result.andThen_ok, hz, Std.Legacy.Range.forIn_eq_forIn_range', Std.Legacy.Range.size, Nat.sub_zero, Nat.add_one_sub_one, Nat.div_one, List.range', List.forIn_cons, List.forIn_nil, natI, List.map_cons, List.map_nil, Nat.mul_one, Nat.reduceAdd]
  have hb : ∀ x y : Nat, ((x : Int) == (y : Int)) = decide (x = y) := fun x y => by
    by_cases h : x = y
    · subst h; simp
    · rw [decide_eq_false h, beq_eq_false_iff_ne]; omega
  by_cases h0 : a0 = b0 <;> by_cases h1 : a1 = b1 <;> by_cases h2 : a2 = b2 <;> by_cases h3 : a3 = b3 <;> by_cases h4 : a4 = b4 <;>
    simp [hp, hq, hb, Sem.run_bind, Sem.run_pure, h0, h1, h2, h3, h4]

theorem exec_eql5 (hA : Arr P t e 5 z) (he : P.underlying e = some (.int .i64)) (hgt : P.eqGuardType P.depth t = false) {o : Oper} {a : Act} {w : World} (x y : Operand) {t2 : TypeId} (ho : o.op = .binOp .eql t x y t2) (l m : List Nat) (hx : a.eval x = .agg (natI l).toArray) (hy : a.eval y = .agg (natI m).toArray) (hl : l.length = 5) (hm : m.length = 5) :
    (execOp a.eval o).run P w = .ok (.value (.bool (decide (l = m)))) w := by
  have hr : (Op.equal t (.agg (natI l).toArray) (.agg (natI m).toArray)).run P w = .ok (decide (l = m)) w := run_eq5 hA he l m hl hm w
  unfold execOp
  simp only [ho, hx, hy]
  simp [eqGuard, Sem.run_bind, run_program, hgt, binOp, hr, Sem.run_pure]
/-- Two arrays of numbers compared, behind '&&' too. -/
theorem wpList_eql5 (hA : Arr P t e 5 z) (he : P.underlying e = some (.int .i64)) (hgt : P.eqGuardType P.depth t = false) {o : Oper} (hgd : Region.wanted o (yielded ops a.tmps) = true) (x y : Operand) {t2 : TypeId} (ho : o.op = .binOp .eql t x y t2) (l m : List Nat) (hx : a.eval x = .agg (natI l).toArray) (hy : a.eval y = .agg (natI m).toArray) (hl : l.length = 5) (hm : m.length = 5)
    (h : wpList P ops Q rest (a.put o.dst (.bool (decide (l = m)))) w) : wpList P ops Q (o :: rest) a w := by
  refine BigFrame.wpList_want hgd fun K hK => ?_
  unfold Oper.wp
  simp only [Sem.run_bind, exec_eql5 hA he hgt x y ho l m hx hy hl hm, Result.andThen_ok]
  exact hK _ _ h
end
end Go.Proofs.YtlgphgipfjlbfaaDoor

end

section
/- Layer 16, pure: the lengths of what Parse gives. -/
set_option linter.unusedVariables false
set_option maxRecDepth 20000
namespace Go.Proofs.YtlgphgipfjlbfaaDoor
open Go

theorem lay_err {B : List Nat} (h : (lay B).2.2 ≠ 0) : (lay B).1 = noSecs ∧ (lay B).2.1 = noOffs := by
  rw [lay] at h ⊢
  cases hl : layF B with
  | ok x b =>
    rw [hl] at h
    by_cases hb : b < B.length
    · show (if b < B.length then _ else _ : List (List Nat) × List Nat × Nat).1 = _ ∧ (if b < B.length then _ else _ : List (List Nat) × List Nat × Nat).2.1 = _
      rw [if_pos hb]; exact ⟨rfl, rfl⟩
    · exact absurd (show (if b < B.length then _ else _ : List (List Nat) × List Nat × Nat).2.2 = 0 by rw [if_neg hb]) h
  | bad e => exact ⟨rfl, rfl⟩
theorem lay_shape {B : List Nat} (hB : ∀ c ∈ B, c < 256) : (lay B).1.length = 4 ∧ (lay B).2.1.length = 5 ∧ okS4 (lay B).1 := by
  by_cases h : (lay B).2.2 = 0
  · obtain ⟨S, h4, ok, hl, _⟩ := lay_inv hB h
    rw [hl]
    exact ⟨h4, by show (atsOf S).length = 5; rw [atsOf, List.length_append, offs_length, h4]; rfl, ok⟩
  · have h12 := lay_err h
    rw [h12.1, h12.2]
    refine ⟨rfl, rfl, fun d hd => ?_⟩
    have hd2 : d = [] := by simpa [noSecs] using hd
    subst hd2
    refine ⟨?_, by decide⟩
    intro c hc
    cases hc
end Go.Proofs.YtlgphgipfjlbfaaDoor

end

section
/- Layer 16: the reference's literal. -/
set_option linter.unusedVariables false
set_option maxRecDepth 20000
namespace Go.Proofs.YtlgphgipfjlbfaaDoor
open Go Go.RowKit

theorem litE_step {B L : List Nat} {i c d : Nat} (hb : B[i]? = some c) (hl : L[i]? = some d) : litE (B.drop i) (L.drop i) = if c = d then litE (B.drop (i + 1)) (L.drop (i + 1)) else 10 := by
  rw [List.drop_eq_getElem_cons (List.getElem?_eq_some_iff.1 hb).1, List.drop_eq_getElem_cons (List.getElem?_eq_some_iff.1 hl).1, (List.getElem?_eq_some_iff.1 hb).2, (List.getElem?_eq_some_iff.1 hl).2]
  rfl

set_option maxHeartbeats 4000000 in
theorem ref_literal16 (bv : Value) (B : List Nat) (s : ByteArray) (w : World) (h : Rd w 1 bv B.length (u8s B)) (hB : ∀ c ∈ B, c < 256) (hs : s.size ≤ 100) :
    Calls Tryd.prog 28 #[bv, .string s] w fun e w' => e = .returned (.int .i64 (litE B (numsOf s) : Int)) ∧ ∃ n, w' = w.drewN n := by
  have H := Lib.hid h; have HB := Lib.hid hB; have HS := Lib.hid hs
  have HSl : Hid ((numsOf s).length = s.size) := numsOf_length s
  obtain ⟨p, c, hv⟩ := h.shape
  subst hv
  have hsi : (s.size : Int) ≤ 100 := by omega
  clear h hB hs
  go_enter Tryd.func28, Tryd.ntmps28
  go_wp2_with fail
  go_loopw [5] (fun iv wr => ∃ (i : Nat), i ≤ s.size ∧ i ≤ B.length ∧ iv = .int .i64 (i : Int) ∧ Hid (litE B (numsOf s) = litE (B.drop i) ((numsOf s).drop i)) ∧ Hid (∃ n, wr = w.drewN n)) (fun iv _ => s.size - (intOf iv).toNat)
  case atStart => exact ⟨0, Nat.zero_le _, Nat.zero_le _, rfl, rfl, ⟨0, rfl⟩⟩
  case round =>
    obtain ⟨i, hi, hib, rfl, HE, HW⟩ := hrel
    have him : (i : Int) ≤ 100 := by omega
    by_cases h1 : i < s.size
    · have h1' : (i : Int) < (s.size : Int) := by omega
      by_cases h2 : i < B.length
      · have h2' : (i : Int) < (B.length : Int) := by omega
        obtain ⟨x, hx⟩ : ∃ x, B[i]? = some x := ⟨_, List.getElem?_eq_getElem h2⟩
        have hrd : Rd wr 1 (.slice p B.length c) B.length (u8s B) := by
          obtain ⟨n0, rfl⟩ := HW.out
          exact H.out.below ((Mods.drewN (fun _ => False) w n0).below (Nat.le_refl _) (fun _ _ e => e))
        obtain ⟨b, off, c', e, _, _, hcell⟩ := hrd.at (fun e => by have := congrArg List.length e; rw [u8s_length] at this; rw [this] at h2; simp at h2)
        simp only [Value.slice.injEq] at e
        obtain ⟨rfl, _, rfl⟩ := e
        have d0 : wr.cell? ⟨b, off + i, none⟩ = some (.int .u8 (x : Int)) := hcell i _ (by rw [u8s, List.getElem?_map, hx]; rfl)
        clear hrd
        clear hcell
        have hd : (numsOf s)[i]? = some ((s[i]'h1).toNat) := by
          rw [numsOf, List.getElem?_map, Array.getElem?_toList]
          have : s.data[i]? = some (s[i]'h1) := Array.getElem?_eq_getElem _
          rw [this]; rfl
        have HSt := Lib.hid (litE_step hx hd)
        clear hx hd
        by_cases hxd : x = (s[i]'h1).toNat
        · have hb : ((x : Int) != (((s[i]'h1).toNat : Nat) : Int)) = false := by rw [hxd]; simp
          have HE2 : Hid (litE B (numsOf s) = litE (B.drop (i + 1)) ((numsOf s).drop (i + 1))) := by show _ = _; rw [HE.out, HSt.out, if_pos hxd]
          clear HSt hxd
          go_wp2_with fail
          go_quiet (fail)
          have HW2 : Hid (∃ n, wr.drewN nq = w.drewN n) := by obtain ⟨n0, rfl⟩ := HW.out; exact ⟨n0 + nq, World.drewN_drewN ..⟩
          clear d0 HW
          generalize wr.drewN nq = w2 at *
          go_wp2_with fail
          go_round
          case rel => exact ⟨i + 1, by omega, by omega, by go_num, HE2.out, HW2.out⟩
          case measure => simp [intOf]; omega
        · have hb : ((x : Int) != (((s[i]'h1).toNat : Nat) : Int)) = true := by rw [bne_iff_ne]; omega
          have HE2 : Hid (litE B (numsOf s) = 10) := by show _ = _; rw [HE.out, HSt.out, if_neg hxd]
          clear HSt hxd
          go_wp2_with fail
          go_quiet (fail)
          have HW2 : Hid (∃ n, wr.drewN nq = w.drewN n) := by obtain ⟨n0, rfl⟩ := HW.out; exact ⟨n0 + nq, World.drewN_drewN ..⟩
          clear d0 HW
          generalize wr.drewN nq = w2 at *
          go_wp2_with fail
          go_ret
          exact ⟨by rw [HE2.out]; rfl, HW2.out⟩
      · have h2' : ¬ (i : Int) < (B.length : Int) := by omega
        have hlt : (B.length : Int) < (s.size : Int) := by omega
        have HE2 : Hid (litE B (numsOf s) = 3) := by
          show _ = _
          rw [HE.out, List.drop_of_length_le (by omega), List.drop_eq_getElem_cons (by rw [HSl.out]; exact h1)]
          rfl
        go_wp2_with fail
        go_ret
        exact ⟨by rw [HE2.out]; rfl, HW.out⟩
    · have h1' : ¬ (i : Int) < (s.size : Int) := by omega
      have hlt : ¬ (B.length : Int) < (s.size : Int) := by omega
      have HE2 : Hid (litE B (numsOf s) = 0) := by
        show _ = _
        rw [HE.out, List.drop_of_length_le (l := numsOf s) (by rw [HSl.out]; omega)]
        cases B.drop i <;> rfl
      go_wp2_with fail
      go_ret
      exact ⟨by rw [HE2.out]; rfl, HW.out⟩
end Go.Proofs.YtlgphgipfjlbfaaDoor

end

section
/- Readings of pairs and of lists, step by step. No program in sight. -/
set_option linter.unusedVariables false
namespace Go.Proofs.YtlgphgipfjlbfaaDoor


/-- A read of a list: what is still to come. -/
theorem many_ok {α : Type} {p : List Nat → Nat → Out α} {B : List Nat} {n i a : Nat} {acc : List α} {x : α} {b : Nat} {T : Out (List α)} (hi : i < n) (h : T = pMany p B (n - i) a acc) (hx : p B a = .ok x b) : T = pMany p B (n - (i + 1)) b (acc ++ [x]) := by
  rw [h, show n - i = (n - (i + 1)) + 1 by omega, pMany, hx]

theorem many_no {α : Type} {p : List Nat → Nat → Out α} {B : List Nat} {n i a e : Nat} {acc : List α} {T : Out (List α)} (hi : i < n) (h : T = pMany p B (n - i) a acc) (hx : p B a = .bad e) : T = .bad e := by
  rw [h, show n - i = (n - (i + 1)) + 1 by omega, pMany, hx]

theorem many_end {α : Type} {p : List Nat → Nat → Out α} {B : List Nat} {n i a : Nat} {acc : List α} {T : Out (List α)} (hi : n ≤ i) (h : T = pMany p B (n - i) a acc) : T = .ok acc a := by
  rw [h, show n - i = 0 by omega, pMany]

theorem pair_ok {α β : Type} {p : List Nat → Nat → Out α} {q : List Nat → Nat → Out β} {B : List Nat} {a b c : Nat} {x : α} {y : β} (h1 : p B a = .ok x b) (h2 : q B b = .ok y c) : pPair p q B a = .ok (x, y) c := by rw [pPair, h1]; simp only [h2]

theorem pair_no1 {α β : Type} {p : List Nat → Nat → Out α} {q : List Nat → Nat → Out β} {B : List Nat} {a e : Nat} (h1 : p B a = .bad e) : pPair p q B a = .bad e := by rw [pPair, h1]

theorem pair_no2 {α β : Type} {p : List Nat → Nat → Out α} {q : List Nat → Nat → Out β} {B : List Nat} {a b e : Nat} {x : α} (h1 : p B a = .ok x b) (h2 : q B b = .bad e) : pPair p q B a = .bad e := by rw [pPair, h1]; simp only [h2]
end Go.Proofs.YtlgphgipfjlbfaaDoor

end

section
/- Layer 13: a number of elements, as it is read; a counted list by its number. No program in sight. -/
set_option linter.unusedVariables false
namespace Go.Proofs.YtlgphgipfjlbfaaDoor

def outCount (B : List Nat) (a : Nat) : Out Nat := match readAt B (a : Int) with
  | (n, to, 0) => if B.length - to.toNat < n then .bad 3 else .ok n to.toNat
  | (_, _, e + 1) => .bad (e + 1)
theorem pList_count {α : Type} (z : Nat) (p : List Nat → Nat → Out α) (B : List Nat) (a : Nat) : pList z p B a = match outCount B a with
  | .bad e => .bad e
  | .ok n b => if z ≠ 0 ∧ n = 0 then .bad z else pMany p B n b [] := by
  unfold pList outCount
  rcases readAt B (a : Int) with ⟨n, to, e⟩
  cases e with
  | zero =>
    simp only
    by_cases h : B.length - to.toNat < n
    · rw [if_pos h, if_pos h]
    · rw [if_neg h, if_neg h]
  | succ e => rfl
/-- What Count finds: an error of the number; more than there is; a number. -/
theorem outCount_cases {B : List Nat} (hB : ∀ c ∈ B, c < 256) {a : Nat} (ha : a ≤ B.length) :
    (∃ e, e ≠ 0 ∧ outUint B a 18446744073709551615 = .bad e ∧ outCount B a = .bad e) ∨
    (∃ n b, outUint B a 18446744073709551615 = .ok n b ∧ n < 18446744073709551616 ∧ a < b ∧ b ≤ B.length ∧ outCount B a = if B.length - b < n then .bad 3 else .ok n b) := by
  rcases readAt_cases hB ha with ⟨e, he, hr⟩ | ⟨y, n, hr, hn, hin, hg, hy⟩
  · obtain ⟨k, rfl⟩ : ∃ k, e = k + 1 := ⟨e - 1, by omega⟩
    exact Or.inl ⟨k + 1, he, by rw [outUint, hr], by rw [outCount, hr]⟩
  · exact Or.inr ⟨y, a + n, by rw [outUint, hr]; simp only [Int.toNat_natCast]; rw [if_neg (by omega)], hy, by omega, hin, by rw [outCount, hr]; simp only [Int.toNat_natCast]⟩
theorem pNum_cases {α : Type} (g : Nat → Option α) (z : Nat) {B : List Nat} (hB : ∀ c ∈ B, c < 256) {a : Nat} (ha : a ≤ B.length) :
    (∃ e, e ≠ 0 ∧ outUint B a 18446744073709551615 = .bad e ∧ pNum g z B a = .bad e) ∨
    (∃ n b, outUint B a 18446744073709551615 = .ok n b ∧ n < 18446744073709551616 ∧ a < b ∧ b ≤ B.length ∧ pNum g z B a = match g n with
      | some x => .ok x b
      | none => .bad z) := by
  rcases readAt_cases hB ha with ⟨e, he, hr⟩ | ⟨y, n, hr, hn, hin, hg, hy⟩
  · obtain ⟨k, rfl⟩ : ∃ k, e = k + 1 := ⟨e - 1, by omega⟩
    exact Or.inl ⟨k + 1, he, by rw [outUint, hr], by rw [pNum, hr]⟩
  · exact Or.inr ⟨y, a + n, by rw [outUint, hr]; simp only [Int.toNat_natCast]; rw [if_neg (by omega)], hy, by omega, hin, by rw [pNum, hr]; simp only [Int.toNat_natCast]; cases g y <;> rfl⟩
end Go.Proofs.YtlgphgipfjlbfaaDoor

end

section
/- What a reading gives where an error is noted already; what stands behind it. No program in sight. -/
set_option linter.unusedVariables false
namespace Go.Proofs.YtlgphgipfjlbfaaDoor


/-- What a reading gives where the error e is noted already; what stands behind it, with its value, offset and error. -/
def outE {α : Type} (o : Out α) (e : Nat) : Out α := if e = 0 then o else .bad e

def fin {α : Type} (x : α) (a e : Nat) : Out α := if e = 0 then .ok x a else .bad e

theorem outE_zero {α : Type} (o : Out α) : outE o 0 = o := rfl

theorem outE_ne {α : Type} (o : Out α) {e : Nat} (h : e ≠ 0) : outE o e = .bad e := if_neg h

theorem fin_ok {α : Type} {o : Out α} {e a e' : Nat} {x : α} (h : outE o e = fin x a e') (h0 : e' = 0) : e = 0 ∧ o = .ok x a := by
  unfold outE fin at h
  subst h0
  split at h
  · exact ⟨by assumption, h⟩
  · cases h

theorem fin_bad {α : Type} {o : Out α} {e a e' : Nat} {x : α} (h : outE o e = fin x a e') (h0 : e' ≠ 0) : (e = 0 ∧ o = .bad e') ∨ (e ≠ 0 ∧ e = e') := by
  unfold outE fin at h
  rw [if_neg h0] at h
  split at h
  · exact Or.inl ⟨by assumption, h⟩
  · cases h; exact Or.inr ⟨h0, rfl⟩

theorem fin_pair {α β : Type} {p : List Nat → Nat → Out α} {q : List Nat → Nat → Out β} {B : List Nat} {a e a1 e1 a2 e2 : Nat} {x : α} {y : β} (h1 : outE (p B a) e = fin x a1 e1) (h2 : outE (q B a1) e1 = fin y a2 e2) : outE (pPair p q B a) e = fin (x, y) a2 e2 := by
  by_cases c1 : e1 = 0
  · obtain ⟨rfl, k1⟩ := fin_ok h1 c1
    by_cases c2 : e2 = 0
    · obtain ⟨_, k2⟩ := fin_ok h2 c2
      rw [outE_zero, pair_ok k1 k2, fin, if_pos c2]
    · rcases fin_bad h2 c2 with ⟨_, k2⟩ | ⟨k, _⟩
      · rw [outE_zero, pair_no2 k1 k2, fin, if_neg c2]
      · exact absurd c1 k
  · have c2 : e2 = e1 := by
      rw [outE_ne _ c1] at h2
      unfold fin at h2
      split at h2
      · cases h2
      · cases h2; rfl
    subst c2
    rcases fin_bad h1 c1 with ⟨rfl, k1⟩ | ⟨k, rfl⟩
    · rw [outE_zero, pair_no1 k1, fin, if_neg c1]
    · rw [outE_ne _ k, fin, if_neg c1]
end Go.Proofs.YtlgphgipfjlbfaaDoor

end

section
/- Layer 4: the reference's reader: Fail. (End: XRrEnd.) -/
set_option linter.unusedVariables false
namespace Go.Proofs.YtlgphgipfjlbfaaDoor
open Go Go.RowKit

/-- The reference's reader at block q: its bytes, its offset, its error. -/
structure RRd (w : World) (q : Nat) (v : Value) (B : List Nat) (a : Nat) (e : Int) : Prop where
  blk : Blk w q [v, .int .i64 (a : Int), .int .i64 e]
  rd : Rd w 1 v B.length (u8s B)
  ne : B ≠ [] → ∀ k, v.ownBlock = some k → k ≠ q
theorem u8s_ne {B : List Nat} (h : u8s B ≠ []) : B ≠ [] := fun e => h (by subst e; rfl)
theorem RRd.mods' {S : Nat → Prop} {w w' : World} {q : Nat} {v : Value} {B : List Nat} {a : Nat} {e : Int} (h : RRd w q v B a e) (hm : Mods S w w') (hq : ¬ S q) (hv : B ≠ [] → ∀ k, v.ownBlock = some k → ¬ S k) : RRd w' q v B a e := ⟨hm.blk h.blk hq, h.rd.mods' hm (fun e => hv (u8s_ne e)), h.ne⟩
theorem RRd.mods {S : Nat → Prop} {w w' : World} {q : Nat} {v : Value} {B : List Nat} {a : Nat} {e : Int} (h : RRd w q v B a e) (hm : Mods S w w') (hq : ¬ S q) (hv : ∀ k, v.ownBlock = some k → ¬ S k) : RRd w' q v B a e := h.mods' hm hq (fun _ => hv)
theorem RRd.below {w w' : World} {q : Nat} {v : Value} {B : List Nat} {a : Nat} {e : Int} (h : RRd w q v B a e) (hb : Below w.heap.size w w') : RRd w' q v B a e := h.mods (Mods.of_below hb (fun _ => False)) (fun h => h) (fun _ _ h => h)
theorem RRd.drew {w : World} {q : Nat} {v : Value} {B : List Nat} {a : Nat} {e : Int} (h : RRd w q v B a e) : RRd w.drew q v B a e := h.mods (Mods.drew (fun _ => False) w) (fun h => h) (fun _ _ h => h)
theorem RRd.drewN {w : World} {q : Nat} {v : Value} {B : List Nat} {a : Nat} {e : Int} (h : RRd w q v B a e) (n : Nat) : RRd (w.drewN n) q v B a e := h.mods (Mods.drewN (fun _ => False) w n) (fun h => h) (fun _ _ h => h)
theorem RRd.cells {w : World} {q : Nat} {v : Value} {B : List Nat} {a : Nat} {e : Int} (h : RRd w q v B a e) : w.cell? ⟨q, 0, none⟩ = some v ∧ w.cell? ⟨q, 1, none⟩ = some (.int .i64 (a : Int)) ∧ w.cell? ⟨q, 2, none⟩ = some (.int .i64 e) ∧ w.frozen? ⟨q, 1, none⟩ = false ∧ w.frozen? ⟨q, 2, none⟩ = false :=
  ⟨by rw [h.blk.cell]; rfl, by rw [h.blk.cell]; rfl, by rw [h.blk.cell]; rfl, h.blk.free 1, h.blk.free 2⟩
theorem RRd.setErr {w : World} {q : Nat} {v : Value} {B : List Nat} {a : Nat} {e : Int} (h : RRd w q v B a e) (x : Int) : RRd (w.setCell ⟨q, 2, none⟩ (.int .i64 x)) q v B a x :=
  ⟨h.blk.set 2 _, h.rd.mods' (Mods.set (fun j => j = q) _ _ _ (fun _ => rfl)) (fun e => h.ne (u8s_ne e)), h.ne⟩
theorem RRd.setAt {w : World} {q : Nat} {v : Value} {B : List Nat} {a : Nat} {e : Int} (h : RRd w q v B a e) (b : Nat) : RRd (w.setCell ⟨q, 1, none⟩ (.int .i64 (b : Int))) q v B b e :=
  ⟨h.blk.set 1 _, h.rd.mods' (Mods.set (fun j => j = q) _ _ _ (fun _ => rfl)) (fun e => h.ne (u8s_ne e)), h.ne⟩
theorem mods_set (w : World) (q i : Nat) (u : Value) : Mods (fun k => k = q) w (w.setCell ⟨q, i, none⟩ u) := Mods.set _ _ _ _ (fun _ => rfl)

/-- What a read leaves: its value and the new offset, or zero and the error. -/
def Got {α : Type} (o : Out α) (val : α → Value) (z : Value) (inv : Nat → Int → Prop) (a : Nat) (en : Ending) : Prop := match o with
  | .ok x b => en = .returned (val x) ∧ inv b 0
  | .bad e => en = .returned z ∧ inv a (e : Int)

theorem rr_fail (q : Nat) (v : Value) (B : List Nat) (a : Nat) (e x : Int) (w : World) (h : RRd w q v B a e) :
    Calls Tryd.prog 38 #[.pointer (some ⟨q, 0, none⟩), .int .i64 x] w fun en w' => en = .returned (.tuple #[]) ∧ RRd w' q v B a (if e = 0 then x else e) ∧ Mods (fun k => k = q) w w' := by
  obtain ⟨c0, c1, c2, f1, f2⟩ := h.cells
  have H := Lib.hid h
  clear h
  by_cases he : e = 0
  · subst he
    go_enter Tryd.func38, Tryd.ntmps38
    go_wp2
    go_end0
    exact ⟨rfl, by simpa using H.out.setErr x, mods_set _ _ _ _⟩
  · go_enter Tryd.func38, Tryd.ntmps38
    go_wp2
    go_end0
    exact ⟨rfl, by simpa [he] using H.out, Mods.refl _ _⟩

end Go.Proofs.YtlgphgipfjlbfaaDoor

end

section
/- Layer 16: the reference's Parse: what its variables hold. No program in sight but the types. -/
set_option linter.unusedVariables false
set_option maxRecDepth 20000
namespace Go.Proofs.YtlgphgipfjlbfaaDoor
open Go Go.RowKit

theorem litH : numsOf ⟨#[84, 83, 66, 75, 1]⟩ = headL := rfl
theorem litT : numsOf ⟨#[75, 66, 83, 84]⟩ = tailL := rfl
def nil4 : List Value := List.replicate 4 (.slice none 0 0)
def zero5 : List Value := List.replicate 5 (.int .i64 0)
/-- The variables of Parse, from block g on: the results, the sections, the offsets, none, zeros. -/
structure Ps (w wr : World) (g : Nat) (vs : List Value) (az : List Nat) : Prop where
  b2 : Blk wr g nil4
  b3 : Blk wr (g + 1) zero5
  bs : Blk wr (g + 2) vs
  ba : Blk wr (g + 3) (natI az)
  bn : Blk wr (g + 4) nil4
  bz : Blk wr (g + 5) zero5
  bel : Below w.heap.size w wr
  low : w.heap.size ≤ g
  vl : vs.length = 4
  al : az.length = 5
  vo : ∀ u ∈ vs, u.oneCell' = true
theorem Ps.mods {S : Nat → Prop} {w wr w' : World} {g : Nat} {vs : List Value} {az : List Nat} (h : Ps w wr g vs az) (hm : Mods S wr w') (hS : ∀ k, S k → g + 6 ≤ k) : Ps w w' g vs az :=
  ⟨hm.blk h.b2 (fun e => by have := hS _ e; omega), hm.blk h.b3 (fun e => by have := hS _ e; omega), hm.blk h.bs (fun e => by have := hS _ e; omega), hm.blk h.ba (fun e => by have := hS _ e; omega), hm.blk h.bn (fun e => by have := hS _ e; omega), hm.blk h.bz (fun e => by have := hS _ e; omega), h.bel.trans (hm.below h.bel.size (fun k hk e => by have := hS _ e; have := h.low; omega)), h.low, h.vl, h.al, h.vo⟩
theorem Ps.below {w wr w' : World} {g : Nat} {vs : List Value} {az : List Nat} (h : Ps w wr g vs az) (hb : Below wr.heap.size wr w') : Ps w w' g vs az := h.mods (Mods.of_below hb (fun _ => False)) (fun _ h => h.elim)
/-- What a world must keep while results are laid down. -/
structure PsK (g : Nat) (vs : List Value) (az : List Nat) (wr : World) : Prop where
  bs : Blk wr (g + 2) vs
  ba : Blk wr (g + 3) (natI az)
  bn : Blk wr (g + 4) nil4
  bz : Blk wr (g + 5) zero5
theorem Ps.keep {w wr : World} {g : Nat} {vs : List Value} {az : List Nat} (h : Ps w wr g vs az) : PsK g vs az wr := ⟨h.bs, h.ba, h.bn, h.bz⟩
theorem PsK.set {g : Nat} {vs : List Value} {az : List Nat} {w w' : World} {k : Nat} (h : PsK g vs az w) (hm : Mods (fun j => j = k) w w') (hk : k = g ∨ k = g + 1) : PsK g vs az w' :=
  ⟨hm.blk h.bs (fun e => by omega), hm.blk h.ba (fun e => by omega), hm.blk h.bn (fun e => by omega), hm.blk h.bz (fun e => by omega)⟩
theorem one_natI (l : List Nat) : ∀ u ∈ natI l, u.oneCell' = true := fun u hu => by
  obtain ⟨x, _, rfl⟩ := List.mem_map.1 hu; rfl
theorem rdS_none (w : World) : RdS w nil4 noSecs := ⟨rfl, fun i v d h1 h2 => by
  have hi : i < 4 := (List.getElem?_eq_some_iff.1 h2).1
  have hv : v = .slice none 0 0 := by
    rw [nil4, List.getElem?_replicate, if_pos hi] at h1
    exact (Option.some.inj h1).symm
  have hd : d = [] := by
    unfold noSecs at h2
    rcases (show i = 0 ∨ i = 1 ∨ i = 2 ∨ i = 3 by omega) with rfl | rfl | rfl | rfl <;> exact (Option.some.inj h2).symm
  subst hv hd
  exact Rd.nil w 1⟩
/-- What Parse leaves. -/
def GotL16 (w : World) (B : List Nat) (e : Ending) (w' : World) : Prop := ∃ vs, e = .returned (.tuple #[.agg vs.toArray, .agg (natI (lay B).2.1).toArray, .int .i64 ((lay B).2.2 : Int)]) ∧ RdS w' vs (lay B).1 ∧ Below w.heap.size w w'
theorem gotL_bad {w w' : World} {B : List Nat} {e : Nat} (h : lay B = (noSecs, noOffs, e)) (hb : Below w.heap.size w w') : GotL16 w B (.returned (.tuple #[.agg nil4.toArray, .agg zero5.toArray, .int .i64 (e : Int)])) w' :=
  ⟨nil4, by rw [h]; rfl, by rw [h]; exact rdS_none w', hb⟩
end Go.Proofs.YtlgphgipfjlbfaaDoor

end

section
/- What a read of bytes leaves. -/
set_option linter.unusedVariables false
namespace Go.Proofs.YtlgphgipfjlbfaaDoor
open Go Go.RowKit


/-- What a read of bytes leaves: a new slice and the new offset, or nil and the error. -/
def GotS (o : Out (List Nat)) (w w' : World) (inv : Nat → Int → Prop) (a : Nat) (en : Ending) : Prop := match o with
  | .ok l b => (∃ r, en = .returned r ∧ w'.ownsRow w.heap.size 5 1 r l.length (u8s l)) ∧ inv b 0
  | .bad e => en = .returned (.slice none 0 0) ∧ inv a (e : Int)
end Go.Proofs.YtlgphgipfjlbfaaDoor

end

section
/- A number that fits is kept. -/
set_option linter.unusedVariables false
namespace Go.Proofs.YtlgphgipfjlbfaaDoor
open Go Go.RowKit


theorem wrap_u64_small (n : Int) (h0 : 0 ≤ n) (h : n < 18446744073709551616) : IntKind.u64.wrap n = n := by rw [IntKind.wrap_u64]; omega
end Go.Proofs.YtlgphgipfjlbfaaDoor

end

section
/- Layer 3: the reference's states and checksums. -/
set_option linter.unusedVariables false
namespace Go.Proofs.YtlgphgipfjlbfaaDoor
open Go Go.RowKit

theorem u8s_le4 (S : Nat) (h : S < 4294967296) : u8s (le4 S) = [.int .u8 ((S : Int) % 256), .int .u8 ((S : Int) / 256 % 256), .int .u8 ((S : Int) / 65536 % 256), .int .u8 ((S : Int) / 16777216)] := by
  have e : S / 16777216 % 256 = S / 16777216 := by omega
  simp [u8s, le4, e]
theorem le4_length (S : Nat) : (le4 S).length = 4 := rfl
theorem shrN_succ (n s : Nat) : shrN (n + 1) s = shr1 (shrN n s) := by rw [shrN_add]; rfl

set_option maxHeartbeats 400000 in
theorem ref_step (s c : Nat) (hs : s < 4294967296) (hc : c < 256) (w : World) :
    Calls Tryd.prog 60 #[.int .u32 (s : Int), .int .u8 (c : Int)] w fun e w' => e = .returned (.int .u32 (step8 s c : Int)) ∧ w = w' := by
  have H0 := Lib.hid (u32_xor_nat s c hs (by omega))
  have HX : Hid (∀ k, shrN k (s ^^^ c) < 4294967296) := fun k => shrN_lt (xor_lt32 hs (by omega))
  have HE : Hid (step8 s c = shrN 8 (s ^^^ c)) := rfl
  go_enter Tryd.func60, Tryd.ntmps60
  go_wp2_with fail
  go_loop [5, 6] (fun x i => ∃ k : Nat, k ≤ 8 ∧ i = .int .i64 (k : Int) ∧ x = .int .u32 (shrN k (s ^^^ c) : Int)) (fun _ i => 8 - (intOf i).toNat)
  case atStart => exact ⟨0, by decide, rfl, by rw [H0.out]; rfl⟩
  case round =>
    obtain ⟨k, hk, rfl, rfl⟩ := hrel
    by_cases hlt : k < 8
    · have hX := HX.out k
      have HS := Lib.hid (shrN_succ k (s ^^^ c))
      generalize shrN k (s ^^^ c) = X at *
      have HB := Lib.hid (u32_xor_nat (X / 2) 3988292384 (by omega) (by decide))
      by_cases hodd : X % 2 = 1
      · have hodd' : (X : Int) % 2 = 1 := by omega
        have HF : Hid (shr1 X = X / 2 ^^^ 3988292384) := by show _ = _; rw [shr1, if_pos hodd]
        go_wp2_with fail
        go_round
        case rel => exact ⟨k + 1, by omega, by go_num, by rw [HS.out, HF.out, ← HB.out]; rfl⟩
        case measure => simp [intOf]; omega
      · have hodd' : ¬ (X : Int) % 2 = 1 := by omega
        have HF : Hid (shr1 X = X / 2) := by show _ = _; rw [shr1, if_neg hodd]
        go_wp2_with fail
        go_round
        case rel => exact ⟨k + 1, by omega, by go_num, by rw [HS.out, HF.out]; rfl⟩
        case measure => simp [intOf]; omega
    · have hlt' : ¬ (k : Int) < 8 := by omega
      have HK : Hid (k = 8) := by show _ = _; omega
      clear hk hlt
      go_wp2_with fail
      go_ret
      exact ⟨by rw [HE.out, HK.out]; rfl, rfl⟩

theorem upd_take_succ (s : Nat) (l : List Nat) (k : Nat) (h : k < l.length) : upd s (l.take (k + 1)) = step8 (upd s (l.take k)) l[k] := by
  rw [List.take_add_one, List.getElem?_eq_getElem h, Option.toList_some, upd_append]; rfl
theorem upd_take_all (s : Nat) (l : List Nat) : upd s (l.take l.length) = upd s l := by rw [List.take_length]

set_option maxHeartbeats 400000 in
theorem ref_update (s : Nat) (v : Value) (l : List Nat) (w : World) (hs : s < 4294967296) (h : Rd w 1 v l.length (u8s l)) (hl : ∀ c ∈ l, c < 256) :
    Calls Tryd.prog 49 #[.int .u32 (s : Int), v] w fun e w' => e = .returned (.int .u32 (upd s l : Int)) ∧ w = w' := by
  have hmax : (l.length : Int) ≤ 9223372036854775807 := by have := h.le; unfold maxLen at this; omega
  obtain ⟨p, c, hv⟩ := h.shape
  subst hv
  have H2 := Lib.hid h; clear h
  have HM := Lib.hid hl; clear hl
  have HX : Hid (∀ k, upd s (l.take k) < 4294967296) := fun k => upd_lt hs _ (fun c hc => HM.out c (List.mem_of_mem_take hc))
  go_enter Tryd.func49, Tryd.ntmps49
  go_wp2_with fail
  go_loop [0, 5] (fun x i => ∃ k : Nat, k ≤ l.length ∧ i = .int .i64 (k : Int) ∧ x = .int .u32 (upd s (l.take k) : Int)) (fun _ i => l.length - (intOf i).toNat)
  case atStart => exact ⟨0, by omega, rfl, rfl⟩
  case round =>
    obtain ⟨k, hk, rfl, rfl⟩ := hrel
    by_cases hlt : k < l.length
    · have hlt' : (k : Int) < (l.length : Int) := by omega
      obtain ⟨b, off, c', e, _, _, hc⟩ := H2.out.at (fun e => by have := congrArg List.length e; rw [u8s_length] at this; simp at this; subst this; simp at hlt)
      simp only [Value.slice.injEq] at e
      obtain ⟨rfl, _, rfl⟩ := e
      have hcell := hc k _ (u8s_get _ _ hlt)
      have hu := HM.out _ (List.getElem_mem hlt)
      have HS := Lib.hid (upd_take_succ s l k hlt)
      have hX := HX.out k
      clear hc
      generalize upd s (l.take k) = X at *
      generalize l[k] = u at *
      go_wp2_with fail
      refine (ref_step X u hX hu _).mono ?_
      rintro e w2 ⟨rfl, rfl⟩
      rw [← HS.out]
      go_wp2_with fail
      go_round
      case rel => exact ⟨k + 1, by omega, by go_num, rfl⟩
      case measure => simp [intOf]; omega
    · obtain rfl : k = l.length := by omega
      have HE := Lib.hid (upd_take_all s l)
      rw [HE.out]
      go_wp2_with fail
      go_ret
      exact ⟨rfl, rfl⟩

theorem ref_sum (v : Value) (l : List Nat) (w : World) (h : Rd w 1 v l.length (u8s l)) (hl : ∀ c ∈ l, c < 256) :
    Calls Tryd.prog 37 #[v] w fun e w' => e = .returned (.int .u32 (crcOf l : Int)) ∧ w = w' := by
  have HU := Lib.hid (upd_lt (show 4294967295 < 4294967296 by decide) l hl)
  have H2 := Lib.hid h; clear h
  have HM := Lib.hid hl; clear hl
  have HE : Hid (crcOf l = 4294967295 - upd 4294967295 l) := rfl
  go_enter Tryd.func37, Tryd.ntmps37
  go_wp2_with fail
  refine (ref_update 4294967295 v l _ (by decide) H2.out HM.out).mono ?_
  rintro e w2 ⟨rfl, rfl⟩
  have hU := HU.out
  clear HU
  generalize upd 4294967295 l = X at *
  go_wp2_with fail
  go_ret
  exact ⟨ret_int (by have := HE.out; omega), rfl⟩
end Go.Proofs.YtlgphgipfjlbfaaDoor

end

section
/- Layer 3: the reference's Append. -/
set_option linter.unusedVariables false
namespace Go.Proofs.YtlgphgipfjlbfaaDoor
open Go Go.RowKit


set_option maxHeartbeats 1000000 in
theorem ref_append (v : Value) (l : List Nat) (w : World) (h : Rd w 1 v l.length (u8s l)) (hl : ∀ c ∈ l, c < 256) (hn : l.length ≤ 140737488355000) :
    Calls Tryd.prog 27 #[v] w fun e w' => ∃ r, e = .returned r ∧ Made w w' 5 1 r (withCrc l).length (u8s (withCrc l)) := by
  have H2 := Lib.hid h
  have HM := Lib.hid hl
  obtain ⟨q, c, hv⟩ := h.shape
  subst hv
  clear h hl
  go_enter Tryd.func27, Tryd.ntmps27
  go_wp2_with fail
  refine (ref_sum _ l _ H2.out HM.out).mono ?_
  rintro e w1 ⟨rfl, rfl⟩
  have HW : Hid (withCrc l = l ++ le4 (crcOf l)) := rfl
  have hS := crcOf_lt l
  generalize crcOf l = S at *
  have HB : Hid (Below w.heap.size w (w.alloc (.cells #[] 5))) := (Below.refl _ _).alloc (Nat.le_refl _) _
  have HR := Lib.hid (H2.out.below HB.out)
  have HO : Hid ((w.alloc (.cells #[] 5)).ownsRow 0 5 1 (.slice (some ⟨w.heap.size, 0, none⟩) 0 0) 0 []) := World.ownsRow_lit (base := 0) w #[] 0 (Nat.zero_le _) (by simp [maxLen]) (by simp)
  have HL : Hid ((0 + l.length) * 1 ≤ 140737488355328 ∧ 0 + l.length ≤ maxLen) := by show _ ∧ _; unfold maxLen; omega
  have HL2 : Hid ((l.length + 4) * 1 ≤ 140737488355328 ∧ l.length + 4 ≤ maxLen) := by show _ ∧ _; unfold maxLen; omega
  go_wp2_with (at_builtin; refine wpList_extend Tryd.elemU8 _ _ _ _ _ _ _ HO.out HR.out (u8s_oneCell _) HL.out rfl _ _ rfl rfl rfl ?_)
  intro v' w1 hown hmods hfr
  obtain ⟨q1, c1, hv1⟩ := (Rd.of_owns hown).shape
  subst hv1
  have HO1 := Lib.hid hown
  have HF1 : Hid (∀ k, (Value.slice q1 l.length c1).ownBlock = some k → w.heap.size ≤ k) := fun k hk => by
    rcases hfr k hk with e | e
    · simp [Value.ownBlock] at e; omega
    · have := HB.out.size; omega
  have HB1 := Lib.hid (HB.out.trans (hmods.below HB.out.size (fun k hk e => by simp [Value.ownBlock] at e; omega)))
  clear hown hmods hfr HO HR HB
  have H4 : Hid (Rd (w1.alloc (.cells #[.int .u8 ((S : Int) % 256), .int .u8 ((S : Int) / 256 % 256), .int .u8 ((S : Int) / 65536 % 256), .int .u8 ((S : Int) / 16777216)] 5)) 1 (.slice (some ⟨w1.heap.size, 0, none⟩) 4 4) 4 (u8s (le4 S))) :=
    lit_rd w1 _ (le4 S) (u8s_le4 S hS).symm (by simp [le4, maxLen])
  have HO4 : Hid ((w1.alloc (.cells #[.int .u8 ((S : Int) % 256), .int .u8 ((S : Int) / 256 % 256), .int .u8 ((S : Int) / 65536 % 256), .int .u8 ((S : Int) / 16777216)] 5)).ownsRow 0 5 1 (.slice q1 l.length c1) l.length (u8s l)) := HO1.out.alloc _
  have HB4 : Hid (Below w.heap.size w (w1.alloc (.cells #[.int .u8 ((S : Int) % 256), .int .u8 ((S : Int) / 256 % 256), .int .u8 ((S : Int) / 65536 % 256), .int .u8 ((S : Int) / 16777216)] 5))) := HB1.out.alloc HB1.out.size _
  go_wp2_with (at_builtin; refine wpList_extend Tryd.elemU8 _ _ _ _ _ _ _ HO4.out H4.out (u8s_oneCell _) HL2.out rfl _ _ rfl rfl rfl ?_)
  intro v2 w2 hown hmods hfr
  have HM2 : Hid (Made w w2 5 1 v2 (withCrc l).length (u8s (withCrc l))) := by
    refine ⟨?_, HB4.out.trans (hmods.below HB4.out.size (fun k hk e => by have := HF1.out k e; omega))⟩
    have h2 := owns_rebase hown (base' := w.heap.size) (fun k hk => by
      rcases hfr k hk with e | e
      · exact HF1.out k e
      · have := HB1.out.size; omega)
    rw [← u8s_append, ← HW.out, ← le4_length S, ← List.length_append, ← HW.out] at h2
    exact h2
  clear hown hmods hfr
  go_wp2_with fail
  go_ret
  exact ⟨_, rfl, HM2.out⟩
end Go.Proofs.YtlgphgipfjlbfaaDoor

end

section
/- Layer 3: the reference's Append and Check. -/
set_option linter.unusedVariables false
namespace Go.Proofs.YtlgphgipfjlbfaaDoor
open Go Go.RowKit
set_option maxRecDepth 100000 in
set_option maxHeartbeats 8000000 in
theorem ref_check (v : Value) (l : List Nat) (w : World) (h : Rd w 1 v l.length (u8s l)) (hl : ∀ c ∈ l, c < 256) (hn : l.length ≤ 140737488355000) :
    Calls Tryd.prog 30 #[v] w fun e w' => e = .returned (.bool (isCrc l)) ∧ Below w.heap.size w w' := by
  have H2 := Lib.hid h
  have HM := Lib.hid hl
  obtain ⟨q, c, hv⟩ := h.shape
  subst hv
  have hnc : l.length ≤ c := by obtain ⟨_, _, e, _, h, _⟩ := h; cases e; exact h
  have hmax : (c : Int) ≤ 9223372036854775807 := by obtain ⟨_, _, e, _, _, h, _⟩ := h; cases e; unfold maxLen at h; omega
  clear h hl
  have HB0 : Hid (Below w.heap.size w w) := Below.refl _ _
  by_cases hlt : 4 ≤ l.length
  · have hge : (0 : Int) ≤ (l.length : Int) - 4 := by omega
    have hcast : (l.length : Int) - 4 = ((l.length - 4 : Nat) : Int) := by omega
    obtain ⟨n, hn4⟩ : ∃ n, l.length - 4 = n := ⟨_, rfl⟩
    go_enter Tryd.func30, Tryd.ntmps30
    go_wp2_with fail
    have HT : Hid (Rd w 1 (.slice q n c) (l.take n).length (u8s (l.take n))) := by
      show Rd _ _ _ _ _
      have := H2.out.upto n (by omega)
      rw [List.length_take, Nat.min_eq_left (by omega)]
      simpa [u8s, List.map_take] using this
    have HT8 : Hid (∀ a ∈ l.take n, a < 256) := fun a ha => HM.out a (List.mem_of_mem_take ha)
    have HW8 := Lib.hid (withCrc_lt HT8.out)
    have HTn : Hid ((l.take n).length ≤ 140737488355000) := by show _ ≤ _; rw [List.length_take]; omega
    have HE : Hid (isCrc l = decide (withCrc (l.take n) = l)) := by show _ = _; unfold isCrc; rw [hn4, decide_eq_decide]; exact ⟨fun h => h.2, fun h => ⟨hlt, h⟩⟩
    refine wp_region_takeH (fun w' => Below w.heap.size w w') [6, 7] [0, 1, 2, 3, 4, 5, 8, 9, 6, 7, 10, 11, 12] (by kernel_rfl) (by kernel_rfl) (by kernel_rfl) ?_ ?_ ?_
    · intro c a a' w hd h; exact ⟨hd ▸ h.1, h.2⟩
    · exact ⟨HB0.out.os, HB0.out.tape, HB0.out.output, HB0.out.size, HB0.out.block⟩
    simp only [taken, List.map_cons, List.map_nil, List.getElem?_cons_succ, List.getElem?_cons_zero, Option.getD_some]
    repeat (first
        | (refine takeH_skip rfl ?_; simp only [Act.put, List.setIfInBounds_toArray, List.set_cons_succ, List.set_cons_zero])
        | (refine takeH_blind rfl rfl ?_; apply Exists.intro; refine ⟨fun w => ?_, ?_⟩; (go_simp; try with_reducible rfl); simp only [Act.put, List.setIfInBounds_toArray, List.set_cons_succ, List.set_cons_zero]))
    refine takeH_read rfl rfl (.slice q n c) (fun w' _ => exec_upto Tryd.elemU8 w' q l.length c n (by omega) hnc _ _ rfl rfl rfl) ?_
    simp only [Act.put, List.setIfInBounds_toArray, List.set_cons_succ, List.set_cons_zero]
    repeat (first
        | (refine takeH_skip rfl ?_; simp only [Act.put, List.setIfInBounds_toArray, List.set_cons_succ, List.set_cons_zero])
        | (refine takeH_blind rfl rfl ?_; apply Exists.intro; refine ⟨fun w => ?_, ?_⟩; (go_simp; try with_reducible rfl); simp only [Act.put, List.setIfInBounds_toArray, List.set_cons_succ, List.set_cons_zero]))
    refine takeH_read rfl rfl (.string (strOf l)) (fun w' hS => exec_convert _ _ _ rfl rfl ((H2.out.below hS).conv _ _ _ Tryd.underlying22 Tryd.underlying5 Tryd.underlying9)) ?_
    simp only [Act.put, List.setIfInBounds_toArray, List.set_cons_succ, List.set_cons_zero]
    refine takeH_call rfl rfl (fun K hK => ?_)
    go_wp2_with fail
    refine (ref_append _ (l.take n) w.drew HT.out HT8.out HTn.out).mono ?_
    rintro e w1 ⟨r, rfl, hM⟩
    have hB : Below w.heap.size w w1 := ⟨hM.2.os, hM.2.tape, hM.2.output, hM.2.size, hM.2.block⟩
    refine hK _ _ hB ?_
    clear hK K
    refine takeH_now rfl rfl (.string (strOf (withCrc (l.take n)))) (exec_convert _ _ _ rfl rfl ((Rd.of_owns hM.1).conv _ _ _ Tryd.underlying22 Tryd.underlying5 Tryd.underlying9)) hB ?_
    simp only [Act.put, List.setIfInBounds_toArray, List.set_cons_succ, List.set_cons_zero]
    have HQ := Lib.hid (strOf_inj HW8.out HM.out)
    have HB1 := Lib.hid hB
    clear hM hB HT HT8 HTn HW8
    generalize strOf (withCrc (l.take n)) = s1 at *
    generalize strOf l = s2 at *
    repeat (first
        | (refine takeH_skip rfl ?_; simp only [Act.put, List.setIfInBounds_toArray, List.set_cons_succ, List.set_cons_zero])
        | (refine takeH_blind rfl rfl ?_; apply Exists.intro; refine ⟨fun w => ?_, ?_⟩; (go_simp; try with_reducible rfl); simp only [Act.put, List.setIfInBounds_toArray, List.set_cons_succ, List.set_cons_zero]))
    refine takeH_nil ?_
    go_wp2_with fail
    go_ret
    exact ⟨ret_bool (HQ.out.trans HE.out.symm), HB1.out⟩
  · obtain ⟨m, hm⟩ : ∃ m : Int, (l.length : Int) - 4 = m := ⟨_, rfl⟩
    have hm1 : m < 0 := by omega
    have HE : Hid (isCrc l = false) := by show _ = _; unfold isCrc; rw [decide_eq_false]; exact fun h => hlt h.1
    go_enter Tryd.func30, Tryd.ntmps30
    go_wp2_with fail
    refine wp_region_takeH (fun w' => Below w.heap.size w w') [6, 7] [0, 1, 2, 3, 4, 5, 8, 9, 6, 7, 10, 11, 12] (by kernel_rfl) (by kernel_rfl) (by kernel_rfl) ?_ ?_ ?_
    · intro c a a' w hd h; exact ⟨hd ▸ h.1, h.2⟩
    · exact ⟨HB0.out.os, HB0.out.tape, HB0.out.output, HB0.out.size, HB0.out.block⟩
    simp only [taken, List.map_cons, List.map_nil, List.getElem?_cons_succ, List.getElem?_cons_zero, Option.getD_some]
    have hmF : (0 ≤ m) = False := eq_false (by omega)
    clear hm hlt hnc hmax hn
    repeat (first
        | (refine takeH_skip rfl ?_; simp only [Act.put, List.setIfInBounds_toArray, List.set_cons_succ, List.set_cons_zero])
        | (refine takeH_blind rfl rfl ?_; apply Exists.intro; refine ⟨fun w => ?_, ?_⟩; (go_simp; try with_reducible rfl); simp only [Act.put, List.setIfInBounds_toArray, List.set_cons_succ, List.set_cons_zero]))
    refine takeH_nil ?_
    go_wp2_with fail
    go_ret
    exact ⟨ret_bool HE.out.symm, HB0.out.os, HB0.out.tape, HB0.out.output, HB0.out.size, HB0.out.block⟩
end Go.Proofs.YtlgphgipfjlbfaaDoor

end

section
/- Layer 4: the reference's reader: Section. -/
set_option linter.unusedVariables false
namespace Go.Proofs.YtlgphgipfjlbfaaDoor
open Go Go.RowKit

theorem rd_part {w : World} {b off n c : Nat} {vs : List Value} (h : Rd w 1 (.slice (some ⟨b, off, none⟩) n c) n vs) (i k : Nat) (hi : i ≤ k) (hk : k ≤ n) (hc : ¬ c = i) : Rd w 1 (.slice (some ⟨b, off + i, none⟩) (k - i) (c - i)) (k - i) ((vs.take k).drop i) := by
  have h2 := h.fromTo i k hi hk
  unfold sliced at h2
  rw [if_neg hc] at h2
  have e : (⟨b, off, none⟩ : Addr).add i = ⟨b, off + i, none⟩ := by unfold Addr.add; split <;> simp_all
  simp only [Option.map_some, Nat.mul_one, e] at h2
  exact h2
theorem u8s_part (B : List Nat) (i k : Nat) : ((u8s B).take k).drop i = u8s ((B.take k).drop i) := by simp [u8s, List.map_drop, List.map_take]

set_option maxHeartbeats 4000000 in
theorem rr_section (q : Nat) (v : Value) (B : List Nat) (a id : Nat) (w : World) (h : RRd w q v B a 0) (hB : ∀ c ∈ B, c < 256) (hz : B.length ≤ 140737488355000) (hid : id < 256) :
    Calls Tryd.prog 29 #[.pointer (some ⟨q, 0, none⟩), .int .u8 (id : Int)] w fun en w' => Mods (fun k => k = q) w w' ∧ GotS (outSection B a id) w w' (fun b e => RRd w' q v B b e) a en := by
  obtain ⟨c0, c1, c2, f1, f2⟩ := h.cells
  have H := Lib.hid h
  have HB := Lib.hid hB
  by_cases hla : B.length ≤ a
  · have HO := Lib.hid (outSection_none hla id)
    obtain ⟨p, c, hv⟩ := h.rd.shape
    subst hv
    have hla' : (B.length : Int) ≤ (a : Int) := by omega
    clear h hB
    go_enter Tryd.func29, Tryd.ntmps29
    go_wp2_with fail
    refine (rr_fail q _ B a 0 3 _ H.out).mono ?_
    rintro en w2 ⟨rfl, hR, hm⟩
    rw [if_pos rfl] at hR
    have HM := Lib.hid hm
    have HR := Lib.hid hR
    clear hR hm
    go_wp2_with fail
    go_ret
    exact ⟨HM.out, by rw [HO.out]; exact ⟨rfl, HR.out⟩⟩
  · have hla' : ¬ (B.length : Int) ≤ (a : Int) := by omega
    have hlt : a < B.length := by omega
    obtain ⟨b, off, c, hv, hnc, hcm, hc⟩ := h.rd.at (fun e => by have := congrArg List.length e; rw [u8s_length] at this; simp at this; subst this; simp at hlt)
    subst hv
    have hcell := hc a _ (u8s_get _ _ hlt)
    have h8 := hB _ (List.getElem_mem hlt)
    have hget : B[a]? = some B[a] := List.getElem?_eq_getElem hlt
    have hlt2 : (a : Int) < (B.length : Int) := by omega
    have HG := Lib.hid (ref_get (.slice (some ⟨b, off, none⟩) B.length c) B ((a + 1 : Nat) : Int) w h.rd hB)
    have hcm' : (c : Int) ≤ 9223372036854775807 := by unfold maxLen at hcm; omega
    clear hc hcm
    by_cases hne : B[a] = id
    · rw [hne] at hget hcell h8
      have hcs := outSection_cases hB hget
      have HA1 : Hid ((a : Int) + 1 = ((a + 1 : Nat) : Int)) := by show _ = _; omega
      clear h hB hne hget
      go_enter Tryd.func29, Tryd.ntmps29
      go_wp2_with fail
      rw [HA1.out]
      refine HG.out.mono ?_
      rintro en w1 ⟨rfl, rfl⟩
      rcases hcs with ⟨e, he, hr, ho⟩ | ⟨x, to, hr, hto, htl, hx, ho⟩
      · rw [hr]
        have HO := Lib.hid ho
        have heb : ((e : Int) == 0) = false := by rw [beq_eq_false_iff_ne]; omega
        clear hr ho HG
        go_wp2_with fail
        refine (rr_fail q _ B a 0 (e : Int) _ H.out).mono ?_
        rintro en w2 ⟨rfl, hR, hm⟩
        rw [if_pos rfl] at hR
        have HM := Lib.hid hm
        have HR := Lib.hid hR
        clear hR hm
        go_wp2_with fail
        go_ret
        exact ⟨HM.out, by rw [HO.out]; exact ⟨rfl, HR.out⟩⟩
      · rw [hr]
        have HO := Lib.hid ho
        clear hr ho HG
        by_cases hr4 : B.length - to < 4
        · have hr4' : (B.length : Int) - (to : Int) < 4 := by omega
          rw [if_pos (Or.inl hr4)] at HO
          clear hr4
          go_wp2_with fail
          refine (rr_fail q _ B a 0 3 _ H.out).mono ?_
          rintro en w2 ⟨rfl, hR, hm⟩
          rw [if_pos rfl] at hR
          have HM := Lib.hid hm
          have HR := Lib.hid hR
          clear hR hm
          go_wp2_with fail
          go_ret
          exact ⟨HM.out, by rw [HO.out]; exact ⟨rfl, HR.out⟩⟩
        · have hr4' : ¬ (B.length : Int) - (to : Int) < 4 := by omega
          have hwR : IntKind.u64.wrap ((B.length : Int) - (to : Int) - 4) = (B.length : Int) - (to : Int) - 4 := wrap_u64_small _ (by omega) (by omega)
          by_cases hgt : B.length - to - 4 < x
          · have hgt' : (B.length : Int) - (to : Int) - 4 < (x : Int) := by omega
            rw [if_pos (Or.inr hgt)] at HO
            clear hr4 hgt
            go_wp2_with fail
            refine (rr_fail q _ B a 0 3 _ H.out).mono ?_
            rintro en w2 ⟨rfl, hR, hm⟩
            rw [if_pos rfl] at hR
            have HM := Lib.hid hm
            have HR := Lib.hid hR
            clear hR hm
            go_wp2_with fail
            go_ret
            exact ⟨HM.out, by rw [HO.out]; exact ⟨rfl, HR.out⟩⟩
          · have hgt' : ¬ (B.length : Int) - (to : Int) - 4 < (x : Int) := by omega
            rw [if_neg (by omega)] at HO
            have hwx : IntKind.i64.wrap (x : Int) = (x : Int) := IntWalk.i64_in _ (by omega)
            obtain ⟨A, hA⟩ : ∃ A, to + x = A := ⟨_, rfl⟩
            obtain ⟨T, hT⟩ : ∃ T, A + 4 = T := ⟨_, rfl⟩
            have hAi : (to : Int) + (x : Int) = (A : Int) := by omega
            have hTi : (A : Int) + 4 = (T : Int) := by omega
            have hTl : T ≤ B.length := by omega
            have hTl' : (T : Int) ≤ (c : Int) := by omega
            have haT' : (a : Int) ≤ (T : Int) := by omega
            have hca : ¬ c = a := by omega
            clear hr4 hgt
            have hla : ((B.take T).drop a).length = T - a := by rw [List.length_drop, List.length_take, Nat.min_eq_left hTl]
            have HK : Hid (Rd w 1 (.slice (some ⟨b, off + a, none⟩) (T - a) (c - a)) ((B.take T).drop a).length (u8s ((B.take T).drop a))) := by
              show Rd _ _ _ _ _
              rw [hla, ← u8s_part]
              exact rd_part H.out.rd a T (by omega) hTl hca
            have HK8 : Hid (∀ z ∈ (B.take T).drop a, z < 256) := fun z hzm => HB.out z (List.mem_of_mem_take (List.mem_of_mem_drop hzm))
            have HKl : Hid (((B.take T).drop a).length ≤ 140737488355000) := by show _ ≤ _; rw [hla]; omega
            have hct : ¬ c = to := by omega
            have htA' : (to : Int) ≤ (A : Int) := by omega
            have hAc' : (A : Int) ≤ (c : Int) := by omega
            have HDat : Hid (Rd w 1 (.slice (some ⟨b, off + to, none⟩) (A - to) (c - to)) (A - to) (u8s ((B.drop to).take x))) := by
              show Rd _ _ _ _ _
              have h2 := rd_part H.out.rd to A (by omega) (by omega) hct
              rw [u8s_part, List.drop_take, show A - to = x by omega] at h2
              rw [show A - to = x by omega]
              exact h2
            have hAx : A - to = x := by omega
            have hxl : ((B.drop to).take x).length = x := by rw [List.length_take, List.length_drop]; omega
            have HXl := Lib.hid hxl
            have HAx := Lib.hid hAx
            rw [hA, hT] at HO
            clear hla hxl hAx
            go_wp2_with fail
            refine (ref_check _ _ w HK.out HK8.out HKl.out).mono ?_
            rintro en w2 ⟨rfl, hBel⟩
            have H2 := Lib.hid (H.out.below hBel)
            have HM2 : Hid (Mods (fun k => k = q) w w2) := Mods.of_below hBel _
            have HD2 := Lib.hid (HDat.out.below hBel)
            obtain ⟨d0, d1, d2, g1, g2⟩ := H2.out.cells
            clear HK HK8 HKl HDat hBel c0 c1 c2 f1 f2 hcell H
            cases hk : isCrc ((B.take T).drop a) with
            | false =>
              rw [hk] at HO
              simp only [Bool.false_eq_true, if_false] at HO
              clear hk
              go_wp2_with fail
              refine (rr_fail q _ B a 0 12 _ H2.out).mono ?_
              rintro en w3 ⟨rfl, hR, hm⟩
              rw [if_pos rfl] at hR
              have HM := Lib.hid (HM2.out.trans hm (fun _ _ e => e))
              have HR := Lib.hid hR
              clear hR hm
              go_wp2_with fail
              go_ret
              exact ⟨HM.out, by rw [HO.out]; exact ⟨rfl, HR.out⟩⟩
            | true =>
              rw [hk] at HO
              simp only [if_true] at HO
              clear hk
              have H3 := Lib.hid (H2.out.setAt T)
              have HM3 : Hid (Mods (fun k => k = q) w (w2.setCell ⟨q, 1, none⟩ (.int .i64 (T : Int)))) := HM2.out.trans (mods_set _ q 1 _) (fun _ _ e => e)
              have hbq : b ≠ q := H2.out.ne (by rintro rfl; simp_all) b rfl
              have HD3 : Hid (Rd (w2.setCell ⟨q, 1, none⟩ (.int .i64 (T : Int))) 1 (.slice (some ⟨b, off + to, none⟩) (A - to) (c - to)) (A - to) (u8s ((B.drop to).take x))) := HD2.out.mods (mods_set w2 q 1 _) (fun k hk e => by have e' : b = k := Option.some.inj hk; omega)
              have HB4 : Hid (Below (w2.setCell ⟨q, 1, none⟩ (.int .i64 (T : Int))).heap.size (w2.setCell ⟨q, 1, none⟩ (.int .i64 (T : Int))) ((w2.setCell ⟨q, 1, none⟩ (.int .i64 (T : Int))).alloc (.cells #[] 5))) := (Below.refl _ _).alloc (Nat.le_refl _) _
              have HD4 := Lib.hid (HD3.out.below HB4.out)
              have HO4 : Hid (((w2.setCell ⟨q, 1, none⟩ (.int .i64 (T : Int))).alloc (.cells #[] 5)).ownsRow 0 5 1 (.slice (some ⟨w2.heap.size, 0, none⟩) 0 0) 0 []) := by
                show World.ownsRow _ _ _ _ _ _ _
                have h2 := World.ownsRow_lit (base := 0) (e := 5) (size := 1) (w2.setCell ⟨q, 1, none⟩ (.int .i64 (T : Int))) #[] 0 (Nat.zero_le _) (by simp [maxLen]) (by simp)
                simpa using h2
              have HL4 : Hid ((0 + (A - to)) * 1 ≤ 140737488355328 ∧ 0 + (A - to) ≤ maxLen) := by show _ ∧ _; unfold maxLen; omega
              have e0 : ((w2.setCell ⟨q, 1, none⟩ (.int .i64 (T : Int))).alloc (.cells #[] 5)).cell? ⟨q, 0, none⟩ = some (.slice (some ⟨b, off, none⟩) B.length c) := (H3.out.below HB4.out).cells.1
              have hqn : q < w2.heap.size := H2.out.blk.lt
              have hqne : q ≠ w2.heap.size := by omega
              clear HD2 HD3
              go_wp2_with (at_builtin; refine wpList_extend Tryd.elemU8 _ _ _ _ _ _ _ HO4.out HD4.out (u8s_oneCell _) HL4.out rfl _ _ rfl rfl rfl ?_)
              intro v5 w5 hown hmods hfr
              have HB5 : Hid (Below w2.heap.size (w2.setCell ⟨q, 1, none⟩ (.int .i64 (T : Int))) w5) := by
                have h1 : Below w2.heap.size (w2.setCell ⟨q, 1, none⟩ (.int .i64 (T : Int))) ((w2.setCell ⟨q, 1, none⟩ (.int .i64 (T : Int))).alloc (.cells #[] 5)) := by simpa using HB4.out
                refine Below.trans h1 (hmods.below (by simp) (fun k hk e => by have e' : w2.heap.size = k := Option.some.inj e; omega))
              have HF5 : Hid (w5.ownsRow w2.heap.size 5 1 v5 (A - to) (u8s ((B.drop to).take x))) := by
                have h2 := owns_rebase hown (base' := w2.heap.size) (fun k hk => by
                  rcases hfr k hk with e | e
                  · have e' : w2.heap.size = k := Option.some.inj e
                    omega
                  · first | omega | (simp at e; omega))
                show World.ownsRow _ _ _ _ _ _ _
                simpa using h2
              clear hown hmods hfr HO4 HD4 HB4
              go_wp2_with fail
              go_ret
              refine ⟨HM3.out.trans (Mods.of_below (by simpa using HB5.out) (fun k => k = q)) (fun _ _ e => e), ?_⟩
              rw [HO.out]
              refine ⟨⟨_, rfl, ?_⟩, H3.out.below (by simpa using HB5.out)⟩
              rw [HXl.out]
              have h6 := HF5.out
              rw [HAx.out] at h6
              exact owns_rebase h6 (fun k hk => by have := (h6.lt k hk).1; have := HM2.out.size; omega)
    · have HO := Lib.hid (outSection_other hget hne)
      have hne' : ¬ ((B[a] : Nat) : Int) = (id : Int) := by omega
      clear h hB hget HG
      generalize B[a] = y at *
      go_enter Tryd.func29, Tryd.ntmps29
      go_wp2_with fail
      refine (rr_fail q _ B a 0 11 _ H.out).mono ?_
      rintro en w2 ⟨rfl, hR, hm⟩
      rw [if_pos rfl] at hR
      have HM := Lib.hid hm
      have HR := Lib.hid hR
      clear hR hm
      go_wp2_with fail
      go_ret
      exact ⟨HM.out, by rw [HO.out]; exact ⟨rfl, HR.out⟩⟩
end Go.Proofs.YtlgphgipfjlbfaaDoor

end

section
/- Layer 4: Section of the reference, after an error. -/
set_option linter.unusedVariables false
namespace Go.Proofs.YtlgphgipfjlbfaaDoor
open Go Go.RowKit

theorem rr_section_err (q : Nat) (v : Value) (B : List Nat) (a : Nat) (e : Int) (x : Value) (w : World) (h : RRd w q v B a e) (he : e ≠ 0) :
    Calls Tryd.prog 29 #[.pointer (some ⟨q, 0, none⟩), x] w fun en w' => en = .returned (.slice none 0 0) ∧ w = w' := by
  obtain ⟨c0, c1, c2, f1, f2⟩ := h.cells
  clear h
  have heb : (e == 0) = false := by rw [beq_eq_false_iff_ne]; exact he
  go_enter Tryd.func29, Tryd.ntmps29
  go_wp2_with fail
  go_ret
  exact ⟨rfl, rfl⟩
end Go.Proofs.YtlgphgipfjlbfaaDoor

end
