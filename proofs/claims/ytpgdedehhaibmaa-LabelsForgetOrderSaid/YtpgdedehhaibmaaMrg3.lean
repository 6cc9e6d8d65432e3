/- Ref11A, LabGot, Ref11B, LabCs, Ref11C, Take, From, in one text. -/
import Derived.Test.YtpgdedehhaibmaaMrg2
import Derived.Test.YtpgdedehhaibmaaMrg1
import Derived.RegionTactic
import Derived.Laws.Slices
import Derived.ChangeKeysEq

section
/- Layer 11: the reference's one and Check. -/
set_option linter.unusedVariables false
set_option maxRecDepth 20000
namespace Go.Proofs.Ytpgdedehhaibmaa
open Go Go.RowKit

set_option maxHeartbeats 1000000 in
theorem ref_one11 (n v : ByteArray) (w : World) (hn : n.size ≤ 9223372036854775807) (hv : v.size ≤ 9223372036854775807) :
    Calls Try.prog 29 #[.agg #[.string n, .string v]] w fun e w' => e = .returned (.int .i64 (oneL (n, v) : Int)) ∧ Below w.heap.size w w' := by
  have hB : Below w.heap.size w (w.alloc (.cells #[.string n, .string v] 30)) := (Below.refl _ w).alloc (Nat.le_refl _) _
  have HEm := Lib.hid (empty_size n)
  by_cases h0 : n.size = 0
  · have hE : n.toList.isEmpty = true := by rw [HEm.out]; simpa using h0
    have HO : Hid (oneL (n, v) = 17) := if_pos h0
    rw [HO.out]
    go_enter Try.func29, Try.ntmps29
    go_wp2_with fail
    go_ret
    exact ⟨rfl, hB⟩
  · have hE : n.toList.isEmpty = false := by rw [HEm.out]; simpa using h0
    by_cases h1 : (65535 : Int) < (n.size : Int)
    · have HO : Hid (oneL (n, v) = 7) := by show _ = _; rw [oneL, if_neg h0, if_pos (Or.inl (by show 65535 < n.size; omega))]
      rw [HO.out]
      clear h0
      go_enter Try.func29, Try.ntmps29
      go_wp2_with fail
      go_ret
      exact ⟨rfl, hB⟩
    · have hd1 : decide ((65535 : Int) < (n.size : Int)) = false := by simpa using h1
      by_cases h2 : (65535 : Int) < (v.size : Int)
      · have hd2 : decide ((65535 : Int) < (v.size : Int)) = true := by simpa using h2
        have HO : Hid (oneL (n, v) = 7) := by show _ = _; rw [oneL, if_neg h0, if_pos (Or.inr (by show 65535 < v.size; omega))]
        rw [HO.out]
        clear h0
        go_enter Try.func29, Try.ntmps29
        go_wp2_with fail
        go_ret
        exact ⟨rfl, hB⟩
      · have hd2 : decide ((65535 : Int) < (v.size : Int)) = false := by simpa using h2
        have HO : Hid (oneL (n, v) = 0) := by
          show _ = _
          rw [oneL, if_neg h0, if_neg]
          rintro (e | e)
          · exact h1 (by have : 65535 < n.size := e; omega)
          · exact h2 (by have : 65535 < v.size := e; omega)
        rw [HO.out]
        clear h0
        go_enter Try.func29, Try.ntmps29
        go_wp2_with fail
        go_ret
        exact ⟨rfl, hB⟩

set_option maxHeartbeats 4000000 in
theorem ref_check11 (lv : Value) (l : List Lab) (w : World) (hl : Rd w 2 lv l.length (labCells l)) (hs : ∀ x ∈ l, x.1.size ≤ 9223372036854775807 ∧ x.2.size ≤ 9223372036854775807) (hn : l.length ≤ 1000000) :
    Calls Try.prog 12 #[lv] w fun e w' => e = .returned (.int .i64 (checkL l : Int)) ∧ Below w.heap.size w w' := by
  have HL := Lib.hid hl; have HS := Lib.hid hs
  obtain ⟨pl, cl, hv⟩ := hl.shape
  subst hv
  have hmx : (l.length : Int) ≤ 1000000 := by omega
  clear hl hs hn
  go_enter Try.func12, Try.ntmps12
  go_wp2_with fail
  go_loopw [3] (fun iv wr => ∃ (i : Nat), i ≤ l.length ∧ iv = .int .i64 (i : Int) ∧ Hid (checkL l = checkFrom (prevN l i) (l.drop i)) ∧ Hid (Below w.heap.size w wr)) (fun iv _ => l.length - (intOf iv).toNat)
  case atStart => exact ⟨0, Nat.zero_le _, rfl, rfl, Below.refl _ _⟩
  case round =>
    obtain ⟨i, hi, rfl, HC, HB⟩ := hrel
    by_cases hlt : i < l.length
    · have hlt' : (i : Int) < (l.length : Int) := by omega
      have him : (i : Int) ≤ 1000000 := by omega
      obtain ⟨⟨n, v⟩, hx⟩ : ∃ x, l[i]? = some x := ⟨_, List.getElem?_eq_getElem hlt⟩
      obtain ⟨b, off, e⟩ := rd2_at HL.out hx
      subst e
      have HCt : Hid (∀ w', Below w.heap.size w w' → w'.cell? ⟨b, off + i * 2, none⟩ = some (.string n) ∧ w'.cell? ⟨b, off + i * 2 + 1, none⟩ = some (.string v)) := fun w' hb => rd2_cell (HL.out.below hb) hx
      obtain ⟨c0, c1⟩ := HCt.out wr HB.out
      have HOn := Lib.hid (fun w' => ref_one11 n v w' (HS.out _ (List.mem_of_getElem? hx)).1 (HS.out _ (List.mem_of_getElem? hx)).2)
      have HSt := Lib.hid (check_step hx HC.out)
      clear hx HC
      go_wp2_with fail
      refine (HOn.out _).mono ?_
      rintro e w2 ⟨rfl, hB⟩
      have HBw := Lib.hid (HB.out.trans (hB.mono HB.out.size))
      clear c0 c1 hB HOn
      obtain ⟨c0, c1⟩ := HCt.out w2 HBw.out
      by_cases he : oneL (n, v) = 0
      · rw [if_neg (not_not_intro he)] at HSt
        rw [he]
        clear he
        by_cases h0 : i = 0
        · subst h0
          have HNx : Hid (checkL l = checkFrom (prevN l (0 + 1)) (l.drop (0 + 1))) := HSt.out
          have hcx : w2.cell? ⟨b, off, none⟩ = some (.string n) := by simpa using c0
          go_wp2_with fail
          go_quiet (fail)
          have HBy : Hid (Below w.heap.size w (w2.drewN nq)) := HBw.out.trans ⟨rfl, rfl, rfl, Nat.le_refl _, fun _ _ => rfl⟩
          have hcx3 : (w2.drewN nq).cell? ⟨b, off, none⟩ = some (.string n) := hcx
          clear hcx c0 c1
          generalize w2.drewN nq = w3 at *
          go_wp2_with fail
          go_quiet (fail)
          have HBz : Hid (Below w.heap.size w (w3.drewN nq)) := HBy.out.trans ⟨rfl, rfl, rfl, Nat.le_refl _, fun _ _ => rfl⟩
          clear hcx3
          generalize w3.drewN nq = w4 at *
          go_wp2_with fail
          go_round
          case rel => exact ⟨1, by omega, by go_num, HNx.out, HBz.out⟩
          case measure => simp [intOf]; omega
        · obtain ⟨q, hq⟩ : ∃ q, i = q + 1 := ⟨i - 1, by omega⟩
          have h0' : (0 : Int) < (i : Int) := by omega
          have hd0 : decide (0 < i) = true := by simp; omega
          have hqi : (i : Int) - 1 = (q : Int) := by omega
          have hq0 : (0 : Int) ≤ (q : Int) := by omega
          have hql : (q : Int) < (l.length : Int) := by omega
          obtain ⟨⟨y, u⟩, hy⟩ : ∃ x, l[q]? = some x := ⟨_, List.getElem?_eq_getElem (by omega)⟩
          obtain ⟨d0, _⟩ := rd2_cell (HL.out.below HBw.out) hy
          have hpv : prevN l i = some y := by rw [prevN, if_neg h0, hq, Nat.add_sub_cancel, hy]; rfl
          rw [hpv] at HSt
          clear hpv hy hq h0 c1
          by_cases hny : n = y
          · subst hny
            have hse : (n.toList == n.toList) = true := by simp
            have HR : Hid (checkL l = 18) := by show _ = _; rw [HSt.out, checkNext, if_pos rfl]
            go_wp2_with fail
            go_quiet (fail)
            have HBy : Hid (Below w.heap.size w (w2.drewN nq)) := HBw.out.trans ⟨rfl, rfl, rfl, Nat.le_refl _, fun _ _ => rfl⟩
            generalize w2.drewN nq = w3 at *
            go_wp2_with fail
            go_ret
            exact ⟨by rw [HR.out]; rfl, HBy.out⟩
          · have hse : (n.toList == y.toList) = false := by rw [eqS]; simpa using hny
            by_cases hlt2 : ltS n y = true
            · have hcmp : Op.bytesLess n.toList y.toList = true := hlt2
              have HR : Hid (checkL l = 16) := by show _ = _; rw [HSt.out, checkNext, if_neg hny, if_pos hlt2]
              clear hny hlt2
              go_wp2_with fail
              go_quiet (fail)
              have HBy : Hid (Below w.heap.size w (w2.drewN nq)) := HBw.out.trans ⟨rfl, rfl, rfl, Nat.le_refl _, fun _ _ => rfl⟩
              have c03 : (w2.drewN nq).cell? ⟨b, off + i * 2, none⟩ = some (.string n) := c0
              have d03 : (w2.drewN nq).cell? ⟨b, off + q * 2, none⟩ = some (.string y) := d0
              clear c0 d0
              generalize w2.drewN nq = w3 at *
              go_wp2_with fail
              go_quiet (fail)
              have HBz : Hid (Below w.heap.size w (w3.drewN nq)) := HBy.out.trans ⟨rfl, rfl, rfl, Nat.le_refl _, fun _ _ => rfl⟩
              generalize w3.drewN nq = w4 at *
              go_wp2_with fail
              go_ret
              exact ⟨by rw [HR.out]; rfl, HBz.out⟩
            · have hcmp0 : ltS n y = false := by simpa using hlt2
              have hcmp : Op.bytesLess n.toList y.toList = false := hcmp0
              have HNx : Hid (checkL l = checkFrom (prevN l (i + 1)) (l.drop (i + 1))) := by show _ = _; rw [HSt.out, checkNext, if_neg hny, if_neg hlt2]
              clear hny hlt2 hcmp0
              go_wp2_with fail
              go_quiet (fail)
              have HBy : Hid (Below w.heap.size w (w2.drewN nq)) := HBw.out.trans ⟨rfl, rfl, rfl, Nat.le_refl _, fun _ _ => rfl⟩
              have c03 : (w2.drewN nq).cell? ⟨b, off + i * 2, none⟩ = some (.string n) := c0
              have d03 : (w2.drewN nq).cell? ⟨b, off + q * 2, none⟩ = some (.string y) := d0
              clear c0 d0
              generalize w2.drewN nq = w3 at *
              go_wp2_with fail
              go_quiet (fail)
              have HBz : Hid (Below w.heap.size w (w3.drewN nq)) := HBy.out.trans ⟨rfl, rfl, rfl, Nat.le_refl _, fun _ _ => rfl⟩
              clear c03 d03
              generalize w3.drewN nq = w4 at *
              go_wp2_with fail
              go_round
              case rel => exact ⟨i + 1, by omega, by go_num, HNx.out, HBz.out⟩
              case measure => simp [intOf]; omega
      · have he1 : ¬ (oneL (n, v) : Int) = 0 := by omega
        have heb : ((oneL (n, v) : Int) == 0) = false := by rw [beq_eq_false_iff_ne]; exact he1
        rw [if_pos he] at HSt
        clear he
        generalize oneL (n, v) = e at *
        go_wp2_with fail
        go_ret
        exact ⟨by rw [HSt.out]; rfl, HBw.out⟩
    · have hlt' : ¬ (i : Int) < (l.length : Int) := by omega
      have HE : Hid (checkL l = 0) := by
        show _ = _
        rw [HC.out, List.drop_of_length_le (by omega)]
        cases prevN l i <;> rfl
      go_wp2_with fail
      go_ret
      exact ⟨by rw [HE.out]; rfl, HB.out⟩
end Go.Proofs.Ytpgdedehhaibmaa

end

section
/- Layer 11: a result that is labels and an error; the first error. No program in sight. -/
set_option linter.unusedVariables false
set_option maxRecDepth 20000
namespace Go.Proofs.Ytpgdedehhaibmaa
open Go Go.RowKit

/-- A result that is labels and an error. -/
structure GotLb (w : World) (o : Nat × List Lab) (e : Ending) (w' : World) : Prop where
  res : ∃ r, e = .returned (.tuple #[r, .int .i64 (o.1 : Int)]) ∧ Rd w' 2 r o.2.length (labCells o.2) ∧ (∀ k, r.ownBlock = some k → w.heap.size ≤ k)
  bel : Below w.heap.size w w'
theorem GotLb.fails {w w' : World} {o : Nat × List Lab} {en : Nat} (h : Below w.heap.size w w') (ho : o = (en, [])) : GotLb w o (.returned (.tuple #[.slice none 0 0, .int .i64 (en : Int)])) w' := by
  subst ho
  exact ⟨⟨_, rfl, Rd.nil _ _, fun k e => by cases e⟩, h⟩
theorem firstErr_at {l : List Lab} {i : Nat} (h : ∀ x ∈ l.take i, oneL x = 0) {x : Lab} (hx : l[i]? = some x) (he : oneL x ≠ 0) : firstErr l = oneL x := by
  induction l generalizing i with
  | nil => simp at hx
  | cons y l ih =>
    cases i with
    | zero => simp at hx; subst hx; rw [firstErr, if_pos he]
    | succ i =>
      rw [firstErr, if_neg (not_not_intro (h y (by simp)))]
      exact ih (fun z hz => h z (by rw [List.take_succ_cons]; exact List.mem_cons_of_mem _ hz)) (by simpa using hx)

end Go.Proofs.Ytpgdedehhaibmaa

end

section
/- Layer 11: the reference's Normalize. -/
set_option linter.unusedVariables false
set_option maxRecDepth 20000
namespace Go.Proofs.Ytpgdedehhaibmaa
open Go Go.RowKit

theorem shift_setG2 {α : Type} (d : List α) (k : Nat) (y z : α) (hk : k ≤ d.length) : (d.take k ++ y :: d.drop k).set k z = d.take k ++ z :: d.drop k := by
  have hl : (d.take k).length = k := by rw [List.length_take]; omega
  rw [List.set_append_right _ _ (by omega), hl, Nat.sub_self, List.set_cons_zero]
theorem shift_eqG2 {α : Type} (d : List α) (k : Nat) (z : α) (hz : d[k]? = some z) : d.take (k + 1) ++ z :: d.drop (k + 1) = d.take k ++ z :: d.drop k := by
  have hk := (List.getElem?_eq_some_iff.1 hz).1
  have e : d.drop k = z :: d.drop (k + 1) := by rw [← (List.getElem?_eq_some_iff.1 hz).2, List.getElem_cons_drop]
  rw [List.take_add_one, hz, e, List.append_assoc]
  rfl

set_option maxHeartbeats 8000000 in
theorem ref_norm11 (lv : Value) (l : List Lab) (w : World) (hl : Rd w 2 lv l.length (labCells l)) (hs : ∀ x ∈ l, x.1.size ≤ 9223372036854775807 ∧ x.2.size ≤ 9223372036854775807) (hn : l.length ≤ 100000) :
    Calls Try.prog 15 #[lv] w (GotLb w (normL l)) := by
  have HL := Lib.hid hl; have HS := Lib.hid hs; have HNn := Lib.hid hn
  obtain ⟨pl, cl, hv⟩ := hl.shape
  subst hv
  have hmx : (l.length : Int) ≤ 100000 := by omega
  clear hl hs hn
  go_enter Try.func15, Try.ntmps15
  go_wp2_with fail
  go_loopw [5] (fun iv wr => ∃ (i : Nat), i ≤ l.length ∧ iv = .int .i64 (i : Int) ∧ Hid (∀ x ∈ l.take i, oneL x = 0) ∧ Hid (Below w.heap.size w wr)) (fun iv _ => l.length - (intOf iv).toNat)
  case atStart => exact ⟨0, Nat.zero_le _, rfl, (by intro x hx; simp at hx), Below.refl _ _⟩
  case round =>
    obtain ⟨i, hi, rfl, HF, HB⟩ := hrel
    have him : (i : Int) ≤ 100000 := by omega
    by_cases hlt : i < l.length
    · have hlt' : (i : Int) < (l.length : Int) := by omega
      obtain ⟨⟨n, v⟩, hx⟩ : ∃ x, l[i]? = some x := ⟨_, List.getElem?_eq_getElem hlt⟩
      obtain ⟨b, off, e⟩ := rd2_at HL.out hx
      subst e
      obtain ⟨c0, c1⟩ := rd2_cell (HL.out.below HB.out) hx
      have HOn := Lib.hid (fun w' => ref_one11 n v w' (HS.out _ (List.mem_of_getElem? hx)).1 (HS.out _ (List.mem_of_getElem? hx)).2)
      have HX := Lib.hid hx
      clear hx
      go_wp2_with fail
      refine (HOn.out _).mono ?_
      rintro e w2 ⟨rfl, hB⟩
      have HBw := Lib.hid (HB.out.trans (hB.mono HB.out.size))
      clear c0 c1 hB HOn
      by_cases he : oneL (n, v) = 0
      · have HF2 : Hid (∀ x ∈ l.take (i + 1), oneL x = 0) := by
          intro x hx
          rw [List.take_add_one, HX.out] at hx
          rcases List.mem_append.1 hx with e | e
          · exact HF.out x e
          · simp at e; subst e; exact he
        rw [he]
        clear he
        go_wp2_with fail
        go_round
        case rel => exact ⟨i + 1, by omega, by go_num, HF2.out, HBw.out⟩
        case measure => simp [intOf]; omega
      · have he1 : ¬ (oneL (n, v) : Int) = 0 := by omega
        have heb : ((oneL (n, v) : Int) == 0) = false := by rw [beq_eq_false_iff_ne]; exact he1
        have HE : Hid (normL l = (oneL (n, v), [])) := by
          show _ = _
          have h := firstErr_at HF.out HX.out he
          rw [normL, h, if_pos he]
        clear he
        generalize oneL (n, v) = e at *
        go_wp2_with fail
        go_ret2
        exact GotLb.fails HBw.out HE.out
    · have hlt' : ¬ (i : Int) < (l.length : Int) := by omega
      have HN0 : Hid (normL l = match putL [] l with
          | none => (18, [])
          | some out => (0, out)) := by
        show _ = _
        have h := HF.out
        rw [List.take_of_length_le (by omega)] at h
        rw [normL, if_neg (not_not_intro ((firstErr_zero l).2 h))]
        cases putL [] l <;> rfl
      have HOn := Lib.hid HB.out
      go_wp2_with fail
      clear hlt' hlt hi him HF
      generalize (i : Int) = i0 at *
      go_loopw [4, 7] (fun vv iv wr => ∃ (j : Nat) (d : List Lab), j ≤ l.length ∧ iv = .int .i64 (j : Int) ∧ Hid (OwnL w wr d vv) ∧ Hid (putL [] l = putL d (l.drop j) ∧ AscB ltN d ∧ d.length ≤ j)) (fun _ iv _ => l.length - (intOf iv).toNat)
      case atStart => exact ⟨0, [], by omega, rfl, (Own2.nil w).below HB.out, rfl, List.Pairwise.nil, Nat.le_refl _⟩
      case round =>
        obtain ⟨j, d, hj, rfl, HO, HInv⟩ := hrel
        have HPut := Lib.hid HInv.out.1
        have HA := Lib.hid HInv.out.2.1
        by_cases hlt : j < l.length
        · have hlt' : (j : Int) < (l.length : Int) := by omega
          have hji : (j : Int) ≤ 100000 := by omega
          obtain ⟨⟨xn, xv⟩, hx⟩ : ∃ x, l[j]? = some x := ⟨_, List.getElem?_eq_getElem hlt⟩
          obtain ⟨b, off, e⟩ := rd2_at HL.out hx
          subst e
          have HCt : Hid (∀ w', Below w.heap.size w w' → w'.cell? ⟨b, off + j * 2, none⟩ = some (.string xn) ∧ w'.cell? ⟨b, off + j * 2 + 1, none⟩ = some (.string xv)) := fun w' hb => rd2_cell (HL.out.below hb) hx
          have HDr : Hid (l.drop j = (xn, xv) :: l.drop (j + 1)) := by show _ = _; rw [List.drop_eq_getElem_cons hlt, (List.getElem?_eq_some_iff.1 hx).2]
          clear hx
          obtain ⟨pv, cv, hvv⟩ := HO.out.shape
          subst hvv
          obtain ⟨N, hN⟩ : ∃ N, d.length = N := ⟨_, rfl⟩
          have HNj : Hid (N ≤ j) := by show _ ≤ _; rw [← hN]; exact HInv.out.2.2
          rw [hN] at HO ⊢
          have HNe : Hid (d.length = N) := hN
          clear hN HInv
          have HD : Hid (N ≤ 100000) := by show _ ≤ _; have := HNj.out; omega
          have hNi : (N : Int) ≤ 100000 := by have := HD.out; omega
          go_wp2_with fail
          go_loopw [8] (fun kv wr2 => ∃ (k : Nat), k ≤ N ∧ kv = .int .i64 (k : Int) ∧ Hid (∀ z ∈ d.take k, ltN z (xn, xv) = true) ∧ Hid (OwnL w wr2 d (.slice pv N cv))) (fun kv _ => N - (intOf kv).toNat)
          case atStart => exact ⟨0, Nat.zero_le _, rfl, (by intro z hz; simp at hz), HO.out⟩
          case round =>
            obtain ⟨k, hkN, rfl, HLo, HO2⟩ := hrel
            have hki : (k : Int) ≤ 100000 := by omega
            obtain ⟨cx, cy⟩ := HCt.out wr HO2.out.bel
            by_cases hk : k < N
            · have hk' : (k : Int) < (N : Int) := by omega
              obtain ⟨g0, cap0, hv0⟩ : ∃ g cap, (Value.slice pv N cv) = .slice (some ⟨g, 0, none⟩) N cap := by
                rcases owns_cases HO2.out.row with ⟨_, h0, _⟩ | ⟨g, cap, hv, _⟩
                · have := HNe.out; omega
                · rw [HNe.out] at hv; exact ⟨g, cap, hv⟩
              simp only [Value.slice.injEq] at hv0
              obtain ⟨rfl, _, rfl⟩ := hv0
              obtain ⟨⟨yn, yv⟩, hy⟩ : ∃ y, d[k]? = some y := ⟨_, List.getElem?_eq_getElem (by have := HNe.out; omega)⟩
              obtain ⟨⟨dy, _⟩, _⟩ := HO2.out.cell hy
              have HYd : Hid (d.drop k = (yn, yv) :: d.drop (k + 1)) := by show _ = _; rw [List.drop_eq_getElem_cons (by have := HNe.out; omega), (List.getElem?_eq_some_iff.1 hy).2]
              have HYt : Hid (d.take (k + 1) = d.take k ++ [(yn, yv)]) := by show _ = _; rw [List.take_add_one, hy]; rfl
              have HYm : Hid ((yn, yv) ∈ d) := List.mem_of_getElem? hy
              clear hy
              by_cases hyx : ltS yn xn = true
              · have hcmp : Op.bytesLess yn.toList xn.toList = true := hyx
                have HLo2 : Hid (∀ z ∈ d.take (k + 1), ltN z (xn, xv) = true) := by
                  show ∀ z ∈ _, _
                  rw [HYt.out]
                  intro z hz
                  rcases List.mem_append.1 hz with e | e
                  · exact HLo.out z e
                  · simp only [List.mem_singleton] at e; subst e; exact hyx
                clear hyx
                go_wp2_with fail
                go_quiet (fail)
                have HO3 := Lib.hid (HO2.out.drewN nq)
                clear cx cy dy HO2 HLo
                generalize wr.drewN nq = wn at *
                go_wp2_with fail
                go_round
                case rel => exact ⟨k + 1, by omega, by go_num, HLo2.out, HO3.out⟩
                case measure => simp [intOf]; omega
              · have hcmp0 : ltS yn xn = false := by simpa using hyx
                have hcmp : Op.bytesLess yn.toList xn.toList = false := hcmp0
                have HYX := Lib.hid hcmp0
                clear hcmp0 hyx
                by_cases heq : yn = xn
                · subst heq
                  have HE : Hid (normL l = (18, [])) := by
                    show _ = _
                    rw [HN0.out, HPut.out, HDr.out, putL, if_pos ⟨(yn, yv), HYm.out, rfl⟩]
                  have hse : (yn.toList == yn.toList) = true := by simp
                  go_wp2_with fail
                  go_quiet (fail)
                  have HO3 := Lib.hid (HO2.out.drewN nq)
                  have cx2 : (wr.drewN nq).cell? ⟨b, off + j * 2, none⟩ = some (.string yn) := cx
                  have dy2 : (wr.drewN nq).cell? ⟨g0, k * 2, none⟩ = some (.string yn) := dy
                  clear cx cy dy HO2
                  generalize wr.drewN nq = wn at *
                  go_wp2_with fail
                  go_quiet (fail)
                  have HO4 := Lib.hid (HO3.out.drewN nq)
                  clear cx2 dy2 HO3
                  generalize wn.drewN nq = wq at *
                  go_wp2_with fail
                  go_ret2
                  exact GotLb.fails HO4.out.bel HE.out
                · have hse : (yn.toList == xn.toList) = false := by rw [eqS]; simpa using heq
                  have hxy : ltS xn yn = true := by
                    rcases Bool.eq_false_or_eq_true (ltS xn yn) with e | e
                    · exact e
                    · exact absurd (ltS_ok.tot yn xn HYX.out e) heq
                  have HHi : Hid (∀ z, (d.drop k).head? = some z → ltN (xn, xv) z = true) := by
                    intro z hz
                    rw [HYd.out] at hz
                    cases hz
                    exact hxy
                  have HNo : Hid (∀ y ∈ d, y.1 ≠ (xn, xv).1) := by
                    intro z hz e
                    have e' : z.1 = xn := e
                    rw [← List.take_append_drop k d] at hz
                    rcases List.mem_append.1 hz with h | h
                    · have h1 : ltS z.1 xn = true := HLo.out z h
                      rw [e', ltS_ok.irr] at h1; cases h1
                    · rw [HYd.out] at h
                      rcases List.mem_cons.1 h with h | h
                      · subst h; exact heq e'
                      · have ha := HA.out
                        rw [← List.take_append_drop k d, HYd.out] at ha
                        have h2 : ltN (yn, yv) z = true := (List.pairwise_cons.1 (List.pairwise_append.1 ha).2.1).1 z h
                        have h3 : ltS xn z.1 = true := ltS_ok.tr _ _ _ hxy h2
                        rw [e', ltS_ok.irr] at h3; cases h3
                  clear heq hxy
                  go_wp2_with fail
                  go_quiet (fail)
                  have HO3 := Lib.hid (HO2.out.drewN nq)
                  have cx2 : (wr.drewN nq).cell? ⟨b, off + j * 2, none⟩ = some (.string xn) := cx
                  have dy2 : (wr.drewN nq).cell? ⟨g0, k * 2, none⟩ = some (.string yn) := dy
                  clear cx cy dy HO2
                  generalize wr.drewN nq = wn at *
                  go_wp2_with fail
                  go_quiet (fail)
                  have HOb := Lib.hid (HO3.out.drewN nq)
                  clear cx2 dy2 HO3
                  generalize wn.drewN nq = wb at *
                  have HP : Hid (insB ltN (xn, xv) d = d.take k ++ (xn, xv) :: d.drop k) := by
                    have e := insB_parts ltN_ok (xn, xv) (d.take k) (d.drop k) HLo.out HHi.out
                    rwa [List.take_append_drop] at e
                  have HPut2 : Hid (putL [] l = putL (insB ltN (xn, xv) d) (l.drop (j + 1))) := by
                    show _ = _
                    rw [HPut.out, HDr.out, putL, if_neg]
                    rintro ⟨y, hy, e⟩
                    exact HNo.out y hy e
                  have HA2 : Hid (AscB ltN (insB ltN (xn, xv) d)) := insN_asc (xn, xv) d HNo.out HA.out
                  have HL2 : Hid ((insB ltN (xn, xv) d).length ≤ j + 1) := by show _ ≤ _; have := insB_le (lt := ltN) (xn, xv) d; have := HNe.out; have := HNj.out; omega
                  have HLb : Hid ((N + 1) * 32 ≤ 140737488355328 ∧ N + 1 ≤ maxLen) := by show _ ∧ _; have := HD.out; unfold maxLen; omega
                  have HOv : Hid (wb.ownsRow 0 30 2 (.slice (some ⟨g0, 0, none⟩) N cv) N (labCells d)) := by
                    have h := HOb.out.base0
                    rw [HNe.out] at h
                    exact h
                  obtain ⟨cx, cy⟩ := HCt.out wb HOb.out.bel
                  go_wp2_with (at_builtin; refine wpList_push elemLab _ #[.string xn, .string xv] _ _ _ HOv.out rfl (by simp [Value.oneCell']) HLb.out rfl _ _ rfl rfl rfl ?_)
                  intro v1 w1 k1 m1 f1
                  have HO1 : Hid (OwnL w w1 (d ++ [(xn, xv)]) v1) := HOb.out.pushed (by rw [HNe.out]; exact k1) m1 f1
                  obtain ⟨g, c1, hv1⟩ : ∃ g cap, v1 = .slice (some ⟨g, 0, none⟩) (N + 1) cap := by
                    rcases owns_cases k1 with ⟨_, h0, _⟩ | ⟨g, cap, hv, _⟩
                    · omega
                    · exact ⟨g, cap, hv⟩
                  subst hv1
                  clear k1 m1 f1 HOv HOb cx cy
                  go_wp2_with fail
                  go_loopw [9] (fun mv wr2 => ∃ (m : Nat) (y : Lab), k ≤ m ∧ m ≤ N ∧ mv = .int .i64 (m : Int) ∧ Hid (OwnL w wr2 (d.take m ++ y :: d.drop m) (.slice (some ⟨g, 0, none⟩) (N + 1) c1))) (fun mv _ => (intOf mv).toNat)
                  case atStart => exact ⟨N, (xn, xv), hkN, Nat.le_refl _, rfl, by
                    show OwnL _ _ _ _
                    rw [List.drop_of_length_le (by have := HNe.out; omega), List.take_of_length_le (by have := HNe.out; omega)]
                    exact HO1.out⟩
                  case round =>
                    obtain ⟨m, ⟨yn, yv⟩, hkm, hmN, rfl, HO2⟩ := hrel
                    have hmi : (m : Int) ≤ 1000000 := by have := HD.out; omega
                    have hmN' : (m : Int) < (N : Int) + 1 := by omega
                    obtain ⟨⟨cm0, cm1⟩, fm0, fm1⟩ := HO2.out.cell (i := m) (x := (yn, yv)) (by rw [List.getElem?_append_right (by rw [List.length_take]; omega), List.length_take, Nat.min_eq_left (by have := HNe.out; omega), Nat.sub_self]; rfl)
                    obtain ⟨cx, cy⟩ := HCt.out wr HO2.out.bel
                    by_cases hmk : k < m
                    · have hmk' : (k : Int) < (m : Int) := by omega
                      obtain ⟨q, rfl⟩ : ∃ q, m = q + 1 := ⟨m - 1, by omega⟩
                      obtain ⟨⟨zn, zv⟩, hz⟩ : ∃ z, d[q]? = some z := ⟨_, List.getElem?_eq_getElem (by have := HNe.out; omega)⟩
                      have HZe := Lib.hid hz
                      obtain ⟨⟨cz0, cz1⟩, _⟩ := HO2.out.cell (i := q) (x := (zn, zv)) (by rw [List.getElem?_append_left (by rw [List.length_take]; have := HNe.out; omega), List.getElem?_take, if_pos (by omega)]; exact hz)
                      have hqs : ((q + 1 : Nat) : Int) - 1 = (q : Int) := by omega
                      have hq0 : (0 : Int) ≤ (q : Int) := by omega
                      have hqi : (q : Int) ≤ 999999 := by omega
                      have HKM : Hid (k ≤ q + 1 ∧ k < q + 1 ∧ q + 1 ≤ N) := ⟨hkm, hmk, hmN⟩
                      have HDn : Hid (OwnL w ((wr.setCell ⟨g, (q + 1) * 2, none⟩ (.string zn)).setCell ⟨g, (q + 1) * 2 + 1, none⟩ (.string zv)) (d.take q ++ (zn, zv) :: d.drop q) (.slice (some ⟨g, 0, none⟩) (N + 1) c1)) := by
                        show OwnL _ _ _ _
                        rw [← shift_eqG2 d q (zn, zv) HZe.out]
                        exact HO2.out.stored (y := (zn, zv)) (shift_setG2 d (q + 1) (yn, yv) (zn, zv) (by have := HNe.out; omega))
                      clear hz hkm hmk hmN hmi HO2
                      go_wp2_with fail
                      go_round
                      case rel => exact ⟨q, (zn, zv), by have := HKM.out; omega, by have := HKM.out; omega, by go_num, HDn.out⟩
                      case measure => simp [intOf]
                    · have hmk2 : m = k := by omega
                      have hmk' : ¬ (k : Int) < (m : Int) := by omega
                      have HOk : Hid (OwnL w wr (d.take k ++ (yn, yv) :: d.drop k) (.slice (some ⟨g, 0, none⟩) (N + 1) c1)) := by
                        have h := HO2.out
                        rw [hmk2] at h
                        exact h
                      rw [hmk2] at cm0 cm1 fm0 fm1
                      have hkN2 : (k : Int) < (N : Int) + 1 := by omega
                      have HDn : Hid (OwnL w ((wr.setCell ⟨g, k * 2, none⟩ (.string xn)).setCell ⟨g, k * 2 + 1, none⟩ (.string xv)) (insB ltN (xn, xv) d) (.slice (some ⟨g, 0, none⟩) (N + 1) c1)) := by
                        show OwnL _ _ _ _
                        rw [HP.out]
                        exact HOk.out.stored (y := (xn, xv)) (shift_setG2 d k (yn, yv) (xn, xv) (by have := HNe.out; omega))
                      clear hmk2 HOk hkm hmk hmN HO2
                      go_wp2_with fail
                      go_round
                      case rel => exact ⟨j + 1, insB ltN (xn, xv) d, by omega, by go_num, HDn.out, ⟨HPut2.out, HA2.out, HL2.out⟩⟩
                      case measure => simp [intOf]; omega
            · obtain rfl : N = k := by omega
              have hk' : ¬ (N : Int) < (N : Int) := by omega
              have HHi : Hid (∀ z, (d.drop N).head? = some z → ltN (xn, xv) z = true) := by
                intro z hz
                rw [List.drop_of_length_le (by have := HNe.out; omega)] at hz
                cases hz
              have HNo : Hid (∀ y ∈ d, y.1 ≠ (xn, xv).1) := by
                intro z hz e
                have e' : z.1 = xn := e
                have h1 : ltS z.1 xn = true := HLo.out z (by rw [List.take_of_length_le (by have := HNe.out; omega)]; exact hz)
                rw [e', ltS_ok.irr] at h1; cases h1
              go_wp2_with fail
              go_quiet (fail)
              have HO3 := Lib.hid (HO2.out.drewN nq)
              clear cx cy HO2
              generalize wr.drewN nq = wn at *
              go_wp2_with fail
              go_quiet (fail)
              have HOb := Lib.hid (HO3.out.drewN nq)
              clear HO3
              generalize wn.drewN nq = wb at *
              have HP : Hid (insB ltN (xn, xv) d = d.take N ++ (xn, xv) :: d.drop N) := by
                have e := insB_parts ltN_ok (xn, xv) (d.take N) (d.drop N) HLo.out HHi.out
                rwa [List.take_append_drop] at e
              have HPut2 : Hid (putL [] l = putL (insB ltN (xn, xv) d) (l.drop (j + 1))) := by
                show _ = _
                rw [HPut.out, HDr.out, putL, if_neg]
                rintro ⟨y, hy, e⟩
                exact HNo.out y hy e
              have HA2 : Hid (AscB ltN (insB ltN (xn, xv) d)) := insN_asc (xn, xv) d HNo.out HA.out
              have HL2 : Hid ((insB ltN (xn, xv) d).length ≤ j + 1) := by show _ ≤ _; have := insB_le (lt := ltN) (xn, xv) d; have := HNe.out; have := HNj.out; omega
              have HLb : Hid ((N + 1) * 32 ≤ 140737488355328 ∧ N + 1 ≤ maxLen) := by show _ ∧ _; have := HD.out; unfold maxLen; omega
              have HOv : Hid (wb.ownsRow 0 30 2 (.slice pv N cv) N (labCells d)) := by
                have h := HOb.out.base0
                rw [HNe.out] at h
                exact h
              obtain ⟨cx, cy⟩ := HCt.out wb HOb.out.bel
              go_wp2_with (at_builtin; refine wpList_push elemLab _ #[.string xn, .string xv] _ _ _ HOv.out rfl (by simp [Value.oneCell']) HLb.out rfl _ _ rfl rfl rfl ?_)
              intro v1 w1 k1 m1 f1
              have HO1 : Hid (OwnL w w1 (d ++ [(xn, xv)]) v1) := HOb.out.pushed (by rw [HNe.out]; exact k1) m1 f1
              obtain ⟨g, c1, hv1⟩ : ∃ g cap, v1 = .slice (some ⟨g, 0, none⟩) (N + 1) cap := by
                rcases owns_cases k1 with ⟨_, h0, _⟩ | ⟨g, cap, hv, _⟩
                · omega
                · exact ⟨g, cap, hv⟩
              subst hv1
              clear k1 m1 f1 HOv HOb cx cy
              go_wp2_with fail
              go_loopw [9] (fun mv wr2 => ∃ (m : Nat) (y : Lab), N ≤ m ∧ m ≤ N ∧ mv = .int .i64 (m : Int) ∧ Hid (OwnL w wr2 (d.take m ++ y :: d.drop m) (.slice (some ⟨g, 0, none⟩) (N + 1) c1))) (fun mv _ => (intOf mv).toNat)
              case atStart => exact ⟨N, (xn, xv), Nat.le_refl _, Nat.le_refl _, rfl, by
                show OwnL _ _ _ _
                rw [List.drop_of_length_le (by have := HNe.out; omega), List.take_of_length_le (by have := HNe.out; omega)]
                exact HO1.out⟩
              case round =>
                obtain ⟨m, ⟨yn, yv⟩, hNm, hmN, rfl, HO2⟩ := hrel
                have hmi : (m : Int) ≤ 1000000 := by have := HD.out; omega
                have hmN' : (m : Int) < (N : Int) + 1 := by omega
                obtain ⟨⟨cm0, cm1⟩, fm0, fm1⟩ := HO2.out.cell (i := m) (x := (yn, yv)) (by rw [List.getElem?_append_right (by rw [List.length_take]; omega), List.length_take, Nat.min_eq_left (by have := HNe.out; omega), Nat.sub_self]; rfl)
                obtain ⟨cx, cy⟩ := HCt.out wr HO2.out.bel
                by_cases hmk : N < m
                · exfalso; omega
                · have hmk2 : m = N := by omega
                  have hmk' : ¬ (N : Int) < (m : Int) := by omega
                  have HOk : Hid (OwnL w wr (d.take N ++ (yn, yv) :: d.drop N) (.slice (some ⟨g, 0, none⟩) (N + 1) c1)) := by
                    have h := HO2.out
                    rw [hmk2] at h
                    exact h
                  rw [hmk2] at cm0 cm1 fm0 fm1
                  have hkN2 : (N : Int) < (N : Int) + 1 := by omega
                  have HDn : Hid (OwnL w ((wr.setCell ⟨g, N * 2, none⟩ (.string xn)).setCell ⟨g, N * 2 + 1, none⟩ (.string xv)) (insB ltN (xn, xv) d) (.slice (some ⟨g, 0, none⟩) (N + 1) c1)) := by
                    show OwnL _ _ _ _
                    rw [HP.out]
                    exact HOk.out.stored (y := (xn, xv)) (shift_setG2 d N (yn, yv) (xn, xv) (by have := HNe.out; omega))
                  clear hmk2 HOk hNm hmk hmN HO2
                  go_wp2_with fail
                  go_round
                  case rel => exact ⟨j + 1, insB ltN (xn, xv) d, by omega, by go_num, HDn.out, ⟨HPut2.out, HA2.out, HL2.out⟩⟩
                  case measure => simp [intOf]; omega
        · have hlt' : ¬ (j : Int) < (l.length : Int) := by omega
          have HE : Hid (normL l = (0, d)) := by
            show _ = _
            rw [HN0.out, HPut.out, List.drop_of_length_le (by omega)]; rfl
          obtain ⟨pv, cv, hvv⟩ := HO.out.shape
          subst hvv
          go_wp2_with fail
          go_ret2
          rw [HE.out]
          exact ⟨⟨_, rfl, HO.out.rd, fun k hk => (HO.out.row.lt k hk).1⟩, HO.out.bel⟩
end Go.Proofs.Ytpgdedehhaibmaa

end

section
/- Layer 11: the comparison of lists of labels, one step. No program in sight. -/
set_option linter.unusedVariables false
namespace Go.Proofs.Ytpgdedehhaibmaa
open Go Go.RowKit

theorem cmp_step {a b : List Lab} {i : Nat} {x y : Lab} (ha : a[i]? = some x) (hb : b[i]? = some y) (h : cmpLabs a b = cmpLabs (a.drop i) (b.drop i)) :
    cmpLabs a b = if cmpLab x y = 0 then cmpLabs (a.drop (i + 1)) (b.drop (i + 1)) else cmpLab x y := by
  have h1 : a.drop i = x :: a.drop (i + 1) := by rw [List.drop_eq_getElem_cons (List.getElem?_eq_some_iff.1 ha).1, (List.getElem?_eq_some_iff.1 ha).2]
  have h2 : b.drop i = y :: b.drop (i + 1) := by rw [List.drop_eq_getElem_cons (List.getElem?_eq_some_iff.1 hb).1, (List.getElem?_eq_some_iff.1 hb).2]
  rw [h, h1, h2]; rfl
theorem cmp_end {a b : List Lab} {i : Nat} (hi : i ≤ a.length ∧ i ≤ b.length) (he : ¬ (i < a.length ∧ i < b.length)) (h : cmpLabs a b = cmpLabs (a.drop i) (b.drop i)) :
    cmpLabs a b = if a.length < b.length then -1 else if b.length < a.length then 1 else 0 := by
  rw [h]
  by_cases h1 : i < a.length
  · have h2 : ¬ i < b.length := fun e => he ⟨h1, e⟩
    rw [if_neg (by omega), if_pos (by omega), List.drop_of_length_le (l := b) (by omega), List.drop_eq_getElem_cons h1]; rfl
  · rw [List.drop_of_length_le (l := a) (by omega)]
    by_cases h2 : i < b.length
    · rw [if_pos (by omega), List.drop_eq_getElem_cons h2]; rfl
    · rw [if_neg (by omega), if_neg (by omega), List.drop_of_length_le (by omega)]; rfl
end Go.Proofs.Ytpgdedehhaibmaa

end

section
/- Layer 11: the reference's order and Compare. -/
set_option linter.unusedVariables false
set_option maxRecDepth 20000
namespace Go.Proofs.Ytpgdedehhaibmaa
open Go Go.RowKit

theorem ref_order11 (a b : ByteArray) (w : World) :
    Calls Try.prog 33 #[.string a, .string b] w fun e w' => e = .returned (.int .i64 (ordS a b)) ∧ w' = w := by
  by_cases h1 : ltS a b = true
  · have hcmp : Op.bytesLess a.toList b.toList = true := h1
    have HO : Hid (ordS a b = -1) := if_pos h1
    rw [HO.out]
    clear h1
    go_enter Try.func33, Try.ntmps33
    go_wp2_with fail
    go_ret
    exact ⟨rfl, rfl⟩
  · have h1f : ltS a b = false := by simpa using h1
    have hcmp : Op.bytesLess a.toList b.toList = false := h1f
    by_cases h2 : ltS b a = true
    · have hne : a ≠ b := fun e => by subst e; rw [ltS_ok.irr] at h2; cases h2
      have hgt : binOp .gtr 9 (.string a) (.string b) = pure (.bool true) := by simp [binOp, Op.stringOp, hcmp, eqS, hne]
      have HO : Hid (ordS a b = 1) := by show _ = _; rw [ordS, ordB, if_neg h1, if_pos h2]
      rw [HO.out]
      clear h1 h1f h2 hne
      go_enter Try.func33, Try.ntmps33
      go_wp2_with fail
      go_ret
      exact ⟨rfl, rfl⟩
    · have he : a = b := ltS_ok.tot a b h1f (by simpa using h2)
      have hgt : binOp .gtr 9 (.string a) (.string b) = pure (.bool false) := by simp [binOp, Op.stringOp, he]
      have HO : Hid (ordS a b = 0) := by show _ = _; rw [ordS, ordB, if_neg h1, if_neg h2]
      rw [HO.out]
      clear h1 h1f h2 he
      go_enter Try.func33, Try.ntmps33
      go_wp2_with fail
      go_ret
      exact ⟨rfl, rfl⟩

theorem ordS_dom (a b : ByteArray) : ordS a b = -1 ∨ ordS a b = 0 ∨ ordS a b = 1 := ordS_ok.dom a b

/-- Nothing but draws. -/
def Drw (w w' : World) : Prop := ∃ q, w' = w.drewN q
theorem Drw.below {w w' : World} (h : Drw w w') : Below w.heap.size w w' := by
  obtain ⟨q, rfl⟩ := h
  exact ⟨rfl, rfl, rfl, Nat.le_refl _, fun _ _ => rfl⟩
theorem Drw.step {w w' : World} (h : Drw w w') (n : Nat) : Drw w (w'.drewN n) := by
  obtain ⟨q, rfl⟩ := h
  exact ⟨q + n, World.drewN_drewN ..⟩

set_option maxHeartbeats 4000000 in
theorem ref_compareD (av bv : Value) (a b : List Lab) (w : World) (ha : Rd w 2 av a.length (labCells a)) (hb : Rd w 2 bv b.length (labCells b)) (hna : a.length ≤ 1000000) (hnb : b.length ≤ 1000000) :
    Calls Try.prog 18 #[av, bv] w fun e w' => e = .returned (.int .i64 (cmpLabs a b)) ∧ Drw w w' := by
  have HLa := Lib.hid ha; have HLb := Lib.hid hb
  obtain ⟨pa, ca, hv⟩ := ha.shape
  subst hv
  obtain ⟨pb, cb, hv⟩ := hb.shape
  subst hv
  have hma : (a.length : Int) ≤ 1000000 := by omega
  have hmb : (b.length : Int) ≤ 1000000 := by omega
  clear ha hb hna hnb
  go_enter Try.func18, Try.ntmps18
  go_wp2_with fail
  go_loopw [5] (fun iv wr => ∃ (i : Nat), i ≤ a.length ∧ i ≤ b.length ∧ iv = .int .i64 (i : Int) ∧ Hid (cmpLabs a b = cmpLabs (a.drop i) (b.drop i)) ∧ Hid (Drw w wr)) (fun iv _ => a.length - (intOf iv).toNat)
  case atStart => exact ⟨0, Nat.zero_le _, Nat.zero_le _, rfl, rfl, ⟨0, rfl⟩⟩
  case round =>
    obtain ⟨i, hia, hib, rfl, HC, HB⟩ := hrel
    have him : (i : Int) ≤ 1000000 := by omega
    by_cases h1 : i < a.length
    · have h1' : (i : Int) < (a.length : Int) := by omega
      by_cases h2 : i < b.length
      · have h2' : (i : Int) < (b.length : Int) := by omega
        obtain ⟨⟨xn, xv⟩, hx⟩ : ∃ x, a[i]? = some x := ⟨_, List.getElem?_eq_getElem h1⟩
        obtain ⟨⟨yn, yv⟩, hy⟩ : ∃ y, b[i]? = some y := ⟨_, List.getElem?_eq_getElem h2⟩
        obtain ⟨ba, oa, e⟩ := rd2_at HLa.out hx
        subst e
        obtain ⟨bb, ob, e⟩ := rd2_at HLb.out hy
        subst e
        obtain ⟨c0, c1⟩ := rd2_cell (HLa.out.below HB.out.below) hx
        obtain ⟨d0, d1⟩ := rd2_cell (HLb.out.below HB.out.below) hy
        have HSt := Lib.hid (cmp_step hx hy HC.out)
        clear hx hy HC
        have HO1 := Lib.hid (fun w' => ref_order11 xn yn w')
        have HO2 := Lib.hid (fun w' => ref_order11 xv yv w')
        go_wp2_with fail
        go_quiet ((go_at_call 33; exact Calls.quiet_of_same (HO1.out _)))
        have HB1 : Hid (Drw w (wr.drewN nq)) := HB.out.step nq
        have c1' : (wr.drewN nq).cell? ⟨ba, oa + i * 2 + 1, none⟩ = some (.string xv) := c1
        have d1' : (wr.drewN nq).cell? ⟨bb, ob + i * 2 + 1, none⟩ = some (.string yv) := d1
        clear c0 c1 d0 d1
        generalize wr.drewN nq = w1 at *
        have HD1 := ordS_dom xn yn
        have HD2 := ordS_dom xv yv
        by_cases e1 : ordS xn yn = 0
        · have HSc : Hid (cmpLabs a b = if ordS xv yv = 0 then cmpLabs (a.drop (i + 1)) (b.drop (i + 1)) else ordS xv yv) := by
            show _ = _
            have hc : cmpLab (xn, xv) (yn, yv) = ordS xv yv := if_pos e1
            rw [HSt.out, hc]
          rw [e1]
          clear e1 HD1
          go_wp2_with fail
          go_quiet ((go_at_call 33; exact Calls.quiet_of_same (HO2.out _)))
          have HB2 : Hid (Drw w (w1.drewN nq)) := HB1.out.step nq
          clear c1' d1'
          generalize w1.drewN nq = w2 at *
          by_cases e2 : ordS xv yv = 0
          · rw [if_pos e2] at HSc
            rw [e2]
            clear e2 HD2
            go_wp2_with fail
            go_round
            case rel => exact ⟨i + 1, by omega, by omega, by go_num, HSc.out, HB2.out⟩
            case measure => simp [intOf]; omega
          · rw [if_neg e2] at HSc
            have heb : ((ordS xv yv) == 0) = false := by rw [beq_eq_false_iff_ne]; exact e2
            have HE2 := Lib.hid e2
            clear HD2
            generalize ordS xv yv = o2 at *
            go_wp2_with fail
            go_ret
            exact ⟨by rw [HSc.out]; rfl, HB2.out⟩
        · have HSc : Hid (cmpLabs a b = ordS xn yn) := by
            show _ = _
            have hc : cmpLab (xn, xv) (yn, yv) = ordS xn yn := if_neg e1
            rw [HSt.out, hc, if_neg e1]
          have heb : ((ordS xn yn) == 0) = false := by rw [beq_eq_false_iff_ne]; exact e1
          clear HD1 HD2
          generalize ordS xn yn = o1 at *
          go_wp2_with fail
          go_ret
          exact ⟨by rw [HSc.out]; rfl, HB1.out⟩
      · have h2' : ¬ (i : Int) < (b.length : Int) := by omega
        have HE := Lib.hid (cmp_end ⟨hia, hib⟩ (fun e => h2 e.2) HC.out)
        have hlt : ¬ (a.length : Int) < (b.length : Int) := by omega
        have hgt : (b.length : Int) < (a.length : Int) := by omega
        rw [if_neg (by omega), if_pos (by omega)] at HE
        clear h2
        go_wp2_with fail
        go_ret
        exact ⟨by rw [HE.out]; rfl, HB.out⟩
    · have h1' : ¬ (i : Int) < (a.length : Int) := by omega
      have HE := Lib.hid (cmp_end ⟨hia, hib⟩ (fun e => h1 e.1) HC.out)
      by_cases hl1 : a.length < b.length
      · have hlt : (a.length : Int) < (b.length : Int) := by omega
        rw [if_pos hl1] at HE
        clear hl1 h1
        go_wp2_with fail
        go_ret
        exact ⟨by rw [HE.out]; rfl, HB.out⟩
      · have hlt : ¬ (a.length : Int) < (b.length : Int) := by omega
        rw [if_neg hl1] at HE
        by_cases hl2 : b.length < a.length
        · have hgt : (b.length : Int) < (a.length : Int) := by omega
          rw [if_pos hl2] at HE
          clear hl1 hl2 h1
          go_wp2_with fail
          go_ret
          exact ⟨by rw [HE.out]; rfl, HB.out⟩
        · have hgt : ¬ (b.length : Int) < (a.length : Int) := by omega
          rw [if_neg hl2] at HE
          clear hl1 hl2 h1
          go_wp2_with fail
          go_ret
          exact ⟨by rw [HE.out]; rfl, HB.out⟩
theorem ref_compare11 (av bv : Value) (a b : List Lab) (w : World) (ha : Rd w 2 av a.length (labCells a)) (hb : Rd w 2 bv b.length (labCells b)) (hna : a.length ≤ 1000000) (hnb : b.length ≤ 1000000) :
    Calls Try.prog 18 #[av, bv] w fun e w' => e = .returned (.int .i64 (cmpLabs a b)) ∧ Below w.heap.size w w' :=
  (ref_compareD av bv a b w ha hb hna hnb).mono fun e w' h => ⟨h.1, h.2.below⟩
end Go.Proofs.Ytpgdedehhaibmaa

end

section
/- A region that draws its order, walked in ONE order: all but the calls yield the same in whatever world, so they are taken before a call; the calls come up alone. No program in sight. -/
namespace Go.Proofs.Ytpgdedehhaibmaa
open Go Go.RowKit

/-- The order L is allowed to stand for all: an operation that is no call comes up free; a call comes up alone. -/
def orderB (md : Region.Mode) (ops : Array Oper) (calls : List Nat) : List Nat → Array Bool → Bool
  | [], listed => (Region.ready md ops listed).isEmpty
  | i :: rest, listed => (if calls.contains i then Region.ready md ops listed == [i] else Region.free md ops listed i && (Region.ready md ops listed).contains i) && orderB md ops calls rest (listed.setIfInBounds i true)

/-- The operations of a region in the order L. -/
def taken (l : List Oper) (L : List Nat) : List (Nat × Oper) := L.map fun i => (i, (l[i]?).getD { dst := none, op := .move (.tmp 0), type := 0, pos := "", after := #[], guard := none })

def wpTake (P : Program) (ops : Array Oper) (Q : Exit → Act → World → Prop) (calls : List Nat) : List (Nat × Oper) → Act → World → Prop
  | [], a, w => Q .normal a w
  | (i, o) :: rest, a, w => if Region.wanted o (yielded ops a.tmps) = true then
        (if calls.contains i = true then o.wp P a w (wpTake P ops Q calls rest) Q else ∃ v, (∀ w, (execOp a.eval o).run P w = .ok (.value v) w) ∧ wpTake P ops Q calls rest (a.put o.dst v) w)
      else wpTake P ops Q calls rest (a.put o.dst undef) w

theorem put_defers (a : Act) (d : Option Tmp) (v : Value) : (a.put d v).defers = a.defers := by cases d <;> rfl

section
variable {P : Program} {l : List Oper} {Q : Exit → Act → World → Prop} {md : Region.Mode} {calls : List Nat}

theorem wpAny_of_take (hs : Region.noSelect l.toArray = true) (hQ : ∀ c (a a' : Act) w, a.defers = a'.defers → Q (.panic c) a w → Q (.panic c) a' w) : ∀ (L : List Nat) (listed : Array Bool) (a : Act) (w : World) (fuel : Nat), L.length ≤ fuel →
    (∀ i ∈ L, i < l.length) → orderB md l.toArray calls L listed = true → wpTake P l.toArray Q calls (taken l L) a w → wpAny P md l.toArray Q fuel listed a w
  | [], listed, a, w, fuel, _, _, hB, h => wpAny_done (by simpa [orderB] using hB) h fuel
  | i :: rest, listed, a, w, 0, hf, _, _, _ => by simp at hf
  | i :: rest, listed, a, w, fuel + 1, hf, hl, hB, h => by
    have hf' : rest.length ≤ fuel := by simpa using hf
    have hl' : ∀ j ∈ rest, j < l.length := fun j hj => hl j (by simp [hj])
    have hi : i < l.length := hl i (by simp)
    unfold orderB at hB
    rw [Bool.and_eq_true] at hB
    obtain ⟨h1, h2⟩ := hB
    have ho : l.toArray[i]? = some l[i] := by simp [hi]
    have e : taken l (i :: rest) = (i, l[i]) :: taken l rest := by simp [taken, hi]
    rw [e] at h
    unfold wpTake at h
    generalize l[i] = o at *
    by_cases hc : calls.contains i = true
    · rw [if_pos hc] at h1 h
      have hr : Region.ready md l.toArray listed = [i] := by simpa using h1
      refine wpAny_all hr (by simp) (fun j hj => ?_)
      obtain rfl : j = i := by simpa using hj
      unfold wpOp
      simp only [ho]
      split
      · next hw =>
        rw [if_pos hw] at h
        exact .inl (Oper.wp_mono (fun a w h => wpAny_of_take hs hQ rest _ a w fuel hf' hl' h2 h) h)
      · next hw =>
        rw [if_neg hw] at h
        exact wpAny_of_take hs hQ rest _ _ w fuel hf' hl' h2 h
    · rw [if_neg hc] at h1 h
      rw [Bool.and_eq_true] at h1
      by_cases hw : Region.wanted o (yielded l.toArray a.tmps) = true
      · rw [if_pos hw] at h
        obtain ⟨v, hv, h⟩ := h
        exact wpAny_take ho hs h1.1 h1.2 (fun c a w h => hQ c _ _ w (put_defers _ _ _) h) (.inl ⟨hw, hv⟩) (wpAny_of_take hs hQ rest _ _ w fuel hf' hl' h2 h)
      · rw [if_neg hw] at h
        exact wpAny_take ho hs h1.1 h1.2 (fun c a w h => hQ c _ _ w (put_defers _ _ _) h) (.inr ⟨by simpa using hw, rfl⟩) (wpAny_of_take hs hQ rest _ _ w fuel hf' hl' h2 h)

/-- A region that draws its order, by one order of it. -/
theorem wp_region_take {id : Nat} {a : Act} {w : World} (calls L : List Nat) (hm : P.follows .mixedOrders = true) (hs : Region.noSelect l.toArray = true) (hB : (decide (L.length ≤ l.length) && (L.all (fun i => decide (i < l.length)) && orderB .any l.toArray calls L (Array.replicate l.length false))) = true)
    (hQ : ∀ c (a a' : Act) w, a.defers = a'.defers → Q (.panic c) a w → Q (.panic c) a' w) (h : wpTake P l.toArray Q calls (taken l L) a w.drew) : (Code.region id l.toArray true).wp P Q a w := by
  rw [Bool.and_eq_true, Bool.and_eq_true] at hB
  refine wp_region_any hm (wpAny_of_take hs hQ L _ a _ _ (by simpa using hB.1) (by simpa using hB.2.1) (by simpa using hB.2.2) h)

variable {ops : Array Oper}
theorem take_nil {a : Act} {w : World} (h : Q .normal a w) : wpTake P ops Q calls [] a w := h
theorem take_skip {i : Nat} {o : Oper} {rest : List (Nat × Oper)} {a : Act} {w : World} (hw : Region.wanted o (yielded ops a.tmps) = false) (h : wpTake P ops Q calls rest (a.put o.dst undef) w) : wpTake P ops Q calls ((i, o) :: rest) a w := by
  unfold wpTake
  simp only [hw]
  exact h
theorem take_move {i : Nat} {o : Oper} {rest : List (Nat × Oper)} {a : Act} {w : World} (x : Operand) (hx : o.op = .move x ∨ o.op = .assign x) (hc : calls.contains i = false) (hw : Region.wanted o (yielded ops a.tmps) = true)
    (h : wpTake P ops Q calls rest (a.put o.dst (a.eval x)) w) : wpTake P ops Q calls ((i, o) :: rest) a w := by
  unfold wpTake
  simp only [hw, hc]
  refine ⟨_, fun w => ?_, h⟩
  rcases hx with hx | hx <;> unfold execOp <;> simp [hx]
theorem take_blind {i : Nat} {o : Oper} {rest : List (Nat × Oper)} {a : Act} {w : World} (hc : calls.contains i = false) (hw : Region.wanted o (yielded ops a.tmps) = true)
    (h : ∃ v, (∀ w, (execOp a.eval o).run P w = .ok (.value v) w) ∧ wpTake P ops Q calls rest (a.put o.dst v) w) : wpTake P ops Q calls ((i, o) :: rest) a w := by
  unfold wpTake
  simp only [hw, hc]
  exact h
theorem take_call {i : Nat} {o : Oper} {rest : List (Nat × Oper)} {a : Act} {w : World} (hc : calls.contains i = true) (hw : Region.wanted o (yielded ops a.tmps) = true)
    (h : ∀ K : Act → World → Prop, (∀ a w, wpTake P ops Q calls rest a w → K a w) → o.wp P a w K Q) : wpTake P ops Q calls ((i, o) :: rest) a w := by
  unfold wpTake
  simp only [hw, hc]
  exact h _ (fun _ _ h => h)
end
end Go.Proofs.Ytpgdedehhaibmaa

end

section
/- 's[i:]' of a slice that is read. No program in sight. -/
namespace Go.Proofs.Ytpgdedehhaibmaa
open Go Go.RowKit

theorem Addr.add_add (ad : Addr) (i j : Nat) : (ad.add i).add j = ad.add (i + j) := by
  unfold Addr.add
  by_cases hi : i = 0
  · simp [hi]
  · by_cases hj : j = 0
    · simp [hi, hj]
    · simp [hi, hj, Nat.add_assoc]

theorem Rd.from {w : World} {sz : Nat} {p : Option Addr} {n c : Nat} {vs : List Value} (h : Rd w sz (.slice p n c) n vs) (i : Nat) (hi : i ≤ n) :
    Rd w sz (sliced p i n c sz) (n - i) (vs.drop (i * sz)) := by
  obtain ⟨p', c', e, h1, h2, h3, h4, h5⟩ := h
  cases e
  refine ⟨_, _, rfl, by rw [List.length_drop, h1, Nat.sub_mul], by omega, by omega, ?_, ?_⟩
  · intro hp
    split at hp
    · obtain ⟨rfl, rfl⟩ := h4 hp; simp
    · cases p with
      | none => obtain ⟨rfl, rfl⟩ := h4 rfl; simp
      | some a => simp at hp
  · intro ad had j u hu
    rw [List.getElem?_drop] at hu
    split at had
    · next hc =>
      have hlt := (List.getElem?_eq_some_iff.1 hu).1
      rw [h1] at hlt
      have : n = i := by omega
      subst this
      omega
    · cases p with
      | none => simp at had
      | some a =>
        simp only [Option.map_some, Option.some.injEq] at had
        subst had
        rw [Addr.add_add]
        exact h5 a rfl _ u hu

theorem Rd.upto {w : World} {sz : Nat} {p : Option Addr} {n c : Nat} {vs : List Value} (h : Rd w sz (.slice p n c) n vs) (i : Nat) (hi : i ≤ n) :
    Rd w sz (.slice p i c) i (vs.take (i * sz)) := by
  obtain ⟨p', c', e, h1, h2, h3, h4, h5⟩ := h
  cases e
  refine ⟨_, _, rfl, ?_, by omega, by omega, fun e => ?_, ?_⟩
  · rw [List.length_take, h1]
    exact Nat.min_eq_left (Nat.mul_le_mul_right _ hi)
  · obtain ⟨rfl, rfl⟩ := h4 e; exact ⟨by omega, rfl⟩
  · intro ad had j u hu
    refine h5 ad had j u ?_
    rw [List.getElem?_take] at hu
    split at hu
    · exact hu
    · cases hu
theorem Rd.fromTo {w : World} {sz : Nat} {p : Option Addr} {n c : Nat} {vs : List Value} (h : Rd w sz (.slice p n c) n vs) (i k : Nat) (hi : i ≤ k) (hk : k ≤ n) :
    Rd w sz (sliced p i k c sz) (k - i) ((vs.take (k * sz)).drop (i * sz)) := (h.upto k hk).from i hi
theorem sliced_zero (p : Option Addr) (n c sz : Nat) : sliced p 0 n c sz = .slice p n c := by
  unfold sliced
  split
  · simp
  · cases p with
    | none => simp
    | some a => simp [Addr.add]

section
variable {P : Program}
theorem wpList_upto {t e : TypeId} {sz bytes : Nat} (hE : Elem P t e sz bytes) (w : World) (p : Option Addr) (n c i : Nat) (hi : i ≤ n) (hnc : n ≤ c)
    {ops : Array Oper} {rest : List Oper} {o : Oper} {a : Act} {Q : Exit → Act → World → Prop} (hgd : Region.wanted o (yielded ops a.tmps) = true) (s x : Operand) (ho : o.op = .slice t s none (some x) none)
    (hs : a.eval s = .slice p n c) (hx : a.eval x = .int .i64 (i : Int))
    (h : wpList P ops Q rest (a.put o.dst (.slice p i c)) w) : wpList P ops Q (o :: rest) a w := by
  obtain ⟨inf, z, hinf, hz, hsize, hby, hzs⟩ := hE.hi
  refine BigFrame.wpList_want hgd fun K hK => ?_
  have helem : P.elem t = e := by simp [Program.elem, hE.ht]
  have hu : P.underlying t = some (.slice (P.elem t)) := by rw [helem]; exact hE.ht
  have hcell : P.cellsOf (P.elem t) = sz := by rw [helem]; simp [Program.cellsOf, hinf, hsize]
  have hr : (Instr.sliceAt t (.slice p n c) none (some (.int .i64 (i : Int))) none).run P w = .ok (.slice p i c) w := by
    have hsz := run_sizeOf (w := w) (show P.info? (P.elem t) = some inf by rw [helem]; exact hinf)
    rw [run_sliceAt_slice (h := hu), run_slice_h (ht := hu) (h0 := by omega) (h2 := by omega), hsz, hcell]
    simp only [Result.andThen, Int.toNat_natCast, sliced_zero]
  unfold Oper.wp execOp
  simp only [ho, Sem.run_bind, Sem.run_pure, Result.andThen_ok, hs, hx, hr, Option.map_some, Option.map_none]
  exact hK _ _ h
theorem wpList_from {t e : TypeId} {sz bytes : Nat} (hE : Elem P t e sz bytes) (w : World) (v : Value) (n i : Nat) (vs : List Value) (h0 : Rd w sz v n vs) (hi : i ≤ n)
    {ops : Array Oper} {rest : List Oper} {o : Oper} {a : Act} {Q : Exit → Act → World → Prop} (hgd : Region.wanted o (yielded ops a.tmps) = true) (s x : Operand) (ho : o.op = .slice t s (some x) none none)
    (hs : a.eval s = v) (hx : a.eval x = .int .i64 (i : Int))
    (h : ∀ p c, Rd w sz (.slice p (n - i) c) (n - i) (vs.drop (i * sz)) → wpList P ops Q rest (a.put o.dst (.slice p (n - i) c)) w) : wpList P ops Q (o :: rest) a w := by
  obtain ⟨inf, z, hinf, hz, hsize, hby, hzs⟩ := hE.hi
  obtain ⟨p, c, hv⟩ := h0.shape
  subst hv
  refine BigFrame.wpList_want hgd fun K hK => ?_
  have helem : P.elem t = e := by simp [Program.elem, hE.ht]
  have hu : P.underlying t = some (.slice (P.elem t)) := by rw [helem]; exact hE.ht
  have hcell : P.cellsOf (P.elem t) = sz := by rw [helem]; simp [Program.cellsOf, hinf, hsize]
  have hr : (Instr.sliceAt t (.slice p n c) (some (.int .i64 (i : Int))) none none).run P w = .ok (sliced p i n c sz) w := by
    have hsz := run_sizeOf (w := w) (show P.info? (P.elem t) = some inf by rw [helem]; exact hinf)
    rw [run_sliceAt_slice (h := hu), run_slice_l (ht := hu) (h0 := by omega) (h1 := by omega), hsz, hcell]
    simp [Result.andThen]
  unfold Oper.wp execOp
  simp only [ho, Sem.run_bind, Sem.run_pure, Result.andThen_ok, hs, hx, hr, Option.map_some, Option.map_none]
  exact hK _ _ (h _ _ (h0.from i hi))
end
end Go.Proofs.Ytpgdedehhaibmaa

end
