/- Layer 14: the program's IsSorted, Difference and Complement; the library's Clone at ints. -/
import Derived.Test.YtdhcfgbnjnidfaaLsB
import Derived.Test.YtdhcfgbnjnidfaaRef14A
set_option linter.unusedVariables false
set_option maxRecDepth 20000
namespace Go.Proofs.Ytdhcfgbnjnidfaa
open Go Go.RowKit

set_option maxHeartbeats 2000000 in
theorem lists_sorted (lv : Value) (l : List Int) (w : World) (hl : Rd w 1 lv l.length (i64s l)) :
    Calls Try.prog 10 #[lv] w fun e w' => e = .returned (.bool (decide (AscB ltI l))) ∧ Below w.heap.size w w' := by
  have HL := Lib.hid hl
  obtain ⟨pl, cl, hv⟩ := hl.shape
  subst hv
  have hmx : (l.length : Int) ≤ 9223372036854775807 := by have := hl.le; unfold maxLen at this; omega
  clear hl
  go_enter Try.func10, Try.ntmps10
  go_wp2_with fail
  go_loopw [3] (fun iv wr => ∃ (i : Nat), iv = .int .i64 ((i + 1 : Nat) : Int) ∧ (i = 0 ∨ i + 1 ≤ l.length) ∧ Hid (AscB ltI (l.take (i + 1))) ∧ Hid (Below w.heap.size w wr)) (fun iv _ => l.length - (intOf iv).toNat)
  case atStart => exact ⟨0, rfl, Or.inl rfl, (by show AscB _ _; cases l with
    | nil => exact List.Pairwise.nil
    | cons x l => exact List.pairwise_singleton _ _), Below.refl _ _⟩
  case round =>
    obtain ⟨i, rfl, hi, HA, HB⟩ := hrel
    obtain ⟨j, hj⟩ : ∃ j, i + 1 = j := ⟨_, rfl⟩
    have HJ := Lib.hid hj
    have hjm : (j : Int) ≤ 9223372036854775808 := by omega
    rw [hj] at HA ⊢
    clear hj
    by_cases hlt : j < l.length
    · have hlt' : (j : Int) < (l.length : Int) := by omega
      have hji : (j : Int) - 1 = (i : Int) := by have := HJ.out; omega
      have hj0 : (0 : Int) ≤ (i : Int) := by omega
      have hil : (i : Int) < (l.length : Int) := by have := HJ.out; omega
      obtain ⟨y, hy⟩ : ∃ y, l[j]? = some y := ⟨_, List.getElem?_eq_getElem hlt⟩
      obtain ⟨x, hx⟩ : ∃ x, l[i]? = some x := ⟨_, List.getElem?_eq_getElem (by have := HJ.out; omega)⟩
      obtain ⟨b, off, e, hcell⟩ := rdI_at HL.out hy
      subst e
      obtain ⟨b2, off2, e, hcell2⟩ := rdI_at HL.out hx
      simp only [Option.some.injEq, Addr.mk.injEq] at e
      obtain ⟨rfl, rfl, _⟩ := e
      have c0 := hcell wr HB.out
      have c1 := hcell2 wr HB.out
      have HAt : Hid (AscB ltI (l.take (j + 1)) ↔ x < y) := by
        have h := HA.out
        have hyy := hy
        rw [← HJ.out] at h hyy ⊢
        exact asc_take hx hyy h
      clear hx hy hcell hcell2 hi
      by_cases hxy : x < y
      · have hle : ¬ y ≤ x := by omega
        have HA2 := Lib.hid (HAt.out.2 hxy)
        clear hxy
        go_wp2_with fail
        go_quiet (fail)
        have HB2 : Hid (Below w.heap.size w (wr.drewN nq)) := HB.out.trans ⟨rfl, rfl, rfl, Nat.le_refl _, fun _ _ => rfl⟩
        clear c0 c1
        generalize wr.drewN nq = w2 at *
        go_wp2_with fail
        go_round
        case rel => exact ⟨j, by go_num, Or.inr (by omega), HA2.out, HB2.out⟩
        case measure => simp [intOf]; omega
      · have hle : y ≤ x := by omega
        have HD : Hid (decide (AscB ltI l) = false) := decide_eq_false fun h => hxy (HAt.out.1 (List.Pairwise.sublist (List.take_sublist _ _) h))
        clear hxy
        go_wp2_with fail
        go_quiet (fail)
        have HB2 : Hid (Below w.heap.size w (wr.drewN nq)) := HB.out.trans ⟨rfl, rfl, rfl, Nat.le_refl _, fun _ _ => rfl⟩
        clear c0 c1
        generalize wr.drewN nq = w2 at *
        go_wp2_with fail
        go_ret
        exact ⟨by rw [HD.out]; rfl, HB2.out⟩
    · have hlt' : ¬ (j : Int) < (l.length : Int) := by omega
      have HD : Hid (decide (AscB ltI l) = true) := decide_eq_true (by have h := HA.out; rwa [List.take_of_length_le (by omega)] at h)
      go_wp2_with fail
      go_ret
      exact ⟨by rw [HD.out]; rfl, HB.out⟩
set_option maxHeartbeats 400000 in
/-- slices.Clone. -/
theorem clone_int (v : Value) (l : List Int) (w : World) (h : Rd w 1 v l.length (i64s l)) (hn : l.length ≤ 17592186044416) :
    Calls Try.prog 31 #[v] w fun e w' => ∃ r, e = .returned r ∧ Made w w' 3 1 r l.length (i64s l) := by
  have hq : ∀ (w : World) (a : Option Addr) (n c n' c' : Nat), (binOp .eql 22 (.slice a n c) (.slice none n' c')).run Try.prog w = .ok (.bool a.isNone) w := fun w a n c n' c' => Lib.run_eql_slice_nil w _ _ a n c n' c' Try.underlying22
  obtain ⟨p, c, hv⟩ := h.shape
  subst hv
  cases p with
  | none =>
    obtain ⟨_, _, e, hl, _, _, hnil, _⟩ := h
    simp only [Value.slice.injEq] at e
    obtain ⟨rfl, _, rfl⟩ := e
    obtain ⟨h0, rfl⟩ := hnil rfl
    obtain rfl : l = [] := List.eq_nil_of_length_eq_zero h0
    go_enter Try.func31, Try.ntmps31
    go_wp2
    go_ret
    exact ⟨_, rfl, World.ownsRow_nil _ _ _ _, Below.refl _ _⟩
  | some ad =>
    have HB : Hid (Below w.heap.size w (w.alloc (.cells #[] 3))) := (Below.refl _ _).alloc (Nat.le_refl _) _
    have HR := Lib.hid (h.below HB.out)
    clear h
    have HO : Hid ((w.alloc (.cells #[] 3)).ownsRow 0 3 1 (.slice (some ⟨w.heap.size, 0, none⟩) 0 0) 0 []) := World.ownsRow_lit (base := 0) w #[] 0 (Nat.zero_le _) (by simp [maxLen]) (by simp)
    have HL : Hid ((0 + l.length) * 8 ≤ 140737488355328 ∧ 0 + l.length ≤ maxLen) := by show _ ∧ _; unfold maxLen; omega
    go_enter Try.func31, Try.ntmps31
    go_wp2_with (at_builtin; refine wpList_extend elemInt14 _ _ _ _ _ _ _ HO.out HR.out (i64s_one _) HL.out rfl _ _ rfl rfl rfl ?_)
    intro v' w1 hown hmods hfr
    have HM : Hid (Made w w1 3 1 v' l.length (i64s l)) := by
      refine ⟨?_, HB.out.trans (hmods.below HB.out.size (fun k hk e => by simp [Value.ownBlock] at e; omega))⟩
      try simp only [List.nil_append, Nat.zero_add] at hown
      exact owns_rebase hown (fun k hk => by
        rcases hfr k hk with e | e
        · simp [Value.ownBlock] at e; omega
        · have := HB.out.size; omega)
    clear hown hmods hfr
    go_wp2
    go_ret
    exact ⟨_, rfl, HM.out⟩

set_option maxHeartbeats 2000000 in
theorem lists_below (n : Int) (w : World) (hn : n ≤ 1000000) (hn0 : -9223372036854775808 ≤ n) :
    Calls Try.prog 29 #[.int .i64 n] w fun e w' => ∃ v, e = .returned v ∧ OwnI w w' (uptoZ n) v := by
  go_enter Try.func29, Try.ntmps29
  go_wp2_with fail
  go_loopw [3, 6] (fun vv iv wr => ∃ (j : Nat), (j = 0 ∨ (j : Int) ≤ n) ∧ iv = .int .i64 (j : Int) ∧ Hid (OwnI w wr (uptoZ (j : Int)) vv)) (fun _ iv _ => n.toNat - (intOf iv).toNat)
  case atStart => exact ⟨0, Or.inl rfl, rfl, Own1.nil w⟩
  case round =>
    obtain ⟨j, hj, rfl, HO⟩ := hrel
    have hjm : (j : Int) ≤ 1000000 := by omega
    by_cases hlt : (j : Int) < n
    · have HSn : Hid (uptoZ ((j + 1 : Nat) : Int) = uptoZ (j : Int) ++ [(j : Int)]) := by show _ = _; unfold uptoZ; simp [List.range_succ]
      have HLn : Hid ((uptoZ (j : Int)).length = j) := by show _ = _; simp [uptoZ]
      generalize uptoZ (j : Int) = d at *
      obtain ⟨pv, cv, hvv⟩ := HO.out.shape
      subst hvv
      rw [HLn.out] at HO ⊢
      clear hj
      have HOv : Hid (wr.ownsRow 0 3 1 (.slice pv j cv) j (i64s d)) := by
        have h := HO.out.base0
        rw [HLn.out] at h
        exact h
      have HLb : Hid ((j + 1) * 8 ≤ 140737488355328 ∧ j + 1 ≤ maxLen) := by show _ ∧ _; unfold maxLen; omega
      go_wp2_with (at_builtin; refine wpList_push elemInt14 _ #[.int .i64 (j : Int)] _ _ _ HOv.out rfl (by simp [Value.oneCell']) HLb.out rfl _ _ rfl rfl rfl ?_)
      intro v1 w2 k1 m1 f1
      have HO3 : Hid (OwnI w w2 (d ++ [(j : Int)]) v1) := HO.out.pushed (by rw [HLn.out]; exact k1) m1 f1
      clear k1 m1 f1 HOv HO
      go_wp2_with fail
      go_round
      case rel => exact ⟨j + 1, Or.inr (by omega), by go_num, by rw [HSn.out]; exact HO3.out⟩
      case measure => simp [intOf]; omega
    · have HE : Hid (uptoZ (j : Int) = uptoZ n) := by
        show _ = _
        unfold uptoZ
        have : (j : Int).toNat = n.toNat := by omega
        rw [this]
      go_wp2_with fail
      go_ret
      refine ⟨_, rfl, ?_⟩
      rw [← HE.out]
      exact HO.out

theorem lists_diff (av bv : Value) (a b : List Int) (w : World) (ha : Rd w 1 av a.length (i64s a)) (hb : Rd w 1 bv b.length (i64s b)) (oa : AscB ltI a) (ob : AscB ltI b) (hn : a.length + b.length ≤ 1000000) :
    Calls Try.prog 18 #[av, bv] w fun e w' => ∃ v, e = .returned v ∧ OwnI w w' (diffZ a b) v := by
  have HC := Lib.hid (choose_any av bv a b 1 (Or.inl rfl) w ha hb hn)
  rw [selZ_first oa ob] at HC
  clear ha hb oa ob hn
  go_enter Try.func18, Try.ntmps18
  go_wp2_with fail
  refine HC.out.mono ?_
  rintro e w1 ⟨v, rfl, hO⟩
  have HO := Lib.hid hO
  clear hO HC
  go_wp2_with fail
  go_ret
  exact ⟨_, rfl, HO.out⟩

theorem lists_compl (lv : Value) (l : List Int) (n : Int) (w : World) (hl : Rd w 1 lv l.length (i64s l)) (ol : AscB ltI l) (hs : l.length ≤ 1000) (hn0 : -9223372036854775808 ≤ n) (hn : n ≤ 1000) :
    Calls Try.prog 20 #[lv, .int .i64 n] w fun e w' => ∃ v, e = .returned v ∧ OwnI w w' (complZ l n) v := by
  have HB := Lib.hid (lists_below n w (by omega) hn0)
  have HL := Lib.hid hl; have HA := Lib.hid ol
  have HS : Hid ((uptoZ n).length + l.length ≤ 1000000) := by show _ ≤ _; rw [uptoZ_len]; omega
  clear hl ol hs hn hn0
  go_enter Try.func20, Try.ntmps20
  go_wp2_with fail
  refine HB.out.mono ?_
  rintro e w1 ⟨u, rfl, hO⟩
  have HBl := Lib.hid hO.bel
  have HD := Lib.hid (lists_diff u lv (uptoZ n) l w1 hO.rd (HL.out.below hO.bel) (upto_asc n) HA.out HS.out)
  rw [compl_diff] at HD
  clear hO HB
  go_wp2_with fail
  refine HD.out.mono ?_
  rintro e w2 ⟨v, rfl, hO⟩
  have HO : Hid (OwnI w w2 (complZ l n) v) := ⟨owns_rebase hO.row (fun k hk => by have h1 := (hO.row.lt k hk).1; have h2 := HBl.out.size; omega), HBl.out.trans (hO.bel.mono HBl.out.size)⟩
  clear hO HD
  go_wp2_with fail
  go_ret
  exact ⟨_, rfl, HO.out⟩
end Go.Proofs.Ytdhcfgbnjnidfaa
