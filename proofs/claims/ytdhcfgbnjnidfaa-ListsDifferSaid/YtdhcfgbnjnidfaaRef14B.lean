/- Layer 14: the reference's Difference and Complement. -/
import Derived.Test.YtdhcfgbnjnidfaaRef14A
set_option linter.unusedVariables false
set_option maxRecDepth 20000
namespace Go.Proofs.Ytdhcfgbnjnidfaa
open Go Go.RowKit

theorem upto_succ (j : Nat) : uptoZ ((j + 1 : Nat) : Int) = uptoZ (j : Int) ++ [(j : Int)] := by
  unfold uptoZ
  simp [List.range_succ]
theorem compl_succ (l : List Int) (j : Nat) : complZ l ((j + 1 : Nat) : Int) = complZ l (j : Int) ++ (if (j : Int) ∈ l then [] else [(j : Int)]) := by
  unfold complZ
  rw [upto_succ, List.filter_append]
  congr 1
  by_cases h : (j : Int) ∈ l
  · simp [h]
  · simp [h]
theorem compl_zero (l : List Int) {n : Int} (h : n ≤ 0) : complZ l n = [] := by
  unfold complZ uptoZ
  have : n.toNat = 0 := by omega
  rw [this]; rfl
theorem compl_len (l : List Int) (j : Nat) : (complZ l (j : Int)).length ≤ j := by
  unfold complZ
  refine Nat.le_trans (List.length_filter_le _ _) ?_
  simp [uptoZ]
theorem diff_take {a b : List Int} {j : Nat} {x : Int} (hx : a[j]? = some x) : diffZ (a.take (j + 1)) b = diffZ (a.take j) b ++ (if x ∈ b then [] else [x]) := by
  unfold diffZ
  rw [List.take_add_one, hx, Option.toList_some, List.filter_append]
  congr 1
  by_cases h : x ∈ b
  · simp [h]
  · simp [h]

set_option maxHeartbeats 4000000 in
theorem ref_compl14 (lv : Value) (l : List Int) (n : Int) (w : World) (hl : Rd w 1 lv l.length (i64s l)) (hn : n ≤ 1000000) (hn0 : -9223372036854775808 ≤ n) :
    Calls Try.prog 21 #[lv, .int .i64 n] w fun e w' => ∃ v, e = .returned v ∧ OwnI w w' (complZ l n) v := by
  have HL := Lib.hid hl
  obtain ⟨pl, cl, hv⟩ := hl.shape
  subst hv
  have HH := Lib.hid (fun (w' : World) (hb : Below w.heap.size w w') (x : Int) => ref_has14 (.slice pl l.length cl) l x w' (hl.below hb))
  clear hl
  go_enter Try.func21, Try.ntmps21
  go_wp2_with fail
  go_loopw [5, 6] (fun vv iv wr => ∃ (j : Nat), (j = 0 ∨ (j : Int) ≤ n) ∧ iv = .int .i64 (j : Int) ∧ Hid (OwnI w wr (complZ l (j : Int)) vv)) (fun _ iv _ => n.toNat - (intOf iv).toNat)
  case atStart => exact ⟨0, Or.inl rfl, rfl, by rw [compl_zero l (by simp)]; exact Own1.nil w⟩
  case round =>
    obtain ⟨j, hj, rfl, HO⟩ := hrel
    have hjm : (j : Int) ≤ 1000000 := by omega
    by_cases hlt : (j : Int) < n
    · have HSn := Lib.hid (compl_succ l j)
      have HLn := Lib.hid (compl_len l j)
      generalize complZ l (j : Int) = d at *
      obtain ⟨pv, cv, hvv⟩ := HO.out.shape
      subst hvv
      obtain ⟨N, hN⟩ : ∃ N, d.length = N := ⟨_, rfl⟩
      have HNe : Hid (d.length = N) := hN
      rw [hN] at HO HLn ⊢
      clear hN hj
      have HC := Lib.hid (HH.out wr HO.out.bel (j : Int))
      by_cases hin : (j : Int) ∈ l
      · rw [if_pos hin, List.append_nil] at HSn
        rw [decide_eq_true hin] at HC
        clear hin
        go_wp2_with fail
        refine HC.out.mono ?_
        rintro en w1 ⟨rfl, hw1⟩
        have HO2 : Hid (OwnI w w1 d (.slice pv N cv)) := by rw [hw1]; exact HO.out
        clear HO HC hw1
        go_wp2_with fail
        go_round
        case rel => exact ⟨j + 1, Or.inr (by omega), by go_num, by rw [HSn.out]; exact HO2.out⟩
        case measure => simp [intOf]; omega
      · rw [if_neg hin] at HSn
        rw [decide_eq_false hin] at HC
        clear hin
        go_wp2_with fail
        refine HC.out.mono ?_
        rintro en w1 ⟨rfl, hw1⟩
        have HO2 : Hid (OwnI w w1 d (.slice pv N cv)) := by rw [hw1]; exact HO.out
        clear HO HC hw1
        have HOv : Hid (w1.ownsRow 0 3 1 (.slice pv N cv) N (i64s d)) := by
          have h := HO2.out.base0
          rw [HNe.out] at h
          exact h
        have HLb : Hid ((N + 1) * 8 ≤ 140737488355328 ∧ N + 1 ≤ maxLen) := by show _ ∧ _; have := HLn.out; unfold maxLen; omega
        go_wp2_with (at_builtin; refine wpList_push elemInt14 _ #[.int .i64 (j : Int)] _ _ _ HOv.out rfl (by simp [Value.oneCell']) HLb.out rfl _ _ rfl rfl rfl ?_)
        intro v1 w2 k1 m1 f1
        have HO3 : Hid (OwnI w w2 (d ++ [(j : Int)]) v1) := HO2.out.pushed (by rw [HNe.out]; exact k1) m1 f1
        clear k1 m1 f1 HOv HO2
        go_wp2_with fail
        go_round
        case rel => exact ⟨j + 1, Or.inr (by omega), by go_num, by rw [HSn.out]; exact HO3.out⟩
        case measure => simp [intOf]; omega
    · have HE : Hid (complZ l (j : Int) = complZ l n) := by
        show _ = _
        rcases hj with rfl | h
        · rw [compl_zero l (by simp), compl_zero l (by simpa using hlt)]
        · have : (j : Int) = n := by omega
          rw [this]
      go_wp2_with fail
      go_ret
      exact ⟨_, rfl, by rw [← HE.out]; exact HO.out⟩

set_option maxHeartbeats 4000000 in
theorem ref_diff14 (av bv : Value) (a b : List Int) (w : World) (ha : Rd w 1 av a.length (i64s a)) (hb : Rd w 1 bv b.length (i64s b)) (hn : a.length ≤ 1000000) :
    Calls Try.prog 19 #[av, bv] w fun e w' => ∃ v, e = .returned v ∧ OwnI w w' (diffZ a b) v := by
  have HA := Lib.hid ha
  have HNa := Lib.hid hn
  obtain ⟨pl, cl, hv⟩ := ha.shape
  subst hv
  obtain ⟨pb, cb, hv⟩ := hb.shape
  subst hv
  have HH := Lib.hid (fun (w' : World) (h : Below w.heap.size w w') (x : Int) => ref_has14 (.slice pb b.length cb) b x w' (hb.below h))
  clear ha hb hn
  go_enter Try.func19, Try.ntmps19
  go_wp2_with fail
  go_loopw [5, 6] (fun vv iv wr => ∃ (j : Nat), j ≤ a.length ∧ iv = .int .i64 (j : Int) ∧ Hid (OwnI w wr (diffZ (a.take j) b) vv)) (fun _ iv _ => a.length - (intOf iv).toNat)
  case atStart => exact ⟨0, Nat.zero_le _, rfl, Own1.nil w⟩
  case round =>
    obtain ⟨j, hj, rfl, HO⟩ := hrel
    have hjm : (j : Int) ≤ 1000000 := by have := HNa.out; omega
    by_cases hlt : j < a.length
    · have hlt' : (j : Int) < (a.length : Int) := by omega
      obtain ⟨x, hx⟩ : ∃ x, a[j]? = some x := ⟨_, List.getElem?_eq_getElem hlt⟩
      obtain ⟨b0, off, e, hcell⟩ := rdI_at HA.out hx
      subst e
      have HSn := Lib.hid (diff_take (b := b) hx)
      have HLn : Hid ((diffZ (a.take j) b).length ≤ 1000000) := by
        refine Nat.le_trans (List.length_filter_le _ _) ?_
        rw [List.length_take]; have := HNa.out; omega
      have c0 := hcell wr HO.out.bel
      have HCl := Lib.hid hcell
      clear hx hcell
      generalize diffZ (a.take j) b = d at *
      obtain ⟨pv, cv, hvv⟩ := HO.out.shape
      subst hvv
      obtain ⟨N, hN⟩ : ∃ N, d.length = N := ⟨_, rfl⟩
      have HNe : Hid (d.length = N) := hN
      rw [hN] at HO HLn ⊢
      clear hN
      have HC := Lib.hid (HH.out wr HO.out.bel x)
      by_cases hin : x ∈ b
      · rw [if_pos hin, List.append_nil] at HSn
        rw [decide_eq_true hin] at HC
        clear hin
        go_wp2_with fail
        refine HC.out.mono ?_
        rintro en w1 ⟨rfl, hw1⟩
        have HO2 : Hid (OwnI w w1 d (.slice pv N cv)) := by rw [hw1]; exact HO.out
        clear HO HC hw1 c0
        go_wp2_with fail
        go_round
        case rel => exact ⟨j + 1, by omega, by go_num, by rw [HSn.out]; exact HO2.out⟩
        case measure => simp [intOf]; omega
      · rw [if_neg hin] at HSn
        rw [decide_eq_false hin] at HC
        clear hin
        go_wp2_with fail
        refine HC.out.mono ?_
        rintro en w1 ⟨rfl, hw1⟩
        have HO2 : Hid (OwnI w w1 d (.slice pv N cv)) := by rw [hw1]; exact HO.out
        have c1 := HCl.out w1 HO2.out.bel
        clear HO HC hw1 c0
        have HOv : Hid (w1.ownsRow 0 3 1 (.slice pv N cv) N (i64s d)) := by
          have h := HO2.out.base0
          rw [HNe.out] at h
          exact h
        have HLb : Hid ((N + 1) * 8 ≤ 140737488355328 ∧ N + 1 ≤ maxLen) := by show _ ∧ _; have := HLn.out; unfold maxLen; omega
        go_wp2_with (at_builtin; refine wpList_push elemInt14 _ #[.int .i64 x] _ _ _ HOv.out rfl (by simp [Value.oneCell']) HLb.out rfl _ _ rfl rfl rfl ?_)
        intro v1 w2 k1 m1 f1
        have HO3 : Hid (OwnI w w2 (d ++ [x]) v1) := HO2.out.pushed (by rw [HNe.out]; exact k1) m1 f1
        clear k1 m1 f1 HOv HO2 c1
        go_wp2_with fail
        go_round
        case rel => exact ⟨j + 1, by omega, by go_num, by rw [HSn.out]; exact HO3.out⟩
        case measure => simp [intOf]; omega
    · have hlt' : ¬ (j : Int) < (a.length : Int) := by omega
      have HE : Hid (diffZ (a.take j) b = diffZ a b) := by show _ = _; rw [List.take_of_length_le (by omega)]
      go_wp2_with fail
      go_ret
      exact ⟨_, rfl, by rw [← HE.out]; exact HO.out⟩
end Go.Proofs.Ytdhcfgbnjnidfaa
