/- Layer 14: slices.Equal of numbers (as at []int64). -/
import Derived.Test.YtdhcfgbnjnidfaaI64s
import Derived.Test.YtdhcfgbnjnidfaaMade
set_option linter.unusedVariables false
namespace Go.Proofs.Ytdhcfgbnjnidfaa
open Go Go.RowKit

set_option maxHeartbeats 1000000 in
/-- slices.Equal. -/
theorem equal_int (a b : Value) (l k : List Int) (w : World) (ha : Rd w 1 a l.length (i64s l)) (hb : Rd w 1 b k.length (i64s k)) :
    Calls Try.prog 13 #[a, b] w fun e w' => e = .returned (.bool (decide (l = k))) ∧ Below w.heap.size w w' := by
  have HA := Lib.hid ha; have HB := Lib.hid hb
  obtain ⟨pa, ca, hv⟩ := ha.shape
  subst hv
  obtain ⟨pb, cb, hv⟩ := hb.shape
  subst hv
  clear ha hb
  by_cases hlen : l.length = k.length
  · have hlb : ((l.length : Int) == (k.length : Int)) = true := by rw [hlen]; simp
    have hli : (l.length : Int) = (k.length : Int) := by omega
    have HLen := Lib.hid hlen
    have HMax : Hid ((l.length : Int) ≤ 9223372036854775807) := by show _ ≤ _; have := HA.out.le; unfold maxLen at this; omega
    rw [← hlen] at HB ⊢
    clear hlen hlb hli
    go_enter Try.func13, Try.ntmps13
    go_wp2_with fail
    go_loopw [13] (fun i wr => ∃ j : Nat, j ≤ l.length ∧ i = .int .i64 (j : Int) ∧ Hid (Below w.heap.size w wr) ∧ Hid (l.take j = k.take j)) (fun i _ => l.length - (intOf i).toNat)
    case atStart => exact ⟨0, by omega, rfl, Below.refl _ _, rfl⟩
    case round =>
      obtain ⟨j, hj, rfl, HBw, HT⟩ := hrel
      by_cases hlt : j < l.length
      · have hlt' : (j : Int) < (l.length : Int) := by omega
        have hmx := HMax.out
        have hltk : j < k.length := by have := HLen.out; omega
        have hca := (HA.out.below HBw.out)
        have hcb := (HB.out.below HBw.out)
        obtain ⟨b1, o1, c1, e, m1, m2, hc1⟩ := hca.at (fun e => by have := congrArg List.length e; rw [i64s_length] at this; simp at this; subst this; simp at hlt)
        simp only [Value.slice.injEq] at e
        obtain ⟨rfl, _, rfl⟩ := e
        obtain ⟨b2, o2, c2, e, m3, m4, hc2⟩ := hcb.at (fun e => by have := congrArg List.length e; rw [i64s_length] at this; simp at this; subst this; simp at hltk)
        simp only [Value.slice.injEq] at e
        obtain ⟨rfl, _, rfl⟩ := e
        have h1 := hc1 j _ (i64s_get l j hlt)
        have h2 := hc2 j _ (i64s_get k j hltk)
        have HS : Hid (l[j] = k[j] → l.take (j + 1) = k.take (j + 1)) := fun e => by rw [List.take_add_one, List.take_add_one, List.getElem?_eq_getElem hlt, List.getElem?_eq_getElem hltk, e, HT.out]
        have HN : Hid (l[j] ≠ k[j] → decide (l = k) = false) := fun e => by
          rw [decide_eq_false_iff_not]
          intro h
          apply e
          have h3 : l[j]? = k[j]? := by rw [h]
          rw [List.getElem?_eq_getElem hlt, List.getElem?_eq_getElem hltk] at h3
          exact Option.some.inj h3
        clear hc1 hc2 hca hcb m1 m2 m3 m4
        generalize l[j] = x at *
        generalize k[j] = y at *
        clear hltk
        by_cases hxy : x = y
        · subst hxy
          have HS2 := Lib.hid (HS.out rfl)
          clear HS HN
          go_wp2_with fail
          go_quiet (fail)
          have HB2 : Hid (Below w.heap.size w (wr.drewN nq)) := HBw.out.trans ⟨rfl, rfl, rfl, Nat.le_refl _, fun _ _ => rfl⟩
          clear h1 h2
          generalize wr.drewN nq = w2 at *
          go_wp2_with fail
          go_round
          case rel => exact ⟨j + 1, by omega, by go_num, HB2.out, HS2.out⟩
          case measure => simp [intOf]; omega
        · have HN2 := Lib.hid (HN.out hxy)
          have hxb : (x == y) = false := by rw [beq_eq_false_iff_ne]; exact hxy
          clear HS HN hxy
          go_wp2_with fail
          go_quiet (fail)
          have HB2 : Hid (Below w.heap.size w (wr.drewN nq)) := HBw.out.trans ⟨rfl, rfl, rfl, Nat.le_refl _, fun _ _ => rfl⟩
          clear h1 h2
          generalize wr.drewN nq = w2 at *
          go_wp2_with fail
          go_ret
          exact ⟨by rw [HN2.out]; rfl, HB2.out⟩
      · obtain rfl : j = l.length := by omega
        have hnl : ¬ (l.length : Int) < (l.length : Int) := by omega
        have HE : Hid (decide (l = k) = true) := by
          show _ = _
          rw [decide_eq_true_iff]
          have h := HT.out
          rw [List.take_length, List.take_of_length_le (by have := HLen.out; omega)] at h
          exact h
        go_wp2_with fail
        go_ret
        exact ⟨by rw [HE.out]; rfl, HBw.out⟩
  · have hlb : ((l.length : Int) == (k.length : Int)) = false := by rw [beq_eq_false_iff_ne]; omega
    have hli : ¬ (l.length : Int) = (k.length : Int) := by omega
    have HE : Hid (decide (l = k) = false) := by
      show _ = _
      rw [decide_eq_false_iff_not]
      intro h; exact hlen (by rw [h])
    clear hlen
    go_enter Try.func13, Try.ntmps13
    go_wp2_with fail
    go_ret
    exact ⟨by rw [HE.out]; rfl, Below.refl _ _⟩
end Go.Proofs.Ytdhcfgbnjnidfaa
