/- Layer 14: the reference's Intersect. -/
import Derived.Test.YtdhcfgbnjnidfaaRef14D
set_option linter.unusedVariables false
set_option maxRecDepth 20000
namespace Go.Proofs.Ytdhcfgbnjnidfaa
open Go Go.RowKit

def inAll (r : List (List Int)) (x : Int) : Bool := decide (∀ y ∈ r, x ∈ y)
theorem inter_cons (a : List Int) (r : List (List Int)) : interZ (a :: r) = a.filter (inAll r) := rfl
theorem inAll_step {r : List (List Int)} {k : Nat} {y : List Int} (h : r[k]? = some y) (x : Int) : inAll (r.take (k + 1)) x = (inAll (r.take k) x && decide (x ∈ y)) := by
  unfold inAll
  rw [List.take_add_one, h, Option.toList_some]
  rw [Bool.eq_iff_iff]
  simp only [decide_eq_true_eq, Bool.and_eq_true, List.mem_append, List.mem_singleton]
  exact ⟨fun g => ⟨fun z hz => g z (Or.inl hz), g y (Or.inr rfl)⟩, fun g z hz => hz.elim (g.1 z) (fun e => e ▸ g.2)⟩
theorem filter_step {a : List Int} {i : Nat} {x : Int} (h : a[i]? = some x) (p : Int → Bool) : (a.take (i + 1)).filter p = (a.take i).filter p ++ (if p x = true then [x] else []) := by
  rw [List.take_add_one, h, Option.toList_some, List.filter_append]
  congr 1
  by_cases hp : p x = true
  · simp [hp]
  · simp [hp]

set_option maxHeartbeats 4000000 in
theorem ref_inter14 (mv : Value) (m : List (List Int)) (w : World) (hm : RdLL w mv m) (hn : ∀ l ∈ m, l.length ≤ 100000) (hk : m.length ≤ 100000) :
    Calls Try.prog 15 #[mv] w fun e w' => ∃ v, e = .returned v ∧ OwnI w w' (interZ m) v := by
  have HM := Lib.hid hm
  have HNn := Lib.hid hn
  have HK := Lib.hid hk
  obtain ⟨pm, cm, hv⟩ := hm.shape
  subst hv
  clear hm hn hk
  have hcase : m = [] ∨ ∃ a r, m = a :: r := by
    cases m with
    | nil => exact Or.inl rfl
    | cons a r => exact Or.inr ⟨a, r, rfl⟩
  rcases hcase with hmm | ⟨a, r, hmm⟩
  · have hm0 : m.length = 0 := by rw [hmm]; rfl
    have HE : Hid (interZ m = []) := by rw [hmm]; rfl
    rw [hm0, HE.out]
    clear HM HNn HK hmm hm0
    go_enter Try.func15, Try.ntmps15
    go_wp2_with fail
    go_ret
    exact ⟨_, rfl, Own1.nil w⟩
  · have hLm : m.length = r.length + 1 := by rw [hmm]; rfl
    have HL := Lib.hid hLm
    have h0 : m[0]? = some a := by rw [hmm]; rfl
    have HI : Hid (∀ k : Nat, m[k + 1]? = r[k]?) := fun k => by rw [hmm]; rfl
    have HE : Hid (interZ m = a.filter (inAll r)) := by rw [hmm]; rfl
    have HNa : Hid (a.length ≤ 100000) := HNn.out a (by rw [hmm]; simp)
    rw [HE.out]
    obtain ⟨blk, off, pa, ca, e, hal⟩ := HM.out.always h0
    subst e
    have HA : Hid (∀ w', Below w.heap.size w w' → w'.cell? ⟨blk, off, none⟩ = some (.slice pa a.length ca) ∧ Rd w' 1 (.slice pa a.length ca) a.length (i64s a)) := hal
    have hne : ((m.length : Int) == 0) = false := by rw [beq_eq_false_iff_ne]; omega
    have hne' : ¬ (m.length : Int) = 0 := by omega
    have hpos : (0 : Int) < (m.length : Int) := by omega
    clear hLm h0 hmm hal
    go_enter Try.func15, Try.ntmps15
    go_wp2_with fail
    go_loopw [3, 4] (fun vv iv wr => ∃ (i : Nat), i ≤ a.length ∧ iv = .int .i64 (i : Int) ∧ Hid (OwnI w wr ((a.take i).filter (inAll r)) vv)) (fun _ iv _ => a.length - (intOf iv).toNat)
    case atStart => exact ⟨0, Nat.zero_le _, rfl, Own1.nil w⟩
    case round =>
      obtain ⟨i, hi, rfl, HO⟩ := hrel
      have him : (i : Int) ≤ 100000 := by have := HNa.out; omega
      obtain ⟨c0, hRa⟩ := HA.out wr HO.out.bel
      by_cases hlt : i < a.length
      · have hlt' : (i : Int) < (a.length : Int) := by omega
        obtain ⟨x, hx⟩ : ∃ x, a[i]? = some x := ⟨_, List.getElem?_eq_getElem hlt⟩
        obtain ⟨ba, oa, e, _⟩ := rdI_at hRa hx
        subst e
        have HX : Hid (∀ w', Below w.heap.size w w' → w'.cell? ⟨ba, oa + i, none⟩ = some (.int .i64 x)) := fun w' hb => by
          obtain ⟨b2, o2, e, hc⟩ := rdI_at (HA.out w' hb).2 hx
          simp only [Option.some.injEq, Addr.mk.injEq] at e
          obtain ⟨rfl, rfl, _⟩ := e
          exact hc w' (Below.refl _ _)
        have HSt := Lib.hid (filter_step hx (inAll r))
        have HB : Hid (((a.take i).filter (inAll r)).length ≤ 100000) := by
          refine Nat.le_trans (List.length_filter_le _ _) ?_
          rw [List.length_take]; have := HNa.out; omega
        clear hx hRa
        generalize (a.take i).filter (inAll r) = d at *
        obtain ⟨pv, cv, hvv⟩ := HO.out.shape
        subst hvv
        obtain ⟨N, hN⟩ : ∃ N, d.length = N := ⟨_, rfl⟩
        have HNe : Hid (d.length = N) := hN
        rw [hN] at HO HB ⊢
        clear hN
        go_wp2_with fail
        go_loopw [5, 6] (fun bv kv wr2 => ∃ (j k : Nat) (b : Bool), Hid (k + 1 = j ∧ k ≤ r.length) ∧ kv = .int .i64 (j : Int) ∧ bv = .bool b ∧ Hid (b = inAll (r.take k) x) ∧ Hid (OwnI w wr2 d (.slice pv N cv))) (fun _ kv _ => m.length - (intOf kv).toNat)
        case atStart => exact ⟨1, 0, true, ⟨rfl, Nat.zero_le _⟩, rfl, rfl, by simp [inAll, Hid], HO.out⟩
        case round =>
          obtain ⟨j, k, b, HJ, rfl, rfl, HBk, HO2⟩ := hrel
          obtain ⟨c1, _⟩ := HA.out wr HO2.out.bel
          have c2 := HX.out wr HO2.out.bel
          have hjm : (j : Int) ≤ 100001 := by have := HJ.out; have := HL.out; have := HK.out; omega
          by_cases hjl : j < m.length
          · have hjl' : (j : Int) < (m.length : Int) := by omega
            obtain ⟨y, hy⟩ : ∃ y, r[k]? = some y := ⟨_, List.getElem?_eq_getElem (by have := HJ.out; have := HL.out; omega)⟩
            have hmy : m[j]? = some y := by rw [← HJ.out.1, HI.out]; exact hy
            obtain ⟨blk2, off2, py, cy, e, hal⟩ := HM.out.always hmy
            simp only [Option.some.injEq, Addr.mk.injEq] at e
            obtain ⟨rfl, rfl, _⟩ := e
            obtain ⟨c3, _⟩ := hal wr HO2.out.bel
            have HC : Hid (∀ n, Calls Try.prog 26 #[.slice py y.length cy, .int .i64 x] (wr.drewN n) fun e w' => e = .returned (.bool (decide (x ∈ y))) ∧ w' = wr.drewN n) := fun n =>
              ref_has14 _ y x _ (hal _ (HO2.out.drewN n).bel).2
            have HS := Lib.hid (inAll_step hy x)
            have hkr := (List.getElem?_eq_some_iff.1 hy).1
            have HKr := Lib.hid hkr
            clear hy hmy hal hkr
            by_cases hin : x ∈ y
            · rw [decide_eq_true hin] at HC HS
              clear hin
              go_wp2_with fail
              go_quiet ((go_at_call 26; exact Calls.quiet_of_same (HC.out _)))
              have HO3 := Lib.hid (HO2.out.drewN nq)
              clear c1 c2 c3 HO2 HC
              generalize wr.drewN nq = w3 at *
              go_wp2_with fail
              go_round
              case rel => exact ⟨j + 1, k + 1, b, ⟨by have := HJ.out; omega, HKr.out⟩, by go_num, rfl, by show b = _; rw [HS.out, ← HBk.out, Bool.and_true], HO3.out⟩
              case measure => simp [intOf]; omega
            · rw [decide_eq_false hin] at HC HS
              clear hin
              go_wp2_with fail
              go_quiet ((go_at_call 26; exact Calls.quiet_of_same (HC.out _)))
              have HO3 := Lib.hid (HO2.out.drewN nq)
              clear c1 c2 c3 HO2 HC
              generalize wr.drewN nq = w3 at *
              go_wp2_with fail
              go_round
              case rel => exact ⟨j + 1, k + 1, false, ⟨by have := HJ.out; omega, HKr.out⟩, by go_num, rfl, by show false = _; rw [HS.out, Bool.and_false], HO3.out⟩
              case measure => simp [intOf]; omega
          · have hjl' : ¬ (j : Int) < (m.length : Int) := by omega
            have HT : Hid (b = inAll r x) := by
              show _ = _
              rw [HBk.out, List.take_of_length_le (by have := HJ.out; have := HL.out; omega)]
            clear HBk
            cases b with
            | true =>
              rw [← HT.out, if_pos rfl] at HSt
              have HOv : Hid (wr.ownsRow 0 3 1 (.slice pv N cv) N (i64s d)) := by
                have h := HO2.out.base0
                rw [HNe.out] at h
                exact h
              have HLb : Hid ((N + 1) * 8 ≤ 140737488355328 ∧ N + 1 ≤ maxLen) := by show _ ∧ _; have := HB.out; unfold maxLen; omega
              go_wp2_with (at_builtin; refine wpList_push elemInt14 _ #[.int .i64 x] _ _ _ HOv.out rfl (by simp [Value.oneCell']) HLb.out rfl _ _ rfl rfl rfl ?_)
              intro v1 w2 k1 m1 f1
              have HO3 : Hid (OwnI w w2 (d ++ [x]) v1) := HO2.out.pushed (by rw [HNe.out]; exact k1) m1 f1
              clear k1 m1 f1 HOv HO2 c1 c2
              go_wp2_with fail
              go_round
              case rel => exact ⟨i + 1, by omega, by go_num, by rw [HSt.out]; exact HO3.out⟩
              case measure => simp [intOf]; omega
            | false =>
              rw [← HT.out, if_neg (by decide), List.append_nil] at HSt
              go_wp2_with fail
              go_round
              case rel => exact ⟨i + 1, by omega, by go_num, by rw [HSt.out]; exact HO2.out⟩
              case measure => simp [intOf]; omega
      · have hlt' : ¬ (i : Int) < (a.length : Int) := by omega
        have HT : Hid (a.take i = a) := List.take_of_length_le (by omega)
        clear hRa
        go_wp2_with fail
        go_ret
        exact ⟨_, rfl, by rw [HT.out] at HO; exact HO.out⟩
end Go.Proofs.Ytdhcfgbnjnidfaa
