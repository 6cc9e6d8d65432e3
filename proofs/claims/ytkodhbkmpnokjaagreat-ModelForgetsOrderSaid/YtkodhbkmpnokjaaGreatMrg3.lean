/- Ref11A, ModE, Ref12A, LabCs, Ref11C, Take, From, TakeH, TakeR, Normal, in one text. -/
import Derived.Test.YtkodhbkmpnokjaaGreatMrg2
import Derived.Test.YtkodhbkmpnokjaaGreatMrg1
import Derived.RegionTactic
import Derived.Laws.Slices
import Derived.ChangeKeysEq
import Derived.OrdersHeld

section
/- Layer 11: the reference's one and Check. -/
set_option linter.unusedVariables false
set_option maxRecDepth 20000
namespace Go.Proofs.YtkodhbkmpnokjaaGreat
open Go Go.RowKit

set_option maxHeartbeats 1000000 in
theorem ref_one11 (n v : ByteArray) (w : World) (hn : n.size ≤ 9223372036854775807) (hv : v.size ≤ 9223372036854775807) :
    Calls Tryz.prog 56 #[.agg #[.string n, .string v]] w fun e w' => e = .returned (.int .i64 (oneL (n, v) : Int)) ∧ Below w.heap.size w w' := by
  have hB : Below w.heap.size w (w.alloc (.cells #[.string n, .string v] 39)) := (Below.refl _ w).alloc (Nat.le_refl _) _
  have HEm := Lib.hid (empty_size n)
  by_cases h0 : n.size = 0
  · have hE : n.toList.isEmpty = true := by rw [HEm.out]; simpa using h0
    have HO : Hid (oneL (n, v) = 17) := if_pos h0
    rw [HO.out]
    go_enter Tryz.func56, Tryz.ntmps56
    go_wp2_with fail
    go_ret
    exact ⟨rfl, hB⟩
  · have hE : n.toList.isEmpty = false := by rw [HEm.out]; simpa using h0
    by_cases h1 : (65535 : Int) < (n.size : Int)
    · have HO : Hid (oneL (n, v) = 7) := by show _ = _; rw [oneL, if_neg h0, if_pos (Or.inl (by show 65535 < n.size; omega))]
      rw [HO.out]
      clear h0
      go_enter Tryz.func56, Tryz.ntmps56
      go_wp2_with fail
      go_ret
      exact ⟨rfl, hB⟩
    · have hd1 : decide ((65535 : Int) < (n.size : Int)) = false := by simpa using h1
      by_cases h2 : (65535 : Int) < (v.size : Int)
      · have hd2 : decide ((65535 : Int) < (v.size : Int)) = true := by simpa using h2
        have HO : Hid (oneL (n, v) = 7) := by show _ = _; rw [oneL, if_neg h0, if_pos (Or.inr (by show 65535 < v.size; omega))]
        rw [HO.out]
        clear h0
        go_enter Tryz.func56, Tryz.ntmps56
        go_wp2_with fail
        go_ret
        exact ⟨rfl, hB⟩
      · have hd2 : decide ((65535 : Int) < (v.size : Int)) = false := by simpa using h2
        have HO : Hid (oneL (n, v) = 0) := by
          show _ = _
          rw [oneL, if_neg h0, if_neg]
          rintro (e | e)
          · exact h1 (by have : 65535 < n.size := e; omega)
          · exact h2 (by have : 65535 < v.size := e; omega)
        rw [HO.out]
        clear h0
        go_enter Tryz.func56, Tryz.ntmps56
        go_wp2_with fail
        go_ret
        exact ⟨rfl, hB⟩

set_option maxHeartbeats 4000000 in
theorem ref_check11 (lv : Value) (l : List Lab) (w : World) (hl : Rd w 2 lv l.length (labCells l)) (hs : ∀ x ∈ l, x.1.size ≤ 9223372036854775807 ∧ x.2.size ≤ 9223372036854775807) (hn : l.length ≤ 1000000) :
    Calls Tryz.prog 33 #[lv] w fun e w' => e = .returned (.int .i64 (checkL l : Int)) ∧ Below w.heap.size w w' := by
  have HL := Lib.hid hl; have HS := Lib.hid hs
  obtain ⟨pl, cl, hv⟩ := hl.shape
  subst hv
  have hmx : (l.length : Int) ≤ 1000000 := by omega
  clear hl hs hn
  go_enter Tryz.func33, Tryz.ntmps33
  go_wp2_with fail
  go_loopw [3] (fun iv wr => ∃ (i : Nat), i ≤ l.length ∧ iv = .int .i64 (i : Int) ∧ Hid (checkL l = checkFrom (prevN l i) (l.drop i)) ∧ Hid (Below w.heap.size w wr)) (fun iv _ => l.length - (intOf iv).toNat)
  case atStart => exact ⟨0, Nat.zero_le _, rfl, rfl, Below.refl _ _⟩
  case round =>
    obtain ⟨i, hi, rfl, HC, HB⟩ := hrel
    by_cases hlt : i < l.length
    · have hlt' : (i : Int) < (l.length : Int) := by omega
      have him : (i : Int) ≤ 1000000 := by omega
      obtain ⟨⟨n, v⟩, hx⟩ : ∃ x, l[i]? = some x := ⟨_, List.getElem?_eq_getElem hlt⟩
      obtain ⟨b, off, e⟩ := rd2_at HL.out hx
      subst e
      have HCt : Hid (∀ w', Below w.heap.size w w' → w'.cell? ⟨b, off + i * 2, none⟩ = some (.string n) ∧ w'.cell? ⟨b, off + i * 2 + 1, none⟩ = some (.string v)) := fun w' hb => rd2_cell (HL.out.below hb) hx
      obtain ⟨c0, c1⟩ := HCt.out wr HB.out
      have HOn := Lib.hid (fun w' => ref_one11 n v w' (HS.out _ (List.mem_of_getElem? hx)).1 (HS.out _ (List.mem_of_getElem? hx)).2)
      have HSt := Lib.hid (check_step hx HC.out)
      clear hx HC
      go_wp2_with fail
      refine (HOn.out _).mono ?_
      rintro e w2 ⟨rfl, hB⟩
      have HBw := Lib.hid (HB.out.trans (hB.mono HB.out.size))
      clear c0 c1 hB HOn
      obtain ⟨c0, c1⟩ := HCt.out w2 HBw.out
      by_cases he : oneL (n, v) = 0
      · rw [if_neg (not_not_intro he)] at HSt
        rw [he]
        clear he
        by_cases h0 : i = 0
        · subst h0
          have HNx : Hid (checkL l = checkFrom (prevN l (0 + 1)) (l.drop (0 + 1))) := HSt.out
          have hcx : w2.cell? ⟨b, off, none⟩ = some (.string n) := by simpa using c0
          go_wp2_with fail
          go_quiet (fail)
          have HBy : Hid (Below w.heap.size w (w2.drewN nq)) := HBw.out.trans ⟨rfl, rfl, rfl, Nat.le_refl _, fun _ _ => rfl⟩
          have hcx3 : (w2.drewN nq).cell? ⟨b, off, none⟩ = some (.string n) := hcx
          clear hcx c0 c1
          generalize w2.drewN nq = w3 at *
          go_wp2_with fail
          go_quiet (fail)
          have HBz : Hid (Below w.heap.size w (w3.drewN nq)) := HBy.out.trans ⟨rfl, rfl, rfl, Nat.le_refl _, fun _ _ => rfl⟩
          clear hcx3
          generalize w3.drewN nq = w4 at *
          go_wp2_with fail
          go_round
          case rel => exact ⟨1, by omega, by go_num, HNx.out, HBz.out⟩
          case measure => simp [intOf]; omega
        · obtain ⟨q, hq⟩ : ∃ q, i = q + 1 := ⟨i - 1, by omega⟩
          have h0' : (0 : Int) < (i : Int) := by omega
          have hd0 : decide (0 < i) = true := by simp; omega
          have hqi : (i : Int) - 1 = (q : Int) := by omega
          have hq0 : (0 : Int) ≤ (q : Int) := by omega
          have hql : (q : Int) < (l.length : Int) := by omega
          obtain ⟨⟨y, u⟩, hy⟩ : ∃ x, l[q]? = some x := ⟨_, List.getElem?_eq_getElem (by omega)⟩
          obtain ⟨d0, _⟩ := rd2_cell (HL.out.below HBw.out) hy
          have hpv : prevN l i = some y := by rw [prevN, if_neg h0, hq, Nat.add_sub_cancel, hy]; rfl
          rw [hpv] at HSt
          clear hpv hy hq h0 c1
          by_cases hny : n = y
          · subst hny
            have hse : (n.toList == n.toList) = true := by simp
            have HR : Hid (checkL l = 18) := by show _ = _; rw [HSt.out, checkNext, if_pos rfl]
            go_wp2_with fail
            go_quiet (fail)
            have HBy : Hid (Below w.heap.size w (w2.drewN nq)) := HBw.out.trans ⟨rfl, rfl, rfl, Nat.le_refl _, fun _ _ => rfl⟩
            generalize w2.drewN nq = w3 at *
            go_wp2_with fail
            go_ret
            exact ⟨by rw [HR.out]; rfl, HBy.out⟩
          · have hse : (n.toList == y.toList) = false := by rw [eqS]; simpa using hny
            by_cases hlt2 : ltS n y = true
            · have hcmp : Op.bytesLess n.toList y.toList = true := hlt2
              have HR : Hid (checkL l = 16) := by show _ = _; rw [HSt.out, checkNext, if_neg hny, if_pos hlt2]
              clear hny hlt2
              go_wp2_with fail
              go_quiet (fail)
              have HBy : Hid (Below w.heap.size w (w2.drewN nq)) := HBw.out.trans ⟨rfl, rfl, rfl, Nat.le_refl _, fun _ _ => rfl⟩
              have c03 : (w2.drewN nq).cell? ⟨b, off + i * 2, none⟩ = some (.string n) := c0
              have d03 : (w2.drewN nq).cell? ⟨b, off + q * 2, none⟩ = some (.string y) := d0
              clear c0 d0
              generalize w2.drewN nq = w3 at *
              go_wp2_with fail
              go_quiet (fail)
              have HBz : Hid (Below w.heap.size w (w3.drewN nq)) := HBy.out.trans ⟨rfl, rfl, rfl, Nat.le_refl _, fun _ _ => rfl⟩
              generalize w3.drewN nq = w4 at *
              go_wp2_with fail
              go_ret
              exact ⟨by rw [HR.out]; rfl, HBz.out⟩
            · have hcmp0 : ltS n y = false := by simpa using hlt2
              have hcmp : Op.bytesLess n.toList y.toList = false := hcmp0
              have HNx : Hid (checkL l = checkFrom (prevN l (i + 1)) (l.drop (i + 1))) := by show _ = _; rw [HSt.out, checkNext, if_neg hny, if_neg hlt2]
              clear hny hlt2 hcmp0
              go_wp2_with fail
              go_quiet (fail)
              have HBy : Hid (Below w.heap.size w (w2.drewN nq)) := HBw.out.trans ⟨rfl, rfl, rfl, Nat.le_refl _, fun _ _ => rfl⟩
              have c03 : (w2.drewN nq).cell? ⟨b, off + i * 2, none⟩ = some (.string n) := c0
              have d03 : (w2.drewN nq).cell? ⟨b, off + q * 2, none⟩ = some (.string y) := d0
              clear c0 d0
              generalize w2.drewN nq = w3 at *
              go_wp2_with fail
              go_quiet (fail)
              have HBz : Hid (Below w.heap.size w (w3.drewN nq)) := HBy.out.trans ⟨rfl, rfl, rfl, Nat.le_refl _, fun _ _ => rfl⟩
              clear c03 d03
              generalize w3.drewN nq = w4 at *
              go_wp2_with fail
              go_round
              case rel => exact ⟨i + 1, by omega, by go_num, HNx.out, HBz.out⟩
              case measure => simp [intOf]; omega
      · have he1 : ¬ (oneL (n, v) : Int) = 0 := by omega
        have heb : ((oneL (n, v) : Int) == 0) = false := by rw [beq_eq_false_iff_ne]; exact he1
        rw [if_pos he] at HSt
        clear he
        generalize oneL (n, v) = e at *
        go_wp2_with fail
        go_ret
        exact ⟨by rw [HSt.out]; rfl, HBw.out⟩
    · have hlt' : ¬ (i : Int) < (l.length : Int) := by omega
      have HE : Hid (checkL l = 0) := by
        show _ = _
        rw [HC.out, List.drop_of_length_le (by omega)]
        cases prevN l i <;> rfl
      go_wp2_with fail
      go_ret
      exact ⟨by rw [HE.out]; rfl, HB.out⟩
end Go.Proofs.YtkodhbkmpnokjaaGreat

end

section
/- Layer 12: bounds of the answers; what is normalized stays within the bounds. No program in sight. -/
set_option linter.unusedVariables false
namespace Go.Proofs.YtkodhbkmpnokjaaGreat
open Go Go.RowKit

theorem timesFrom_le (l : List Sam) : ∀ t, timesFrom t l ≤ 20 := by
  induction l with
  | nil => intro t; simp [timesFrom]
  | cons s l ih =>
    intro t
    have := ih s.1
    rw [timesFrom]
    repeat' split
    all_goals omega
theorem timesL_le (l : List Sam) : timesL l ≤ 20 := by
  cases l with
  | nil => simp [timesL]
  | cons s l => exact timesFrom_le l s.1
theorem serErr_le (s : Ser) : serErr s ≤ 21 := by
  unfold serErr
  have h1 := checkL_le s.1
  have h2 := timesL_le s.2
  repeat' split
  all_goals omega
theorem checkBFrom_le (b : List Ser) : ∀ p, checkBFrom p b ≤ 21 := by
  induction b with
  | nil => intro p; simp [checkBFrom]
  | cons s b ih =>
    intro p
    have h1 := serErr_le s
    have h2 := ih (some s.1)
    cases p with
    | none =>
      rw [checkBFrom]
      split
      · exact h1
      · exact h2
    | some q =>
      rw [checkBFrom]
      repeat' split
      all_goals first | omega | exact h1 | exact h2
theorem checkB_le (b : List Ser) : checkB b ≤ 21 := checkBFrom_le b none
theorem nErr_le (s : Ser) : nErr s ≤ 21 := by
  unfold nErr
  have h1 := (norm_le s.1).1
  have h2 := timesL_le (sortE ltT s.2)
  repeat' split
  all_goals omega
theorem firstErrB_le (b : List Ser) : firstErrB b ≤ 21 := by
  induction b with
  | nil => simp [firstErrB]
  | cons s b ih => rw [firstErrB]; have := nErr_le s; split <;> omega
theorem normB_le (b : List Ser) : (normB b).1 ≤ 21 := by
  unfold normB
  have := firstErrB_le b
  repeat' split
  all_goals simp only; omega
theorem normB_or (b : List Ser) : (normB b).2 = [] ∨ (normB b).2 = sortE ltB (b.map nSer) := by
  unfold normB
  repeat' split
  all_goals simp
theorem normB_mem {b : List Ser} {s : Ser} (h : s ∈ (normB b).2) : ∃ x ∈ b, s = nSer x := by
  rcases normB_or b with e | e
  · rw [e] at h; cases h
  · rw [e] at h
    obtain ⟨x, hx, rfl⟩ := List.mem_map.1 ((sortE_perm _).mem_iff.1 h)
    exact ⟨x, hx, rfl⟩
theorem samplesB_perm {a b : List Ser} (h : a.Perm b) : samplesB a = samplesB b := (h.map _).sum_nat
theorem samplesB_nSer (b : List Ser) : samplesB (b.map nSer) = samplesB b := by
  induction b with
  | nil => rfl
  | cons s b ih => rw [List.map_cons, samplesB_cons, samplesB_cons, ih]; simp [nSer, sortE_len]
theorem small_nil : Small [] := ⟨by simp, by simp [samplesB], fun s h => by cases h⟩
theorem small_norm {b : List Ser} (h : Small b) : Small (normB b).2 := by
  refine ⟨?_, ?_, fun s hs => ?_⟩
  · rcases normB_or b with e | e <;> rw [e]
    · simp
    · rw [sortE_len, List.length_map]; exact h.len
  · rcases normB_or b with e | e <;> rw [e]
    · simp [samplesB]
    · rw [samplesB_perm (sortE_perm _), samplesB_nSer]; exact h.sam
  · obtain ⟨x, hx, rfl⟩ := normB_mem hs
    have h1 := (norm_le x.1).2
    have h2 := h.lab x hx
    show (normL x.1).2.length ≤ 200
    omega
theorem sized_norm {b : List Ser} (h : Sized b) : Sized (normB b).2 := by
  intro s hs
  obtain ⟨x, hx, rfl⟩ := normB_mem hs
  exact ⟨norm_all (h x hx).1, fun y hy => (h x hx).2 y ((sortE_perm _).mem_iff.1 hy)⟩
end Go.Proofs.YtkodhbkmpnokjaaGreat

end

section
/- Layer 12: the reference's Samples, large, times; Same of layer 9's. -/
set_option linter.unusedVariables false
set_option maxRecDepth 20000
namespace Go.Proofs.YtkodhbkmpnokjaaGreat
open Go Go.RowKit

theorem drewN_two (w : World) (m n : Nat) : (w.drewN m).drewN n = w.drewN (m + n) := World.drewN_drewN ..
theorem samplesB_step {b : List Ser} {i : Nat} {s : Ser} (h : b[i]? = some s) : samplesB (b.take (i + 1)) = samplesB (b.take i) + s.2.length := by
  rw [List.take_add_one, h, samplesB_append]; simp [samplesB]

theorem ref_samples12 (bv : Value) (b : List Ser) (w : World) (h : RdB w bv b) (hn : b.length ≤ 1000000) (hs : samplesB b ≤ 1000000000) :
    Calls Tryz.prog 19 #[bv] w fun e w' => e = .returned (.int .i64 (samplesB b : Int)) ∧ w' = w := by
  have H := Lib.hid h; have HS := Lib.hid hs
  obtain ⟨p, c, hv⟩ := h.shape
  subst hv
  have hmx : (b.length : Int) ≤ 1000000 := by omega
  clear h hs hn
  go_enter Tryz.func19, Tryz.ntmps19
  go_wp2_with fail
  go_loop [3, 4] (fun nv iv => ∃ (i N : Nat), i ≤ b.length ∧ iv = .int .i64 (i : Int) ∧ nv = .int .i64 (N : Int) ∧ Hid (samplesB (b.take i) = N)) (fun _ iv => b.length - (intOf iv).toNat)
  case atStart => exact ⟨0, 0, Nat.zero_le _, rfl, rfl, by show _ = _; simp [samplesB]⟩
  case round =>
    obtain ⟨i, N, hi, rfl, rfl, HN⟩ := hrel
    have him : (i : Int) ≤ 1000000 := by omega
    have hNm : (N : Int) ≤ 1000000000 := by have := HN.out; have := samplesB_take_le b i; have := HS.out; omega
    by_cases hlt : i < b.length
    · have hlt' : (i : Int) < (b.length : Int) := by omega
      obtain ⟨s, hx⟩ : ∃ s, b[i]? = some s := ⟨_, List.getElem?_eq_getElem hlt⟩
      obtain ⟨blk, off, h1, h2, e, c1, c2, hsr⟩ := H.out.at hx
      subst e
      obtain ⟨p2, k2, e⟩ := hsr.2.shape
      simp only at e
      subst e
      have HN2 : Hid (samplesB (b.take (i + 1)) = N + s.2.length) := by show _ = _; rw [samplesB_step hx, HN.out]
      have hsum : (N : Int) + (s.2.length : Int) ≤ 1000000000 := by have := HN2.out; have := samplesB_take_le b (i + 1); have := HS.out; omega
      clear hx hsr c1
      generalize s.2.length = m at *
      go_wp2_with fail
      go_round
      case rel => exact ⟨i + 1, N + m, by omega, by go_num, by go_num, HN2.out⟩
      case measure => simp [intOf]; omega
    · have hlt' : ¬ (i : Int) < (b.length : Int) := by omega
      have HE : Hid (samplesB b = N) := by have := HN.out; rw [List.take_of_length_le (by omega)] at this; exact this
      go_wp2_with fail
      go_ret
      exact ⟨by rw [HE.out]; rfl, rfl⟩

theorem ref_large12 (bv : Value) (b : List Ser) (w : World) (h : RdB w bv b) (hs : Small b) :
    Calls Tryz.prog 32 #[bv] w fun e w' => e = .returned (.bool false) ∧ w' = w := by
  have HS := Lib.hid (ref_samples12 bv b w h (by have := hs.len; omega) (by have := hs.sam; omega))
  obtain ⟨p, c, hv⟩ := h.shape
  subst hv
  have h1 : ¬ (1048576 : Int) < (b.length : Int) := by have := hs.len; omega
  have h2 : ¬ (16777216 : Int) < (samplesB b : Int) := by have := hs.sam; omega
  clear h hs
  generalize samplesB b = N at *
  go_enter Tryz.func32, Tryz.ntmps32
  go_wp2_with fail
  refine HS.out.mono ?_
  rintro e w1 ⟨rfl, rfl⟩
  have hd : decide ((16777216 : Int) < (N : Int)) = false := decide_eq_false (by omega)
  clear h2
  go_wp2_with fail
  go_ret
  exact ⟨by simp, rfl⟩

theorem times_step {l : List Sam} {i : Nat} {x y : Sam} (hx : l[i]? = some x) (hy : l[i + 1]? = some y) (h : timesL l = timesFrom x.1 (l.drop (i + 1))) :
    timesL l = if y.1 = x.1 then 20 else if y.1 < x.1 then 16 else timesFrom y.1 (l.drop (i + 2)) := by
  have hd : l.drop (i + 1) = y :: l.drop (i + 2) := by
    have := List.drop_eq_getElem_cons (List.getElem?_eq_some_iff.1 hy).1
    rw [(List.getElem?_eq_some_iff.1 hy).2] at this
    exact this
  rw [h, hd, timesFrom]

set_option maxHeartbeats 1000000 in
theorem ref_times12 (lv : Value) (l : List Sam) (w : World) (h : Rd w 2 lv l.length (samCells l)) (hn : l.length ≤ 1000000) :
    Calls Tryz.prog 34 #[lv] w fun e w' => e = .returned (.int .i64 (timesL l : Int)) ∧ ∃ q, w' = w.drewN q := by
  have H := Lib.hid h
  obtain ⟨p, c, hv⟩ := h.shape
  subst hv
  have hmx : (l.length : Int) ≤ 1000000 := by omega
  clear h hn
  go_enter Tryz.func34, Tryz.ntmps34
  go_wp2_with fail
  go_loopw [3] (fun iv wr => ∃ (i k q : Nat), i = k + 1 ∧ (i ≤ l.length ∨ k = 0) ∧ iv = .int .i64 (i : Int) ∧ Hid (l = [] ∨ ∃ x, l[k]? = some x ∧ timesL l = timesFrom x.1 (l.drop i)) ∧ wr = w.drewN q) (fun iv _ => l.length + 1 - (intOf iv).toNat)
  case atStart =>
    refine ⟨1, 0, 0, rfl, Or.inr rfl, rfl, ?_, rfl⟩
    show _ ∨ _
    cases l with
    | nil => exact Or.inl rfl
    | cons x l => exact Or.inr ⟨x, rfl, rfl⟩
  case round =>
    obtain ⟨i, k, q, hik, hi, rfl, HP, rfl⟩ := hrel
    by_cases hlt : i < l.length
    · have hlt' : (i : Int) < (l.length : Int) := by omega
      have hi1 : (i : Int) - 1 = (k : Int) := by omega
      have hkl : (k : Int) < (l.length : Int) := by omega
      obtain ⟨x, hx, hT⟩ : ∃ x, l[k]? = some x ∧ timesL l = timesFrom x.1 (l.drop i) := by
        rcases HP.out with e | e
        · rw [e] at hlt; simp at hlt
        · exact e
      obtain ⟨y, hy⟩ : ∃ y, l[i]? = some y := ⟨_, List.getElem?_eq_getElem hlt⟩
      have HSt : Hid (timesL l = if y.1 = x.1 then 20 else if y.1 < x.1 then 16 else timesFrom y.1 (l.drop (i + 1))) := by
        subst hik
        exact times_step hx hy hT
      obtain ⟨b0, o0, e⟩ := rd2_at (samCells_two l ▸ H.out) hx
      subst e
      have cx := (rd2_cell (samCells_two l ▸ H.out) hx).1
      have cy := (rd2_cell (samCells_two l ▸ H.out) hy).1
      have cx' : (w.drewN q).cell? ⟨b0, o0 + k * 2, none⟩ = some (.int .i64 x.1) := cx
      have cy' : (w.drewN q).cell? ⟨b0, o0 + i * 2, none⟩ = some (.int .i64 y.1) := cy
      have HY := Lib.hid hy
      have HIK := Lib.hid hik
      clear hx hT hy HP hik hi cx cy
      obtain ⟨x1, x2⟩ := x
      obtain ⟨y1, y2⟩ := y
      simp only at cx' cy' HSt
      obtain ⟨wq, hwq⟩ : ∃ wq, w.drewN q = wq := ⟨_, rfl⟩
      have HWq := Lib.hid hwq
      rw [hwq] at cx' cy' ⊢
      clear hwq
      by_cases e1 : y1 = x1
      · have HR : Hid (timesL l = 20) := by have := HSt.out; rw [if_pos e1] at this; exact this
        subst e1
        go_wp2_with fail
        go_quiet (fail)
        have HW2 : Hid (∃ q, wq.drewN nq = w.drewN q) := ⟨q + nq, by rw [← HWq.out, drewN_two]⟩
        clear cx' cy'
        generalize wq.drewN nq = w2 at *
        go_wp2_with fail
        go_ret
        exact ⟨by rw [HR.out]; rfl, HW2.out⟩
      · have he1 : (y1 == x1) = false := by rw [beq_eq_false_iff_ne]; exact e1
        have HSt2 : Hid (timesL l = if y1 < x1 then 16 else timesFrom y1 (l.drop (i + 1))) := by have := HSt.out; rw [if_neg e1] at this; exact this
        clear HSt
        go_wp2_with fail
        go_quiet (fail)
        have HW2 : Hid (∃ q, wq.drewN nq = w.drewN q) := ⟨q + nq, by rw [← HWq.out, drewN_two]⟩
        have cx2 : (wq.drewN nq).cell? ⟨b0, o0 + k * 2, none⟩ = some (.int .i64 x1) := cx'
        have cy2 : (wq.drewN nq).cell? ⟨b0, o0 + i * 2, none⟩ = some (.int .i64 y1) := cy'
        clear cx' cy' e1 he1 HWq
        generalize wq.drewN nq = w2 at *
        by_cases e2 : y1 < x1
        · have HR : Hid (timesL l = 16) := by have := HSt2.out; rw [if_pos e2] at this; exact this
          clear HSt2
          go_wp2_with fail
          go_quiet (fail)
          have HW3 : Hid (∃ q, w2.drewN nq = w.drewN q) := by obtain ⟨q, hq⟩ := HW2.out; exact ⟨q + nq, by rw [hq, drewN_two]⟩
          clear cx2 cy2 HW2
          generalize w2.drewN nq = w3 at *
          go_wp2_with fail
          go_ret
          exact ⟨by rw [HR.out]; rfl, HW3.out⟩
        · have HR : Hid (timesL l = timesFrom y1 (l.drop (i + 1))) := by have := HSt2.out; rw [if_neg e2] at this; exact this
          clear HSt2
          go_wp2_with fail
          go_quiet (fail)
          obtain ⟨q3, hq3⟩ : ∃ q, w2.drewN nq = w.drewN q := by obtain ⟨q, hq⟩ := HW2.out; exact ⟨q + nq, by rw [hq, drewN_two]⟩
          have HQ3 := Lib.hid hq3
          clear cx2 cy2 HW2 hq3
          generalize w2.drewN nq = w3 at *
          go_wp2_with fail
          go_roundw
          case rel => exact ⟨i + 1, i, q3, rfl, Or.inl (by omega), by go_num, Or.inr ⟨_, HY.out, HR.out⟩, HQ3.out⟩
          case measure => simp [intOf]; omega
    · have hlt' : ¬ (i : Int) < (l.length : Int) := by omega
      have HE : Hid (timesL l = 0) := by
        rcases HP.out with e | ⟨x, _, e⟩
        · show _ = _; rw [e]; rfl
        · show _ = _; rw [e, List.drop_of_length_le (by omega)]; rfl
      clear hik hi
      obtain ⟨wq, hwq⟩ : ∃ wq, w.drewN q = wq := ⟨_, rfl⟩
      have HWq := Lib.hid hwq
      rw [hwq]
      clear hwq
      go_wp2_with fail
      go_ret
      exact ⟨by rw [HE.out]; rfl, q, HWq.out.symm⟩
end Go.Proofs.YtkodhbkmpnokjaaGreat

end

section
/- Layer 11: the comparison of lists of labels, one step. No program in sight. -/
set_option linter.unusedVariables false
namespace Go.Proofs.YtkodhbkmpnokjaaGreat
open Go Go.RowKit

theorem cmp_step {a b : List Lab} {i : Nat} {x y : Lab} (ha : a[i]? = some x) (hb : b[i]? = some y) (h : cmpLabs a b = cmpLabs (a.drop i) (b.drop i)) :
    cmpLabs a b = if cmpLab x y = 0 then cmpLabs (a.drop (i + 1)) (b.drop (i + 1)) else cmpLab x y := by
  have h1 : a.drop i = x :: a.drop (i + 1) := by rw [List.drop_eq_getElem_cons (List.getElem?_eq_some_iff.1 ha).1, (List.getElem?_eq_some_iff.1 ha).2]
  have h2 : b.drop i = y :: b.drop (i + 1) := by rw [List.drop_eq_getElem_cons (List.getElem?_eq_some_iff.1 hb).1, (List.getElem?_eq_some_iff.1 hb).2]
  rw [h, h1, h2]; rfl
theorem cmp_end {a b : List Lab} {i : Nat} (hi : i ≤ a.length ∧ i ≤ b.length) (he : ¬ (i < a.length ∧ i < b.length)) (h : cmpLabs a b = cmpLabs (a.drop i) (b.drop i)) :
    cmpLabs a b = if a.length < b.length then -1 else if b.length < a.length then 1 else 0 := by
  rw [h]
  by_cases h1 : i < a.length
  · have h2 : ¬ i < b.length := fun e => he ⟨h1, e⟩
    rw [if_neg (by omega), if_pos (by omega), List.drop_of_length_le (l := b) (by omega), List.drop_eq_getElem_cons h1]; rfl
  · rw [List.drop_of_length_le (l := a) (by omega)]
    by_cases h2 : i < b.length
    · rw [if_pos (by omega), List.drop_eq_getElem_cons h2]; rfl
    · rw [if_neg (by omega), if_neg (by omega), List.drop_of_length_le (by omega)]; rfl
end Go.Proofs.YtkodhbkmpnokjaaGreat

end

section
/- Layer 11: the reference's order and Compare. -/
set_option linter.unusedVariables false
set_option maxRecDepth 20000
namespace Go.Proofs.YtkodhbkmpnokjaaGreat
open Go Go.RowKit

theorem ref_order11 (a b : ByteArray) (w : World) :
    Calls Tryz.prog 57 #[.string a, .string b] w fun e w' => e = .returned (.int .i64 (ordS a b)) ∧ w' = w := by
  by_cases h1 : ltS a b = true
  · have hcmp : Op.bytesLess a.toList b.toList = true := h1
    have HO : Hid (ordS a b = -1) := if_pos h1
    rw [HO.out]
    clear h1
    go_enter Tryz.func57, Tryz.ntmps57
    go_wp2_with fail
    go_ret
    exact ⟨rfl, rfl⟩
  · have h1f : ltS a b = false := by simpa using h1
    have hcmp : Op.bytesLess a.toList b.toList = false := h1f
    by_cases h2 : ltS b a = true
    · have hne : a ≠ b := fun e => by subst e; rw [ltS_ok.irr] at h2; cases h2
      have hgt : binOp .gtr 9 (.string a) (.string b) = pure (.bool true) := by simp [binOp, Op.stringOp, hcmp, eqS, hne]
      have HO : Hid (ordS a b = 1) := by show _ = _; rw [ordS, ordB, if_neg h1, if_pos h2]
      rw [HO.out]
      clear h1 h1f h2 hne
      go_enter Tryz.func57, Tryz.ntmps57
      go_wp2_with fail
      go_ret
      exact ⟨rfl, rfl⟩
    · have he : a = b := ltS_ok.tot a b h1f (by simpa using h2)
      have hgt : binOp .gtr 9 (.string a) (.string b) = pure (.bool false) := by simp [binOp, Op.stringOp, he]
      have HO : Hid (ordS a b = 0) := by show _ = _; rw [ordS, ordB, if_neg h1, if_neg h2]
      rw [HO.out]
      clear h1 h1f h2 he
      go_enter Tryz.func57, Tryz.ntmps57
      go_wp2_with fail
      go_ret
      exact ⟨rfl, rfl⟩

theorem ordS_dom (a b : ByteArray) : ordS a b = -1 ∨ ordS a b = 0 ∨ ordS a b = 1 := ordS_ok.dom a b

/-- Nothing but draws. -/
def Drw (w w' : World) : Prop := ∃ q, w' = w.drewN q
theorem Drw.below {w w' : World} (h : Drw w w') : Below w.heap.size w w' := by
  obtain ⟨q, rfl⟩ := h
  exact ⟨rfl, rfl, rfl, Nat.le_refl _, fun _ _ => rfl⟩
theorem Drw.step {w w' : World} (h : Drw w w') (n : Nat) : Drw w (w'.drewN n) := by
  obtain ⟨q, rfl⟩ := h
  exact ⟨q + n, World.drewN_drewN ..⟩

set_option maxHeartbeats 4000000 in
theorem ref_compareD (av bv : Value) (a b : List Lab) (w : World) (ha : Rd w 2 av a.length (labCells a)) (hb : Rd w 2 bv b.length (labCells b)) (hna : a.length ≤ 1000000) (hnb : b.length ≤ 1000000) :
    Calls Tryz.prog 35 #[av, bv] w fun e w' => e = .returned (.int .i64 (cmpLabs a b)) ∧ Drw w w' := by
  have HLa := Lib.hid ha; have HLb := Lib.hid hb
  obtain ⟨pa, ca, hv⟩ := ha.shape
  subst hv
  obtain ⟨pb, cb, hv⟩ := hb.shape
  subst hv
  have hma : (a.length : Int) ≤ 1000000 := by omega
  have hmb : (b.length : Int) ≤ 1000000 := by omega
  clear ha hb hna hnb
  go_enter Tryz.func35, Tryz.ntmps35
  go_wp2_with fail
  go_loopw [5] (fun iv wr => ∃ (i : Nat), i ≤ a.length ∧ i ≤ b.length ∧ iv = .int .i64 (i : Int) ∧ Hid (cmpLabs a b = cmpLabs (a.drop i) (b.drop i)) ∧ Hid (Drw w wr)) (fun iv _ => a.length - (intOf iv).toNat)
  case atStart => exact ⟨0, Nat.zero_le _, Nat.zero_le _, rfl, rfl, ⟨0, rfl⟩⟩
  case round =>
    obtain ⟨i, hia, hib, rfl, HC, HB⟩ := hrel
    have him : (i : Int) ≤ 1000000 := by omega
    by_cases h1 : i < a.length
    · have h1' : (i : Int) < (a.length : Int) := by omega
      by_cases h2 : i < b.length
      · have h2' : (i : Int) < (b.length : Int) := by omega
        obtain ⟨⟨xn, xv⟩, hx⟩ : ∃ x, a[i]? = some x := ⟨_, List.getElem?_eq_getElem h1⟩
        obtain ⟨⟨yn, yv⟩, hy⟩ : ∃ y, b[i]? = some y := ⟨_, List.getElem?_eq_getElem h2⟩
        obtain ⟨ba, oa, e⟩ := rd2_at HLa.out hx
        subst e
        obtain ⟨bb, ob, e⟩ := rd2_at HLb.out hy
        subst e
        obtain ⟨c0, c1⟩ := rd2_cell (HLa.out.below HB.out.below) hx
        obtain ⟨d0, d1⟩ := rd2_cell (HLb.out.below HB.out.below) hy
        have HSt := Lib.hid (cmp_step hx hy HC.out)
        clear hx hy HC
        have HO1 := Lib.hid (fun w' => ref_order11 xn yn w')
        have HO2 := Lib.hid (fun w' => ref_order11 xv yv w')
        go_wp2_with fail
        go_quiet ((go_at_call 57; exact Calls.quiet_of_same (HO1.out _)))
        have HB1 : Hid (Drw w (wr.drewN nq)) := HB.out.step nq
        have c1' : (wr.drewN nq).cell? ⟨ba, oa + i * 2 + 1, none⟩ = some (.string xv) := c1
        have d1' : (wr.drewN nq).cell? ⟨bb, ob + i * 2 + 1, none⟩ = some (.string yv) := d1
        clear c0 c1 d0 d1
        generalize wr.drewN nq = w1 at *
        have HD1 := ordS_dom xn yn
        have HD2 := ordS_dom xv yv
        by_cases e1 : ordS xn yn = 0
        · have HSc : Hid (cmpLabs a b = if ordS xv yv = 0 then cmpLabs (a.drop (i + 1)) (b.drop (i + 1)) else ordS xv yv) := by
            show _ = _
            have hc : cmpLab (xn, xv) (yn, yv) = ordS xv yv := if_pos e1
            rw [HSt.out, hc]
          rw [e1]
          clear e1 HD1
          go_wp2_with fail
          go_quiet ((go_at_call 57; exact Calls.quiet_of_same (HO2.out _)))
          have HB2 : Hid (Drw w (w1.drewN nq)) := HB1.out.step nq
          clear c1' d1'
          generalize w1.drewN nq = w2 at *
          by_cases e2 : ordS xv yv = 0
          · rw [if_pos e2] at HSc
            rw [e2]
            clear e2 HD2
            go_wp2_with fail
            go_round
            case rel => exact ⟨i + 1, by omega, by omega, by go_num, HSc.out, HB2.out⟩
            case measure => simp [intOf]; omega
          · rw [if_neg e2] at HSc
            have heb : ((ordS xv yv) == 0) = false := by rw [beq_eq_false_iff_ne]; exact e2
            have HE2 := Lib.hid e2
            clear HD2
            generalize ordS xv yv = o2 at *
            go_wp2_with fail
            go_ret
            exact ⟨by rw [HSc.out]; rfl, HB2.out⟩
        · have HSc : Hid (cmpLabs a b = ordS xn yn) := by
            show _ = _
            have hc : cmpLab (xn, xv) (yn, yv) = ordS xn yn := if_neg e1
            rw [HSt.out, hc, if_neg e1]
          have heb : ((ordS xn yn) == 0) = false := by rw [beq_eq_false_iff_ne]; exact e1
          clear HD1 HD2
          generalize ordS xn yn = o1 at *
          go_wp2_with fail
          go_ret
          exact ⟨by rw [HSc.out]; rfl, HB1.out⟩
      · have h2' : ¬ (i : Int) < (b.length : Int) := by omega
        have HE := Lib.hid (cmp_end ⟨hia, hib⟩ (fun e => h2 e.2) HC.out)
        have hlt : ¬ (a.length : Int) < (b.length : Int) := by omega
        have hgt : (b.length : Int) < (a.length : Int) := by omega
        rw [if_neg (by omega), if_pos (by omega)] at HE
        clear h2
        go_wp2_with fail
        go_ret
        exact ⟨by rw [HE.out]; rfl, HB.out⟩
    · have h1' : ¬ (i : Int) < (a.length : Int) := by omega
      have HE := Lib.hid (cmp_end ⟨hia, hib⟩ (fun e => h1 e.1) HC.out)
      by_cases hl1 : a.length < b.length
      · have hlt : (a.length : Int) < (b.length : Int) := by omega
        rw [if_pos hl1] at HE
        clear hl1 h1
        go_wp2_with fail
        go_ret
        exact ⟨by rw [HE.out]; rfl, HB.out⟩
      · have hlt : ¬ (a.length : Int) < (b.length : Int) := by omega
        rw [if_neg hl1] at HE
        by_cases hl2 : b.length < a.length
        · have hgt : (b.length : Int) < (a.length : Int) := by omega
          rw [if_pos hl2] at HE
          clear hl1 hl2 h1
          go_wp2_with fail
          go_ret
          exact ⟨by rw [HE.out]; rfl, HB.out⟩
        · have hgt : ¬ (b.length : Int) < (a.length : Int) := by omega
          rw [if_neg hl2] at HE
          clear hl1 hl2 h1
          go_wp2_with fail
          go_ret
          exact ⟨by rw [HE.out]; rfl, HB.out⟩
theorem ref_compare11 (av bv : Value) (a b : List Lab) (w : World) (ha : Rd w 2 av a.length (labCells a)) (hb : Rd w 2 bv b.length (labCells b)) (hna : a.length ≤ 1000000) (hnb : b.length ≤ 1000000) :
    Calls Tryz.prog 35 #[av, bv] w fun e w' => e = .returned (.int .i64 (cmpLabs a b)) ∧ Below w.heap.size w w' :=
  (ref_compareD av bv a b w ha hb hna hnb).mono fun e w' h => ⟨h.1, h.2.below⟩
end Go.Proofs.YtkodhbkmpnokjaaGreat

end

section
/- A region that draws its order, walked in ONE order: all but the calls yield the same in whatever world, so they are taken before a call; the calls come up alone. No program in sight. -/
namespace Go.Proofs.YtkodhbkmpnokjaaGreat
open Go Go.RowKit

/-- The order L is allowed to stand for all: an operation that is no call comes up free; a call comes up alone. -/
def orderB (md : Region.Mode) (ops : Array Oper) (calls : List Nat) : List Nat → Array Bool → Bool
  | [], listed => (Region.ready md ops listed).isEmpty
  | i :: rest, listed => (if calls.contains i then Region.ready md ops listed == [i] else Region.free md ops listed i && (Region.ready md ops listed).contains i) && orderB md ops calls rest (listed.setIfInBounds i true)

/-- The operations of a region in the order L. -/
def taken (l : List Oper) (L : List Nat) : List (Nat × Oper) := L.map fun i => (i, (l[i]?).getD { dst := none, op := .move (.tmp 0), type := 0, pos := "", after := #[], guard := none })

def wpTake (P : Program) (ops : Array Oper) (Q : Exit → Act → World → Prop) (calls : List Nat) : List (Nat × Oper) → Act → World → Prop
  | [], a, w => Q .normal a w
  | (i, o) :: rest, a, w => if Region.wanted o (yielded ops a.tmps) = true then
        (if calls.contains i = true then o.wp P a w (wpTake P ops Q calls rest) Q else ∃ v, (∀ w, (execOp a.eval o).run P w = .ok (.value v) w) ∧ wpTake P ops Q calls rest (a.put o.dst v) w)
      else wpTake P ops Q calls rest (a.put o.dst undef) w

theorem put_defers (a : Act) (d : Option Tmp) (v : Value) : (a.put d v).defers = a.defers := by cases d <;> rfl

section
variable {P : Program} {l : List Oper} {Q : Exit → Act → World → Prop} {md : Region.Mode} {calls : List Nat}

theorem wpAny_of_take (hs : Region.noSelect l.toArray = true) (hQ : ∀ c (a a' : Act) w, a.defers = a'.defers → Q (.panic c) a w → Q (.panic c) a' w) : ∀ (L : List Nat) (listed : Array Bool) (a : Act) (w : World) (fuel : Nat), L.length ≤ fuel →
    (∀ i ∈ L, i < l.length) → orderB md l.toArray calls L listed = true → wpTake P l.toArray Q calls (taken l L) a w → wpAny P md l.toArray Q fuel listed a w
  | [], listed, a, w, fuel, _, _, hB, h => wpAny_done (by simpa [orderB] using hB) h fuel
  | i :: rest, listed, a, w, 0, hf, _, _, _ => by simp at hf
  | i :: rest, listed, a, w, fuel + 1, hf, hl, hB, h => by
    have hf' : rest.length ≤ fuel := by simpa using hf
    have hl' : ∀ j ∈ rest, j < l.length := fun j hj => hl j (by simp [hj])
    have hi : i < l.length := hl i (by simp)
    unfold orderB at hB
    rw [Bool.and_eq_true] at hB
    obtain ⟨h1, h2⟩ := hB
    have ho : l.toArray[i]? = some l[i] := by simp [hi]
    have e : taken l (i :: rest) = (i, l[i]) :: taken l rest := by simp [taken, hi]
    rw [e] at h
    unfold wpTake at h
    generalize l[i] = o at *
    by_cases hc : calls.contains i = true
    · rw [if_pos hc] at h1 h
      have hr : Region.ready md l.toArray listed = [i] := by simpa using h1
      refine wpAny_all hr (by simp) (fun j hj => ?_)
      obtain rfl : j = i := by simpa using hj
      unfold wpOp
      simp only [ho]
      split
      · next hw =>
        rw [if_pos hw] at h
        exact .inl (Oper.wp_mono (fun a w h => wpAny_of_take hs hQ rest _ a w fuel hf' hl' h2 h) h)
      · next hw =>
        rw [if_neg hw] at h
        exact wpAny_of_take hs hQ rest _ _ w fuel hf' hl' h2 h
    · rw [if_neg hc] at h1 h
      rw [Bool.and_eq_true] at h1
      by_cases hw : Region.wanted o (yielded l.toArray a.tmps) = true
      · rw [if_pos hw] at h
        obtain ⟨v, hv, h⟩ := h
        exact wpAny_take ho hs h1.1 h1.2 (fun c a w h => hQ c _ _ w (put_defers _ _ _) h) (.inl ⟨hw, hv⟩) (wpAny_of_take hs hQ rest _ _ w fuel hf' hl' h2 h)
      · rw [if_neg hw] at h
        exact wpAny_take ho hs h1.1 h1.2 (fun c a w h => hQ c _ _ w (put_defers _ _ _) h) (.inr ⟨by simpa using hw, rfl⟩) (wpAny_of_take hs hQ rest _ _ w fuel hf' hl' h2 h)

/-- A region that draws its order, by one order of it. -/
theorem wp_region_take {id : Nat} {a : Act} {w : World} (calls L : List Nat) (hm : P.follows .mixedOrders = true) (hs : Region.noSelect l.toArray = true) (hB : (decide (L.length ≤ l.length) && (L.all (fun i => decide (i < l.length)) && orderB .any l.toArray calls L (Array.replicate l.length false))) = true)
    (hQ : ∀ c (a a' : Act) w, a.defers = a'.defers → Q (.panic c) a w → Q (.panic c) a' w) (h : wpTake P l.toArray Q calls (taken l L) a w.drew) : (Code.region id l.toArray true).wp P Q a w := by
  rw [Bool.and_eq_true, Bool.and_eq_true] at hB
  refine wp_region_any hm (wpAny_of_take hs hQ L _ a _ _ (by simpa using hB.1) (by simpa using hB.2.1) (by simpa using hB.2.2) h)

variable {ops : Array Oper}
theorem take_nil {a : Act} {w : World} (h : Q .normal a w) : wpTake P ops Q calls [] a w := h
theorem take_skip {i : Nat} {o : Oper} {rest : List (Nat × Oper)} {a : Act} {w : World} (hw : Region.wanted o (yielded ops a.tmps) = false) (h : wpTake P ops Q calls rest (a.put o.dst undef) w) : wpTake P ops Q calls ((i, o) :: rest) a w := by
  unfold wpTake
  simp only [hw]
  exact h
theorem take_move {i : Nat} {o : Oper} {rest : List (Nat × Oper)} {a : Act} {w : World} (x : Operand) (hx : o.op = .move x ∨ o.op = .assign x) (hc : calls.contains i = false) (hw : Region.wanted o (yielded ops a.tmps) = true)
    (h : wpTake P ops Q calls rest (a.put o.dst (a.eval x)) w) : wpTake P ops Q calls ((i, o) :: rest) a w := by
  unfold wpTake
  simp only [hw, hc]
  refine ⟨_, fun w => ?_, h⟩
  rcases hx with hx | hx <;> unfold execOp <;> simp [hx]
theorem take_blind {i : Nat} {o : Oper} {rest : List (Nat × Oper)} {a : Act} {w : World} (hc : calls.contains i = false) (hw : Region.wanted o (yielded ops a.tmps) = true)
    (h : ∃ v, (∀ w, (execOp a.eval o).run P w = .ok (.value v) w) ∧ wpTake P ops Q calls rest (a.put o.dst v) w) : wpTake P ops Q calls ((i, o) :: rest) a w := by
  unfold wpTake
  simp only [hw, hc]
  exact h
theorem take_call {i : Nat} {o : Oper} {rest : List (Nat × Oper)} {a : Act} {w : World} (hc : calls.contains i = true) (hw : Region.wanted o (yielded ops a.tmps) = true)
    (h : ∀ K : Act → World → Prop, (∀ a w, wpTake P ops Q calls rest a w → K a w) → o.wp P a w K Q) : wpTake P ops Q calls ((i, o) :: rest) a w := by
  unfold wpTake
  simp only [hw, hc]
  exact h _ (fun _ _ h => h)
end
end Go.Proofs.YtkodhbkmpnokjaaGreat

end

section
/- 's[i:]' of a slice that is read. No program in sight. -/
namespace Go.Proofs.YtkodhbkmpnokjaaGreat
open Go Go.RowKit

theorem Addr.add_add (ad : Addr) (i j : Nat) : (ad.add i).add j = ad.add (i + j) := by
  unfold Addr.add
  by_cases hi : i = 0
  · simp [hi]
  · by_cases hj : j = 0
    · simp [hi, hj]
    · simp [hi, hj, Nat.add_assoc]

theorem Rd.from {w : World} {sz : Nat} {p : Option Addr} {n c : Nat} {vs : List Value} (h : Rd w sz (.slice p n c) n vs) (i : Nat) (hi : i ≤ n) :
    Rd w sz (sliced p i n c sz) (n - i) (vs.drop (i * sz)) := by
  obtain ⟨p', c', e, h1, h2, h3, h4, h5⟩ := h
  cases e
  refine ⟨_, _, rfl, by rw [List.length_drop, h1, Nat.sub_mul], by omega, by omega, ?_, ?_⟩
  · intro hp
    split at hp
    · obtain ⟨rfl, rfl⟩ := h4 hp; simp
    · cases p with
      | none => obtain ⟨rfl, rfl⟩ := h4 rfl; simp
      | some a => simp at hp
  · intro ad had j u hu
    rw [List.getElem?_drop] at hu
    split at had
    · next hc =>
      have hlt := (List.getElem?_eq_some_iff.1 hu).1
      rw [h1] at hlt
      have : n = i := by omega
      subst this
      omega
    · cases p with
      | none => simp at had
      | some a =>
        simp only [Option.map_some, Option.some.injEq] at had
        subst had
        rw [Addr.add_add]
        exact h5 a rfl _ u hu

theorem Rd.upto {w : World} {sz : Nat} {p : Option Addr} {n c : Nat} {vs : List Value} (h : Rd w sz (.slice p n c) n vs) (i : Nat) (hi : i ≤ n) :
    Rd w sz (.slice p i c) i (vs.take (i * sz)) := by
  obtain ⟨p', c', e, h1, h2, h3, h4, h5⟩ := h
  cases e
  refine ⟨_, _, rfl, ?_, by omega, by omega, fun e => ?_, ?_⟩
  · rw [List.length_take, h1]
    exact Nat.min_eq_left (Nat.mul_le_mul_right _ hi)
  · obtain ⟨rfl, rfl⟩ := h4 e; exact ⟨by omega, rfl⟩
  · intro ad had j u hu
    refine h5 ad had j u ?_
    rw [List.getElem?_take] at hu
    split at hu
    · exact hu
    · cases hu
theorem Rd.fromTo {w : World} {sz : Nat} {p : Option Addr} {n c : Nat} {vs : List Value} (h : Rd w sz (.slice p n c) n vs) (i k : Nat) (hi : i ≤ k) (hk : k ≤ n) :
    Rd w sz (sliced p i k c sz) (k - i) ((vs.take (k * sz)).drop (i * sz)) := (h.upto k hk).from i hi
theorem sliced_zero (p : Option Addr) (n c sz : Nat) : sliced p 0 n c sz = .slice p n c := by
  unfold sliced
  split
  · simp
  · cases p with
    | none => simp
    | some a => simp [Addr.add]

section
variable {P : Program}
theorem wpList_upto {t e : TypeId} {sz bytes : Nat} (hE : Elem P t e sz bytes) (w : World) (p : Option Addr) (n c i : Nat) (hi : i ≤ n) (hnc : n ≤ c)
    {ops : Array Oper} {rest : List Oper} {o : Oper} {a : Act} {Q : Exit → Act → World → Prop} (hgd : Region.wanted o (yielded ops a.tmps) = true) (s x : Operand) (ho : o.op = .slice t s none (some x) none)
    (hs : a.eval s = .slice p n c) (hx : a.eval x = .int .i64 (i : Int))
    (h : wpList P ops Q rest (a.put o.dst (.slice p i c)) w) : wpList P ops Q (o :: rest) a w := by
  obtain ⟨inf, z, hinf, hz, hsize, hby, hzs⟩ := hE.hi
  refine BigFrame.wpList_want hgd fun K hK => ?_
  have helem : P.elem t = e := by simp [Program.elem, hE.ht]
  have hu : P.underlying t = some (.slice (P.elem t)) := by rw [helem]; exact hE.ht
  have hcell : P.cellsOf (P.elem t) = sz := by rw [helem]; simp [Program.cellsOf, hinf, hsize]
  have hr : (Instr.sliceAt t (.slice p n c) none (some (.int .i64 (i : Int))) none).run P w = .ok (.slice p i c) w := by
    have hsz := run_sizeOf (w := w) (show P.info? (P.elem t) = some inf by rw [helem]; exact hinf)
    rw [run_sliceAt_slice (h := hu), run_slice_h (ht := hu) (h0 := by omega) (h2 := by omega), hsz, hcell]
    simp only [Result.andThen, Int.toNat_natCast, sliced_zero]
  unfold Oper.wp execOp
  simp only [ho, Sem.run_bind, Sem.run_pure, Result.andThen_ok, hs, hx, hr, Option.map_some, Option.map_none]
  exact hK _ _ h
theorem wpList_from {t e : TypeId} {sz bytes : Nat} (hE : Elem P t e sz bytes) (w : World) (v : Value) (n i : Nat) (vs : List Value) (h0 : Rd w sz v n vs) (hi : i ≤ n)
    {ops : Array Oper} {rest : List Oper} {o : Oper} {a : Act} {Q : Exit → Act → World → Prop} (hgd : Region.wanted o (yielded ops a.tmps) = true) (s x : Operand) (ho : o.op = .slice t s (some x) none none)
    (hs : a.eval s = v) (hx : a.eval x = .int .i64 (i : Int))
    (h : ∀ p c, Rd w sz (.slice p (n - i) c) (n - i) (vs.drop (i * sz)) → wpList P ops Q rest (a.put o.dst (.slice p (n - i) c)) w) : wpList P ops Q (o :: rest) a w := by
  obtain ⟨inf, z, hinf, hz, hsize, hby, hzs⟩ := hE.hi
  obtain ⟨p, c, hv⟩ := h0.shape
  subst hv
  refine BigFrame.wpList_want hgd fun K hK => ?_
  have helem : P.elem t = e := by simp [Program.elem, hE.ht]
  have hu : P.underlying t = some (.slice (P.elem t)) := by rw [helem]; exact hE.ht
  have hcell : P.cellsOf (P.elem t) = sz := by rw [helem]; simp [Program.cellsOf, hinf, hsize]
  have hr : (Instr.sliceAt t (.slice p n c) (some (.int .i64 (i : Int))) none none).run P w = .ok (sliced p i n c sz) w := by
    have hsz := run_sizeOf (w := w) (show P.info? (P.elem t) = some inf by rw [helem]; exact hinf)
    rw [run_sliceAt_slice (h := hu), run_slice_l (ht := hu) (h0 := by omega) (h1 := by omega), hsz, hcell]
    simp [Result.andThen]
  unfold Oper.wp execOp
  simp only [ho, Sem.run_bind, Sem.run_pure, Result.andThen_ok, hs, hx, hr, Option.map_some, Option.map_none]
  exact hK _ _ (h _ _ (h0.from i hi))
end
end Go.Proofs.YtkodhbkmpnokjaaGreat

end

section
/- A region that draws its order, walked in ONE order, where operations beside the calls may read memory: a condition S on the world, which every call keeps, says what they read. No program in sight. -/
namespace Go.Proofs.YtkodhbkmpnokjaaGreat
open Go Go.RowKit

def wpTakeH (P : Program) (ops : Array Oper) (Q : Exit → Act → World → Prop) (calls : List Nat) (S : World → Prop) : List (Nat × Oper) → Act → World → Prop
  | [], a, w => Q .normal a w
  | (i, o) :: rest, a, w => if Region.wanted o (yielded ops a.tmps) = true then
        (if calls.contains i = true then o.wp P a w (fun a' w' => S w' ∧ wpTakeH P ops Q calls S rest a' w') Q else ∃ v, (∀ w, S w → (execOp a.eval o).run P w = .ok (.value v) w) ∧ wpTakeH P ops Q calls S rest (a.put o.dst v) w)
      else wpTakeH P ops Q calls S rest (a.put o.dst undef) w

section
variable {P : Program} {l : List Oper} {Q : Exit → Act → World → Prop} {md : Region.Mode} {calls : List Nat} {S : World → Prop}

theorem wpAnyH_of_take (hs : Region.noSelect l.toArray = true) (hQ : ∀ c (a a' : Act) w, a.defers = a'.defers → Q (.panic c) a w → Q (.panic c) a' w) : ∀ (L : List Nat) (listed : Array Bool) (a : Act) (w : World) (fuel : Nat), L.length ≤ fuel →
    (∀ i ∈ L, i < l.length) → orderB md l.toArray calls L listed = true → S w → wpTakeH P l.toArray Q calls S (taken l L) a w → wpAnyH P md l.toArray Q S fuel listed a w
  | [], listed, a, w, fuel, _, _, hB, _, h => wpAnyH_done (by simpa [orderB] using hB) h fuel
  | i :: rest, listed, a, w, 0, hf, _, _, _, _ => by simp at hf
  | i :: rest, listed, a, w, fuel + 1, hf, hl, hB, hS, h => by
    have hf' : rest.length ≤ fuel := by simpa using hf
    have hl' : ∀ j ∈ rest, j < l.length := fun j hj => hl j (by simp [hj])
    have hi : i < l.length := hl i (by simp)
    unfold orderB at hB
    rw [Bool.and_eq_true] at hB
    obtain ⟨h1, h2⟩ := hB
    have ho : l.toArray[i]? = some l[i] := by simp [hi]
    have e : taken l (i :: rest) = (i, l[i]) :: taken l rest := by simp [taken, hi]
    rw [e] at h
    unfold wpTakeH at h
    generalize l[i] = o at *
    by_cases hc : calls.contains i = true
    · rw [if_pos hc] at h1 h
      have hr : Region.ready md l.toArray listed = [i] := by simpa using h1
      refine wpAnyH_all hr (by simp) (fun j hj => ?_)
      obtain rfl : j = i := by simpa using hj
      unfold wpOp
      simp only [ho]
      split
      · next hw =>
        rw [if_pos hw] at h
        exact .inl (Oper.wp_mono (fun a w h => ⟨h.1, wpAnyH_of_take hs hQ rest _ a w fuel hf' hl' h2 h.1 h.2⟩) h)
      · next hw =>
        rw [if_neg hw] at h
        exact ⟨hS, wpAnyH_of_take hs hQ rest _ _ w fuel hf' hl' h2 hS h⟩
    · rw [if_neg hc] at h1 h
      rw [Bool.and_eq_true] at h1
      by_cases hw : Region.wanted o (yielded l.toArray a.tmps) = true
      · rw [if_pos hw] at h
        obtain ⟨v, hv, h⟩ := h
        exact wpAnyH_take ho hs h1.1 h1.2 (fun c a w h => hQ c _ _ w (put_defers _ _ _) h) (.inl ⟨hw, hv⟩) hS (wpAnyH_of_take hs hQ rest _ _ w fuel hf' hl' h2 hS h)
      · rw [if_neg hw] at h
        exact wpAnyH_take ho hs h1.1 h1.2 (fun c a w h => hQ c _ _ w (put_defers _ _ _) h) (.inr ⟨by simpa using hw, rfl⟩) hS (wpAnyH_of_take hs hQ rest _ _ w fuel hf' hl' h2 hS h)

theorem wp_region_takeH {id : Nat} {a : Act} {w : World} (S : World → Prop) (calls L : List Nat) (hm : P.follows .mixedOrders = true) (hs : Region.noSelect l.toArray = true) (hB : (decide (L.length ≤ l.length) && (L.all (fun i => decide (i < l.length)) && orderB .any l.toArray calls L (Array.replicate l.length false))) = true)
    (hQ : ∀ c (a a' : Act) w, a.defers = a'.defers → Q (.panic c) a w → Q (.panic c) a' w) (hS : S w.drew) (h : wpTakeH P l.toArray Q calls S (taken l L) a w.drew) : (Code.region id l.toArray true).wp P Q a w := by
  rw [Bool.and_eq_true, Bool.and_eq_true] at hB
  refine wp_region_held hm (wpAnyH_of_take hs hQ L _ a _ _ (by simpa using hB.1) (by simpa using hB.2.1) (by simpa using hB.2.2) hS h)

variable {ops : Array Oper}
theorem takeH_nil {a : Act} {w : World} (h : Q .normal a w) : wpTakeH P ops Q calls S [] a w := h
theorem takeH_skip {i : Nat} {o : Oper} {rest : List (Nat × Oper)} {a : Act} {w : World} (hw : Region.wanted o (yielded ops a.tmps) = false) (h : wpTakeH P ops Q calls S rest (a.put o.dst undef) w) : wpTakeH P ops Q calls S ((i, o) :: rest) a w := by
  unfold wpTakeH
  simp only [hw]
  exact h
theorem takeH_blind {i : Nat} {o : Oper} {rest : List (Nat × Oper)} {a : Act} {w : World} (hc : calls.contains i = false) (hw : Region.wanted o (yielded ops a.tmps) = true)
    (h : ∃ v, (∀ w, (execOp a.eval o).run P w = .ok (.value v) w) ∧ wpTakeH P ops Q calls S rest (a.put o.dst v) w) : wpTakeH P ops Q calls S ((i, o) :: rest) a w := by
  unfold wpTakeH
  simp only [hw, hc]
  obtain ⟨v, h1, h2⟩ := h
  exact ⟨v, fun w _ => h1 w, h2⟩
/-- An operation that reads memory: what it yields holds in every world that meets S. -/
theorem takeH_read {i : Nat} {o : Oper} {rest : List (Nat × Oper)} {a : Act} {w : World} (hc : calls.contains i = false) (hw : Region.wanted o (yielded ops a.tmps) = true) (v : Value)
    (h1 : ∀ w, S w → (execOp a.eval o).run P w = .ok (.value v) w) (h : wpTakeH P ops Q calls S rest (a.put o.dst v) w) : wpTakeH P ops Q calls S ((i, o) :: rest) a w := by
  unfold wpTakeH
  simp only [hw, hc]
  exact ⟨v, h1, h⟩
theorem takeH_call {i : Nat} {o : Oper} {rest : List (Nat × Oper)} {a : Act} {w : World} (hc : calls.contains i = true) (hw : Region.wanted o (yielded ops a.tmps) = true)
    (h : ∀ K : Act → World → Prop, (∀ a w, S w → wpTakeH P ops Q calls S rest a w → K a w) → o.wp P a w K Q) : wpTakeH P ops Q calls S ((i, o) :: rest) a w := by
  unfold wpTakeH
  simp only [hw, hc]
  exact h (fun a' w' => S w' ∧ wpTakeH P ops Q calls S rest a' w') (fun _ _ h1 h2 => ⟨h1, h2⟩)
/-- An operation that comes up alone, run in the world at hand. -/
theorem takeH_now {i : Nat} {o : Oper} {rest : List (Nat × Oper)} {a : Act} {w : World} (hc : calls.contains i = true) (hw : Region.wanted o (yielded ops a.tmps) = true) (v : Value) (h1 : (execOp a.eval o).run P w = .ok (.value v) w) (hS : S w)
    (h : wpTakeH P ops Q calls S rest (a.put o.dst v) w) : wpTakeH P ops Q calls S ((i, o) :: rest) a w := by
  unfold wpTakeH
  simp only [hw, hc]
  show o.wp P a w (fun a' w' => S w' ∧ wpTakeH P ops Q calls S rest a' w') Q
  unfold Oper.wp
  rw [h1]
  exact ⟨hS, h⟩

/-- What 's[:i]' yields. -/
theorem exec_upto {t e : TypeId} {sz bytes : Nat} (hE : Elem P t e sz bytes) (w : World) (p : Option Addr) (n c i : Nat) (hi : i ≤ n) (hnc : n ≤ c) {o : Oper} {a : Act} (s x : Operand) (ho : o.op = .slice t s none (some x) none)
    (hs : a.eval s = .slice p n c) (hx : a.eval x = .int .i64 (i : Int)) : (execOp a.eval o).run P w = .ok (.value (.slice p i c)) w := by
  obtain ⟨inf, z, hinf, hz, hsize, hby, hzs⟩ := hE.hi
  have helem : P.elem t = e := by simp [Program.elem, hE.ht]
  have hu : P.underlying t = some (.slice (P.elem t)) := by rw [helem]; exact hE.ht
  have hcell : P.cellsOf (P.elem t) = sz := by rw [helem]; simp [Program.cellsOf, hinf, hsize]
  have hr : (Instr.sliceAt t (.slice p n c) none (some (.int .i64 (i : Int))) none).run P w = .ok (.slice p i c) w := by
    have hsz := run_sizeOf (w := w) (show P.info? (P.elem t) = some inf by rw [helem]; exact hinf)
    rw [run_sliceAt_slice (h := hu), run_slice_h (ht := hu) (h0 := by omega) (h2 := by omega), hsz, hcell]
    simp only [Result.andThen, Int.toNat_natCast, sliced_zero]
  unfold execOp
  simp only [ho, Sem.run_bind, Sem.run_pure, Result.andThen_ok, hs, hx, hr, Option.map_some, Option.map_none]
/-- What 's[i:]' yields. -/
theorem exec_from {t e : TypeId} {sz bytes : Nat} (hE : Elem P t e sz bytes) (w : World) (p : Option Addr) (n c i : Nat) (hi : i ≤ n) {o : Oper} {a : Act} (s x : Operand) (ho : o.op = .slice t s (some x) none none)
    (hs : a.eval s = .slice p n c) (hx : a.eval x = .int .i64 (i : Int)) : (execOp a.eval o).run P w = .ok (.value (sliced p i n c sz)) w := by
  obtain ⟨inf, z, hinf, hz, hsize, hby, hzs⟩ := hE.hi
  have helem : P.elem t = e := by simp [Program.elem, hE.ht]
  have hu : P.underlying t = some (.slice (P.elem t)) := by rw [helem]; exact hE.ht
  have hcell : P.cellsOf (P.elem t) = sz := by rw [helem]; simp [Program.cellsOf, hinf, hsize]
  have hr : (Instr.sliceAt t (.slice p n c) (some (.int .i64 (i : Int))) none none).run P w = .ok (sliced p i n c sz) w := by
    have hsz := run_sizeOf (w := w) (show P.info? (P.elem t) = some inf by rw [helem]; exact hinf)
    rw [run_sliceAt_slice (h := hu), run_slice_l (ht := hu) (h0 := by omega) (h1 := by omega), hsz, hcell]
    simp [Result.andThen]
  unfold execOp
  simp only [ho, Sem.run_bind, Sem.run_pure, Result.andThen_ok, hs, hx, hr, Option.map_some, Option.map_none]
/-- What a conversion yields. -/
theorem exec_convert {o : Oper} {a : Act} {w : World} (src dst : TypeId) (s : Operand) {v u : Value} (ho : o.op = .convert src dst s) (hs : a.eval s = v) (h : (convert src dst v).run P w = .ok u w) : (execOp a.eval o).run P w = .ok (.value u) w := by
  unfold execOp
  simp only [ho, Sem.run_bind, Sem.run_pure, Result.andThen_ok, hs, h]
end
end Go.Proofs.YtkodhbkmpnokjaaGreat

end

section
/- More steps of a drawing region that is walked in one order: loads under the region's condition; operations that make memory, alone. No program in sight. -/
namespace Go.Proofs.YtkodhbkmpnokjaaGreat
open Go Go.RowKit

section
variable {P : Program} {ops : Array Oper} {Q : Exit → Act → World → Prop} {calls : List Nat} {S : World → Prop}
/-- An operation that reads memory. -/
theorem takeH_reads {i : Nat} {o : Oper} {rest : List (Nat × Oper)} {a : Act} {w : World} (hc : calls.contains i = false) (hw : Region.wanted o (yielded ops a.tmps) = true)
    (h : ∃ v, (∀ w, S w → (execOp a.eval o).run P w = .ok (.value v) w) ∧ wpTakeH P ops Q calls S rest (a.put o.dst v) w) : wpTakeH P ops Q calls S ((i, o) :: rest) a w := by
  obtain ⟨v, h1, h2⟩ := h
  exact takeH_read hc hw v h1 h2
/-- An operation that comes up alone and makes memory. -/
theorem takeH_run {i : Nat} {o : Oper} {rest : List (Nat × Oper)} {a : Act} {w : World} (hc : calls.contains i = true) (hw : Region.wanted o (yielded ops a.tmps) = true) (v : Value) (w2 : World) (h1 : (execOp a.eval o).run P w = .ok (.value v) w2) (hS : S w2)
    (h : wpTakeH P ops Q calls S rest (a.put o.dst v) w2) : wpTakeH P ops Q calls S ((i, o) :: rest) a w := by
  unfold wpTakeH
  simp only [hw, hc]
  show o.wp P a w (fun a' w' => S w' ∧ wpTakeH P ops Q calls S rest a' w') Q
  unfold Oper.wp
  rw [h1]
  exact ⟨hS, h⟩
/-- What 's[i:k]' yields. -/
theorem exec_fromTo {t e : TypeId} {sz bytes : Nat} (hE : Elem P t e sz bytes) (w : World) (p : Option Addr) (n c i k : Nat) (hi : i ≤ k) (hk : k ≤ c) {o : Oper} {a : Act} (s x y : Operand) (ho : o.op = .slice t s (some x) (some y) none)
    (hs : a.eval s = .slice p n c) (hx : a.eval x = .int .i64 (i : Int)) (hy : a.eval y = .int .i64 (k : Int)) : (execOp a.eval o).run P w = .ok (.value (sliced p i k c sz)) w := by
  obtain ⟨inf, z, hinf, hz, hsize, hby, hzs⟩ := hE.hi
  have helem : P.elem t = e := by simp [Program.elem, hE.ht]
  have hu : P.underlying t = some (.slice (P.elem t)) := by rw [helem]; exact hE.ht
  have hcell : P.cellsOf (P.elem t) = sz := by rw [helem]; simp [Program.cellsOf, hinf, hsize]
  have hr : (Instr.sliceAt t (.slice p n c) (some (.int .i64 (i : Int))) (some (.int .i64 (k : Int))) none).run P w = .ok (sliced p i k c sz) w := by
    have hsz := run_sizeOf (w := w) (show P.info? (P.elem t) = some inf by rw [helem]; exact hinf)
    rw [run_sliceAt_slice (h := hu), run_slice_lh (ht := hu) (h0 := by omega) (h1 := by omega) (h2 := by omega), hsz, hcell]
    simp [Result.andThen]
  unfold execOp
  simp only [ho, Sem.run_bind, Sem.run_pure, Result.andThen_ok, hs, hx, hy, hr, Option.map_some, Option.map_none]
/-- What 'append(s, x...)' yields. -/
theorem exec_extend {t e : TypeId} {sz bytes : Nat} (hE : Elem P t e sz bytes) (w : World) (v v2 : Value) (n m : Nat) (xs news : List Value) (hown : w.ownsRow 0 e sz v n xs) (hr : Rd w sz v2 m news) (h1 : ∀ u ∈ news, u.oneCell' = true) (hb : (n + m) * bytes ≤ 140737488355328 ∧ n + m ≤ maxLen)
    {o : Oper} {a : Act} (s x : Operand) (ho : o.op = .call { callee := .builtin .append, args := #[s, x], argTypes := #[t, t] }) (hs : a.eval s = v) (hx : a.eval x = v2) :
    ∃ v' w', (execOp a.eval o).run P w = .ok (.value v') w' ∧ w'.ownsRow 0 e sz v' (n + m) (xs ++ news) ∧ Mods (fun k => v.ownBlock = some k) w w' ∧ Fresh w.heap.size v v' := by
  obtain ⟨i, z, hi, hz, hsize, hby, hzs⟩ := hE.hi
  obtain ⟨p, c, rfl, hl, hc1, hc2, hnil, hcell⟩ := hr
  cases p with
  | none =>
    obtain ⟨rfl, rfl⟩ := hnil rfl
    obtain rfl : news = [] := List.eq_nil_of_length_eq_zero (by simpa using hl)
    have hr := run_append_owned_none (P := P) w 0 t o.type e i sz hE.ht hi v n xs hown
    refine ⟨v, w, ?_, by simpa using hown, Mods.refl _ _, Fresh.refl _ _⟩
    unfold execOp
    simp only [ho, resolve, invoke, builtin, Sem.run_bind, Sem.run_pure, Result.andThen_ok, List.map_toArray, List.map_cons, List.map_nil, hs, hx, hr]
  | some ad =>
    obtain ⟨v', w', hr, h2, h3, h4⟩ := run_app (P := P) w t o.type e i z sz bytes hE.ht hi hz hsize hby hzs hE.pos v n xs hown ad m c news hl (hcell ad rfl) h1 hb.2 hb.1
    refine ⟨v', w', ?_, h2, h3, h4⟩
    unfold execOp
    simp only [ho, resolve, invoke, builtin, Sem.run_bind, Sem.run_pure, Result.andThen_ok, List.map_toArray, List.map_cons, List.map_nil, hs, hx, hr]
/-- 'append(s, x...)', alone. -/
theorem takeH_extend {t e : TypeId} {sz bytes : Nat} (hE : Elem P t e sz bytes) {i : Nat} {o : Oper} {rest : List (Nat × Oper)} {a : Act} {w : World} (hc : calls.contains i = true) (hw : Region.wanted o (yielded ops a.tmps) = true) (s x : Operand)
    (ho : o.op = .call { callee := .builtin .append, args := #[s, x], argTypes := #[t, t] }) {v v2 : Value} (hs : a.eval s = v) (hx : a.eval x = v2) {n m : Nat} {xs news : List Value} (hown : w.ownsRow 0 e sz v n xs) (hr : Rd w sz v2 m news) (h1 : ∀ u ∈ news, u.oneCell' = true) (hb : (n + m) * bytes ≤ 140737488355328 ∧ n + m ≤ maxLen)
    (h : ∀ v' w', w'.ownsRow 0 e sz v' (n + m) (xs ++ news) → Mods (fun k => v.ownBlock = some k) w w' → Fresh w.heap.size v v' → S w' ∧ wpTakeH P ops Q calls S rest (a.put o.dst v') w') : wpTakeH P ops Q calls S ((i, o) :: rest) a w := by
  obtain ⟨v', w', hrun, h2, h3, h4⟩ := exec_extend hE w v v2 n m xs news hown hr h1 hb s x ho hs hx
  obtain ⟨h5, h6⟩ := h v' w' h2 h3 h4
  exact takeH_run hc hw v' w' hrun h5 h6
end
end Go.Proofs.YtkodhbkmpnokjaaGreat

end

section
/- A region that ends in no panic. No program in sight. -/
namespace Go.Proofs.YtkodhbkmpnokjaaGreat
open Go Go.RowKit

/-- A stretch that is left in one way alone. -/
theorem wp_normal {P : Program} {c : Code} {Q : Exit → Act → World → Prop} {a : Act} {w : World} (h : c.wp P (fun e a w => e = .normal ∧ Q .normal a w) a w) : c.wp P Q a w := wp_mono h (fun _ _ _ h => h.1 ▸ h.2)
end Go.Proofs.YtkodhbkmpnokjaaGreat

end
