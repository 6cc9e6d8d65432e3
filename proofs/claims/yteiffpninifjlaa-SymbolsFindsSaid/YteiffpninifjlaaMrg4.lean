/- SymP, Ref10A, First, Ref10B, Bytes, Ref02, in one text. -/
import Derived.Test.YteiffpninifjlaaMrg1
import Derived.Test.YteiffpninifjlaaMrg3
import Derived.Test.YteiffpninifjlaaMrg2
import Derived.WalkSpells
import Derived.WalkLawsBesides
import Derived.Outline
import Derived.Lib.Hide
import Derived.Deep.QuietTactic
import Derived.BigQuiet
import Derived.StillTailTactics
import Derived.Laws.IdiomStrings
import Derived.Lib.SlBytesConst

section
/- Layer 10: tables of strings, their encoding and its reading, as functions on lists. No program in sight. -/
set_option linter.unusedVariables false
namespace Go.Proofs.Yteiffpninifjlaa
open Go Go.RowKit

instance {α : Type} (lt : α → α → Bool) (l : List α) : Decidable (AscB lt l) := inferInstanceAs (Decidable (List.Pairwise _ _))
def tabS (l : List ByteArray) : List ByteArray := tabB ltS l
def Fits (t : List ByteArray) : Prop := ∀ s ∈ t, s.size ≤ 65535
instance (t : List ByteArray) : Decidable (Fits t) := inferInstanceAs (Decidable (∀ s ∈ t, _))
def encSy (t : List ByteArray) : List Nat := groups t.length ++ t.flatMap fun s => bytesOf (numsOf s)
/-- What Encode gives. -/
def encSyR (t : List ByteArray) : Nat × List Nat := if ¬ Fits t then (7, []) else if ¬ AscB ltS t then (16, []) else (0, encSy t)
def lastLt (acc : List ByteArray) (x : ByteArray) : Bool := match acc.getLast? with
  | none => true
  | some y => ltS y x
def decSyF (b : List Nat) : Nat → Nat → List ByteArray → Nat × List ByteArray
  | 0, a, acc => if a < b.length then (4, []) else (0, acc)
  | k + 1, a, acc => match outString b a 65535 with
    | .bad e => (e, [])
    | .ok s to => if lastLt acc (strOf s) then decSyF b k to (acc ++ [strOf s]) else (16, [])
/-- What Decode gives. -/
def decSy (b : List Nat) : Nat × List ByteArray := match readAt b 0 with
  | (n, a, 0) => if b.length - a.toNat < n then (3, []) else decSyF b n a.toNat []
  | (_, _, e + 1) => (e + 1, [])

theorem outString_inv {B : List Nat} (hB : ∀ c ∈ B, c < 256) {a : Nat} (ha : a ≤ B.length) {most : Int} {s : List Nat} {to : Nat} (h : outString B a most = .ok s to) :
    B.drop a = bytesOf s ++ B.drop to ∧ (s.length : Int) ≤ most ∧ to ≤ B.length ∧ (∀ c ∈ s, c < 256) ∧ a < to := by
  rcases outString_cases hB ha most with ⟨e, _, _, hr⟩ | ⟨x, t, hr, hat, htl, hx, ho⟩
  · rw [hr] at h; cases h
  · rw [ho] at h
    split at h
    · cases h
    · next h1 =>
      split at h
      · cases h
      · next h2 =>
        cases h
        rcases readAt_cases hB ha with ⟨e, he, hr'⟩ | ⟨y, n, hr', hn, hin, hg, hy⟩
        · rw [hr] at hr'; simp only [Prod.mk.injEq] at hr'; omega
        · rw [hr] at hr'
          simp only [Prod.mk.injEq] at hr'
          obtain ⟨rfl, e2, _⟩ := hr'
          obtain rfl : t = a + n := by omega
          have hlen : ((B.drop (a + n)).take x).length = x := by rw [List.length_take, List.length_drop]; omega
          refine ⟨?_, by rw [hlen]; omega, by omega, fun c hc => hB c (List.mem_of_mem_drop (List.mem_of_mem_take hc)), by omega⟩
          rw [bytesOf, hlen, List.append_assoc, ← hg]
          have e3 : List.take x (B.drop (a + n)) ++ B.drop (a + n + x) = B.drop (a + n) := by
            rw [show B.drop (a + n + x) = (B.drop (a + n)).drop x from by rw [List.drop_drop]]; exact List.take_append_drop _ _
          have e4 : (B.take (a + n)).drop a ++ B.drop (a + n) = B.drop a := by
            have : B.drop a = (B.take (a + n) ++ B.drop (a + n)).drop a := by rw [List.take_append_drop]
            rw [this, List.drop_append_of_le_length (by rw [List.length_take]; omega)]
          rw [e3, e4]
theorem strOf_size' (l : List Nat) : (strOf l).size = l.length := by simp [strOf, strOfNums, ByteArray.size]

theorem bytesOf_pos (s : List Nat) : 1 ≤ (bytesOf s).length := by rw [bytesOf_length]; have := groups_pos s.length; omega
theorem flat_pos (t : List ByteArray) : t.length ≤ (t.flatMap fun s => bytesOf (numsOf s)).length := by
  induction t with
  | nil => exact Nat.le_refl _
  | cons s t ih => rw [List.flatMap_cons, List.length_append, List.length_cons]; have := bytesOf_pos (numsOf s); omega
theorem lastLt_of {acc : List ByteArray} {x : ByteArray} {t : List ByteArray} (h : AscB ltS (acc ++ x :: t)) : lastLt acc x = true := by
  unfold lastLt
  split
  · rfl
  · next y hy => exact (List.pairwise_append.1 h).2.2 y (List.mem_of_getLast? hy) x (by simp)
theorem ascB_push {acc : List ByteArray} {x : ByteArray} (h : AscB ltS acc) (hl : lastLt acc x = true) : AscB ltS (acc ++ [x]) := by
  refine (ascB_snoc ltS_ok.toLtPre).2 ⟨h, fun y hy => ?_⟩
  unfold lastLt at hl
  rw [hy] at hl
  exact hl

theorem decSyF_back (t : List ByteArray) : ∀ (pre : List Nat) (acc : List ByteArray), AscB ltS (acc ++ t) → Fits t →
    decSyF (pre ++ t.flatMap fun s => bytesOf (numsOf s)) t.length pre.length acc = (0, acc ++ t) := by
  induction t with
  | nil => intro pre acc _ _; simp [decSyF]
  | cons x t ih =>
    intro pre acc ha hf
    have hx : x.size ≤ 65535 := hf x (by simp)
    rw [List.length_cons, decSyF, List.flatMap_cons, ← List.append_assoc]
    rw [outString_back pre (numsOf x) _ (by rw [numsOf_length]; omega) 65535 (by rw [numsOf_length]; omega)]
    simp only [strOf_numsOf]
    rw [if_pos (lastLt_of ha), ← List.length_append]
    have := ih (pre ++ bytesOf (numsOf x)) (acc ++ [x]) (by simpa using ha) (fun s hs => hf s (by simp [hs]))
    rw [this]; simp
theorem decSy_back (t : List ByteArray) (ha : AscB ltS t) (hf : Fits t) (hn : t.length < 18446744073709551616) : decSy (encSy t) = (0, t) := by
  have hr : readAt (encSy t) 0 = (t.length, (((groups t.length).length : Nat) : Int), 0) := by
    have := readAt_groups [] (t.flatMap fun s => bytesOf (numsOf s)) hn
    simpa [encSy] using this
  rw [decSy, hr]
  simp only [Int.toNat_natCast]
  rw [if_neg, encSy, decSyF_back t (groups t.length) [] (by simpa using ha) hf]
  · simp
  · rw [encSy, List.length_append]; have := flat_pos t; omega

theorem decSyF_err (b : List Nat) : ∀ (k a : Nat) (acc : List ByteArray), (decSyF b k a acc).1 ≠ 0 → (decSyF b k a acc).2 = [] := by
  intro k
  induction k with
  | zero => intro a acc h; rw [decSyF] at h ⊢; split at h <;> simp_all
  | succ k ih =>
    intro a acc h
    rw [decSyF] at h ⊢
    split
    · rfl
    · next s to ho =>
      simp only [ho] at h
      split
      · next hl => rw [if_pos hl] at h; exact ih _ _ h
      · rfl
theorem decSy_err (b : List Nat) (h : (decSy b).1 ≠ 0) : (decSy b).2 = [] := by
  rw [decSy] at h ⊢
  split
  · next n a hr =>
    simp only [hr] at h
    split
    · rfl
    · next hl => rw [if_neg hl] at h; exact decSyF_err _ _ _ _ h
  · rfl
theorem decSyF_inv {b : List Nat} (hb : ∀ c ∈ b, c < 256) : ∀ (k a : Nat) (acc u : List ByteArray), a ≤ b.length → decSyF b k a acc = (0, u) →
    ∃ t, u = acc ++ t ∧ b.drop a = (t.flatMap fun s => bytesOf (numsOf s)) ∧ t.length = k ∧ Fits t ∧ (AscB ltS acc → AscB ltS u) := by
  intro k
  induction k with
  | zero =>
    intro a acc u ha h
    rw [decSyF] at h
    split at h
    · cases h
    · next hn =>
      cases h
      exact ⟨[], by simp, by rw [List.drop_eq_nil_of_le (by omega)]; rfl, rfl, (fun _ h => by cases h), fun h => h⟩
  | succ k ih =>
    intro a acc u ha h
    rw [decSyF] at h
    split at h
    · next e ho =>
      obtain ⟨rfl, _⟩ := Prod.mk.inj h
      rcases outString_cases hb ha 65535 with ⟨e, he, _, hr⟩ | ⟨x, t, _, _, _, _, hr⟩
      · rw [hr] at ho; cases ho; exact absurd rfl he
      · rw [hr] at ho
        split at ho
        · cases ho
        · split at ho <;> cases ho
    · next s to ho =>
      obtain ⟨h1, h2, h3, h4, _⟩ := outString_inv hb ha ho
      split at h
      · next hl =>
        obtain ⟨t, e1, e2, e3, e4, e5⟩ := ih to _ u h3 h
        have hn : numsOf (strOf s) = s := numsOf_strOf h4
        refine ⟨strOf s :: t, by rw [e1]; simp, ?_, by rw [List.length_cons, e3], ?_, fun hacc => e5 (ascB_push hacc hl)⟩
        · rw [h1, e2, List.flatMap_cons, hn]
        · intro x hx
          rcases List.mem_cons.1 hx with rfl | hx
          · rw [strOf_size']; omega
          · exact e4 x hx
      · cases h
theorem decSy_inv {b : List Nat} (hb : ∀ c ∈ b, c < 256) {u : List ByteArray} (h : decSy b = (0, u)) : b = encSy u ∧ AscB ltS u ∧ Fits u := by
  rw [decSy] at h
  rcases readAt_cases hb (Nat.zero_le _) with ⟨e, he, hr⟩ | ⟨n, m, hr, hm, hin, hg, hn⟩
  · have hr0 : readAt b 0 = (0, 0, e) := hr
    obtain ⟨k, rfl⟩ : ∃ k, e = k + 1 := ⟨e - 1, by omega⟩
    rw [hr0] at h
    simp at h
  · have hr0 : readAt b 0 = (n, ((0 + m : Nat) : Int), 0) := hr
    rw [hr0] at h
    simp only [Int.toNat_natCast, Nat.zero_add] at h hin hg
    split at h
    · cases h
    · obtain ⟨t, e1, e2, e3, e4, e5⟩ := decSyF_inv hb n m [] u hin h
      rw [List.nil_append] at e1
      subst e1
      refine ⟨?_, e5 List.Pairwise.nil, e4⟩
      rw [encSy, e3, ← e2, ← hg]
      simp
theorem encSyR_ok {t : List ByteArray} (h : (encSyR t).1 = 0) : encSyR t = (0, encSy t) ∧ Fits t ∧ AscB ltS t := by
  unfold encSyR at h ⊢
  split at h
  · cases h
  · next h1 =>
    split at h
    · cases h
    · next h2 =>
      rw [if_neg h1, if_neg h2]
      exact ⟨rfl, Decidable.not_not.1 h1, Decidable.not_not.1 h2⟩
theorem encSyR_of {t : List ByteArray} (h1 : Fits t) (h2 : AscB ltS t) : encSyR t = (0, encSy t) := by
  unfold encSyR
  rw [if_neg (not_not_intro h1), if_neg (not_not_intro h2)]
theorem encSyR_err {t : List ByteArray} (h : (encSyR t).1 ≠ 0) : (encSyR t).2 = [] := by
  unfold encSyR at h ⊢
  split
  · rfl
  · next h1 =>
    split
    · rfl
    · next h2 => rw [if_neg h1, if_neg h2] at h; exact absurd rfl h
theorem encSy_lt (t : List ByteArray) : ∀ c ∈ encSy t, c < 256 := fun c hc => by
  rcases List.mem_append.1 hc with h | h
  · exact groups_lt _ c h
  · obtain ⟨s, _, h⟩ := List.mem_flatMap.1 h
    exact bytesOf_lt (numsOf_lt s) c h
end Go.Proofs.Yteiffpninifjlaa

end

section
/- Layer 10: the reference's Table. -/
set_option linter.unusedVariables false
namespace Go.Proofs.Yteiffpninifjlaa
open Go Go.RowKit

theorem tabS_snoc (l : List ByteArray) (x : ByteArray) : tabS (l ++ [x]) = insB ltS x (tabS l) := tabB_snoc l x

set_option maxRecDepth 20000 in
set_option maxHeartbeats 4000000 in
theorem ref_table10 (lv : Value) (l : List ByteArray) (w : World) (hl : Rd w 1 lv l.length (strs l)) (hn : l.length ≤ 1000000000) :
    Calls Try.prog 14 #[lv] w fun e w' => ∃ v, e = .returned v ∧ OwnS w w' (tabS l) v := by
  have HL := Lib.hid hl; have HNn := Lib.hid hn
  obtain ⟨pl, cl, hv⟩ := hl.shape
  subst hv
  clear hl hn
  go_enter Try.func14, Try.ntmps14
  go_wp2_with fail
  go_loopw [3, 4] (fun vv iv wr => ∃ (j : Nat), j ≤ l.length ∧ iv = .int .i64 (j : Int) ∧ Hid (OwnS w wr (tabS (l.take j)) vv)) (fun _ iv _ => l.length - (intOf iv).toNat)
  case atStart => exact ⟨0, by omega, rfl, Own1.nil w⟩
  case round =>
    obtain ⟨j, hj, rfl, HO⟩ := hrel
    by_cases hlt : j < l.length
    · have hlt' : (j : Int) < (l.length : Int) := by omega
      have hji : (j : Int) ≤ 1000000000 := by have := HNn.out; omega
      obtain ⟨b, off, c', e, _, _, _⟩ := HL.out.at (fun e => by have := congrArg List.length e; rw [strs_length] at this; simp at this; subst this; simp at hlt)
      simp only [Value.slice.injEq] at e
      obtain ⟨rfl, _, rfl⟩ := e
      obtain ⟨x, hx⟩ : ∃ x, l[j] = x := ⟨_, rfl⟩
      have HCt : Hid (∀ w', Below w.heap.size w w' → w'.cell? ⟨b, off + j, none⟩ = some (.string x)) := fun w' hb => by
        rw [← hx]; exact rd1_cell (HL.out.below hb) hlt
      have HSt : Hid (tabS (l.take (j + 1)) = insB ltS x (tabS (l.take j))) := by show _ = _; rw [List.take_add_one, List.getElem?_eq_getElem hlt, hx]; exact tabS_snoc _ _
      have hDl : (tabS (l.take j)).length ≤ 1000000000 := by have := tabB_len (lt := ltS) (l.take j); rw [List.length_take] at this; have := HNn.out; unfold tabS; omega
      have HA : Hid (AscB ltS (tabS (l.take j))) := tabB_asc ltS_ok (l.take j)
      clear hx
      generalize tabS (l.take j) = d at *
      obtain ⟨pv, cv, hvv⟩ := (Rd.of_owns HO.out.row).shape
      subst hvv
      obtain ⟨N, hN⟩ : ∃ N, d.length = N := ⟨_, rfl⟩
      rw [hN] at hDl HO ⊢
      have HNe : Hid (d.length = N) := hN
      clear hN
      have HD := Lib.hid hDl
      have hNi : (N : Int) ≤ 1000000000 := by omega
      clear hDl
      go_wp2_with fail
      go_loopw [5] (fun kv wr2 => ∃ (k : Nat), k ≤ N ∧ kv = .int .i64 (k : Int) ∧ Hid (∀ z ∈ d.take k, ltS z x = true) ∧ Hid (OwnS w wr2 d (.slice pv N cv))) (fun kv _ => N - (intOf kv).toNat)
      case atStart => exact ⟨0, Nat.zero_le _, rfl, (by intro z hz; simp at hz), HO.out⟩
      case round =>
        obtain ⟨k, hkN, rfl, HLo, HO2⟩ := hrel
        have hki : (k : Int) ≤ 1000000000 := by omega
        have hcx := HCt.out wr HO2.out.bel
        by_cases hk : k < N
        · have hk' : (k : Int) < (N : Int) := by omega
          obtain ⟨g0, cap0, hv0⟩ : ∃ g cap, (Value.slice pv N cv) = .slice (some ⟨g, 0, none⟩) N cap := by
            rcases owns_cases HO2.out.row with ⟨_, h0, _⟩ | ⟨g, cap, hv, _⟩
            · have := HNe.out; omega
            · rw [HNe.out] at hv; exact ⟨g, cap, hv⟩
          simp only [Value.slice.injEq] at hv0
          obtain ⟨rfl, _, rfl⟩ := hv0
          obtain ⟨y, hy⟩ : ∃ y, d[k]'(by have := HNe.out; omega) = y := ⟨_, rfl⟩
          have hcy : wr.cell? ⟨g0, k, none⟩ = some (.string y) := by rw [← hy]; exact (HO2.out.cell (i := k) (by have := HNe.out; omega)).1
          have HY : Hid (d[k]'(by have := HNe.out; omega) = y) := hy
          have HYd : Hid (d.drop k = y :: d.drop (k + 1)) := by show _ = _; rw [← hy, List.getElem_cons_drop]
          have HYt : Hid (d.take (k + 1) = d.take k ++ [y]) := by show _ = _; rw [List.take_add_one, List.getElem?_eq_getElem (by have := HNe.out; omega), hy]; rfl
          clear hy
          by_cases hyx : ltS y x = true
          · have hcmp : Op.bytesLess y.toList x.toList = true := hyx
            have HLo2 : Hid (∀ z ∈ d.take (k + 1), ltS z x = true) := by
              show ∀ z ∈ _, _
              rw [HYt.out]
              intro z hz
              rcases List.mem_append.1 hz with e | e
              · exact HLo.out z e
              · simp only [List.mem_singleton] at e; subst e; exact hyx
            clear hyx
            go_wp2_with fail
            go_quiet (fail)
            have HO3 := Lib.hid (HO2.out.drewN nq)
            clear hcx hcy HO2 HLo
            generalize wr.drewN nq = wn at *
            go_wp2_with fail
            go_round
            case rel => exact ⟨k + 1, by omega, by go_num, HLo2.out, HO3.out⟩
            case measure => simp [intOf]; omega
          · have hcmp0 : ltS y x = false := by simpa using hyx
            have hcmp : Op.bytesLess y.toList x.toList = false := hcmp0
            have HYX := Lib.hid hcmp0
            clear hcmp0
            clear hyx
            by_cases heq : y = x
            · subst heq
              have HS2 : Hid (tabS (l.take (j + 1)) = d) := by
                show _ = _
                rw [HSt.out]
                have e := insB_at ltS_ok.toLtPre y (d.take k) (d.drop (k + 1)) HLo.out
                rw [← HYd.out, List.take_append_drop] at e
                exact e
              have hse : (y.toList == y.toList) = true := by simp
              go_wp2_with fail
              go_quiet (fail)
              have HO3 := Lib.hid (HO2.out.drewN nq)
              have hcx2 : (wr.drewN nq).cell? ⟨b, off + j, none⟩ = some (.string y) := hcx
              have hcy2 : (wr.drewN nq).cell? ⟨g0, k, none⟩ = some (.string y) := hcy
              clear hcx hcy HO2
              generalize wr.drewN nq = wn at *
              go_wp2_with fail
              go_quiet (fail)
              have HO4 := Lib.hid (HO3.out.drewN nq)
              clear hcx2 hcy2 HO3
              generalize wn.drewN nq = wq at *
              go_wp2_with fail
              go_round
              case rel => exact ⟨j + 1, by omega, by go_num, by rw [HS2.out]; exact HO4.out⟩
              case measure => simp [intOf]; omega
            · have hse : (y.toList == x.toList) = false := by rw [eqS]; simpa using heq
              have HHi : Hid (∀ z, (d.drop k).head? = some z → ltS x z = true) := by
                intro z hz
                rw [HYd.out] at hz
                cases hz
                rcases Bool.eq_false_or_eq_true (ltS x y) with e | e
                · exact e
                · exact absurd (ltS_ok.tot y x HYX.out e) heq
              clear heq
              go_wp2_with fail
              go_quiet (fail)
              have HO3 := Lib.hid (HO2.out.drewN nq)
              have hcx2 : (wr.drewN nq).cell? ⟨b, off + j, none⟩ = some (.string x) := hcx
              have hcy2 : (wr.drewN nq).cell? ⟨g0, k, none⟩ = some (.string y) := hcy
              clear hcx hcy HO2
              generalize wr.drewN nq = wn at *
              go_wp2_with fail
              go_quiet (fail)
              have HOb := Lib.hid (HO3.out.drewN nq)
              clear hcx2 hcy2 HO3
              generalize wn.drewN nq = wb at *
              have HP : Hid (insB ltS x d = d.take k ++ x :: d.drop k) := by
                have e := insB_parts ltS_ok.toLtPre x (d.take k) (d.drop k) HLo.out HHi.out
                rwa [List.take_append_drop] at e
              have HLb : Hid ((N + 1) * 16 ≤ 140737488355328 ∧ N + 1 ≤ maxLen) := by show _ ∧ _; have := HD.out; unfold maxLen; omega
              have HOv : Hid (wb.ownsRow 0 9 1 (.slice (some ⟨g0, 0, none⟩) N cv) N (strs d)) := by
                have h := owns_rebase HOb.out.row (base' := 0) (fun _ _ => Nat.zero_le _)
                rw [HNe.out] at h
                exact h
              go_wp2_with (at_builtin; refine wpList_push Try.elemStr _ #[.string ⟨#[]⟩] _ _ _ HOv.out rfl (one_cell _ rfl) HLb.out rfl _ _ rfl rfl rfl ?_)
              intro v1 w1 k1 m1 f1
              have HO1 : Hid (OwnS w w1 (d ++ [⟨#[]⟩]) v1) := HOb.out.pushed (by rw [HNe.out]; exact k1) m1 f1
              obtain ⟨g, c1, hv1⟩ : ∃ g cap, v1 = .slice (some ⟨g, 0, none⟩) (N + 1) cap := by
                rcases owns_cases k1 with ⟨_, h0, _⟩ | ⟨g, cap, hv, _⟩
                · omega
                · exact ⟨g, cap, hv⟩
              subst hv1
              clear k1 m1 f1 HOv HOb
              go_wp2_with fail
              go_loopw [6] (fun mv wr2 => ∃ (m : Nat) (y : ByteArray), k ≤ m ∧ m ≤ N ∧ mv = .int .i64 (m : Int) ∧ Hid (OwnS w wr2 (d.take m ++ y :: d.drop m) (.slice (some ⟨g, 0, none⟩) (N + 1) c1))) (fun mv _ => (intOf mv).toNat)
              case atStart => exact ⟨N, ⟨#[]⟩, hkN, Nat.le_refl _, rfl, by
                show OwnS _ _ _ _
                rw [List.drop_of_length_le (by have := HNe.out; omega), List.take_of_length_le (by have := HNe.out; omega)]
                exact HO1.out⟩
              case round =>
                obtain ⟨m, y, hkm, hmN, rfl, HO2⟩ := hrel
                have hlen : (d.take m ++ y :: d.drop m).length = N + 1 := by
                  rw [List.length_append, List.length_cons, List.length_take, List.length_drop]; have := HNe.out; omega
                have HLen := Lib.hid hlen
                have hmi : (m : Int) ≤ 1000000000 := by have := HD.out; omega
                have hmN' : (m : Int) < (N : Int) + 1 := by omega
                have hfm := (HO2.out.cell (i := m) (by have := HLen.out; omega)).2
                have hcm := (HO2.out.cell (i := m) (by have := HLen.out; omega)).1
                have hcx := HCt.out wr HO2.out.bel
                generalize (d.take m ++ y :: d.drop m)[m] = yy at hcm
                clear hlen
                by_cases hmk : k < m
                · have hmk' : (k : Int) < (m : Int) := by omega
                  obtain ⟨q, rfl⟩ : ∃ q, m = q + 1 := ⟨m - 1, by omega⟩
                  obtain ⟨z, hz⟩ : ∃ z, d[q]? = some z := ⟨_, List.getElem?_eq_getElem (by have := HNe.out; omega)⟩
                  have HZe := Lib.hid hz
                  have hcz : wr.cell? ⟨g, q, none⟩ = some (.string z) := by
                    rw [(HO2.out.cell (i := q) (by have := HLen.out; omega)).1, ← (List.getElem?_eq_some_iff.1 hz).2]
                    congr 2
                    rw [List.getElem_append_left (by rw [List.length_take]; have := HNe.out; omega), List.getElem_take]
                  have hqs : ((q + 1 : Nat) : Int) - 1 = (q : Int) := by omega
                  have hq0 : (0 : Int) ≤ (q : Int) := by omega
                  have HKM : Hid (k ≤ q + 1 ∧ k < q + 1 ∧ q + 1 ≤ N) := ⟨hkm, hmk, hmN⟩
                  have hqi : (q : Int) ≤ 999999999 := by omega
                  clear hz hkm hmk hmN hmi
                  have HDn : Hid (OwnS w (wr.setCell ⟨g, q + 1, none⟩ (.string z)) (d.take q ++ z :: d.drop q) (.slice (some ⟨g, 0, none⟩) (N + 1) c1)) := by
                    show OwnS _ _ _ _
                    rw [← shift_eqG d q (by have := HNe.out; have := HKM.out; omega) z (List.getElem?_eq_some_iff.1 HZe.out).2]
                    exact HO2.out.stored (shift_setG d (q + 1) y z (by have := HNe.out; have := HKM.out; omega))
                  clear HO2
                  go_wp2_with fail
                  go_round
                  case rel => exact ⟨q, z, by have := HKM.out; omega, by have := HKM.out; omega, by go_num, HDn.out⟩
                  case measure => simp [intOf]
                · have hmk2 : m = k := by omega
                  have hmk' : ¬ (k : Int) < (m : Int) := by omega
                  have HOk : Hid (OwnS w wr (d.take k ++ y :: d.drop k) (.slice (some ⟨g, 0, none⟩) (N + 1) c1)) := by
                    have h := HO2.out
                    rw [hmk2] at h
                    exact h
                  clear hcm hfm
                  have hlen : (d.take k ++ y :: d.drop k).length = N + 1 := by have h := HLen.out; rw [hmk2] at h; exact h
                  have hfk := (HOk.out.cell (i := k) (by omega)).2
                  have hck := (HOk.out.cell (i := k) (by omega)).1
                  have hkN2 : (k : Int) < (N : Int) + 1 := by omega
                  generalize (d.take k ++ y :: d.drop k)[k] = yk at hck
                  have HDn : Hid (OwnS w (wr.setCell ⟨g, k, none⟩ (.string x)) (insB ltS x d) (.slice (some ⟨g, 0, none⟩) (N + 1) c1)) := by
                    show OwnS _ _ _ _
                    rw [HP.out]
                    exact HOk.out.stored (shift_setG d k y x (by have := HNe.out; omega))
                  clear hmk2 hlen HOk hkm hmk hmN
                  clear HO2
                  go_wp2_with fail
                  go_round
                  case rel => exact ⟨j + 1, by omega, by go_num, by rw [HSt.out]; exact HDn.out⟩
                  case measure => simp [intOf]; omega
        · obtain rfl : N = k := by omega
          have hk' : ¬ (N : Int) < (N : Int) := by omega
          have HHi : Hid (∀ z, (d.drop N).head? = some z → ltS x z = true) := by
            intro z hz
            rw [List.drop_of_length_le (by have := HNe.out; omega)] at hz
            cases hz
          go_wp2_with fail
          go_quiet (fail)
          have HO3 := Lib.hid (HO2.out.drewN nq)
          clear hcx HO2
          generalize wr.drewN nq = wn at *
          go_wp2_with fail
          go_quiet (fail)
          have HOb := Lib.hid (HO3.out.drewN nq)
          clear HO3
          generalize wn.drewN nq = wb at *
          have HP : Hid (insB ltS x d = d.take N ++ x :: d.drop N) := by
            have e := insB_parts ltS_ok.toLtPre x (d.take N) (d.drop N) HLo.out HHi.out
            rwa [List.take_append_drop] at e
          have HLb : Hid ((N + 1) * 16 ≤ 140737488355328 ∧ N + 1 ≤ maxLen) := by show _ ∧ _; have := HD.out; unfold maxLen; omega
          have HOv : Hid (wb.ownsRow 0 9 1 (.slice pv N cv) N (strs d)) := by
            have h := owns_rebase HOb.out.row (base' := 0) (fun _ _ => Nat.zero_le _)
            rw [HNe.out] at h
            exact h
          go_wp2_with (at_builtin; refine wpList_push Try.elemStr _ #[.string ⟨#[]⟩] _ _ _ HOv.out rfl (one_cell _ rfl) HLb.out rfl _ _ rfl rfl rfl ?_)
          intro v1 w1 k1 m1 f1
          have HO1 : Hid (OwnS w w1 (d ++ [⟨#[]⟩]) v1) := HOb.out.pushed (by rw [HNe.out]; exact k1) m1 f1
          obtain ⟨g, c1, hv1⟩ : ∃ g cap, v1 = .slice (some ⟨g, 0, none⟩) (N + 1) cap := by
            rcases owns_cases k1 with ⟨_, h0, _⟩ | ⟨g, cap, hv, _⟩
            · omega
            · exact ⟨g, cap, hv⟩
          subst hv1
          clear k1 m1 f1 HOv HOb
          go_wp2_with fail
          go_loopw [6] (fun mv wr2 => ∃ (m : Nat) (y : ByteArray), N ≤ m ∧ m ≤ N ∧ mv = .int .i64 (m : Int) ∧ Hid (OwnS w wr2 (d.take m ++ y :: d.drop m) (.slice (some ⟨g, 0, none⟩) (N + 1) c1))) (fun mv _ => (intOf mv).toNat)
          case atStart => exact ⟨N, ⟨#[]⟩, Nat.le_refl _, Nat.le_refl _, rfl, by
            show OwnS _ _ _ _
            rw [List.drop_of_length_le (by have := HNe.out; omega), List.take_of_length_le (by have := HNe.out; omega)]
            exact HO1.out⟩
          case round =>
            obtain ⟨m, y, hNm, hmN, rfl, HO2⟩ := hrel
            have hlen : (d.take m ++ y :: d.drop m).length = N + 1 := by
              rw [List.length_append, List.length_cons, List.length_take, List.length_drop]; have := HNe.out; omega
            have HLen := Lib.hid hlen
            have hmi : (m : Int) ≤ 1000000000 := by have := HD.out; omega
            have hmN' : (m : Int) < (N : Int) + 1 := by omega
            have hfm := (HO2.out.cell (i := m) (by have := HLen.out; omega)).2
            have hcm := (HO2.out.cell (i := m) (by have := HLen.out; omega)).1
            have hcx := HCt.out wr HO2.out.bel
            generalize (d.take m ++ y :: d.drop m)[m] = yy at hcm
            clear hlen
            by_cases hmk : N < m
            · exfalso; omega
            · have hmk2 : m = N := by omega
              have hmk' : ¬ (N : Int) < (m : Int) := by omega
              have HOk : Hid (OwnS w wr (d.take N ++ y :: d.drop N) (.slice (some ⟨g, 0, none⟩) (N + 1) c1)) := by
                have h := HO2.out
                rw [hmk2] at h
                exact h
              clear hcm hfm
              have hlen : (d.take N ++ y :: d.drop N).length = N + 1 := by have h := HLen.out; rw [hmk2] at h; exact h
              have hfk := (HOk.out.cell (i := N) (by omega)).2
              have hck := (HOk.out.cell (i := N) (by omega)).1
              have hkN2 : (N : Int) < (N : Int) + 1 := by omega
              generalize (d.take N ++ y :: d.drop N)[N] = yk at hck
              have HDn : Hid (OwnS w (wr.setCell ⟨g, N, none⟩ (.string x)) (insB ltS x d) (.slice (some ⟨g, 0, none⟩) (N + 1) c1)) := by
                show OwnS _ _ _ _
                rw [HP.out]
                exact HOk.out.stored (shift_setG d N y x (by have := HNe.out; omega))
              clear hmk2 hlen HOk hNm hmk hmN
              clear HO2
              go_wp2_with fail
              go_round
              case rel => exact ⟨j + 1, by omega, by go_num, by rw [HSt.out]; exact HDn.out⟩
              case measure => simp [intOf]; omega
    · have hlt' : ¬ (j : Int) < (l.length : Int) := by omega
      rw [List.take_of_length_le (by omega)] at HO
      obtain ⟨pv, cv, hvv⟩ := (Rd.of_owns HO.out.row).shape
      subst hvv
      go_wp2_with fail
      go_ret
      exact ⟨_, rfl, HO.out⟩
end Go.Proofs.Yteiffpninifjlaa

end

section
/- The place of the first element with a property. No program in sight. -/
namespace Go.Proofs.Yteiffpninifjlaa
variable {α : Type}
/-- The index of the first element with p, or -1. -/
def firstI (p : α → Bool) (l : List α) : Int := match l.findIdx? p with
  | some i => (i : Int)
  | none => -1
theorem firstI_at {p : α → Bool} {l : List α} {j : Nat} (h : ∀ x ∈ l.take j, p x = false) {x : α} (hj : l[j]? = some x) (hp : p x = true) : firstI p l = (j : Int) := by
  have hlt : j < l.length := (List.getElem?_eq_some_iff.1 hj).1
  have e : l.findIdx? p = some j := by
    rw [List.findIdx?_eq_some_iff_getElem]
    refine ⟨hlt, by rw [(List.getElem?_eq_some_iff.1 hj).2]; exact hp, fun i hi => ?_⟩
    have hm : l[i] ∈ l.take j := by
      rw [List.mem_take_iff_getElem]
      exact ⟨i, by omega, rfl⟩
    rw [h _ hm]; simp
  rw [firstI, e]
theorem firstI_none {p : α → Bool} {l : List α} (h : ∀ x ∈ l, p x = false) : firstI p l = -1 := by
  have e : l.findIdx? p = none := by rw [List.findIdx?_eq_none_iff]; exact h
  rw [firstI, e]
theorem firstI_cases (p : α → Bool) (l : List α) : (firstI p l = -1 ∧ ∀ x ∈ l, p x = false) ∨ ∃ (j : Nat) (x : α), firstI p l = (j : Int) ∧ l[j]? = some x ∧ p x = true ∧ ∀ y ∈ l.take j, p y = false := by
  cases e : l.findIdx? p with
  | none => exact Or.inl ⟨by rw [firstI, e], List.findIdx?_eq_none_iff.1 e⟩
  | some j =>
    obtain ⟨hj, hp, hn⟩ := List.findIdx?_eq_some_iff_getElem.1 e
    refine Or.inr ⟨j, l[j], by rw [firstI, e], List.getElem?_eq_getElem hj, hp, fun y hy => ?_⟩
    obtain ⟨i, hi, rfl⟩ := List.mem_take_iff_getElem.1 hy
    have := hn i (by omega)
    simpa using this
theorem not_take_succ {p : α → Bool} {l : List α} {j : Nat} (h : ∀ x ∈ l.take j, p x = false) {x : α} (hj : l[j]? = some x) (hp : p x = false) : ∀ y ∈ l.take (j + 1), p y = false := by
  intro y hy
  rw [List.take_add_one, hj] at hy
  rcases List.mem_append.1 hy with e | e
  · exact h y e
  · simp at e; subst e; exact hp
end Go.Proofs.Yteiffpninifjlaa

end

section
/- Layer 10: the reference's Index. -/
set_option linter.unusedVariables false
namespace Go.Proofs.Yteiffpninifjlaa
open Go Go.RowKit

def findS (l : List ByteArray) (x : ByteArray) : Int := firstI (fun y => decide (y = x)) l

set_option maxHeartbeats 2000000 in
theorem ref_index10 (lv : Value) (l : List ByteArray) (x : ByteArray) (w : World) (hl : Rd w 1 lv l.length (strs l)) (hn : l.length ≤ 1000000000000) :
    Calls Try.prog 17 #[lv, .string x] w fun e w' => e = .returned (.int .i64 (findS l x)) ∧ w' = w := by
  have HL := Lib.hid hl; have HNn := Lib.hid hn
  obtain ⟨pl, cl, hv⟩ := hl.shape
  subst hv
  clear hl hn
  go_enter Try.func17, Try.ntmps17
  go_wp2_with fail
  go_loop [5] (fun iv => ∃ (j : Nat), j ≤ l.length ∧ iv = .int .i64 (j : Int) ∧ Hid (∀ y ∈ l.take j, decide (y = x) = false)) (fun iv => l.length - (intOf iv).toNat)
  case atStart => exact ⟨0, by omega, rfl, by intro y hy; simp at hy⟩
  case round =>
    obtain ⟨j, hj, rfl, HX⟩ := hrel
    by_cases hlt : j < l.length
    · have hlt' : (j : Int) < (l.length : Int) := by omega
      have hji : (j : Int) ≤ 1000000000000 := by have := HNn.out; omega
      obtain ⟨b, off, c', e, _, _, _⟩ := HL.out.at (fun e => by have := congrArg List.length e; rw [strs_length] at this; simp at this; subst this; simp at hlt)
      simp only [Value.slice.injEq] at e
      obtain ⟨rfl, _, rfl⟩ := e
      obtain ⟨y, hy⟩ : ∃ y, l[j]? = some y := ⟨_, List.getElem?_eq_getElem hlt⟩
      have hct : w.cell? ⟨b, off + j, none⟩ = some (.string y) := by rw [← (List.getElem?_eq_some_iff.1 hy).2]; exact rd1_cell HL.out hlt
      have HY := Lib.hid hy
      clear hy
      by_cases hxy : y = x
      · subst hxy
        have hse : (y.toList == y.toList) = true := by simp
        have HF : Hid (findS l y = (j : Int)) := firstI_at HX.out HY.out (by simp)
        go_wp2_with fail
        go_ret
        exact ⟨by rw [HF.out]; rfl, rfl⟩
      · have hse : (y.toList == x.toList) = false := by rw [eqS]; simpa using hxy
        have HX2 : Hid (∀ z ∈ l.take (j + 1), decide (z = x) = false) := not_take_succ HX.out HY.out (by simpa using hxy)
        clear hxy
        go_wp2_with fail
        go_round
        case rel => exact ⟨j + 1, by omega, by go_num, HX2.out⟩
        case measure => simp [intOf]; omega
    · have hlt' : ¬ (j : Int) < (l.length : Int) := by omega
      have HF : Hid (findS l x = -1) := firstI_none (by have := HX.out; rwa [List.take_of_length_le (by omega)] at this)
      go_wp2_with fail
      go_ret
      exact ⟨by rw [HF.out]; rfl, rfl⟩
end Go.Proofs.Yteiffpninifjlaa

end

section
/- Slices of bytes: what a call makes; bytes.Equal. -/
namespace Go.Proofs.Yteiffpninifjlaa
open Go Go.RowKit

theorem Try.infoU8 : (Try.prog.info? 5).map (fun i => (i.zero, i.size, i.bytes)) = some (some (.int .u8 0), 1, 1) := by kernel_rfl

theorem Try.elemU8 : Elem Try.prog 33 5 1 1 := Elem.mk' Try.underlying33 Try.infoU8 rfl (by decide)

/-- A literal slice of bytes, built in a block of its own. -/
theorem lit_rd (w : World) (cs : Array Value) (l : List Nat) (h : cs.toList = u8s l) (hn : l.length ≤ maxLen) : Rd (w.alloc (.cells cs 5)) 1 (.slice (some ⟨w.heap.size, 0, none⟩) l.length l.length) l.length (u8s l) := by
  have hs : cs.size = l.length * 1 := by rw [← Array.length_toList, h, u8s_length, Nat.mul_one]
  have := Rd.of_owns (World.ownsRow_lit (base := 0) (e := 5) w cs l.length (Nat.zero_le _) (by simpa using hn) hs)
  rwa [h] at this

/-- '[]byte("..")' of a constant: its block bears a mark. -/
theorem lit_rd_mark (w : World) (cs : Array Value) (fr : Nat × Nat) (l : List Nat) (n : Nat) (h : cs.toList = u8s l) (hl : l.length = n) (hn : n ≤ maxLen) : Rd (w.alloc (.cells cs 5 fr)) 1 (.slice (some ⟨w.heap.size, 0, none⟩) n n) l.length (u8s l) := by
  subst hl
  refine ⟨_, _, rfl, by simp [u8s_length], Nat.le_refl _, hn, (fun e => by cases e), fun ad e j u hu => ?_⟩
  cases e
  have e1 : (⟨w.heap.size, 0, none⟩ : Addr).add j = ⟨w.heap.size, j, none⟩ := by unfold Addr.add; split <;> simp_all
  rw [e1, World.cell?_alloc_mark, ← Array.getElem?_toList, h]
  exact hu

/-- bytes.Equal of two slices of bytes. -/
theorem equal_any (a b : Value) (n m : Nat) (l k : List Nat) (w : World) (ha : Rd w 1 a n (u8s l)) (hb : Rd w 1 b m (u8s k)) (hl : ∀ x ∈ l, x < 256) (hk : ∀ x ∈ k, x < 256) :
    Calls Try.prog 20 #[a, b] w fun e w' => e = .returned (.bool (decide (l = k))) ∧ w = w' := by
  have e1 := ha.conv (P := Try.prog) 33 5 9 Try.underlying33 Try.underlying5 Try.underlying9
  have e2 := hb.conv (P := Try.prog) 33 5 9 Try.underlying33 Try.underlying5 Try.underlying9
  have e3 := strOf_inj hl hk
  have E3 := Lib.hid e3
  clear ha hb hl hk e3
  generalize strOf l = sl at *
  generalize strOf k = sk at *
  go_enter Try.func20, Try.ntmps20
  go_wp2
  go_ret
  exact ⟨congrArg (fun b => Ending.returned (.bool b)) E3.out, rfl⟩

theorem calls_flip {P : Program} {f : FuncId} {args : Array Value} {w : World} {r : Ending} (h : Calls P f args w fun e w' => e = r ∧ w = w') : Calls P f args w fun e w' => e = r ∧ w' = w := h.mono fun _ _ h => ⟨h.1, h.2.symm⟩
end Go.Proofs.Yteiffpninifjlaa

end

section
/- Layer 2: the reference's functions. -/
set_option linter.unusedVariables false
namespace Go.Proofs.Yteiffpninifjlaa
open Go Go.RowKit

set_option maxHeartbeats 400000 in
theorem ref_encode (x : Nat) (hx : x < 18446744073709551616) (w : World) :
    Calls Try.prog 32 #[.int .u64 (x : Int)] w fun e w' => ∃ r, e = .returned r ∧ Made w w' 5 1 r (groups x).length (u8s (groups x)) := by
  induction x using Nat.strongRecOn generalizing w with
  | _ x ih =>
    by_cases h : x < 128
    · have hlt : (x : Int) < 128 := by omega
      rw [groups_small h]
      clear ih
      go_enter Try.func32, Try.ntmps32
      go_wp2
      go_ret
      exact ⟨_, rfl, World.ownsRow_lit (base := w.heap.size) w #[.int .u8 (x : Int)] 1 (Nat.le_refl _) (by simp [maxLen]) (by simp), (Below.refl _ _).alloc (Nat.le_refl _) _⟩
    · have hlt : ¬ (x : Int) < 128 := by omega
      have HI := Lib.hid (ih (x / 128) (by omega) (by omega))
      have hlen := groups_len 8 (x / 128) (by omega)
      have hd : ((x / 128 : Nat) : Int) = (x : Int) / 128 := by omega
      have HD := Lib.hid hd
      clear ih hd
      go_enter Try.func32, Try.ntmps32
      go_wp2_with fail
      rw [← HD.out]
      refine (HI.out _).mono ?_
      rintro e w' ⟨r, rfl, hM⟩
      obtain ⟨rp, rc, hr⟩ := (Rd.of_owns hM.1).shape
      subst hr
      have HR := Lib.hid (Rd.of_owns hM.1)
      have hB : Below w.heap.size w w' := ((Below.refl _ w).alloc (Nat.le_refl _) _).trans (hM.2.mono (by simp))
      have HB := Lib.hid hB
      have HO : Hid (w'.ownsRow 0 5 1 (.slice (some ⟨w.heap.size, 0, none⟩) 1 1) 1 [.int .u8 ((x : Int) % 128 + 128)]) :=
        (Mods.of_below hM.2 (fun _ => False)).owns (World.ownsRow_lit (base := 0) w #[.int .u8 ((x : Int) % 128 + 128)] 1 (Nat.zero_le _) (by simp [maxLen]) (by simp)) (fun _ _ e => e)
      have HL : Hid ((1 + (groups (x / 128)).length) * 1 ≤ 140737488355328 ∧ 1 + (groups (x / 128)).length ≤ maxLen) := by show _ ∧ _; unfold maxLen; omega
      clear hM hB
      go_wp2_with (at_builtin; refine wpList_extend Try.elemU8 _ _ _ _ _ _ _ HO.out HR.out (u8s_oneCell _) HL.out rfl _ _ rfl rfl rfl ?_)
      intro v' w2 hown hmods hfr
      have HM : Hid (Made w w2 5 1 v' (groups x).length (u8s (groups x))) := by
        refine ⟨?_, HB.out.trans (hmods.below HB.out.size (fun k hk e => by simp [Value.ownBlock] at e; omega))⟩
        have h2 := owns_rebase hown (base' := w.heap.size) (fun k hk => by
          rcases hfr k hk with e | e
          · simp [Value.ownBlock] at e; omega
          · have := HB.out.size; omega)
        rw [groups_big h, List.length_cons, Nat.add_comm]
        simpa [u8s] using h2
      clear hown hmods hfr
      go_wp2
      go_ret
      exact ⟨_, rfl, HM.out⟩

set_option maxHeartbeats 400000 in
theorem ref_get_arg (v : Value) (l : List Nat) (o : Int) (w : World) (h : Rd w 1 v l.length (u8s l)) (ho : o < 0 ∨ (l.length : Int) < o) :
    Calls Try.prog 40 #[v, .int .i64 o] w fun e w' => e = .returned (.tuple #[.int .u64 0, .int .i64 0, .int .i64 2]) ∧ w = w' := by
  obtain ⟨p, c, hv⟩ := h.shape
  subst hv
  clear h
  by_cases hneg : o < 0
  · clear ho
    go_enter Try.func40, Try.ntmps40
    go_wp2_with fail
    go_ret3
    exact ⟨rfl, rfl⟩
  · have ho' : (l.length : Int) < o := by omega
    clear ho
    go_enter Try.func40, Try.ntmps40
    go_wp2_with fail
    go_ret3
    exact ⟨rfl, rfl⟩

set_option maxHeartbeats 400000 in
theorem ref_get_in (v : Value) (l : List Nat) (o : Nat) (w : World) (h : Rd w 1 v l.length (u8s l)) (ho : o ≤ l.length) (hl : ∀ c ∈ l, c < 256) :
    Calls Try.prog 40 #[v, .int .i64 (o : Int)] w fun e w' => e = .returned (.tuple #[.int .u64 ((readAt l o).1 : Int), .int .i64 (readAt l o).2.1, .int .i64 ((readAt l o).2.2 : Int)]) ∧ w = w' := by
  have hmax : (l.length : Int) ≤ 9223372036854775807 := by have := h.le; unfold maxLen at this; omega
  obtain ⟨p, c, hv⟩ := h.shape
  subst hv
  have hle : ¬ (l.length : Int) < (o : Int) := by omega
  have H2 := Lib.hid h; clear h
  have HM := Lib.hid hl; clear hl
  have HR : Hid (∀ a n e, readFrom (l.drop o) 0 0 = (a, n, e) → readAt l o = (a, (if e = 0 then (o : Int) + n else 0), e)) := fun a n e h => readAt_in ho h
  go_enter Try.func40, Try.ntmps40
  go_wp2_with fail
  go_loop [7, 8, 9] (fun x n i => ∃ (k y U : Nat), i = .int .i64 (k : Int) ∧ x = .int .u64 (y : Int) ∧ n = .int .u64 (U : Int) ∧ o + k ≤ l.length ∧ k ≤ 9 ∧ y < U ∧ Hid (U = 2 ^ (7 * k)) ∧ U ≤ 9223372036854775808 ∧ Hid (readFrom (l.drop o) 0 0 = readFrom (l.drop (o + k)) k y)) (fun _ _ i => l.length - o - (intOf i).toNat)
  case atStart => exact ⟨0, 0, 1, rfl, rfl, rfl, by omega, by omega, by omega, rfl, by omega, rfl⟩
  case round =>
    obtain ⟨k, y, U, rfl, rfl, rfl, hk, hk9, hy, hU, hU2, hrf⟩ := hrel
    have hok : (o : Int) + (k : Int) ≤ (l.length : Int) := by omega
    by_cases hlt : o + k < l.length
    · have hlt' : ¬ (l.length : Int) ≤ (o : Int) + (k : Int) := by omega
      obtain ⟨b, off, c', e, _, _, hc⟩ := H2.out.at (fun e => by have := congrArg List.length e; rw [u8s_length] at this; simp at this; subst this; simp at hlt)
      simp only [Value.slice.injEq] at e
      obtain ⟨rfl, _, rfl⟩ := e
      obtain ⟨u, hu⟩ : ∃ u, l[o + k] = u := ⟨_, rfl⟩
      have hcell : w.cell? ⟨b, off + (o + k), none⟩ = some (.int .u8 (u : Int)) := by rw [← hu]; exact hc (o + k) _ (u8s_get _ _ hlt)
      have hu256 : u < 256 := hu ▸ HM.out _ (List.getElem_mem hlt)
      have hdrop : l.drop (o + k) = u :: l.drop (o + (k + 1)) := by rw [← hu]; exact List.drop_eq_getElem_cons hlt
      have HF : Hid (readFrom (l.drop o) 0 0 = readFrom (u :: l.drop (o + (k + 1))) k y) := by show _ = _; rw [← hdrop]; exact hrf.out
      clear hc hdrop hrf hu
      by_cases h9 : k = 9 ∧ 1 < u
      · obtain ⟨rfl, h1⟩ := h9
        have h1' : (1 : Int) < (u : Int) := by omega
        have HA := Lib.hid (HR.out 0 0 6 (by rw [HF.out, readFrom, if_pos ⟨rfl, h1⟩]))
        go_wp2
        go_ret3
        exact ⟨by rw [HA.out]; rfl, rfl⟩
      · by_cases hk9' : k = 9
        · subst hk9'
          have h1 : ¬ (1 : Int) < (u : Int) := by omega
          have hUe : U = 9223372036854775808 := hU.out
          subst hUe
          by_cases hu0 : u = 0
          · subst hu0
            have HA := Lib.hid (HR.out 0 0 5 (by rw [HF.out, readFrom, if_neg (by omega), if_neg (by omega), if_pos (by omega)]))
            go_wp2
            go_ret3
            exact ⟨by rw [HA.out]; rfl, rfl⟩
          · obtain rfl : u = 1 := by omega
            have HA := Lib.hid (HR.out (y + 9223372036854775808) 10 0 (by rw [HF.out, readFrom, if_neg (by omega), if_neg (by omega), if_neg (by omega), Nat.one_mul]))
            clear HF HR
            go_wp2
            go_ret3
            exact ⟨by rw [HA.out, if_pos trivial]; rfl, rfl⟩
        · have hk9i : ¬ (k : Int) = 9 := by omega
          have hU3 : U ≤ 72057594037927936 := by rw [hU.out]; exact pow_seven (by omega)
          obtain ⟨hp, hp2⟩ := add_group y u U hy hU3
          have HP := Lib.hid hp; have HP2 := Lib.hid hp2
          have HE : Hid (∀ c : Nat, y + c * U = y + c * 2 ^ (7 * k)) := fun c => by rw [← hU.out]
          have HU1 : Hid (U * 128 = 2 ^ (7 * (k + 1))) := by show _ = _; rw [hU.out, show 7 * (k + 1) = 7 * k + 7 from by omega, Nat.pow_add]
          clear h9 hp hp2
          by_cases hbig : 128 ≤ u
          · have hbig' : ¬ (u : Int) < 128 := by omega
            have HD : Hid (readFrom (l.drop o) 0 0 = readFrom (l.drop (o + (k + 1))) (k + 1) (y + u % 128 * U)) := by show _ = _; rw [HF.out, readFrom, if_neg (by omega), if_pos hbig, HE.out]
            go_wp2
            go_round
            case rel => exact ⟨k + 1, _, U * 128, by go_num, by rw [HP.out], by go_num, by omega, by omega, HP2.out, HU1.out, by omega, HD.out⟩
            case measure => simp [intOf]; omega
          · have hbig' : (u : Int) < 128 := by omega
            clear hU2
            by_cases h0 : u = 0 ∧ 0 < k
            · obtain ⟨rfl, hk0⟩ := h0
              have hk0' : (0 : Int) < (k : Int) := by omega
              have HA := Lib.hid (HR.out 0 0 5 (by rw [HF.out, readFrom, if_neg (by omega), if_neg (by omega), if_pos ⟨rfl, hk0⟩]))
              go_wp2
              go_ret3
              exact ⟨by rw [HA.out]; rfl, rfl⟩
            · have HA := Lib.hid (HR.out (y + u * U) (k + 1) 0 (by rw [HF.out, readFrom, if_neg (by omega), if_neg hbig, if_neg h0, HE.out]))
              have HU : Hid (u % 128 = u) := by show _ = _; omega
              by_cases hu0 : u = 0
              · subst hu0
                obtain rfl : k = 0 := by omega
                obtain rfl : U = 1 := by simpa using hU.out
                obtain rfl : y = 0 := by omega
                rw [Nat.add_zero] at hcell
                clear HP HP2 HE HU1
                go_wp2
                go_ret3
                exact ⟨by rw [HA.out]; simp, rfl⟩
              · have hu0' : ¬ (u : Int) = 0 := by omega
                go_wp2
                go_ret3
                exact ⟨by rw [HA.out, HP.out, HU.out]; simp; omega, rfl⟩
    · have hlt' : (l.length : Int) ≤ (o : Int) + (k : Int) := by omega
      have HA := Lib.hid (HR.out 0 0 3 (by rw [hrf.out, List.drop_eq_nil_of_le (by omega), readFrom]))
      go_wp2
      go_ret3
      exact ⟨by rw [HA.out]; rfl, rfl⟩

theorem ref_get (v : Value) (l : List Nat) (o : Int) (w : World) (h : Rd w 1 v l.length (u8s l)) (hl : ∀ c ∈ l, c < 256) :
    Calls Try.prog 40 #[v, .int .i64 o] w fun e w' => e = .returned (.tuple #[.int .u64 ((readAt l o).1 : Int), .int .i64 (readAt l o).2.1, .int .i64 ((readAt l o).2.2 : Int)]) ∧ w = w' := by
  by_cases ho : o < 0 ∨ (l.length : Int) < o
  · rw [show readAt l o = (0, 0, 2) by rw [readAt, if_pos ho]]
    exact ref_get_arg v l o w h ho
  · obtain ⟨k, rfl⟩ : ∃ k : Nat, o = k := ⟨o.toNat, by omega⟩
    exact ref_get_in v l k w h (by omega) hl
end Go.Proofs.Yteiffpninifjlaa

end
