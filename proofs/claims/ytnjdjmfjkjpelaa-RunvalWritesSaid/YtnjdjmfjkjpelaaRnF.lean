/- Layer 7: the program's Join. -/
import Derived.Test.YtnjdjmfjkjpelaaRnA
set_option linter.unusedVariables false
namespace Go.Proofs.Ytnjdjmfjkjpelaa
open Go Go.RowKit

/-- For how many values a run stands. -/
def lenR (c : Int) : Nat := if 1 ≤ c ∧ c ≤ 128 then c.toNat else 0
theorem lenR_le (c : Int) : lenR c ≤ 128 := by unfold lenR; split <;> omega
theorem joinI_len (rs : List (Nat × Int)) : joinI rs = rs.flatMap fun r => List.replicate (lenR r.2) r.1 := by
  unfold joinI lenR
  congr 1
  funext r
  split <;> simp

theorem length_any (x c : Int) (hc : -9223372036854775808 ≤ c ∧ c < 9223372036854775808) (w : World) :
    Calls Try.prog 34 #[.agg #[.int .u64 x, .int .i64 c]] w fun e w' => e = .returned (.int .i64 (lenR c : Int)) ∧ Below w.heap.size w w' := by
  have hB : Below w.heap.size w (w.alloc (.cells #[.int .u64 x, .int .i64 c] 31)) := (Below.refl _ w).alloc (Nat.le_refl _) _
  by_cases h1 : c < 1
  · have HR : Hid ((lenR c : Int) = 0) := by show _ = _; rw [lenR, if_neg (by omega)]; rfl
    rw [HR.out]
    go_enter Try.func34, Try.ntmps34
    go_wp2_with fail
    go_ret
    exact ⟨rfl, hB⟩
  · by_cases h2 : 128 < c
    · have HR : Hid ((lenR c : Int) = 0) := by show _ = _; rw [lenR, if_neg (by omega)]; rfl
      rw [HR.out]
      go_enter Try.func34, Try.ntmps34
      go_wp2_with fail
      go_ret
      exact ⟨rfl, hB⟩
    · have HR : Hid ((lenR c : Int) = c) := by show _ = _; rw [lenR, if_pos (by omega)]; omega
      rw [HR.out]
      go_enter Try.func34, Try.ntmps34
      go_wp2_with fail
      go_ret
      exact ⟨rfl, hB⟩

/-- The values that have been appended. -/
structure JoinIn (w wr : World) (acc : List Nat) (v : Value) : Prop where
  own : wr.ownsRow w.heap.size 29 1 v acc.length (u64s acc)
  bel : Below w.heap.size w wr
theorem runCells_at (rs : List (Nat × Int)) (i : Nat) (x : Nat) (c : Int) (h : rs[i]? = some (x, c)) : (runCells rs)[i * 2]? = some (.int .u64 (x : Int)) ∧ (runCells rs)[i * 2 + 1]? = some (.int .i64 c) := by
  induction rs generalizing i with
  | nil => cases h
  | cons r rs ih =>
    cases i with
    | zero => cases h; exact ⟨rfl, rfl⟩
    | succ i =>
      have h' : rs[i]? = some (x, c) := h
      obtain ⟨a, b⟩ := ih i h'
      have e : runCells (r :: rs) = .int .u64 (r.1 : Int) :: .int .i64 r.2 :: runCells rs := rfl
      rw [e, show (i + 1) * 2 = i * 2 + 2 from by omega]
      exact ⟨a, b⟩
theorem joinI_take_len (rs : List (Nat × Int)) (i : Nat) : (joinI (rs.take i)).length ≤ 128 * i := by
  rw [joinI_len]
  induction rs generalizing i with
  | nil => simp
  | cons r rs ih =>
    cases i with
    | zero => simp
    | succ i =>
      rw [List.take_succ_cons, List.flatMap_cons, List.length_append, List.length_replicate]
      have := ih i
      have := lenR_le r.2
      omega

set_option maxRecDepth 20000 in
set_option maxHeartbeats 4000000 in
theorem runval_join (rv : Value) (rs : List (Nat × Int)) (w : World) (hl : Rd w 2 rv rs.length (runCells rs)) (hok : ∀ r ∈ rs, in64u r.1 ∧ -9223372036854775808 ≤ r.2 ∧ r.2 < 9223372036854775808) (hn : rs.length ≤ 1000000) :
    Calls Try.prog 13 #[rv] w fun e w' => ∃ r, e = .returned r ∧ Rd w' 1 r (joinI rs).length (u64s (joinI rs)) ∧ (∀ k, r.ownBlock = some k → w.heap.size ≤ k) ∧ Below w.heap.size w w' := by
  have HL := Lib.hid hl; have HOk := Lib.hid hok; have HN := Lib.hid hn
  obtain ⟨pl, cl, hv⟩ := hl.shape
  subst hv
  clear hl hok hn
  go_enter Try.func13, Try.ntmps13
  go_wp2_with fail
  go_loopw [3, 7] (fun vv kv wr => ∃ (i : Nat), i ≤ rs.length ∧ kv = .int .i64 (i : Int) ∧ Hid (JoinIn w wr (joinI (rs.take i)) vv)) (fun _ kv _ => rs.length - (intOf kv).toNat)
  case atStart => exact ⟨0, Nat.zero_le _, rfl, World.ownsRow_nil _ _ _ _, Below.refl _ _⟩
  case round =>
    obtain ⟨i, hi, rfl, HJ⟩ := hrel
    by_cases hlt : i < rs.length
    · have hlt' : (i : Int) < (rs.length : Int) := by omega
      have him : (i : Int) ≤ 1000000 := by have := HN.out; omega
      obtain ⟨⟨x, c⟩, hr⟩ : ∃ r, rs[i]? = some r := ⟨_, List.getElem?_eq_getElem hlt⟩
      obtain ⟨e1, e2⟩ := runCells_at rs i x c hr
      obtain ⟨b, off, c', e, _, _, hcl⟩ := HL.out.at (fun e => by rw [e] at e1; cases e1)
      simp only [Value.slice.injEq] at e
      obtain ⟨rfl, _, rfl⟩ := e
      have HC0 : Hid (w.cell? ⟨b, off + i * 2, none⟩ = some (.int .u64 (x : Int))) := hcl _ _ e1
      have HC1 : Hid (w.cell? ⟨b, off + i * 2 + 1, none⟩ = some (.int .i64 c)) := hcl _ _ e2
      have hci : -9223372036854775808 ≤ c ∧ c < 9223372036854775808 := (HOk.out _ (List.mem_of_getElem? hr)).2
      have HSt : Hid (joinI (rs.take (i + 1)) = joinI (rs.take i) ++ List.replicate (lenR c) x) := by
        show _ = _
        rw [List.take_add_one, hr, joinI_len, joinI_len, List.flatMap_append]
        simp
      have HLe := Lib.hid (joinI_take_len rs i)
      have HLr := Lib.hid (lenR_le c)
      have hc0 : wr.cell? ⟨b, off + i * 2, none⟩ = some (.int .u64 (x : Int)) := (HJ.out.bel.cell (World.block_lt_of_cell? w _ HC0.out)).trans HC0.out
      have hc1 : wr.cell? ⟨b, off + i * 2 + 1, none⟩ = some (.int .i64 c) := (HJ.out.bel.cell (World.block_lt_of_cell? w _ HC1.out)).trans HC1.out
      have HLn := Lib.hid (length_any (x : Int) c hci wr)
      clear e1 e2 hcl hr hci
      generalize joinI (rs.take i) = acc at *
      generalize lenR c = N at *
      obtain ⟨pv, cv, hvv⟩ := (Rd.of_owns HJ.out.own).shape
      subst hvv
      go_wp2_with fail
      refine HLn.out.mono ?_
      rintro e w2 ⟨rfl, hB⟩
      have HJ2 : Hid (JoinIn w w2 acc (.slice pv acc.length cv)) := ⟨(Mods.of_below hB (fun _ => False)).owns HJ.out.own (fun _ _ e => e), HJ.out.bel.trans (hB.mono HJ.out.bel.size)⟩
      clear hB HLn HJ hc0 hc1
      go_wp2_with fail
      obtain ⟨A, hA⟩ : ∃ A, acc.length = A := ⟨_, rfl⟩
      have HA := Lib.hid hA
      rw [hA]
      have HJ3 : Hid (JoinIn w w2 (acc ++ List.replicate 0 x) (.slice pv (A + 0) cv)) := by
        show JoinIn _ _ _ _
        rw [← hA, List.replicate_zero, List.append_nil]
        exact HJ2.out
      clear hA HJ2
      go_loopw [3, 15] (fun vv kv wr => ∃ (j : Nat), j ≤ N ∧ kv = .int .i64 (j : Int) ∧ Hid (JoinIn w wr (acc ++ List.replicate j x) vv)) (fun _ kv _ => N - (intOf kv).toNat)
      case atStart => exact ⟨0, Nat.zero_le _, rfl, HJ3.out⟩
      case round =>
        obtain ⟨j, hj, rfl, HI⟩ := hrel
        by_cases hjn : j < N
        · have hjn' : (j : Int) < (N : Int) := by omega
          have hjm : (j : Int) ≤ 128 := by have := HLr.out; omega
          obtain ⟨L, hL⟩ : ∃ L, (acc ++ List.replicate j x).length = L := ⟨_, rfl⟩
          have hL2 : L ≤ 200000000 := by
            rw [← hL, List.length_append, List.length_replicate]
            have h1 := HLe.out; have h2 := HLr.out; have h3 := HN.out
            omega
          have HB : Hid ((L + 1) * 8 ≤ 140737488355328 ∧ L + 1 ≤ maxLen) := by show _ ∧ _; unfold maxLen; omega
          have HO : Hid (wr.ownsRow 0 29 1 u3 L (u64s (acc ++ List.replicate j x))) := by
            have := owns_rebase HI.out.own (base' := 0) (fun _ _ => Nat.zero_le _)
            rw [hL] at this
            exact this
          have HNx : Hid (acc ++ List.replicate (j + 1) x = (acc ++ List.replicate j x) ++ [x] ∧ (acc ++ List.replicate (j + 1) x).length = L + 1) := by
            have e : acc ++ List.replicate (j + 1) x = (acc ++ List.replicate j x) ++ [x] := by rw [List.replicate_succ', List.append_assoc]
            refine ⟨e, ?_⟩
            rw [e, List.length_append, hL]; rfl
          obtain ⟨p1, c1, hv1⟩ := (Rd.of_owns HO.out).shape
          subst hv1
          have hc0 : wr.cell? ⟨b, off + i * 2, none⟩ = some (.int .u64 (x : Int)) := (HI.out.bel.cell (World.block_lt_of_cell? w _ HC0.out)).trans HC0.out
          have HSz := Lib.hid HI.out.bel.size
          clear hL hL2
          go_wp2_with (at_builtin; refine wpList_push Try.elemU64 wr #[.int .u64 (x : Int)] _ _ _ HO.out rfl (one_cell _ rfl) HB.out rfl _ _ rfl rfl rfl ?_)
          intro v2 w3 k1 k2 k3
          have HI2 : Hid (JoinIn w w3 (acc ++ List.replicate (j + 1) x) v2) := by
            refine ⟨?_, HI.out.bel.trans (k2.below HSz.out (fun k hk e => by have := (HI.out.own.lt k e).1; omega))⟩
            rw [HNx.out.2, HNx.out.1, u64s_append]
            refine owns_rebase k1 (fun k hk => ?_)
            rcases k3 k hk with e | e
            · exact (HI.out.own.lt k e).1
            · have := HSz.out; omega
          clear k1 k2 k3 hc0 HI HO
          go_wp2_with fail
          go_round
          case rel => exact ⟨j + 1, by omega, by go_num, HI2.out⟩
          case measure => simp [intOf]; omega
        · have hjn' : ¬ (j : Int) < (N : Int) := by omega
          obtain rfl : j = N := by omega
          have HI2 : Hid (JoinIn w wr (joinI (rs.take (i + 1))) u3) := by show JoinIn _ _ _ _; rw [HSt.out]; exact HI.out
          clear HI
          go_wp2_with fail
          go_round
          case rel => exact ⟨i + 1, by omega, by go_num, HI2.out⟩
          case measure => simp [intOf]; omega
    · have hlt' : ¬ (i : Int) < (rs.length : Int) := by omega
      have HD : Hid (joinI (rs.take i) = joinI rs) := by show _ = _; rw [List.take_of_length_le (by omega)]
      rw [HD.out] at HJ
      obtain ⟨pv, cv, hvv⟩ := (Rd.of_owns HJ.out.own).shape
      subst hvv
      go_wp2_with fail
      go_ret
      exact ⟨_, rfl, Rd.of_owns HJ.out.own, fun k hk => (HJ.out.own.lt k hk).1, HJ.out.bel⟩
end Go.Proofs.Ytnjdjmfjkjpelaa
