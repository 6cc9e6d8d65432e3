/- Layer 7: RunvalJoins, walked over the interface. -/
import Derived.Test.YtnjdjmfjkjpelaaRunI
import Derived.Test.YtnjdjmfjkjpelaaEqualRun
import Derived.Test.YtnjdjmfjkjpelaaRepeat
set_option linter.unusedVariables false
namespace Go.Proofs.Ytnjdjmfjkjpelaa.runvalJoins
open Go Go.RowKit
variable {G : Nat} {T : World → Prop}

theorem elemRun : Elem Try.prog 27 31 2 16 := Elem.mk' (z := .agg #[.int .u64 0, .int .i64 0]) Try.underlying27 (by kernel_rfl) rfl (by decide)
theorem lit_one (w : World) (x : Nat) : Rd (w.alloc (.cells #[.int .u64 (x : Int)] 29)) 1 (.slice (some ⟨w.heap.size, 0, none⟩) 1 1) 1 (u64s [x]) :=
  Rd.of_owns (World.ownsRow_lit (base := 0) w #[.int .u64 (x : Int)] 1 (Nat.zero_le _) (by simp [maxLen]) (by simp))
theorem joinI_append (a b : List (Nat × Int)) : joinI (a ++ b) = joinI a ++ joinI b := by simp [joinI, List.flatMap_append]
theorem joinI_len (rs : List (Nat × Int)) : (joinI rs).length ≤ 128 * rs.length := by
  induction rs with
  | nil => exact Nat.le_refl _
  | cons r rs ih =>
    have e : joinI (r :: rs) = (if 1 ≤ r.2 ∧ r.2 ≤ 128 then List.replicate r.2.toNat r.1 else []) ++ joinI rs := by simp [joinI]
    rw [e, List.length_append, List.length_cons]
    split
    · next h => rw [List.length_replicate]; omega
    · simp; omega
theorem joinI_yes (x n : Nat) (h1 : 1 ≤ n) (h2 : n ≤ 128) : joinI [(x, (n : Int))] = List.replicate n x := by
  simp only [joinI, List.flatMap_cons, List.flatMap_nil, List.append_nil]
  rw [if_pos (by omega)]; simp
theorem joinI_no (x : Nat) (c : Int) (h : ¬ (1 ≤ c ∧ c ≤ 128)) : joinI [(x, c)] = [] := by
  simp only [joinI, List.flatMap_cons, List.flatMap_nil, List.append_nil]
  rw [if_neg h]

/-- Where the statement stands: the runs and the values so far. -/
structure At (w wr : World) (rs : List (Nat × Int)) (rv wv : Value) : Prop where
  runs : wr.ownsRow w.heap.size 31 2 rv rs.length (runCells rs)
  want : wr.ownsRow w.heap.size 29 1 wv (joinI rs).length (u64s (joinI rs))
  apart : ∀ k, rv.ownBlock = some k → wv.ownBlock ≠ some k
  bel : Below w.heap.size w wr

set_option maxRecDepth 20000 in
set_option maxHeartbeats 8000000 in
theorem walk (I : RIf G T) (hal : ∀ w, T w → Calls Try.prog 9 #[] w fun e w' => e = .returned (.bool true) ∧ Below w.heap.size w w')
    (w : World) (hT : T w) (lv : Value) (l : List (Nat × Int)) (ok : ∀ r ∈ l, in64u r.1 ∧ -9223372036854775808 ≤ r.2 ∧ r.2 < 9223372036854775808) (hl : Rd w 2 lv l.length (runCells l)) :
    Calls Try.prog 4 #[lv] w fun e w' => e = .returned (.bool true) ∧ Below w.heap.size w w' := by
  have HT := Lib.hid hT; have HL := Lib.hid hl; have HO := Lib.hid ok; have HAL := Lib.hid hal
  obtain ⟨pl, cl, hv⟩ := hl.shape
  subst hv
  clear hT hl ok hal
  by_cases hlt : (20 : Int) < (l.length : Int)
  · go_enter Try.func4, Try.ntmps4
    go_wp2_with fail
    refine (HAL.out _ HT.out).mono ?_
    rintro e w1 ⟨rfl, hB⟩
    go_wp2_with fail
    go_ret
    exact ⟨rfl, hB⟩
  have HN : Hid (l.length ≤ 20) := by show _ ≤ _; omega
  have hnb : (l.length : Int) ≤ 20 := by omega
  clear hlt
  go_enter Try.func4, Try.ntmps4
  go_wp2_with fail
  go_loopw [3, 4, 13] (fun rv wv i wr => ∃ j : Nat, j ≤ l.length ∧ i = .int .i64 (j : Int) ∧ Hid (At w wr (l.take j) rv wv)) (fun _ _ i _ => l.length - (intOf i).toNat)
  case atStart => exact ⟨0, by omega, rfl, World.ownsRow_nil _ _ _ _, World.ownsRow_nil _ _ _ _, (fun k e => by cases e), Below.refl _ _⟩
  case round =>
    obtain ⟨j, hj, rfl, HA⟩ := hrel
    by_cases hlt : j < l.length
    · have hlt' : (j : Int) < (l.length : Int) := by omega
      have hji : (j : Int) ≤ 20 := by omega
      have HLr := Lib.hid (HL.out.below HA.out.bel)
      obtain ⟨x, c, hxc⟩ : ∃ x c, l[j] = (x, c) := ⟨_, _, rfl⟩
      have hg : l[j]? = some (x, c) := by rw [List.getElem?_eq_getElem hlt, hxc]
      obtain ⟨b3, o3, c3, e, _, _, hc3⟩ := HLr.out.at (fun e => by have := congrArg List.length e; rw [runCells_length, List.length_nil] at this; omega)
      simp only [Value.slice.injEq] at e
      obtain ⟨rfl, _, rfl⟩ := e
      obtain ⟨g1, g2⟩ := runCells_get l j x c hg
      have h3 := hc3 _ _ g1
      have h4 := hc3 _ _ g2
      rw [← Nat.add_assoc] at h4
      have HTk : Hid (l.take (j + 1) = l.take j ++ [(x, c)]) := by show _ = _; rw [List.take_add_one, hg]; rfl
      obtain ⟨hx64, hc1, hc2⟩ := HO.out _ (List.getElem_mem hlt)
      rw [hxc] at hx64 hc1 hc2
      simp only at hx64 hc1 hc2
      have HX := Lib.hid hx64
      have HRl : Hid ((l.take j).length = j) := by show _ = _; rw [List.length_take]; omega
      have HWl : Hid ((joinI (l.take j)).length ≤ 2560) := by show _ ≤ _; have := joinI_len (l.take j); rw [HRl.out] at this; have := HN.out; omega
      clear hc3 g1 g2 hg hxc hx64 HLr
      obtain ⟨pr, cr, hvr⟩ := (Rd.of_owns HA.out.runs).shape
      obtain ⟨pw, cw, hvw⟩ := (Rd.of_owns HA.out.want).shape
      rw [HRl.out] at hvr
      subst hvr; subst hvw
      generalize hrs : l.take j = rs at *
      clear hrs
      obtain ⟨M, hM⟩ : ∃ M, (joinI rs).length = M := ⟨_, rfl⟩
      rw [hM] at HA HWl ⊢
      have HMl := Lib.hid hM
      clear hM
      obtain ⟨w3, hw3⟩ : ∃ w3, wr.alloc (.cells #[.int .u64 (x : Int), .int .i64 c] 36) = w3 := ⟨_, rfl⟩
      have hb3 : Below wr.heap.size wr w3 := by rw [← hw3]; exact (Below.refl _ _).alloc (Nat.le_refl _) _
      have hk3 : Blk w3 wr.heap.size [.int .u64 (x : Int), .int .i64 c] := by rw [← hw3]; exact Blk.new wr _ _
      have HB3 := Lib.hid (HA.out.bel.trans (hb3.mono HA.out.bel.size))
      have HK3 := Lib.hid hk3
      have k3 : w3.cell? ⟨wr.heap.size, 0, none⟩ = some (.int .u64 (x : Int)) := by rw [hk3.cell]; rfl
      have k4 : w3.cell? ⟨wr.heap.size, 1, none⟩ = some (.int .i64 c) := by rw [hk3.cell]; rfl
      have HOr : Hid (w3.ownsRow 0 31 2 (.slice pr j cr) j (runCells rs)) := by
        have h := owns_rebase ((Mods.of_below hb3 (fun _ => False)).owns HA.out.runs (fun _ _ e => e)) (base' := 0) (fun _ _ => Nat.zero_le _)
        rw [HRl.out] at h
        exact h
      have HOw : Hid (w3.ownsRow w.heap.size 29 1 (.slice pw M cw) M (u64s (joinI rs))) := by
        have h := (Mods.of_below hb3 (fun _ => False)).owns HA.out.want (fun _ _ e => e)
        rw [HMl.out] at h
        exact h
      have HLr2 : Hid (∀ k, (Value.slice pr j cr).ownBlock = some k → w.heap.size ≤ k ∧ k < wr.heap.size ∧ (Value.slice pw M cw).ownBlock ≠ some k) := fun k hk => ⟨(HA.out.runs.lt k hk).1, (HA.out.runs.lt k hk).2, HA.out.apart k hk⟩
      have HLb : Hid ((j + 1) * 16 ≤ 140737488355328 ∧ j + 1 ≤ maxLen) := by show _ ∧ _; unfold maxLen; omega
      have HSz : Hid (wr.heap.size < w3.heap.size) := hk3.lt
      have HOne : Hid (∀ u ∈ (#[.int .u64 (x : Int), .int .i64 c] : Array Value).toList, u.oneCell' = true) := by
        intro u hu
        simp only [List.mem_cons, List.not_mem_nil, or_false] at hu
        rcases hu with rfl | rfl <;> rfl
      clear hb3 hk3
      go_wp2_with (at_builtin; refine wpList_push elemRun w3 #[.int .u64 (x : Int), .int .i64 c] _ _ _ HOr.out rfl HOne.out HLb.out rfl _ _ rfl rfl rfl ?_)
      intro v4 w4 hown hmods hfr
      have hrs4 : w4.ownsRow 0 31 2 v4 (j + 1) (runCells rs ++ [.int .u64 (x : Int), .int .i64 c]) := hown
      have HR4 : Hid (w4.ownsRow w.heap.size 31 2 v4 (j + 1) (runCells (rs ++ [(x, c)]))) := by
        show World.ownsRow _ _ _ _ _ _ _
        rw [runCells_append]
        refine owns_rebase hrs4 (fun k hk => ?_)
        rcases hfr k hk with e | e
        · exact (HLr2.out k e).1
        · have := HB3.out.size; omega
      have HW4 : Hid (w4.ownsRow w.heap.size 29 1 (.slice pw M cw) M (u64s (joinI rs))) := hmods.owns HOw.out (fun k hk e => (HLr2.out k e).2.2 hk)
      have HAp4 : Hid (∀ k, v4.ownBlock = some k → (Value.slice pw M cw).ownBlock ≠ some k) := fun k hk e => by
        rcases hfr k hk with e1 | e1
        · exact (HLr2.out k e1).2.2 e
        · have := (HOw.out.lt k e).2; omega
      have HB4 : Hid (Below w.heap.size w w4) := HB3.out.trans (hmods.below HB3.out.size (fun k hk e => by have := (HLr2.out k e).1; omega))
      have hk4 := hmods.blk HK3.out (fun e => by have := (HLr2.out _ e).2.1; omega)
      have k5 : w4.cell? ⟨wr.heap.size, 0, none⟩ = some (.int .u64 (x : Int)) := by rw [hk4.cell]; rfl
      have k6 : w4.cell? ⟨wr.heap.size, 1, none⟩ = some (.int .i64 c) := by rw [hk4.cell]; rfl
      have hsz4 : wr.heap.size < w4.heap.size := hk4.lt
      obtain ⟨p4, c4, hv4⟩ := (Rd.of_owns hrs4).shape
      subst hv4
      clear hown hmods hfr hrs4 hk4 k3 k4 h3 h4 HOr HOw HLr2 HOne HK3 HSz HB3 HLb HA
      by_cases hin : 1 ≤ c ∧ c ≤ 128
      · obtain ⟨n, hn⟩ : ∃ n : Nat, c = (n : Int) := ⟨c.toNat, by omega⟩
        subst hn
        have hi1 : (1 : Int) ≤ (n : Int) := hin.1
        have hi2 : (n : Int) ≤ 128 := hin.2
        have HJn : Hid (joinI (rs ++ [(x, (n : Int))]) = joinI rs ++ List.replicate n x) := by show _ = _; rw [joinI_append, joinI_yes x n (by omega) (by omega)]
        have HRep := Lib.hid (repeat_one _ x n (by omega) _ (lit_one w4 x))
        have hb5 : Below w4.heap.size w4 (w4.alloc (.cells #[.int .u64 (x : Int)] 29)) := (Below.refl _ _).alloc (Nat.le_refl _) _
        have HB5 := Lib.hid hb5
        have HN128 : Hid (n ≤ 128) := by show _ ≤ _; omega
        clear hin hc1 hc2 hb5
        go_wp2_with fail
        refine HRep.out.mono ?_
        rintro e w5 ⟨r5, rfl, hM⟩
        have hB45 : Below w4.heap.size w4 w5 := HB5.out.trans (hM.2.mono HB5.out.size)
        have HM5 := Lib.hid (Rd.of_owns hM.1)
        have HR5 := Lib.hid ((Mods.of_below hB45 (fun _ => False)).owns HR4.out (fun _ _ e => e))
        have HW5 := Lib.hid ((Mods.of_below hB45 (fun _ => False)).owns HW4.out (fun _ _ e => e))
        have HB5w := Lib.hid (HB4.out.trans (hB45.mono HB4.out.size))
        obtain ⟨p5, c5, hv5⟩ := (Rd.of_owns hM.1).shape
        subst hv5
        have HLb2 : Hid ((M + n) * 8 ≤ 140737488355328 ∧ M + n ≤ maxLen) := by show _ ∧ _; have := HWl.out; have := HN128.out; unfold maxLen; omega
        clear hM HRep hB45 HB5 HR4 HW4 HB4 k5 k6
        go_wp2_with (at_builtin; refine wpList_extend Try.elemU64 w5 _ _ _ _ _ _ (owns_rebase HW5.out (fun _ _ => Nat.zero_le _)) HM5.out (u64s_one _) HLb2.out rfl _ _ rfl rfl rfl ?_)
        intro v6 w6 hown hmods hfr
        have HA6 : Hid (At w w6 (l.take (j + 1)) (.slice p4 (j + 1) c4) v6) := by
          show At _ _ _ _ _
          rw [HTk.out]
          have hl1 : (rs ++ [(x, (n : Int))]).length = j + 1 := by rw [List.length_append, HRl.out]; rfl
          refine ⟨?_, ?_, fun k hk e => ?_, ?_⟩
          · rw [hl1]
            exact hmods.owns HR5.out (fun k hk e => HAp4.out k hk e)
          · rw [HJn.out, List.length_append, List.length_replicate, HMl.out, u64s_append]
            refine owns_rebase hown (fun k hk => ?_)
            rcases hfr k hk with e | e
            · exact (HW5.out.lt k e).1
            · have := HB5w.out.size; omega
          · rcases hfr k e with e1 | e1
            · exact HAp4.out k hk e1
            · have := (HR5.out.lt k hk).2; omega
          · exact HB5w.out.trans (hmods.below HB5w.out.size (fun k hk e => by have := (HW5.out.lt k e).1; omega))
        obtain ⟨p6, c6, hv6⟩ := (Rd.of_owns hown).shape
        subst hv6
        clear hown hmods hfr HR5 HW5 HB5w HM5 HLb2
        go_wp2_with fail
        go_round
        case rel => exact ⟨j + 1, by omega, by go_num, HA6.out⟩
        case measure => simp [intOf]; omega
      · have HJn : Hid (joinI (rs ++ [(x, c)]) = joinI rs) := by show _ = _; rw [joinI_append, joinI_no x c hin, List.append_nil]
        have HA6 : Hid (At w w4 (l.take (j + 1)) (.slice p4 (j + 1) c4) (.slice pw M cw)) := by
          show At _ _ _ _ _
          rw [HTk.out]
          have hl1 : (rs ++ [(x, c)]).length = j + 1 := by rw [List.length_append, HRl.out]; rfl
          refine ⟨by rw [hl1]; exact HR4.out, by rw [HJn.out, HMl.out]; exact HW4.out, HAp4.out, HB4.out⟩
        by_cases hl1 : 1 ≤ c
        · have hl2 : ¬ c ≤ 128 := fun e => hin ⟨hl1, e⟩
          clear hin HR4 HW4 HB4
          go_wp2_with fail
          go_round
          case rel => exact ⟨j + 1, by omega, by go_num, HA6.out⟩
          case measure => simp [intOf]; omega
        · clear hin HR4 HW4 HB4
          go_wp2_with fail
          go_round
          case rel => exact ⟨j + 1, by omega, by go_num, HA6.out⟩
          case measure => simp [intOf]; omega
    · have hlt' : ¬ (j : Int) < (l.length : Int) := by omega
      have HTr := Lib.hid (I.below HT.out HA.out.bel)
      have HTa : Hid (l.take j = l) := List.take_of_length_le (by omega)
      rw [HTa.out] at HA
      have HRr := Lib.hid (Rd.of_owns HA.out.runs)
      have HWr := Lib.hid (Rd.of_owns HA.out.want)
      have HBx := Lib.hid HA.out.bel
      obtain ⟨pr, cr, hvr⟩ := HRr.out.shape
      obtain ⟨pw, cw, hvw⟩ := HWr.out.shape
      subst hvr; subst hvw
      clear HA
      go_wp2_with fail
      refine (HAL.out _ HTr.out).mono ?_
      rintro e w3 ⟨rfl, hB⟩
      have HB3 := Lib.hid (HBx.out.trans (hB.mono HBx.out.size))
      have HT3 := Lib.hid (I.below HTr.out hB)
      have HJn := Lib.hid (I.join _ l w3 HT3.out (HRr.out.below hB) HO.out (by have := HN.out; omega))
      have HW3 := Lib.hid (HWr.out.below hB)
      clear hB HTr HBx HRr HWr
      go_wp2_with fail
      refine HJn.out.mono ?_
      rintro e w4 ⟨r4, rfl, hr4, hB⟩
      have HB4 := Lib.hid (HB3.out.trans (hB.mono HB3.out.size))
      have HR4 := Lib.hid hr4
      have HW4 := Lib.hid (HW3.out.below hB)
      obtain ⟨p4, c4, hv4⟩ := hr4.shape
      subst hv4
      clear hr4 hB HB3 HT3 HW3
      go_wp2_with fail
      refine (equal_u64 _ _ (joinI l) (joinI l) w4 HR4.out HW4.out).mono ?_
      rintro e w5 ⟨rfl, hB⟩
      have hd : decide (joinI l = joinI l) = true := by simp
      rw [hd]
      have HB5 := Lib.hid (HB4.out.trans (hB.mono HB4.out.size))
      clear hd hB
      go_wp2_with fail
      go_ret
      exact ⟨rfl, HB5.out⟩
end Go.Proofs.Ytnjdjmfjkjpelaa.runvalJoins
