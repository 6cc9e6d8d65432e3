/- Layer 7: RunvalSplits, walked over the interface. -/
import Derived.Test.YtnjdjmfjkjpelaaRunI
import Derived.Test.YtnjdjmfjkjpelaaEqualRun
set_option linter.unusedVariables false
namespace Go.Proofs.Ytnjdjmfjkjpelaa.runvalSplits
open Go Go.RowKit
variable {G : Nat} {T : World → Prop}

set_option maxRecDepth 20000 in
set_option maxHeartbeats 8000000 in
theorem walk (I : RIf G T) (hal : ∀ w, T w → Calls Try.prog 9 #[] w fun e w' => e = .returned (.bool true) ∧ Below w.heap.size w w')
    (w : World) (hT : T w) (lv : Value) (l : List Nat) (ok : ∀ t ∈ l, in64u t) (hl : Rd w 1 lv l.length (u64s l)) :
    Calls Try.prog 3 #[lv] w fun e w' => e = .returned (.bool true) ∧ Below w.heap.size w w' := by
  have HT := Lib.hid hT; have HL := Lib.hid hl; have HO := Lib.hid ok; have HAL := Lib.hid hal
  obtain ⟨pl, cl, hv⟩ := hl.shape
  subst hv
  clear hT hl ok hal
  by_cases hlt : (600 : Int) < (l.length : Int)
  · go_enter Try.func3, Try.ntmps3
    go_wp2_with fail
    refine (HAL.out _ HT.out).mono ?_
    rintro e w1 ⟨rfl, hB⟩
    go_wp2_with fail
    go_ret
    exact ⟨rfl, hB⟩
  have HN : Hid (l.length ≤ 600) := by show _ ≤ _; omega
  have HSp := Lib.hid (ref_split07 _ l w HL.out (by omega))
  have HNs : Hid ((splitR l).length ≤ 600) := by show _ ≤ _; have := splitR_len l; have := HN.out; omega
  have HJo : Hid (joinI (runsI (splitR l)) = l) := by show _ = _; rw [joinI_runs (chain_all (chain_splitR HO.out)), joinR_splitR]
  have HOk : Hid (∀ r ∈ runsI (splitR l), in64u r.1 ∧ -9223372036854775808 ≤ r.2 ∧ r.2 < 9223372036854775808) := fun r hr => by
    obtain ⟨s, hs, rfl⟩ := List.mem_map.1 hr
    have h := chain_all (chain_splitR HO.out) s hs
    unfold runOk at h
    exact ⟨h.2.2, by show -9223372036854775808 ≤ ((s.2 : Nat) : Int); omega, by show ((s.2 : Nat) : Int) < _; omega⟩
  go_enter Try.func3, Try.ntmps3
  go_wp2_with fail
  refine HSp.out.mono ?_
  rintro e w1 ⟨rv, rc, rfl, hTw⟩
  have HTw := Lib.hid hTw
  have HT1 := Lib.hid (I.below HT.out hTw.bel)
  obtain ⟨pv, cv, hvv⟩ := (Rd.of_owns hTw.vals).shape
  obtain ⟨pc, cc, hvc⟩ := (Rd.of_owns hTw.cnts).shape
  subst hvv; subst hvc
  have HSplit := Lib.hid (I.split _ l w1 HT1.out (HL.out.below hTw.bel) HO.out (by have := HN.out; omega))
  clear hTw HSp
  generalize splitR l = rs at *
  go_wp2_with fail
  refine HSplit.out.mono ?_
  rintro e w2 ⟨r2, rfl, hr2, hB2⟩
  have HR2 := Lib.hid hr2
  have HB2 := Lib.hid hB2
  have HT2 := Lib.hid (I.below HT1.out hB2)
  obtain ⟨p2, c2, hv2⟩ := hr2.shape
  subst hv2
  have HBw := Lib.hid (HTw.out.bel.trans (hB2.mono HTw.out.bel.size))
  have hnb : (rs.length : Int) ≤ 600 := by have := HNs.out; omega
  clear hr2 hB2 HSplit HT1
  go_wp2_with fail
  go_loopw [26] (fun i wr => ∃ j : Nat, j ≤ rs.length ∧ i = .int .i64 (j : Int) ∧ Hid (Below w2.heap.size w2 wr)) (fun i _ => rs.length - (intOf i).toNat)
  case atStart => exact ⟨0, by omega, rfl, Below.refl _ _⟩
  case round =>
    obtain ⟨j, hj, rfl, HBr⟩ := hrel
    by_cases hlt : j < rs.length
    · have hlt' : (j : Int) < (rs.length : Int) := by omega
      have HV := Lib.hid (((Rd.of_owns HTw.out.vals).below HB2.out).below HBr.out)
      have HC := Lib.hid (((Rd.of_owns HTw.out.cnts).below HB2.out).below HBr.out)
      have HR := Lib.hid (HR2.out.below HBr.out)
      obtain ⟨x, c, hxc⟩ : ∃ x c, rs[j] = (x, c) := ⟨_, _, rfl⟩
      have hg : rs[j]? = some (x, c) := by rw [List.getElem?_eq_getElem hlt, hxc]
      obtain ⟨b1, o1, c1, e, _, _, hc1⟩ := HV.out.at (fun e => by have := congrArg List.length e; rw [u64s_length, List.length_map, List.length_nil] at this; omega)
      simp only [Value.slice.injEq] at e
      obtain ⟨rfl, _, rfl⟩ := e
      obtain ⟨b2, o2, c2', e, _, _, hc2⟩ := HC.out.at (fun e => by have := congrArg List.length e; rw [n64s_length, List.length_map, List.length_nil] at this; omega)
      simp only [Value.slice.injEq] at e
      obtain ⟨rfl, _, rfl⟩ := e
      obtain ⟨b3, o3, c3, e, _, _, hc3⟩ := HR.out.at (fun e => by have := congrArg List.length e; rw [runCells_length, runsI_length, List.length_nil] at this; omega)
      simp only [Value.slice.injEq] at e
      obtain ⟨rfl, _, rfl⟩ := e
      have h1 := hc1 j (.int .u64 (x : Int)) (by rw [u64s, List.getElem?_map, List.getElem?_map, hg]; rfl)
      have h2 := hc2 j (.int .i64 (c : Int)) (by rw [n64s, List.getElem?_map, List.getElem?_map, hg]; rfl)
      obtain ⟨g1, g2⟩ := runCells_get (runsI rs) j x (c : Int) (by rw [runsI, List.getElem?_map, hg]; rfl)
      have h3 := hc3 _ _ g1
      have h4 := hc3 _ _ g2
      rw [← Nat.add_assoc] at h4
      clear hc1 hc2 hc3 g1 g2 hg hxc HV HC HR
      go_wp2_with fail
      obtain ⟨w3, hw3⟩ : ∃ w3, wr.alloc (.cells #[.int .u64 (x : Int), .int .i64 (c : Int)] 31) = w3 := ⟨_, rfl⟩
      have hb3 : Below wr.heap.size wr w3 := by rw [← hw3]; exact (Below.refl _ _).alloc (Nat.le_refl _) _
      have hk3 : Blk w3 wr.heap.size [.int .u64 (x : Int), .int .i64 (c : Int)] := by rw [← hw3]; exact Blk.new wr _ _
      have k1 := (hb3.cell (World.block_lt_of_cell? wr _ h1)).trans h1
      have k2 := (hb3.cell (World.block_lt_of_cell? wr _ h2)).trans h2
      have k3 : w3.cell? ⟨wr.heap.size, 0, none⟩ = some (.int .u64 (x : Int)) := by rw [hk3.cell]; rfl
      have k4 : w3.cell? ⟨wr.heap.size, 1, none⟩ = some (.int .i64 (c : Int)) := by rw [hk3.cell]; rfl
      have HB3 := Lib.hid (HBr.out.trans (hb3.mono HBr.out.size))
      rw [hw3]
      clear hw3 hb3 hk3 h1 h2 h3 h4
      go_wp2_with fail
      go_quiet (fail)
      have HB4 : Hid (Below w2.heap.size w2 (w3.drewN nq)) := HB3.out.trans ⟨rfl, rfl, rfl, Nat.le_refl _, fun _ _ => rfl⟩
      clear k1 k2 k3 k4 HB3
      generalize w3.drewN nq = w4 at *
      go_wp2_with fail
      go_round
      case rel => exact ⟨j + 1, by omega, by go_num, HB4.out⟩
      case measure => simp [intOf]; omega
    · have hlt' : ¬ (j : Int) < (rs.length : Int) := by omega
      have HTr := Lib.hid (I.below HT2.out HBr.out)
      have HBx := Lib.hid (HBw.out.trans (HBr.out.mono HBw.out.size))
      have HRr := Lib.hid (HR2.out.below HBr.out)
      go_wp2_with fail
      refine (HAL.out _ HTr.out).mono ?_
      rintro e w3 ⟨rfl, hB⟩
      have HB3 := Lib.hid (HBx.out.trans (hB.mono HBx.out.size))
      have HT3 := Lib.hid (I.below HTr.out hB)
      have HRl : Hid (Rd w3 2 (.slice p2 rs.length c2) (runsI rs).length (runCells (runsI rs))) := by show Rd _ _ _ _ _; rw [runsI_length]; exact HRr.out.below hB
      have HJn := Lib.hid (I.join _ (runsI rs) w3 HT3.out HRl.out HOk.out (by rw [runsI_length]; have := HNs.out; omega))
      rw [HJo.out] at HJn
      clear hB HTr HBx HRr
      go_wp2_with fail
      refine HJn.out.mono ?_
      rintro e w4 ⟨r4, rfl, hr4, hB⟩
      have HB4 := Lib.hid (HB3.out.trans (hB.mono HB3.out.size))
      have HR4 := Lib.hid hr4
      obtain ⟨p4, c4, hv4⟩ := hr4.shape
      subst hv4
      clear hr4 hB HB3 HT3
      go_wp2_with fail
      refine (equal_u64 _ _ l l w4 HR4.out (HL.out.below HB4.out)).mono ?_
      rintro e w5 ⟨rfl, hB⟩
      have hd : decide (l = l) = true := by simp
      rw [hd]
      have HB5 := Lib.hid (HB4.out.trans (hB.mono HB4.out.size))
      clear hd hB
      go_wp2_with fail
      go_ret
      exact ⟨rfl, HB5.out⟩
end Go.Proofs.Ytnjdjmfjkjpelaa.runvalSplits
