/- Layer 9: ChunkSplits, walked over the interface. -/
import Derived.Test.YtgpmoimmpbkgfaaGreatDoorMrg3
import Derived.Test.YtgpmoimmpbkgfaaGreatDoorMrg4
set_option linter.unusedVariables false
set_option maxRecDepth 20000
namespace Go.Proofs.YtgpmoimmpbkgfaaGreatDoor.chunkSplits
open Go Go.RowKit
variable {G : Nat} {T : World → Prop}

set_option maxHeartbeats 4000000 in
theorem walk (I : CIf G T) (hal : ∀ w, T w → Calls Tryz.prog 9 #[] w fun e w' => e = .returned (.bool true) ∧ Below w.heap.size w w')
    (w : World) (hT : T w) (lv : Value) (l : List (Int × Nat)) (ok : ∀ s ∈ l, sampleOk s) (hl : Rd w 2 lv l.length (samCells l)) :
    Calls Tryz.prog 8 #[lv] w fun e w' => e = .returned (.bool true) ∧ Below w.heap.size w w' := by
  have HT := Lib.hid hT; have HL := Lib.hid hl; have HAL := Lib.hid hal
  obtain ⟨pl, cl, hv⟩ := hl.shape
  subst hv
  clear hT hl ok hal
  by_cases hlt : 2000 < l.length
  · have hlt' : (2000 : Int) < (l.length : Int) := by omega
    go_enter Tryz.func8, Tryz.ntmps8
    go_wp2_with fail
    refine (HAL.out _ HT.out).mono ?_
    rintro e w1 ⟨rfl, hB⟩
    go_wp2_with fail
    go_ret
    exact ⟨rfl, hB⟩
  · have hlt' : ¬ (2000 : Int) < (l.length : Int) := by omega
    have HN : Hid (l.length ≤ 2000) := by show _ ≤ _; omega
    have HSp := Lib.hid (I.split _ l w HT.out HL.out (by omega))
    clear hlt
    go_enter Tryz.func8, Tryz.ntmps8
    go_wp2_with fail
    refine HSp.out.mono ?_
    rintro e w1 ⟨r1, vs, ps, rfl, hp, hr, hat, hB⟩
    have HB1 := Lib.hid hB
    have HT1 := Lib.hid (I.below HT.out hB)
    have HV1 := Lib.hid hr
    have HA1 := Lib.hid hat
    have HP := Lib.hid hp
    obtain ⟨p1, c1, hv1⟩ := hr.shape
    subst hv1
    have hcnt : ((vs.length : Int)) = ((l.length : Int) + 119) / 120 := by have := hp.count; have := hat.1; omega
    have HVn : Hid (vs.length ≤ 1000000) := by show _ ≤ _; have := hp.count; have := hat.1; have := HN.out; omega
    have hvb : (vs.length : Int) ≤ 1000000 := by have := HVn.out; omega
    have HE : Hid (flatAll ps = l) := hp.1
    clear hr hB HSp hp hat
    go_wp2_with fail
    go_loop [22] (fun iv => ∃ i : Nat, i ≤ vs.length ∧ iv = .int .i64 (i : Int)) (fun iv => vs.length - (intOf iv).toNat)
    case atStart => exact ⟨0, Nat.zero_le _, rfl⟩
    case round =>
      obtain ⟨i, hi, rfl⟩ := hrel
      have hib : (i : Int) ≤ 1000000 := by omega
      by_cases hlt : i < vs.length
      · have hlt' : (i : Int) < (vs.length : Int) := by omega
        obtain ⟨v, hv⟩ : ∃ v, vs[i]? = some v := ⟨_, List.getElem?_eq_getElem hlt⟩
        have hpl : i < ps.length := by rw [← HA1.out.1]; exact hlt
        obtain ⟨p, hpi⟩ : ∃ p, ps[i]? = some p := ⟨_, List.getElem?_eq_getElem hpl⟩
        obtain ⟨pp, cp, he⟩ := (HA1.out.2 i v p hv hpi).shape
        subst he
        have hp1 := HP.out.2.1 p (List.mem_of_getElem? hpi)
        have hp2 := HP.out.2.2 i p
        obtain ⟨b, off, c', e, hnc, hncm, hcell⟩ := HV1.out.at (fun e => by rw [e] at hlt; cases hlt)
        simp only [Value.slice.injEq] at e
        obtain ⟨rfl, _, rfl⟩ := e
        have hct : w1.cell? ⟨b, off + i, none⟩ = some (.slice pp p.length cp) := hcell i _ hv
        have hL1 : ¬ (p.length : Int) < 1 := by omega
        have hL2 : ¬ (120 : Int) < (p.length : Int) := by omega
        have HVl := Lib.hid HA1.out.1
        clear hcell hnc hncm hv
        by_cases hla : i + 1 < ps.length
        · have h120 : (p.length : Int) = 120 := by have := hp2 hla hpi; omega
          have hln : (i : Int) < (vs.length : Int) - 1 := by have := HVl.out; omega
          clear hp1 hp2 hpi hpl hla
          go_wp2_with fail
          refine ⟨⟨_, _, _, _, ⟨i + 1, by omega, ?_⟩, rfl, rfl, rfl, rfl⟩, ?_⟩
          · go_num
          · simp [intOf]; omega
        · have hln : ¬ (i : Int) < (vs.length : Int) - 1 := by have := HVl.out; omega
          clear hp1 hp2 hpi hpl hla
          go_wp2_with fail
          refine ⟨⟨_, _, _, _, ⟨i + 1, by omega, ?_⟩, rfl, rfl, rfl, rfl⟩, ?_⟩
          · go_num
          · simp [intOf]; omega
      · have hlt' : ¬ (i : Int) < (vs.length : Int) := by omega
        clear hlt hi
        go_wp2_with fail
        refine (HAL.out _ HT1.out).mono ?_
        rintro e w2 ⟨rfl, hB⟩
        have HB2 := Lib.hid (HB1.out.trans (hB.mono HB1.out.size))
        have HV2 := Lib.hid (HV1.out.below hB)
        have HA2 := Lib.hid (HA1.out.below hB)
        clear hB
        have HCc := Lib.hid (concat_sam _ vs ps w2 HV2.out HA2.out (by show (flatAll ps).length ≤ _; rw [HE.out]; have := HN.out; omega) HVn.out)
        go_wp2_with fail
        refine HCc.out.mono ?_
        rintro e w3 ⟨r3, rfl, hM⟩
        have HB3 := Lib.hid (HB2.out.trans (hM.2.mono HB2.out.size))
        have HC3 : Hid (Rd w3 2 r3 l.length (samCells l)) := by
          have h := Rd.of_owns hM.1
          rw [show flatAll ps = l from HE.out] at h
          exact h
        have HL3 := Lib.hid (HL.out.below HB3.out)
        obtain ⟨p3, c3, hv3⟩ := HC3.out.shape
        subst hv3
        clear hM HCc HB2 HV2 HA2
        go_wp2_with fail
        refine (equal_sam _ _ l w3 (by have := HN.out; omega) HC3.out HL3.out).mono ?_
        rintro e w4 ⟨rfl, hB⟩
        have HB4 := Lib.hid (HB3.out.trans (hB.mono HB3.out.size))
        go_wp2_with fail
        go_ret
        exact ⟨rfl, HB4.out⟩
end Go.Proofs.YtgpmoimmpbkgfaaGreatDoor.chunkSplits
