/- Layer 3: CrcMatchesReference, walked. -/
import Derived.Test.YtehnfibmglnlcaaDoorAlive03
import Derived.Test.YtehnfibmglnlcaaDoorRef03B
set_option linter.unusedVariables false
namespace Go.Proofs.YtehnfibmglnlcaaDoor.crcMatchesReference
open Go Go.RowKit

set_option maxHeartbeats 2000000 in
theorem walk (w : World) (hT : Tab w) (s : Nat) (hs : s < 4294967296) (v : Value) (l : List Nat) (ok : ∀ a ∈ l, a < 256) (hl : Rd w 1 v l.length (u8s l)) (hz : l.length * 1 ≤ 140737488351232) :
    Calls Tryd.prog 3 #[.int .u32 s, v] w fun e w' => e = .returned (.bool true) ∧ Below w.heap.size w w' := by
  have HT := Lib.hid hT
  have HL := Lib.hid hl
  have HO := Lib.hid ok
  obtain ⟨q, c, hv⟩ := hl.shape
  subst hv
  clear hl ok hT
  by_cases hlt : 2000 < l.length
  · have hlt' : (2000 : Int) < (l.length : Int) := by omega
    go_enter Tryd.func3, Tryd.ntmps3
    go_wp2_with fail
    refine (alive_any _ HT.out).mono ?_
    rintro e w1 ⟨rfl, hB⟩
    go_wp2_with fail
    go_ret
    exact ⟨rfl, hB⟩
  · have hlt' : ¬ (2000 : Int) < (l.length : Int) := by omega
    have hn : l.length ≤ 140737488355000 := by omega
    go_enter Tryd.func3, Tryd.ntmps3
    go_wp2_with fail
    refine (alive_any _ HT.out).mono ?_
    rintro e w1 ⟨rfl, hB⟩
    have HB1 := Lib.hid hB
    have HL1 := Lib.hid (HL.out.below hB)
    have HT1 := Lib.hid (HT.out.below hB (Nat.le_refl _))
    clear hB
    go_wp2_with fail
    refine (crc_update s _ l _ HT1.out hs HL1.out HO.out).mono ?_
    rintro e w2 ⟨rfl, rfl⟩
    have HU := Lib.hid (fun w v h => ref_update s v l w hs h HO.out)
    generalize upd s l = U at *
    go_wp2_with fail
    refine (HU.out _ _ HL1.out).mono ?_
    rintro e w2 ⟨rfl, rfl⟩
    go_wp2_with fail
    refine (crc_sum _ l _ HT1.out HL1.out HO.out).mono ?_
    rintro e w2 ⟨rfl, rfl⟩
    have HS := Lib.hid (fun w v h => ref_sum v l w h HO.out)
    generalize crcOf l = S at *
    go_wp2_with fail
    refine (HS.out _ _ HL1.out).mono ?_
    rintro e w2 ⟨rfl, rfl⟩
    go_wp2_with fail
    refine (crc_append _ l _ HT1.out HL1.out HO.out hn).mono ?_
    rintro e w2 ⟨r2, rfl, hM⟩
    obtain ⟨q2, c2, hr⟩ := (Rd.of_owns hM.1).shape
    subst hr
    have HR2 := Lib.hid (Rd.of_owns hM.1)
    have HB2 := Lib.hid (HB1.out.trans (hM.2.mono HB1.out.size))
    have HL2 := Lib.hid (HL.out.below HB2.out)
    clear hM HL1 HT1 HB1
    go_wp2_with fail
    refine (ref_append _ l _ HL2.out HO.out hn).mono ?_
    rintro e w3 ⟨r3, rfl, hM⟩
    obtain ⟨q3, c3, hr⟩ := (Rd.of_owns hM.1).shape
    subst hr
    have HR3 := Lib.hid (Rd.of_owns hM.1)
    have HR2' := Lib.hid (HR2.out.below hM.2)
    have HB3 := Lib.hid (HB2.out.trans (hM.2.mono HB2.out.size))
    have HL3 := Lib.hid (HL.out.below HB3.out)
    have HT3 := Lib.hid (HT.out.below HB3.out (Nat.le_refl _))
    have HW := Lib.hid (withCrc_lt HO.out)
    clear hM HL2 HB2 HR2
    generalize withCrc l = W at *
    go_wp2_with fail
    refine (equal_any _ _ _ _ _ _ _ HR2'.out HR3.out HW.out HW.out).mono ?_
    rintro e w4 ⟨rfl, rfl⟩
    rw [decide_eq_true rfl]
    go_wp2_with fail
    refine (crc_check _ l _ HT3.out HL3.out HO.out).mono ?_
    rintro e w4 ⟨rfl, hB⟩
    have HB4 := Lib.hid (HB3.out.trans (hB.mono HB3.out.size))
    have HL4 := Lib.hid (HL.out.below HB4.out)
    have HC := Lib.hid (fun w v h => ref_check v l w h HO.out hn)
    clear hB HB3 HL3 HT3
    generalize isCrc l = b at *
    go_wp2_with fail
    refine (HC.out _ _ HL4.out).mono ?_
    rintro e w5 ⟨rfl, hB⟩
    have HB5 := Lib.hid (HB4.out.trans (hB.mono HB4.out.size))
    clear hB HB4 HL4
    go_wp2_with fail
    go_ret
    exact ⟨by simp, HB5.out⟩
end Go.Proofs.YtehnfibmglnlcaaDoor.crcMatchesReference
