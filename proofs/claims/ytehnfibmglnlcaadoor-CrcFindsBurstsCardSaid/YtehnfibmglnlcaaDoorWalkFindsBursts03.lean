/- Layer 3: CrcFindsBursts, walked. -/
import Derived.Test.YtehnfibmglnlcaaDoorAlive03
import Derived.Test.YtehnfibmglnlcaaDoorRef03B
import Derived.Test.YtehnfibmglnlcaaDoorRef03C
set_option linter.unusedVariables false
namespace Go.Proofs.YtehnfibmglnlcaaDoor.crcFindsBursts
open Go Go.RowKit

set_option maxHeartbeats 2000000 in
theorem walk (w : World) (hT : Tab w) (v : Value) (l : List Nat) (ok : ∀ a ∈ l, a < 256) (hl : Rd w 1 v l.length (u8s l)) (hz : l.length * 1 ≤ 140737488351232) (f : Nat) (hf : f < 65536) (p : Nat) (hp : p < 4294967296) :
    Calls Tryd.prog 8 #[v, .int .u16 f, .int .u32 p] w fun e w' => e = .returned (.bool true) ∧ Below w.heap.size w w' := by
  have HT := Lib.hid hT
  have HL := Lib.hid hl
  have HO := Lib.hid ok
  obtain ⟨q, c, hv⟩ := hl.shape
  subst hv
  clear hl ok hT
  by_cases hlt : 2000 < l.length
  · have hlt' : (2000 : Int) < (l.length : Int) := by omega
    go_enter Tryd.func8, Tryd.ntmps8
    go_wp2_with fail
    refine (alive_any _ HT.out).mono ?_
    rintro e w1 ⟨rfl, hB⟩
    go_wp2_with fail
    go_ret
    exact ⟨rfl, hB⟩
  · have hlt' : ¬ (2000 : Int) < (l.length : Int) := by omega
    have hn : l.length ≤ 140737488355000 := by omega
    go_enter Tryd.func8, Tryd.ntmps8
    go_wp2_with fail
    refine (ref_append _ l _ HL.out HO.out hn).mono ?_
    rintro e w1 ⟨r, rfl, hM⟩
    obtain ⟨q1, c1, hr⟩ := (Rd.of_owns hM.1).shape
    subst hr
    have HR1 := Lib.hid (Rd.of_owns hM.1)
    have HB1 := Lib.hid hM.2
    have HW := Lib.hid (withCrc_lt HO.out)
    have HOk := Lib.hid (isCrc_withCrc l)
    have hWl := withCrc_length l
    clear hM
    generalize withCrc l = W at *
    have hW0 : 4 ≤ W.length := by omega
    have hW1 : W.length ≤ 2004 := by omega
    clear hWl hlt' hlt hz hn
    obtain ⟨o, ho⟩ : ∃ o, f % (8 * W.length) = o := ⟨_, rfl⟩
    have hoW : o < 8 * W.length := ho ▸ Nat.mod_lt _ (by omega)
    have HI : Hid ((f : Int) % (8 * (W.length : Int)) = (o : Int)) := by show _ = _; rw [← ho]; simp
    have HD := Lib.hid (flip_found HW.out hW0 HOk.out o p hoW)
    have HD8 := Lib.hid (flipTo_lt HW.out o p 32)
    have HDl := Lib.hid (flipTo_length W o p 32)
    clear ho
    go_wp2_with fail
    rw [HI.out]
    refine (ref_flip _ W o p _ HR1.out HW.out (by omega) hoW hp).mono ?_
    rintro e w2 ⟨r2, rfl, hM⟩
    obtain ⟨q2, c2, hr⟩ := (Rd.of_owns hM.1).shape
    subst hr
    have HR2 := Lib.hid (HR1.out.below hM.2)
    have HF2 := Lib.hid (Rd.of_owns hM.1)
    have HB2 := Lib.hid (HB1.out.trans (hM.2.mono HB1.out.size))
    have HT2 := Lib.hid (HT.out.below HB2.out (Nat.le_refl _))
    clear hM HR1 HB1 HI
    generalize flipTo W o p 32 = D at *
    go_wp2_with fail
    refine (alive_any _ HT2.out).mono ?_
    rintro e w3 ⟨rfl, hB⟩
    have HR3 := Lib.hid (HR2.out.below hB)
    have HF3 : Hid (Rd w3 1 (.slice q2 W.length c2) D.length (u8s D)) := by show Rd _ _ _ _ _; rw [HDl.out]; exact HF2.out.below hB
    have HB3 := Lib.hid (HB2.out.trans (hB.mono HB2.out.size))
    have HT3 := Lib.hid (HT.out.below HB3.out (Nat.le_refl _))
    clear hB HR2 HF2 HB2 HT2
    go_wp2_with fail
    refine (crc_check _ W _ HT3.out HR3.out HW.out).mono ?_
    rintro e w4 ⟨rfl, hB⟩
    rw [HOk.out]
    have HR4 := Lib.hid (HR3.out.below hB)
    have HF4 := Lib.hid (HF3.out.below hB)
    have HB4 := Lib.hid (HB3.out.trans (hB.mono HB3.out.size))
    have HT4 := Lib.hid (HT.out.below HB4.out (Nat.le_refl _))
    clear hB HR3 HF3 HB3 HT3
    go_wp2_with fail
    refine (crc_check _ D _ HT4.out HF4.out HD8.out).mono ?_
    rintro e w5 ⟨rfl, hB⟩
    rw [HD.out]
    have HR5 := Lib.hid (HR4.out.below hB)
    have HF5 := Lib.hid (HF4.out.below hB)
    have HB5 := Lib.hid (HB4.out.trans (hB.mono HB4.out.size))
    have HEq := Lib.hid (fun (w : World) (h1 : Rd w 1 (.slice q1 W.length c1) W.length (u8s W)) (h2 : Rd w 1 (.slice q2 W.length c2) D.length (u8s D)) => equal_any _ _ _ _ W D w h1 h2 HW.out HD8.out)
    clear hB HR4 HF4 HB4 HT4
    generalize decide (W = D) = b at *
    go_wp2_with fail
    refine (HEq.out _ HR5.out HF5.out).mono ?_
    rintro e w6 ⟨rfl, rfl⟩
    go_wp2_with fail
    go_ret
    exact ⟨by simp, HB5.out⟩
end Go.Proofs.YtehnfibmglnlcaaDoor.crcFindsBursts
