/- Layer 3: CrcCombines, walked. -/
import Derived.Test.YtehnfibmglnlcaaDoorAlive03
set_option linter.unusedVariables false
namespace Go.Proofs.YtehnfibmglnlcaaDoor.crcCombines
open Go Go.RowKit

set_option maxHeartbeats 1000000 in
theorem walk (w : World) (hT : Tab w) (v : Value) (l : List Nat) (ok : ∀ a ∈ l, a < 256) (hl : Rd w 1 v l.length (u8s l)) (hz : l.length * 1 ≤ 140737488351232) (v2 : Value) (k : List Nat) (ok2 : ∀ a ∈ k, a < 256) (hk : Rd w 1 v2 k.length (u8s k)) (hz2 : k.length * 1 ≤ 140737488351232) :
    Calls Tryd.prog 5 #[v, v2] w fun e w' => e = .returned (.bool true) ∧ Below w.heap.size w w' := by
  have HT := Lib.hid hT
  have HL := Lib.hid hl
  have HK := Lib.hid hk
  have HO := Lib.hid ok
  have HO2 := Lib.hid ok2
  obtain ⟨q, c, hv⟩ := hl.shape
  subst hv
  obtain ⟨q2, c2, hv2⟩ := hk.shape
  subst hv2
  clear hl hk ok ok2 hT
  by_cases hlt : 2000 < l.length + k.length
  · have hlt' : (2000 : Int) < (l.length : Int) + (k.length : Int) := by omega
    go_enter Tryd.func5, Tryd.ntmps5
    go_wp2_with fail
    refine (alive_any _ HT.out).mono ?_
    rintro e w1 ⟨rfl, hB⟩
    go_wp2_with fail
    go_ret
    exact ⟨rfl, hB⟩
  · have hlt' : ¬ (2000 : Int) < (l.length : Int) + (k.length : Int) := by omega
    go_enter Tryd.func5, Tryd.ntmps5
    go_wp2_with fail
    refine (alive_any _ HT.out).mono ?_
    rintro e w1 ⟨rfl, hB⟩
    have HB1 := Lib.hid hB
    have HL1 := Lib.hid (HL.out.below hB)
    have HK1 := Lib.hid (HK.out.below hB)
    have HT1 := Lib.hid (HT.out.below hB (Nat.le_refl _))
    clear hB
    go_wp2_with fail
    refine (ref_sum _ l _ HL1.out HO.out).mono ?_
    rintro e w2 ⟨rfl, rfl⟩
    have HA := Lib.hid (crcOf_lt l)
    have HE := Lib.hid (combine_zeros HO.out HO2.out)
    generalize crcOf l = A at *
    go_wp2_with fail
    refine (ref_sum _ k _ HK1.out HO2.out).mono ?_
    rintro e w2 ⟨rfl, rfl⟩
    have HC := Lib.hid (crcOf_lt k)
    generalize crcOf k = C at *
    go_wp2_with fail
    refine (crc_combine A C k.length _ HT1.out HA.out HC.out (by omega)).mono ?_
    rintro e w2 ⟨rfl, hB⟩
    rw [HE.out]
    have HB2 := Lib.hid (HB1.out.trans (hB.mono HB1.out.size))
    have HB3 : Hid (Below w.heap.size w (w2.alloc (.cells #[] 5))) := HB2.out.alloc HB2.out.size _
    have HL3 := Lib.hid (HL.out.below HB3.out)
    have HO3 : Hid ((w2.alloc (.cells #[] 5)).ownsRow 0 5 1 (.slice (some ⟨w2.heap.size, 0, none⟩) 0 0) 0 []) := World.ownsRow_lit (base := 0) w2 #[] 0 (Nat.zero_le _) (by simp [maxLen]) (by simp)
    have HM3 : Hid ((0 + l.length) * 1 ≤ 140737488355328 ∧ 0 + l.length ≤ maxLen) := by show _ ∧ _; unfold maxLen; omega
    have HM4 : Hid ((l.length + k.length) * 1 ≤ 140737488355328 ∧ l.length + k.length ≤ maxLen) := by show _ ∧ _; unfold maxLen; omega
    have hw2 := HB2.out.size
    clear hB HB1 HL1 HK1 HT1 HE
    go_wp2_with (at_builtin; refine wpList_extend Tryd.elemU8 _ _ _ _ _ _ _ HO3.out HL3.out (u8s_oneCell _) HM3.out rfl _ _ rfl rfl rfl ?_)
    intro v3 w3 hown hmods hfr
    obtain ⟨q3, c3, hv3⟩ := (Rd.of_owns hown).shape
    subst hv3
    have HO4 := Lib.hid hown
    have HF4 : Hid (∀ j, (Value.slice q3 l.length c3).ownBlock = some j → w.heap.size ≤ j) := fun j hj => by
      rcases hfr j hj with e | e
      · simp [Value.ownBlock] at e; omega
      · have := HB3.out.size; omega
    have HB4 := Lib.hid (HB3.out.trans (hmods.below HB3.out.size (fun j hj e => by simp [Value.ownBlock] at e; omega)))
    have HK4 := Lib.hid (HK.out.below HB4.out)
    clear hown hmods hfr HO3 HL3 HB3
    go_wp2_with (at_builtin; refine wpList_extend Tryd.elemU8 _ _ _ _ _ _ _ HO4.out HK4.out (u8s_oneCell _) HM4.out rfl _ _ rfl rfl rfl ?_)
    intro v5 w5 hown hmods hfr
    have HB5 := Lib.hid (HB4.out.trans (hmods.below HB4.out.size (fun j hj e => by have := HF4.out j e; omega)))
    have HR5 : Hid (Rd w5 1 v5 (l ++ k).length (u8s (l ++ k))) := by show Rd _ _ _ _ _; rw [List.length_append, u8s_append]; exact Rd.of_owns hown
    have HO5 : Hid (∀ a ∈ l ++ k, a < 256) := fun a ha => by
      rcases List.mem_append.1 ha with h | h
      · exact HO.out a h
      · exact HO2.out a h
    clear hown hmods hfr
    go_wp2_with fail
    refine (ref_sum _ (l ++ k) _ HR5.out HO5.out).mono ?_
    rintro e w6 ⟨rfl, rfl⟩
    generalize crcOf (l ++ k) = S at *
    go_wp2_with fail
    go_ret
    exact ⟨rfl, HB5.out⟩
end Go.Proofs.YtehnfibmglnlcaaDoor.crcCombines
