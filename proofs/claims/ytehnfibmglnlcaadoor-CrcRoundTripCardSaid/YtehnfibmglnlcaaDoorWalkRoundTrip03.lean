/- Layer 3: CrcRoundTrip, walked. -/
import Derived.Test.YtehnfibmglnlcaaDoorAlive03
set_option linter.unusedVariables false
namespace Go.Proofs.YtehnfibmglnlcaaDoor.crcRoundTrip
open Go Go.RowKit

set_option maxHeartbeats 2000000 in
theorem walk (w : World) (hT : Tab w) (v : Value) (l : List Nat) (ok : ∀ a ∈ l, a < 256) (hl : Rd w 1 v l.length (u8s l)) (hz : l.length * 1 ≤ 140737488351232) (t : Nat) (ht : t < 65536) (y : Nat) (hy : y < 256) :
    Calls Tryd.prog 7 #[v, .int .u16 t, .int .u8 y] w fun e w' => e = .returned (.bool true) ∧ Below w.heap.size w w' := by
  have HT := Lib.hid hT
  have HL := Lib.hid hl
  have HO := Lib.hid ok
  obtain ⟨q, c, hv⟩ := hl.shape
  subst hv
  clear hl ok hT
  by_cases hlt : 2000 < l.length
  · have hlt' : (2000 : Int) < (l.length : Int) := by omega
    go_enter Tryd.func7, Tryd.ntmps7
    go_wp2_with fail
    refine (alive_any _ HT.out).mono ?_
    rintro e w1 ⟨rfl, hB⟩
    go_wp2_with fail
    go_ret
    exact ⟨rfl, hB⟩
  · have hlt' : ¬ (2000 : Int) < (l.length : Int) := by omega
    have hn : l.length ≤ 140737488355000 := by omega
    go_enter Tryd.func7, Tryd.ntmps7
    go_wp2_with fail
    refine (crc_append _ l _ HT.out HL.out HO.out hn).mono ?_
    rintro e w1 ⟨r, rfl, hM⟩
    have HW := Lib.hid (withCrc_lt HO.out)
    have HOk := Lib.hid (isCrc_withCrc l)
    have hWl := withCrc_length l
    have hW0 : 4 ≤ (withCrc l).length := by omega
    obtain ⟨g, cap, hv1⟩ : ∃ g cap, r = .slice (some ⟨g, 0, none⟩) (withCrc l).length cap := by
      rcases owns_cases hM.1 with ⟨_, h0, _⟩ | ⟨g, cap, hv, _⟩
      · omega
      · exact ⟨g, cap, hv⟩
    subst hv1
    have HO1 := Lib.hid hM.1
    have HB1 := Lib.hid hM.2
    have HT1 := Lib.hid (HT.out.below HB1.out (Nat.le_refl _))
    clear hM
    have HWl := Lib.hid hWl
    generalize withCrc l = W at *
    rw [hWl] at HO1 ⊢
    clear hWl
    have HR1 : Hid (Rd w1 1 (.slice (some ⟨g, 0, none⟩) (l.length + 4) cap) W.length (u8s W)) := by show Rd _ _ _ _ _; rw [HWl.out]; exact Rd.of_owns HO1.out
    go_wp2_with fail
    refine (crc_check _ W _ HT1.out HR1.out HW.out).mono ?_
    rintro e w2 ⟨rfl, hB⟩
    rw [HOk.out]
    have HO2 := Lib.hid ((Mods.of_below hB (fun _ => False)).owns HO1.out (fun _ _ e => e))
    have HB2 := Lib.hid (HB1.out.trans (hB.mono HB1.out.size))
    clear hB HO1 HB1 HT1 HR1
    obtain ⟨i, hi⟩ : ∃ i, t % (l.length + 4) = i := ⟨_, rfl⟩
    have hi4 : i < l.length + 4 := hi ▸ Nat.mod_lt _ (by omega)
    have hiW : i < W.length := by rw [HWl.out]; exact hi4
    have hiW' : (t : Int) % ((l.length : Int) + 4) < (l.length : Int) + 4 := Int.emod_lt_of_pos _ (by omega)
    have hi0' : (0 : Int) ≤ (t : Int) % ((l.length : Int) + 4) := Int.emod_nonneg _ (by omega)
    obtain ⟨x, hx⟩ : ∃ x, W[i] = x := ⟨_, rfl⟩
    have hcell : w2.cell? ⟨g, t % (l.length + 4), none⟩ = some (.int .u8 (x : Int)) := by
      rw [hi, HO2.out.cellAt i (by omega), u8s_get _ _ hiW, hx]
    have hfro : w2.frozen? ⟨g, t % (l.length + 4), none⟩ = false := HO2.out.frozenAt _
    have hx8 : x < 256 := hx ▸ HW.out _ (List.getElem_mem hiW)
    have HX := Lib.hid (u8_xor_nat x y hx8 hy)
    have hg : w.heap.size ≤ g := (HO2.out.lt g rfl).1
    have HON : Hid ((w2.setCell ⟨g, t % (l.length + 4), none⟩ (.int .u8 (bits .xor .u8 (x : Int) (y : Int)))).ownsRow w.heap.size 5 1 (.slice (some ⟨g, 0, none⟩) (l.length + 4) cap) (l.length + 4) (u8s (W.set i (x ^^^ y)))) := by
      show World.ownsRow _ _ _ _ _ _ _
      rw [hi, HX.out, ← u8s_set]
      exact (HO2.out.stored i _).1
    have HBN : Hid (Below w.heap.size w (w2.setCell ⟨g, t % (l.length + 4), none⟩ (.int .u8 (bits .xor .u8 (x : Int) (y : Int))))) := HB2.out.setCell hg _
    have HD := Lib.hid (byte_found HW.out hW0 HOk.out i y hiW hy)
    rw [hx] at HD
    have HD8 : Hid (∀ a ∈ W.set i (x ^^^ y), a < 256) := fun a ha => by
      rcases List.mem_or_eq_of_mem_set ha with h1 | h1
      · exact HW.out a h1
      · rw [h1]; exact Nat.xor_lt_two_pow (n := 8) hx8 hy
    have HDl : Hid ((W.set i (x ^^^ y)).length = W.length) := by show _ = _; simp
    clear hg hx hi hi4 hiW hx8 HX
    generalize W.set i (x ^^^ y) = D at *
    have HRN : Hid (Rd (w2.setCell ⟨g, t % (l.length + 4), none⟩ (.int .u8 (bits .xor .u8 (x : Int) (y : Int)))) 1 (.slice (some ⟨g, 0, none⟩) (l.length + 4) cap) D.length (u8s D)) := by
      show Rd _ _ _ _ _
      rw [HDl.out, HWl.out]
      exact Rd.of_owns HON.out
    have HTN := Lib.hid (HT.out.below HBN.out (Nat.le_refl _))
    go_wp2_with fail
    refine (alive_any _ HTN.out).mono ?_
    rintro e w3 ⟨rfl, hB⟩
    have HR3 := Lib.hid (HRN.out.below hB)
    have HB3 := Lib.hid (HBN.out.trans (hB.mono HBN.out.size))
    have HT3 := Lib.hid (HT.out.below HB3.out (Nat.le_refl _))
    clear hB HRN HBN HTN HON hcell hfro HB2 HO2 hiW' hi0'
    by_cases hy0 : y = 0
    · have HD0 : Hid (isCrc D = true) := by show _ = _; rw [HD.out, decide_eq_true hy0]
      subst hy0
      clear HD
      go_wp2_with fail
      refine (crc_check _ D _ HT3.out HR3.out HD8.out).mono ?_
      rintro e w4 ⟨rfl, hB⟩
      rw [HD0.out]
      have HB4 := Lib.hid (HB3.out.trans (hB.mono HB3.out.size))
      clear hB
      go_wp2_with fail
      go_ret
      exact ⟨rfl, HB4.out⟩
    · have hyb : ((y : Int) == 0) = false := by rw [beq_eq_false_iff_ne]; omega
      go_wp2_with fail
      refine (crc_check _ D _ HT3.out HR3.out HD8.out).mono ?_
      rintro e w4 ⟨rfl, hB⟩
      rw [HD.out, decide_eq_false hy0]
      have HB4 := Lib.hid (HB3.out.trans (hB.mono HB3.out.size))
      clear hB
      go_wp2_with fail
      go_ret
      exact ⟨rfl, HB4.out⟩
end Go.Proofs.YtehnfibmglnlcaaDoor.crcRoundTrip
