/- Layer 7: RunvalWrites, walked over the interface. -/
import Derived.Test.YtnjdjmfjkjpelaaBitioLen
import Derived.Test.YtnjdjmfjkjpelaaRunI
import Derived.OwnWalk
set_option linter.unusedVariables false
namespace Go.Proofs.Ytnjdjmfjkjpelaa.runvalWrites
open Go Go.RowKit
variable {G : Nat} {T : World → Prop}

theorem fieldBits_zero (n : Nat) : fieldBits 0 n = List.replicate n false := by
  induction n with
  | zero => rfl
  | succ n ih => rw [fieldBits, ih, Nat.zero_testBit]; rfl

set_option maxHeartbeats 4000000 in
theorem walk (I : RIf G T) (hal : ∀ w, T w → Calls Try.prog 9 #[] w fun e w' => e = .returned (.bool true) ∧ Below w.heap.size w w')
    (w : World) (hT : T w) (c : Nat) (hc : c < 256) (lv : Value) (l : List Nat) (ok : ∀ t ∈ l, in64u t) (hl : Rd w 1 lv l.length (u64s l)) :
    Calls Try.prog 5 #[.int .u8 (c : Int), lv] w fun e w' => e = .returned (.bool true) ∧ Below w.heap.size w w' := by
  have HT := Lib.hid hT; have HL := Lib.hid hl; have HO := Lib.hid ok; have HAL := Lib.hid hal
  have HLo := Lib.hid (u64s_ltR hl)
  obtain ⟨pl, cl, hv⟩ := hl.shape
  subst hv
  clear hT hl ok hal
  by_cases hlt : 600 < l.length
  · have hlt' : (600 : Int) < (l.length : Int) := by omega
    go_enter Try.func5, Try.ntmps5
    go_wp2_with fail
    refine (HAL.out _ HT.out).mono ?_
    rintro e w1 ⟨rfl, hB⟩
    go_wp2_with fail
    go_ret
    exact ⟨rfl, hB⟩
  · have hlt' : ¬ (600 : Int) < (l.length : Int) := by omega
    have HN : Hid (l.length ≤ 600) := by show _ ≤ _; omega
    have HC9 : Hid ((c : Int) % 9 = ((c % 9 : Nat) : Int)) := by show _ = _; omega
    have HC8 : Hid (c % 9 ≤ 8) := by show _ ≤ _; omega
    clear hlt
    go_enter Try.func5, Try.ntmps5
    go_wp2_with fail
    refine (new_writer _).mono ?_
    rintro e w1 ⟨rfl, hW1, hB1⟩
    have HW1 := Lib.hid (WrR.new I HT.out hW1 hB1)
    have HB1 := Lib.hid hB1
    clear hW1 hB1
    go_wp2_with fail
    rw [HC9.out]
    generalize c % 9 = n at *
    refine (wbits w.heap.size (.slice none 0 0) [] 0 n w1 HW1.out.wr (by have := HC8.out; omega) (by simp)).mono ?_
    rintro e w2 ⟨rfl, v2, hW2, hU2⟩
    obtain ⟨h1, h2⟩ := HW1.out.step I hW2 hU2
    rw [List.nil_append, fieldBits_zero] at h1
    have HW2 := Lib.hid h1
    have HB2 := Lib.hid (HB1.out.trans h2)
    have HPut := Lib.hid (I.putT HW2.out (HL.out.below HB2.out) HO.out HLo.out (by have := HN.out; have := HC8.out; simp; omega))
    clear h1 h2 hW2 hU2 HW1 HB1
    go_wp2_with fail
    refine HPut.out.mono ?_
    rintro e w3 ⟨rfl, v3, hW3, hB3, _⟩
    have HW3 := Lib.hid hW3
    have HB3 := Lib.hid (HB2.out.trans hB3)
    clear hW3 hB3 HPut HW2 HB2
    obtain ⟨i0, hi, hz0, hz1, hz2⟩ := info_parts Try.infoBool
    have HI := Lib.hid hi; have HZ := Lib.hid hz0; have HZ1 := Lib.hid hz1
    have HZ2 : Hid (i0.bytes * n ≤ 281474976710656 ∧ n ≤ maxLen) := by show _ ∧ _; have := HC8.out; unfold maxLen; rw [hz2]; omega
    clear hi hz0 hz1 hz2
    go_wp2_with (refine wpList_make_full _ rfl _ _ _ rfl 0 4 i0 (.bool false) 1 Try.underlying44 HI.out HZ.out HZ1.out _ _ _ _ n rfl rfl rfl rfl HZ2.out.1 HZ2.out.2 (Nat.zero_le _) ?_)
    intro w4 hown hgr
    have HM4 : Hid (BitsIn w4 (.slice (some ⟨w3.heap.size, 0, none⟩) n n) (List.replicate n false)) := by
      show World.ownsRow _ _ _ _ _ _ _
      rw [toList_madeCells_one] at hown
      rw [List.length_replicate, bls, List.map_replicate]
      exact hown
    have hb4 : Below w3.heap.size w3 w4 := (Mods.of_grown hgr).below (Nat.le_refl _) (fun k _ e => by cases e)
    have HW4 := Lib.hid (HW3.out.below I hb4)
    have HB4 := Lib.hid (HB3.out.trans (hb4.mono HB3.out.size))
    have HF := Lib.hid (ref_put07 (.slice (some ⟨w3.heap.size, 0, none⟩) n n) (.slice pl l.length cl) (List.replicate n false) l w4 HM4.out (HL.out.below HB4.out) HO.out (fun hne k hk e => by
      have h1 := HLo.out hne k hk
      have h2 : w3.heap.size = k := Option.some.inj e
      have := HB3.out.size; omega) (by have := HN.out; have := HC8.out; simp; omega))
    have H34 : Hid (w3.heap.size ≤ w4.heap.size ∧ w.heap.size ≤ w3.heap.size) := ⟨hb4.size, HB3.out.size⟩
    have HPl : Hid (w.heap.size < w3.heap.size ∧ ∀ k, v3.ownBlock = some k → k < w3.heap.size) := ⟨HW3.out.wr.blk.lt, owns_lt HW3.out.wr.own⟩
    clear hown hgr hb4 HW3 HB3
    go_wp2_with fail
    refine HF.out.mono ?_
    rintro e w5 ⟨v5, rfl, hR⟩
    have HBl : Hid (((List.replicate n false ++ encR l).length : Int) - (n : Int) = ((encR l).length : Int)) := by show _ = _; simp; omega
    have HBm : Hid ((List.replicate n false ++ encR l).length ≤ 70368744170000) := by show _ ≤ _; have := encR_len l; have := HN.out; have := HC8.out; simp; omega
    generalize List.replicate n false ++ encR l = B at *
    have HR5 := Lib.hid (Rd.of_owns hR.own)
    have hm5 : Below w3.heap.size w4 w5 := hR.mods.below H34.out.1 (fun k hk e => by have h2 : w3.heap.size = k := Option.some.inj e; omega)
    have HB5 := Lib.hid (HB4.out.trans (hm5.mono H34.out.2))
    have HW5 := Lib.hid (HW4.out.mods I hR.mods (fun e => by have h2 : w3.heap.size = w.heap.size := Option.some.inj e; have := HPl.out.1; omega) (fun k hk e => by have h2 : w3.heap.size = k := Option.some.inj e; have := HPl.out.2 k hk; omega) (fun k hk e => by have h2 : w3.heap.size = k := Option.some.inj e; have := HW4.out.low; have := H34.out.2; omega))
    obtain ⟨p5, c5, hv5⟩ := (Rd.of_owns hR.own).shape
    subst hv5
    clear hR hm5 HF HM4 HW4 HB4 HPl H34
    go_wp2_with fail
    refine (HAL.out _ HW5.out.tab).mono ?_
    rintro e w6 ⟨rfl, hb⟩
    have HB6 := Lib.hid (HB5.out.trans (hb.mono HB5.out.size))
    have HW6 := Lib.hid (HW5.out.below I hb)
    have HR6 := Lib.hid (HR5.out.below hb)
    clear hb HB5 HW5 HR5
    go_wp2_with fail
    refine (wlen _ _ _ _ HW6.out.wr).mono ?_
    rintro e w7 ⟨rfl, rfl⟩
    go_wp2_with fail
    refine (wbytes _ _ _ _ HW6.out.wr (by have := HBm.out; omega)).mono ?_
    rintro e w7 ⟨r7, rfl, hM⟩
    have HB7 := Lib.hid (HB6.out.trans (hM.2.mono HB6.out.size))
    have HW7 := Lib.hid (HW6.out.below I hM.2)
    have HR7 := Lib.hid (HR6.out.below hM.2)
    have HP7 := Lib.hid (Rd.of_owns hM.1)
    obtain ⟨p7, c7, hv7⟩ := (Rd.of_owns hM.1).shape
    subst hv7
    clear hM HB6 HW6 HR6
    go_wp2_with fail
    refine (ref_pack _ B w7 HR7.out (by have := HBm.out; omega)).mono ?_
    rintro e w8 ⟨r8, rfl, hM⟩
    have HB8 := Lib.hid (HB7.out.trans (hM.2.mono HB7.out.size))
    have HT8 := Lib.hid (I.below HW7.out.tab hM.2)
    have HP8 := Lib.hid (HP7.out.below hM.2)
    have HQ8 := Lib.hid (Rd.of_owns hM.1)
    obtain ⟨p8, c8, hv8⟩ := (Rd.of_owns hM.1).shape
    subst hv8
    clear hM HB7 HW7 HR7 HP7
    go_wp2_with fail
    refine (equal_any _ _ _ _ _ _ _ HP8.out HQ8.out (pack_lt _) (pack_lt _)).mono ?_
    rintro e w9 ⟨rfl, rfl⟩
    have hd : decide (pack B = pack B) = true := by simp
    rw [hd]
    clear hd HP8 HQ8
    go_wp2_with fail
    refine (I.size _ l _ HT8.out (HL.out.below HB8.out) HO.out (by have := HN.out; omega)).mono ?_
    rintro e w9 ⟨rfl, hb⟩
    have HB9 := Lib.hid (HB8.out.trans (hb.mono HB8.out.size))
    have hL : ((encR l).length : Int) ≤ 70368744170000 := by have := encR_len l; have := HN.out; omega
    have hbl := HBl.out
    clear hb HB8
    generalize (encR l).length = L at *
    go_wp2_with fail
    go_ret
    exact ⟨rfl, HB9.out⟩
end Go.Proofs.Ytnjdjmfjkjpelaa.runvalWrites
