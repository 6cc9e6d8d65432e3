/- Layer 7: RunvalRoundTrip, walked over the interface. -/
import Derived.Test.YtnjdjmfjkjpelaaRunI
set_option linter.unusedVariables false
namespace Go.Proofs.Ytnjdjmfjkjpelaa.runvalRoundTrip
open Go Go.RowKit
variable {G : Nat} {T : World → Prop}

theorem back (l : List Nat) (hl : ∀ t ∈ l, in64u t) : ∃ z : List Bool, decR l.length (unpack (pack (encR l))) = ⟨0, l, z⟩ ∧ 8 * (pack (encR l)).length - z.length = (encR l).length ∧ z = (unpack (pack (encR l))).drop (encR l).length := by
  refine ⟨_, by rw [unpack_pack]; exact decR_back l hl _, ?_, by rw [unpack_pack, List.drop_left]⟩
  rw [List.length_replicate, pack_length]; omega
theorem end_zero (bits : List Bool) : endOf (pack bits) bits.length = 0 := by
  rw [endOf, if_neg (by rw [pack_length]; omega), if_pos (endOf_pack_aux bits)]

set_option maxHeartbeats 4000000 in
theorem walk (I : RIf G T) (hal : ∀ w, T w → Calls Try.prog 9 #[] w fun e w' => e = .returned (.bool true) ∧ Below w.heap.size w w')
    (w : World) (hT : T w) (lv : Value) (l : List Nat) (ok : ∀ t ∈ l, in64u t) (hl : Rd w 1 lv l.length (u64s l)) :
    Calls Try.prog 7 #[lv] w fun e w' => e = .returned (.bool true) ∧ Below w.heap.size w w' := by
  have HT := Lib.hid hT; have HL := Lib.hid hl; have HO := Lib.hid ok; have HAL := Lib.hid hal
  have hlo : l ≠ [] → ∀ k, lv.ownBlock = some k → k < w.heap.size := fun hne => hl.lt (fun e => hne (by simpa [u64s] using e))
  obtain ⟨pl, cl, hv⟩ := hl.shape
  subst hv
  clear hT hl ok hal
  by_cases hlt : 600 < l.length
  · have hlt' : (600 : Int) < (l.length : Int) := by omega
    go_enter Try.func7, Try.ntmps7
    go_wp2_with fail
    refine (HAL.out _ HT.out).mono ?_
    rintro e w1 ⟨rfl, hB⟩
    go_wp2_with fail
    go_ret
    exact ⟨rfl, hB⟩
  · have hlt' : ¬ (600 : Int) < (l.length : Int) := by omega
    have HN : Hid (l.length ≤ 600) := by show _ ≤ _; omega
    clear hlt
    go_enter Try.func7, Try.ntmps7
    go_wp2_with fail
    refine (new_writer _).mono ?_
    rintro e w1 ⟨rfl, hW1, hB1⟩
    have HW1 := Lib.hid (WrR.new I HT.out hW1 hB1)
    have HPut := Lib.hid (I.putT HW1.out (HL.out.below hB1) HO.out hlo (by have := HN.out; simp; omega))
    have HB1 := Lib.hid hB1
    clear hW1 hB1 hlo
    go_wp2_with fail
    refine HPut.out.mono ?_
    rintro e w2 ⟨rfl, v2, hW2, hB2, _⟩
    rw [List.nil_append] at hW2
    have HW2 := Lib.hid hW2
    have HB2 := Lib.hid (HB1.out.trans hB2)
    clear hW2 hB2 HPut HW1 HB1
    go_wp2_with fail
    refine (wbytes w.heap.size v2 (encR l) w2 HW2.out.wr (by have := encR_len l; have := HN.out; omega)).mono ?_
    rintro e w3 ⟨r3, rfl, hM⟩
    have HR3 := Lib.hid (Rd.of_owns hM.1)
    have HB3 := Lib.hid (HB2.out.trans (hM.2.mono HB2.out.size))
    have HT3 := Lib.hid (I.below HW2.out.tab hM.2)
    have HGb : Hid (G ≤ w.heap.size) := HW2.out.low
    have HP : Hid ((pack (encR l)).length ≤ 140737488355328 ∧ (pack (encR l)).length ≤ 8796093022200) := by
      show _ ∧ _
      have := encR_len l; have := HN.out
      rw [pack_length]; omega
    clear hM HW2 HB2
    go_wp2_with fail
    refine (new_reader _ (pack (encR l)) w3 HR3.out HP.out.1 (pack_lt _)).mono ?_
    rintro e w4 ⟨rp, rv, rfl, hR4, hB4, hrp, hrv⟩
    have HR4 := Lib.hid hR4
    have HB4 := Lib.hid (HB3.out.trans (hB4.mono HB3.out.size))
    have HT4 := Lib.hid (I.below HT3.out hB4)
    have HRp : Hid (w.heap.size ≤ rp) := by show _ ≤ _; have := HB3.out.size; omega
    clear hR4 hB4 hrp hrv HR3 HB3 HT3
    obtain ⟨z, hz1, hz2, hz3⟩ := back l HO.out
    have HGet := Lib.hid (I.get rp rv 0 l.length (pack (encR l)) w4 HT4.out HR4.out (by have := HGb.out; have := HRp.out; omega) (by have := HN.out; omega) HP.out.2)
    rw [List.drop_zero, hz1] at HGet
    have HZ2 := Lib.hid hz2
    clear hz1 hz2 hz3
    go_wp2_with fail
    refine HGet.out.mono ?_
    rintro e w5 ⟨⟨r5, rfl, hr5, _⟩, hq5⟩
    have hrr := hq5.rd
    simp only [HZ2.out] at hrr
    have HR5 := Lib.hid hrr
    have HL5 : Hid (Rd w5 1 r5 l.length (u64s l)) := hr5
    have HT5 := Lib.hid (I.keeps HT4.out hq5.mods (fun k hk e => by have := HGb.out; have := HRp.out; omega))
    have HB5 : Hid (Below w.heap.size w w5) := HB4.out.trans (hq5.mods.below HB4.out.size (fun k hk e => by have := HRp.out; omega))
    obtain ⟨p5, c5, hv5⟩ := hr5.shape
    subst hv5
    clear hrr hr5 hq5 HGet HR4 HT4 HB4
    go_wp2_with fail
    refine (I.getNil (l.length : Int) w5 HT5.out (by have := HN.out; omega) (by have := HN.out; omega)).mono ?_
    rintro e w5n ⟨⟨rn, rfl⟩, hBn⟩
    have HB5n := Lib.hid (HB5.out.trans (hBn.mono HB5.out.size))
    have HT5n := Lib.hid (I.below HT5.out hBn)
    have HL5n := Lib.hid (HL5.out.below hBn)
    have HR5n := Lib.hid (HR5.out.mods (Mods.of_below hBn (fun _ => False)) (fun h => h) (fun _ _ h => h))
    clear hBn HB5 HT5 HL5 HR5
    go_wp2_with fail
    refine (HAL.out _ HT5n.out).mono ?_
    rintro e w6 ⟨rfl, hB6⟩
    have HB6 := Lib.hid (HB5n.out.trans (hB6.mono HB5n.out.size))
    have HT6 := Lib.hid (I.below HT5n.out hB6)
    have HL6 := Lib.hid (HL5n.out.below hB6)
    have HLa := Lib.hid (HL.out.below HB6.out)
    have HR6 := Lib.hid (HR5n.out.mods (Mods.of_below hB6 (fun _ => False)) (fun h => h) (fun _ _ h => h))
    clear hB6 HB5n HL5n HR5n HT5n
    go_wp2_with fail
    refine (equal_u64 _ _ l l w6 HLa.out HL6.out).mono ?_
    rintro e w7 ⟨rfl, hB7⟩
    have hd : decide (l = l) = true := by simp
    rw [hd]
    have HB7 := Lib.hid (HB6.out.trans (hB7.mono HB6.out.size))
    have HR7 := Lib.hid (HR6.out.mods (Mods.of_below hB7 (fun _ => False)) (fun h => h) (fun _ _ h => h))
    have HT7 := Lib.hid (I.below HT6.out hB7)
    have HE0 := Lib.hid (end_zero (encR l))
    clear hB7 hd HB6 HL6 HLa HR6 HT6
    go_wp2_with fail
    refine (rend rp rv (encR l).length (pack (encR l)) w7 HR7.out).mono ?_
    rintro e w8 ⟨rfl, dd, rfl⟩
    rw [HE0.out]
    have HB8 : Hid (Below w.heap.size w (w7.drewN dd)) := HB7.out.trans ⟨rfl, rfl, rfl, Nat.le_refl _, fun _ _ => rfl⟩
    have hb8 : Below w7.heap.size w7 (w7.drewN dd) := ⟨rfl, rfl, rfl, Nat.le_refl _, fun _ _ => rfl⟩
    have HT8 := Lib.hid (I.below HT7.out hb8)
    clear hb8
    generalize w7.drewN dd = w8 at *
    go_wp2_with fail
    refine (I.putNil _ l w8 HT8.out (HL.out.below HB8.out)).mono ?_
    rintro e w9 ⟨rfl, hB9⟩
    have HB9 := Lib.hid (HB8.out.trans (hB9.mono HB8.out.size))
    go_wp2_with fail
    go_ret
    exact ⟨rfl, HB9.out⟩
end Go.Proofs.Ytnjdjmfjkjpelaa.runvalRoundTrip
