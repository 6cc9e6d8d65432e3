/- Layer 4: WireWrites, walked, for whatever appends meet the interface. -/
import Derived.Test.YtkgghlhmgolfbaaDoorWireAp
set_option linter.unusedVariables false
namespace Go.Proofs.YtkgghlhmgolfbaaDoor.wireWrites
open Go Go.RowKit
variable {G : Nat} {T : World → Prop} {R : World → Nat → Value → List Nat → Nat → Int → Prop}

set_option maxHeartbeats 8000000 in
theorem walk (I : WIf G T R) (Z : WAp T) (hal : ∀ w, T w → Calls Tryd.prog 9 #[] w fun e w' => e = .returned (.bool true) ∧ Below w.heap.size w w')
    (w : World) (hT : T w) (v : Value) (l : List Nat) (ok : ∀ a ∈ l, a < 256) (hl : Rd w 1 v l.length (u8s l)) (hz : l.length * 1 ≤ 140737488351232)
    (s : ByteArray) (hs : s.size ≤ 140737488351232) (id : Nat) (hid : id < 256) :
    Calls Tryd.prog 3 #[v, .string s, .int .u8 (id : Int)] w fun e w' => e = .returned (.bool true) ∧ Below w.heap.size w w' := by
  have HO := Lib.hid ok
  have HAL := Lib.hid hal
  have HL := Lib.hid hl
  have HT := Lib.hid hT
  have HI := Lib.hid hid
  obtain ⟨q0, c, hv⟩ := hl.shape
  subst hv
  clear hl ok hT hal hid
  by_cases hlt : 2000 < l.length + s.size
  · have hlt' : (2000 : Int) < (l.length : Int) + (s.size : Int) := by omega
    go_enter Tryd.func3, Tryd.ntmps3
    go_wp2_with fail
    refine (HAL.out _ HT.out).mono ?_
    rintro en w1 ⟨rfl, hB⟩
    go_wp2_with fail
    go_ret
    exact ⟨rfl, hB⟩
  have hl2 : ¬ (2000 : Int) < (l.length : Int) + (s.size : Int) := by omega
  go_enter Tryd.func3, Tryd.ntmps3
  go_wp2_with fail
  refine (bytes_clone _ _ _ _ HL.out (u8s_oneCell _) (by omega)).mono ?_
  rintro en w1 ⟨r1, rfl, hM⟩
  obtain ⟨q1, c1, hr⟩ := (Rd.of_owns hM.1).shape
  subst hr
  have HO1 : Hid (w1.ownsRow 0 5 1 (.slice q1 l.length c1) l.length (u8s l)) := owns_rebase hM.1 (fun _ _ => Nat.zero_le _)
  have HF1 : Hid (∀ k, (Value.slice q1 l.length c1).ownBlock = some k → w.heap.size ≤ k) := fun k hk => (hM.1.lt k hk).1
  have HB1 := Lib.hid hM.2
  have HT1 := Lib.hid (I.keeps HT.out (Mods.of_below HB1.out (fun _ => False)) (fun _ _ h => h))
  clear hM
  go_wp2_with fail
  refine (Z.str _ _ l s _ HT1.out HO1.out (by omega)).mono ?_
  rintro en w2 ⟨r2, rfl, hP⟩
  have HB2 : Hid (Below w.heap.size w w2) := HB1.out.trans (hP.below HB1.out.size HF1.out)
  have HO2 : Hid (w2.ownsRow w.heap.size 5 1 r2 _ (u8s (l ++ bytesOf (numsOf s)))) := hP.made HB1.out.size HF1.out
  obtain ⟨q2, c2, hr⟩ := (Rd.of_owns HO2.out).shape
  subst hr
  have HT2 := Lib.hid (I.keeps HT.out (Mods.of_below HB2.out (fun _ => False)) (fun _ _ h => h))
  have HL2 := Lib.hid (HL.out.below HB2.out)
  clear hP HO1 HF1 HT1 HB1
  go_wp2_with fail
  refine (bytes_clone _ _ _ _ HL2.out (u8s_oneCell _) (by omega)).mono ?_
  rintro en w3 ⟨r3, rfl, hM⟩
  obtain ⟨q3, c3, hr⟩ := (Rd.of_owns hM.1).shape
  subst hr
  have HO3 : Hid (w3.ownsRow 0 5 1 (.slice q3 l.length c3) l.length (u8s l)) := owns_rebase hM.1 (fun _ _ => Nat.zero_le _)
  have HF3 : Hid (∀ k, (Value.slice q3 l.length c3).ownBlock = some k → w2.heap.size ≤ k ∧ k < w3.heap.size) := fun k hk => hM.1.lt k hk
  have HB3 := Lib.hid (HB2.out.trans (hM.2.mono HB2.out.size))
  have HX3 := Lib.hid ((Mods.of_below hM.2 (fun _ => False)).owns HO2.out (fun _ _ e => e))
  have HT3 := Lib.hid (I.keeps HT.out (Mods.of_below HB3.out (fun _ => False)) (fun _ _ h => h))
  have HQ2 : Hid (∀ k, (Value.slice q2 (l.length + (bytesOf (numsOf s)).length) c2).ownBlock = some k → k < w2.heap.size) := fun k hk => (HO2.out.lt k hk).2
  have HW2 : Hid (w.heap.size ≤ w2.heap.size) := HB2.out.size
  have HS24 : Hid (w2.heap.size ≤ w3.heap.size) := hM.2.size
  clear hM HO2 HB2 HT2 HL2
  obtain ⟨q4, c4, w4, HC, hrd, hb4, hk4⟩ := conv_bytes w3 s hs
  have HD4 := Lib.hid hrd
  have HB4 := Lib.hid (HB3.out.trans (hb4.mono HB3.out.size))
  have HX4 := Lib.hid ((Mods.of_below hb4 (fun _ => False)).owns HX3.out (fun _ _ e => e))
  have HO4 := Lib.hid ((Mods.of_below hb4 (fun _ => False)).owns HO3.out (fun _ _ e => e))
  have HT4 := Lib.hid (I.keeps HT.out (Mods.of_below HB4.out (fun _ => False)) (fun _ _ h => h))
  have HK4 : Hid (∀ k, (Value.slice q4 s.size c4).ownBlock = some k → (Value.slice q3 l.length c3).ownBlock ≠ some k) := fun k hk e => by have := hk4 k hk; have := (HF3.out k e).2; omega
  have HS4 : Hid (w3.heap.size ≤ w4.heap.size) := hb4.size
  clear hrd hb4 hk4 HX3 HO3 HT3
  go_wp2_with fail
  refine (Z.sect _ _ l id _ (numsOf s) _ HT4.out HO4.out HI.out HD4.out (numsOf_lt s) HK4.out (by rw [numsOf_length]; omega)).mono ?_
  rintro en w5 ⟨r5, rfl, hP⟩
  have HF4 : Hid (∀ k, (Value.slice q3 l.length c3).ownBlock = some k → w2.heap.size ≤ k) := fun k hk => (HF3.out k hk).1
  have hs24 : w2.heap.size ≤ w4.heap.size := by have := HS24.out; have := HS4.out; omega
  have HB5 : Hid (Below w.heap.size w w5) := HB4.out.trans (hP.below HB4.out.size (fun k hk => by have := HF4.out k hk; have := HW2.out; omega))
  have HX5 := Lib.hid (hP.mods.owns HX4.out (fun k hk e => by have := HF4.out k e; have := HQ2.out k hk; omega))
  have HO5 : Hid (w5.ownsRow w2.heap.size 5 1 r5 _ (u8s (l ++ frameOf id (numsOf s)))) := hP.made hs24 HF4.out
  obtain ⟨q5, c5, hr⟩ := (Rd.of_owns HO5.out).shape
  subst hr
  have HT5 := Lib.hid (I.keeps HT.out (Mods.of_below HB5.out (fun _ => False)) (fun _ _ h => h))
  clear hP HX4 HO4 HT4 HB4 HD4 HK4 HF4 HF3 HS4 HS24 HC HQ2 HW2 HB3 hs24
  go_wp2_with fail
  refine (HAL.out _ HT5.out).mono ?_
  rintro en w6 ⟨rfl, hB⟩
  have HB6 := Lib.hid (HB5.out.trans (hB.mono HB5.out.size))
  have HX6 := Lib.hid (Rd.of_owns ((Mods.of_below hB (fun _ => False)).owns HX5.out (fun _ _ e => e)))
  have HY6 := Lib.hid (Rd.of_owns ((Mods.of_below hB (fun _ => False)).owns HO5.out (fun _ _ e => e)))
  have HL6 := Lib.hid (HL.out.below HB6.out)
  have HQX : Hid (∀ k, (Value.slice q2 (l.length + (bytesOf (numsOf s)).length) c2).ownBlock = some k → k < w6.heap.size) := fun k hk => by have := (HX5.out.lt k hk).2; have := hB.size; omega
  have HQY : Hid (∀ k, (Value.slice q5 (l.length + (frameOf id (numsOf s)).length) c5).ownBlock = some k → k < w6.heap.size) := fun k hk => by have := (HO5.out.lt k hk).2; have := hB.size; omega
  clear hB HX5 HO5 HB5 HT5
  go_wp2_with fail
  refine (bytes_clone _ _ _ _ HL6.out (u8s_oneCell _) (by omega)).mono ?_
  rintro en w7 ⟨r7, rfl, hM⟩
  obtain ⟨q7, c7, hr⟩ := (Rd.of_owns hM.1).shape
  subst hr
  have HF7 : Hid (∀ k, (Value.slice q7 l.length c7).ownBlock = some k → w.heap.size ≤ k) := fun k hk => by have := (hM.1.lt k hk).1; have := HB6.out.size; omega
  have HO7 : Hid (w7.ownsRow 0 5 1 (.slice q7 l.length c7) l.length (u8s l)) := owns_rebase hM.1 (fun _ _ => Nat.zero_le _)
  have HG7 : Hid (∀ k, (Value.slice q7 l.length c7).ownBlock = some k → w6.heap.size ≤ k) := fun k hk => (hM.1.lt k hk).1
  have HB7 := Lib.hid (HB6.out.trans (hM.2.mono HB6.out.size))
  have HX7 := Lib.hid (HX6.out.below hM.2)
  have HY7 := Lib.hid (HY6.out.below hM.2)
  clear hM HB6 HX6 HY6 HL6
  go_wp2_with fail
  refine (ref_bytes s (by omega) _).mono ?_
  rintro en w8 ⟨r8, rfl, hM⟩
  obtain ⟨q8, c8, hr⟩ := (Rd.of_owns hM.1).shape
  subst hr
  have HR8 := Lib.hid (Rd.of_owns hM.1)
  have HO8 := Lib.hid ((Mods.of_below hM.2 (fun _ => False)).owns HO7.out (fun _ _ e => e))
  have HB8 := Lib.hid (HB7.out.trans (hM.2.mono HB7.out.size))
  have HX8 := Lib.hid (HX7.out.below hM.2)
  have HY8 := Lib.hid (HY7.out.below hM.2)
  have HM8 : Hid ((l.length + (bytesOf (numsOf s)).length) * 1 ≤ 140737488355328 ∧ l.length + (bytesOf (numsOf s)).length ≤ maxLen) := by
    show _ ∧ _
    have h1 := numsOf_length s
    have h2 := bytesOf_length (numsOf s)
    have h3 := groups_ten (x := (numsOf s).length) (by omega)
    unfold maxLen
    omega
  clear hM HO7 HB7 HX7 HY7
  go_wp2_with (at_builtin; refine wpList_extend Tryd.elemU8 _ _ _ _ _ _ _ HO8.out HR8.out (u8s_oneCell _) HM8.out rfl _ _ rfl rfl rfl ?_)
  intro v9 w9 hown hmods hfr
  obtain ⟨q9, c9, hr⟩ := (Rd.of_owns hown).shape
  subst hr
  rw [← u8s_append] at hown
  have HB9 : Hid (Below w.heap.size w w9) := HB8.out.trans (hmods.below HB8.out.size (fun k hk e => by have := HF7.out k e; omega))
  have HR9 := Lib.hid (Rd.of_owns hown)
  have HL9 := Lib.hid (HL.out.below HB9.out)
  have HX9 := Lib.hid (HX8.out.mods hmods (fun k hk e => by have := HQX.out k hk; have := HG7.out k e; omega))
  have HY9 := Lib.hid (HY8.out.mods hmods (fun k hk e => by have := HQY.out k hk; have := HG7.out k e; omega))
  have HYb : Hid (∀ k, (Value.slice q5 (l.length + (frameOf id (numsOf s)).length) c5).ownBlock = some k → k < w9.heap.size) := HY9.out.lt (fun e => by have h := congrArg List.length e; rw [u8s_length, List.length_append, frameOf_length] at h; simp at h)
  have HXlt : Hid (∀ z ∈ l ++ bytesOf (numsOf s), z < 256) := fun z hz => by
    rcases List.mem_append.1 hz with h | h
    · exact HO.out z h
    · exact bytesOf_lt (numsOf_lt s) z h
  have HYlt : Hid (∀ z ∈ l ++ frameOf id (numsOf s), z < 256) := fun z hz => by
    rcases List.mem_append.1 hz with h | h
    · exact HO.out z h
    · exact frameOf_lt HI.out (numsOf_lt s) z h
  clear hown hmods hfr HO8 HR8 HB8 HX8 HY8 HM8 HF7 HG7 HQX HQY
  go_wp2_with fail
  refine (equal_any _ _ _ _ _ _ _ HX9.out HR9.out HXlt.out HXlt.out).mono ?_
  rintro en w10 ⟨rfl, hw⟩
  subst hw
  rw [decide_eq_true (rfl : l ++ bytesOf (numsOf s) = l ++ bytesOf (numsOf s))]
  clear HX9 HR9 HXlt
  go_wp2_with fail
  refine (bytes_clone _ _ _ _ HL9.out (u8s_oneCell _) (by omega)).mono ?_
  rintro en w11 ⟨r11, rfl, hM⟩
  obtain ⟨q11, c11, hr⟩ := (Rd.of_owns hM.1).shape
  subst hr
  have HO11 : Hid (w11.ownsRow 0 5 1 (.slice q11 l.length c11) l.length (u8s l)) := owns_rebase hM.1 (fun _ _ => Nat.zero_le _)
  have HG11 : Hid (∀ k, (Value.slice q11 l.length c11).ownBlock = some k → w9.heap.size ≤ k) := fun k hk => (hM.1.lt k hk).1
  have HB11 := Lib.hid (HB9.out.trans (hM.2.mono HB9.out.size))
  have HY11 := Lib.hid (HY9.out.below hM.2)
  have HW9 : Hid (w.heap.size ≤ w9.heap.size) := HB9.out.size
  clear hM HB9 HY9 HL9
  obtain ⟨q12, c12, w12, HC, hrd, hb12, hk12⟩ := conv_bytes w11 s hs
  have HD12 := Lib.hid hrd
  have HO12 := Lib.hid ((Mods.of_below hb12 (fun _ => False)).owns HO11.out (fun _ _ e => e))
  have HB12 := Lib.hid (HB11.out.trans (hb12.mono HB11.out.size))
  have HY12 := Lib.hid (HY11.out.below hb12)
  clear hrd hb12 hk12 HO11 HB11 HY11
  go_wp2_with fail
  have HZ : Hid (s.size = (numsOf s).length) := (numsOf_length s).symm
  refine (ref_frame id _ (numsOf s) _ HI.out HD12.out (numsOf_lt s) (by rw [numsOf_length]; omega)).mono ?_
  rintro en w13 ⟨r13, rfl, hM⟩
  obtain ⟨q13, c13, hr⟩ := (Rd.of_owns hM.1).shape
  subst hr
  have HR13 := Lib.hid (Rd.of_owns hM.1)
  have HO13 := Lib.hid ((Mods.of_below hM.2 (fun _ => False)).owns HO12.out (fun _ _ e => e))
  have HB13 := Lib.hid (HB12.out.trans (hM.2.mono HB12.out.size))
  have HY13 := Lib.hid (HY12.out.below hM.2)
  have HM13 : Hid ((l.length + (frameOf id (numsOf s)).length) * 1 ≤ 140737488355328 ∧ l.length + (frameOf id (numsOf s)).length ≤ maxLen) := by
    show _ ∧ _
    have h1 := numsOf_length s
    have h2 := frameOf_length id (numsOf s)
    have h3 := groups_ten (x := (numsOf s).length) (by omega)
    unfold maxLen
    omega
  clear hM HO12 HB12 HY12 HD12 HC
  go_wp2_with (at_builtin; refine wpList_extend Tryd.elemU8 _ _ _ _ _ _ _ HO13.out HR13.out (u8s_oneCell _) HM13.out rfl _ _ rfl rfl rfl ?_)
  intro v14 w14 hown hmods hfr
  obtain ⟨q14, c14, hr⟩ := (Rd.of_owns hown).shape
  subst hr
  rw [← u8s_append] at hown
  have HB14 : Hid (Below w.heap.size w w14) := HB13.out.trans (hmods.below HB13.out.size (fun k hk e => by have := HG11.out k e; have := HW9.out; omega))
  have HR14 := Lib.hid (Rd.of_owns hown)
  have HY14 := Lib.hid (HY13.out.mods hmods (fun k hk e => by have := HYb.out k hk; have := HG11.out k e; omega))
  clear hown hmods hfr HO13 HR13 HB13 HY13 HM13 HG11 HW9 HYb
  go_wp2_with fail
  refine (equal_any _ _ _ _ _ _ _ HY14.out HR14.out HYlt.out HYlt.out).mono ?_
  rintro en w15 ⟨rfl, hw⟩
  subst hw
  rw [decide_eq_true (rfl : l ++ frameOf id (numsOf s) = l ++ frameOf id (numsOf s))]
  clear HY14 HR14 HYlt
  go_wp2_with fail
  go_ret
  exact ⟨rfl, HB14.out⟩
end Go.Proofs.YtkgghlhmgolfbaaDoor.wireWrites
