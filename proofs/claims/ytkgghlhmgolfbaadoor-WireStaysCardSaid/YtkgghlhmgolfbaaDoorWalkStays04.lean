/- Layer 4: WireStays, walked, for whatever reader meets the interface. -/
import Derived.Test.YtkgghlhmgolfbaaDoorStep04
import Derived.Test.YtkgghlhmgolfbaaDoorAct04
set_option linter.unusedVariables false
namespace Go.Proofs.YtkgghlhmgolfbaaDoor.wireStays
open Go Go.RowKit
variable {G : Nat} {T : World → Prop} {R : World → Nat → Value → List Nat → Nat → Int → Prop}

set_option maxHeartbeats 8000000 in
theorem walk (I : WIf G T R) (hal : ∀ w, T w → Calls Tryd.prog 9 #[] w fun e w' => e = .returned (.bool true) ∧ Below w.heap.size w w')
    (w : World) (hT : T w) (v : Value) (l : List Nat) (ok : ∀ a ∈ l, a < 256) (hl : Rd w 1 v l.length (u8s l)) (hz : l.length * 1 ≤ 140737488351232)
    (E : Int) (hE : -9223372036854775808 ≤ E ∧ E < 9223372036854775808) (K N : Int) (U id : Nat) (hN : -9223372036854775808 ≤ N ∧ N < 9223372036854775808) (hU : U < 18446744073709551616) (hid : id < 256) :
    Calls Tryd.prog 7 #[v, .int .i64 E, .agg #[.int .i64 K, .int .i64 N, .int .u64 (U : Int), .int .u8 (id : Int)]] w fun e w' => e = .returned (.bool true) ∧ Below w.heap.size w w' := by
  have HB0 : Hid (Below w.heap.size w (w.alloc (.cells #[.int .i64 K, .int .i64 N, .int .u64 (U : Int), .int .u8 (id : Int)] 41))) := (Below.refl _ _).alloc (Nat.le_refl _) _
  have HBx0 : Hid (Box w.heap.size N U id (w.alloc (.cells #[.int .i64 K, .int .i64 N, .int .u64 (U : Int), .int .u8 (id : Int)] 41))) := Box.new _ _ _ _ _ _
  have HT0 := Lib.hid (I.keeps hT (Mods.of_below HB0.out (fun _ => False)) (fun _ _ h => h))
  have HL0 := Lib.hid (hl.below HB0.out)
  have HO := Lib.hid ok
  have HAL := Lib.hid hal
  have hs0 : w.heap.size < (w.alloc (.cells #[.int .i64 K, .int .i64 N, .int .u64 (U : Int), .int .u8 (id : Int)] 41)).heap.size := by simp
  obtain ⟨q0, c, hv⟩ := hl.shape
  subst hv
  clear hl ok hT hal
  by_cases hlt : 2000 < l.length ∨ E = 0
  · have hlt' : (2000 : Int) < (l.length : Int) ∨ E = 0 := by omega
    by_cases hl2 : (2000 : Int) < (l.length : Int)
    · go_enter Tryd.func7, Tryd.ntmps7
      go_wp2_with fail
      refine (HAL.out _ HT0.out).mono ?_
      rintro en w1 ⟨rfl, hB⟩
      have HB1 := Lib.hid (HB0.out.trans (hB.mono HB0.out.size))
      go_wp2_with fail
      go_ret
      exact ⟨rfl, HB1.out⟩
    · obtain rfl : E = 0 := by omega
      go_enter Tryd.func7, Tryd.ntmps7
      go_wp2_with fail
      refine (HAL.out _ HT0.out).mono ?_
      rintro en w1 ⟨rfl, hB⟩
      have HB1 := Lib.hid (HB0.out.trans (hB.mono HB0.out.size))
      go_wp2_with fail
      go_ret
      exact ⟨rfl, HB1.out⟩
  have hl2 : ¬ (2000 : Int) < (l.length : Int) := by omega
  have hE0 : (E == 0) = false := by rw [beq_eq_false_iff_ne]; omega
  have hEn : E ≠ 0 := by omega
  go_enter Tryd.func7, Tryd.ntmps7
  go_wp2_with fail
  refine (I.new _ l _ HT0.out HL0.out HO.out (by omega)).mono ?_
  rintro en w1 ⟨p, vr, rfl, hR, hp, hvr, hB⟩
  have HR1 := Lib.hid hR
  have HB1 := Lib.hid (HB0.out.trans (hB.mono HB0.out.size))
  have HBx1 := Lib.hid (HBx0.out.mods (Mods.of_below hB (fun _ => False)) (fun h => h))
  have HPx : Hid (w.heap.size ≠ p ∧ w.heap.size ≤ p) := by show _ ∧ _; omega
  clear hR hB hs0 hp hvr HBx0 HB0 HT0 HL0
  have hEmp : l.length = 0 ∨ 0 < l.length := by omega
  rcases hEmp with hEmp | hEmp
  · -- no byte
    obtain rfl : l = [] := List.eq_nil_of_length_eq_zero hEmp
    go_wp2_with fail
    refine (I.byte HR1.out).mono ?_
    rintro en w2 ⟨hm, hg⟩
    obtain ⟨rfl, hR⟩ := hg
    have HR2 := Lib.hid hR
    have HB2 := Lib.hid (HB1.out.trans (hm.below HB1.out.size (fun k hk e => by have := HPx.out; omega)))
    clear hR hm HR1 HB1
    go_wp2_with fail
    refine (I.pos HR2.out).mono ?_
    rintro en w3 ⟨rfl, hB⟩
    have HR3 := Lib.hid (I.below HR2.out hB)
    have HB3 := Lib.hid (HB2.out.trans (hB.mono HB2.out.size))
    clear hB HR2 HB2
    go_wp2_with fail
    refine (HAL.out _ (I.tab HR3.out)).mono ?_
    rintro en w4 ⟨rfl, hB⟩
    have HR4 := Lib.hid (I.below HR3.out hB)
    have HB4 := Lib.hid (HB3.out.trans (hB.mono HB3.out.size))
    clear hB HR3 HB3
    go_wp2_with fail
    refine (I.err HR4.out).mono ?_
    rintro en w5 ⟨rfl, hB⟩
    have HB5 := Lib.hid (HB4.out.trans (hB.mono HB4.out.size))
    clear hB HR4 HB4
    go_wp2_with fail
    go_ret
    exact ⟨rfl, HB5.out⟩
  · have hEmp' : ¬ (l.length : Int) = 0 := by omega
    have HO1 : Hid (∃ y, outByte l 0 = .ok y 1) := by show ∃ _, _; rw [outByte, List.getElem?_eq_getElem hEmp]; exact ⟨_, rfl⟩
    go_wp2_with fail
    refine (I.byte HR1.out).mono ?_
    rintro en w2 ⟨hm, hg⟩
    obtain ⟨y, hy⟩ := HO1.out
    rw [hy] at hg
    obtain ⟨rfl, hR⟩ := hg
    have HR2 := Lib.hid hR
    have HBx2 := Lib.hid (HBx1.out.mods hm (fun e => HPx.out.1 e))
    have HB2 := Lib.hid (HB1.out.trans (hm.below HB1.out.size (fun k hk e => by have := HPx.out; omega)))
    clear hR hm hy HR1 HB1 HBx1 HO1
    go_wp2_with fail
    refine (I.pos HR2.out).mono ?_
    rintro en w3 ⟨rfl, hB⟩
    have HR3 := Lib.hid (I.below HR2.out hB)
    have HBx3 := Lib.hid (HBx2.out.mods (Mods.of_below hB (fun _ => False)) (fun h => h))
    have HB3 := Lib.hid (HB2.out.trans (hB.mono HB2.out.size))
    clear hB HR2 HB2 HBx2
    go_wp2_with fail
    refine (I.fail 0 HR3.out).mono ?_
    rintro en w4 ⟨rfl, hR, hm⟩
    rw [if_pos rfl] at hR
    have HR4 := Lib.hid hR
    have HBx4 := Lib.hid (HBx3.out.mods hm (fun e => HPx.out.1 e))
    have HB4 := Lib.hid (HB3.out.trans (hm.below HB3.out.size (fun k hk e => by have := HPx.out; omega)))
    clear hR hm HR3 HB3 HBx3
    go_wp2_with fail
    refine (I.err HR4.out).mono ?_
    rintro en w5 ⟨rfl, hB⟩
    have HR5 := Lib.hid (I.below HR4.out hB)
    have HBx5 := Lib.hid (HBx4.out.mods (Mods.of_below hB (fun _ => False)) (fun h => h))
    have HB5 := Lib.hid (HB4.out.trans (hB.mono HB4.out.size))
    clear hB HR4 HB4 HBx4
    go_wp2_with fail
    refine (I.fail E HR5.out).mono ?_
    rintro en w6 ⟨rfl, hR, hm⟩
    rw [if_pos rfl] at hR
    have HR6 := Lib.hid hR
    have HBx6 := Lib.hid (HBx5.out.mods hm (fun e => HPx.out.1 e))
    have HB6 := Lib.hid (HB5.out.trans (hm.below HB5.out.size (fun k hk e => by have := HPx.out; omega)))
    clear hR hm HR5 HB5 HBx5
    go_wp2_with fail
    refine (I.fail 12 HR6.out).mono ?_
    rintro en w7 ⟨rfl, hR, hm⟩
    rw [if_neg hEn] at hR
    have HR7 := Lib.hid hR
    have HBx7 := Lib.hid (HBx6.out.mods hm (fun e => HPx.out.1 e))
    have HB7 := Lib.hid (HB6.out.trans (hm.below HB6.out.size (fun k hk e => by have := HPx.out; omega)))
    clear hR hm HR6 HB6 HBx6
    go_wp2_with fail
    refine (I.byteE hEn HR7.out).mono ?_
    rintro en w8 ⟨rfl, hR, hm⟩
    have HR8 := Lib.hid hR
    have HBx8 := Lib.hid (HBx7.out.mods hm (fun e => HPx.out.1 e))
    have HB8 := Lib.hid (HB7.out.trans (hm.below HB7.out.size (fun k hk e => by have := HPx.out; omega)))
    obtain ⟨b1, b2, b3⟩ := HBx8.out
    clear hR hm HR7 HB7 HBx7
    go_wp2_with fail
    refine (I.uintE U hU hEn HR8.out).mono ?_
    rintro en w9 ⟨rfl, hR, hm⟩
    have HR9 := Lib.hid hR
    have HBx9 := Lib.hid (HBx8.out.mods hm (fun e => HPx.out.1 e))
    have HB9 := Lib.hid (HB8.out.trans (hm.below HB8.out.size (fun k hk e => by have := HPx.out; omega)))
    clear b1 b2 b3
    obtain ⟨b1, b2, b3⟩ := HBx9.out
    clear hR hm HR8 HB8 HBx8
    go_wp2_with fail
    refine (I.takeE N hN hEn HR9.out).mono ?_
    rintro en w10 ⟨rfl, hR, hm⟩
    have HR10 := Lib.hid hR
    have HBx10 := Lib.hid (HBx9.out.mods hm (fun e => HPx.out.1 e))
    have HB10 := Lib.hid (HB9.out.trans (hm.below HB9.out.size (fun k hk e => by have := HPx.out; omega)))
    clear b1 b2 b3
    obtain ⟨b1, b2, b3⟩ := HBx10.out
    clear hR hm HR9 HB9 HBx9
    go_wp2_with fail
    refine (I.stringE N hN hEn HR10.out).mono ?_
    rintro en w11 ⟨rfl, hR, hm⟩
    have HR11 := Lib.hid hR
    have HBx11 := Lib.hid (HBx10.out.mods hm (fun e => HPx.out.1 e))
    have HB11 := Lib.hid (HB10.out.trans (hm.below HB10.out.size (fun k hk e => by have := HPx.out; omega)))
    clear b1 b2 b3
    obtain ⟨b1, b2, b3⟩ := HBx11.out
    clear hR hm HR10 HB10 HBx10
    go_wp2_with fail
    refine (I.sectE id hid hEn HR11.out).mono ?_
    rintro en w12 ⟨rfl, hR, hm⟩
    have HR12 := Lib.hid hR
    have HB12 := Lib.hid (HB11.out.trans (hm.below HB11.out.size (fun k hk e => by have := HPx.out; omega)))
    clear hR hm HR11 HB11 HBx11 b1 b2 b3
    go_wp2_with fail
    refine (HAL.out _ (I.tab HR12.out)).mono ?_
    rintro en w13 ⟨rfl, hB⟩
    have HR13 := Lib.hid (I.below HR12.out hB)
    have HB13 := Lib.hid (HB12.out.trans (hB.mono HB12.out.size))
    clear hB HR12 HB12
    go_wp2_with fail
    refine (I.pos HR13.out).mono ?_
    rintro en w14 ⟨rfl, hB⟩
    have HR14 := Lib.hid (I.below HR13.out hB)
    have HB14 := Lib.hid (HB13.out.trans (hB.mono HB13.out.size))
    clear hB HR13 HB13
    go_wp2_with fail
    refine (I.err HR14.out).mono ?_
    rintro en w15 ⟨rfl, hB⟩
    have HR15 := Lib.hid (I.below HR14.out hB)
    have HB15 := Lib.hid (HB14.out.trans (hB.mono HB14.out.size))
    clear hB HR14 HB14
    go_wp2_with fail
    refine (I.fin HR15.out).mono ?_
    rintro en w16 ⟨rfl, hB⟩
    have HB16 := Lib.hid (HB15.out.trans (hB.mono HB15.out.size))
    rw [if_neg (fun h => hEn h.1)]
    clear hB HR15 HB15
    go_wp2_with fail
    go_ret
    exact ⟨by simp, HB16.out⟩
end Go.Proofs.YtkgghlhmgolfbaaDoor.wireStays
