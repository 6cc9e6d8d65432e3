/- Layer 3: the examples of the chapter. -/
import Derived.Test.YtehnfibmglnlcaaDoorCrc03B
import Derived.Test.YtehnfibmglnlcaaDoorCrc03D
set_option linter.unusedVariables false
namespace Go.Proofs.YtehnfibmglnlcaaDoor
open Go Go.RowKit

theorem crc_digits : crcOf [49, 50, 51, 52, 53, 54, 55, 56, 57] = 3421780262 := by decide +kernel
theorem crc_none : crcOf [] = 0 := by decide
theorem combine_zeros {a b : List Nat} (ha : ∀ x ∈ a, x < 256) (hb : ∀ x ∈ b, x < 256) : zeros b.length (crcOf a) ^^^ crcOf b = crcOf (a ++ b) := by rw [Nat.xor_comm]; exact crc_zeros ha hb
theorem crc_halves : zeros 5 (crcOf [49, 50, 51, 52]) ^^^ crcOf [53, 54, 55, 56, 57] = 3421780262 := by decide +kernel

set_option maxHeartbeats 2000000 in
theorem alive_any (w : World) (hT : Tab w) : Calls Tryd.prog 9 #[] w fun e w' => e = .returned (.bool true) ∧ Below w.heap.size w w' := by
  have H1 := Lib.hid (crc_digits); have H2 := Lib.hid crc_none; have H3 := Lib.hid crc_halves
  have HT := Lib.hid hT
  clear hT
  have HB1 : Hid (Below w.heap.size w (w.alloc (.cells #[.int .u8 49, .int .u8 50, .int .u8 51, .int .u8 52, .int .u8 53, .int .u8 54, .int .u8 55, .int .u8 56, .int .u8 57] 5 (9, 10)))) := (Below.refl _ _).alloc (Nat.le_refl _) _
  have HL1 := Lib.hid (lit_rd_mark w #[.int .u8 49, .int .u8 50, .int .u8 51, .int .u8 52, .int .u8 53, .int .u8 54, .int .u8 55, .int .u8 56, .int .u8 57] (9, 10) [49, 50, 51, 52, 53, 54, 55, 56, 57] 9 rfl rfl (by decide))
  have HT1 := Lib.hid (HT.out.below HB1.out (Nat.le_refl _))
  have kc := fun (w : World) (C : Array Value) (n c : Nat) => Lib.run_convert_bytes_const (P := Tryd.prog) w 23 5 C n c Tryd.underlying23 Tryd.underlying5
  go_enter Tryd.func9, Tryd.ntmps9
  go_wp2_with fail
  refine (crc_sum _ [49, 50, 51, 52, 53, 54, 55, 56, 57] _ HT1.out HL1.out (by decide)).mono ?_
  rintro e w1 ⟨rfl, rfl⟩
  rw [H1.out]
  clear HL1
  generalize w.alloc (.cells #[.int .u8 49, .int .u8 50, .int .u8 51, .int .u8 52, .int .u8 53, .int .u8 54, .int .u8 55, .int .u8 56, .int .u8 57] 5 (9, 10)) = w1 at *
  go_wp2_with fail
  refine (crc_sum _ [] w1 HT1.out (Rd.nil w1 1) (by simp)).mono ?_
  rintro e w2 ⟨rfl, rfl⟩
  rw [H2.out]
  have HB2 : Hid (Below w.heap.size w (w1.alloc (.cells #[.int .u8 49, .int .u8 50, .int .u8 51, .int .u8 52] 5 (4, 5)))) := HB1.out.alloc HB1.out.size _
  have HL2 := Lib.hid (lit_rd_mark w1 #[.int .u8 49, .int .u8 50, .int .u8 51, .int .u8 52] (4, 5) [49, 50, 51, 52] 4 rfl rfl (by decide))
  have HT2 := Lib.hid (HT.out.below HB2.out (Nat.le_refl _))
  go_wp2_with fail
  refine (crc_sum _ [49, 50, 51, 52] _ HT2.out HL2.out (by decide)).mono ?_
  rintro e w2 ⟨rfl, rfl⟩
  clear HL2
  generalize w1.alloc (.cells #[.int .u8 49, .int .u8 50, .int .u8 51, .int .u8 52] 5 (4, 5)) = w2 at *
  have HB3 : Hid (Below w.heap.size w (w2.alloc (.cells #[.int .u8 53, .int .u8 54, .int .u8 55, .int .u8 56, .int .u8 57] 5 (5, 6)))) := HB2.out.alloc HB2.out.size _
  have HL3 := Lib.hid (lit_rd_mark w2 #[.int .u8 53, .int .u8 54, .int .u8 55, .int .u8 56, .int .u8 57] (5, 6) [53, 54, 55, 56, 57] 5 rfl rfl (by decide))
  have HT3 := Lib.hid (HT.out.below HB3.out (Nat.le_refl _))
  have hA := Lib.hid (crcOf_lt [49, 50, 51, 52])
  have hB := Lib.hid (crcOf_lt [53, 54, 55, 56, 57])
  generalize crcOf [49, 50, 51, 52] = A at *
  go_wp2_with fail
  refine (crc_sum _ [53, 54, 55, 56, 57] _ HT3.out HL3.out (by decide)).mono ?_
  rintro e w3 ⟨rfl, rfl⟩
  clear HL3
  generalize w2.alloc (.cells #[.int .u8 53, .int .u8 54, .int .u8 55, .int .u8 56, .int .u8 57] 5 (5, 6)) = w3 at *
  generalize crcOf [53, 54, 55, 56, 57] = B at *
  go_wp2_with fail
  refine (crc_combine A B 5 w3 HT3.out hA.out hB.out (by decide)).mono ?_
  rintro e w4 ⟨rfl, hb⟩
  rw [H3.out]
  have HB4 := Lib.hid (HB3.out.trans (hb.mono HB3.out.size))
  clear hb HB1 HB2 HB3 HT1 HT2 HT3
  have HB5 : Hid (Below w.heap.size w (w4.alloc (.cells #[.int .u8 7] 5))) := HB4.out.alloc HB4.out.size _
  have HL5 := Lib.hid (lit_rd w4 #[.int .u8 7] [7] rfl (by decide))
  have HT5 := Lib.hid (HT.out.below HB5.out (Nat.le_refl _))
  go_wp2_with fail
  refine (crc_append _ [7] _ HT5.out HL5.out (by decide) (by decide)).mono ?_
  rintro e w6 ⟨r, rfl, hM⟩
  have HR6 := Lib.hid (Rd.of_owns hM.1)
  have HB6 := Lib.hid (HB5.out.trans (hM.2.mono HB5.out.size))
  have HT6 := Lib.hid (HT.out.below HB6.out (Nat.le_refl _))
  have HOk := Lib.hid (isCrc_withCrc [7])
  have HW8 := Lib.hid (withCrc_lt (b := [7]) (by decide))
  clear hM HL5 HT5 HB5 HB4
  generalize withCrc [7] = l at *
  go_wp2_with fail
  refine (crc_check _ l _ HT6.out HR6.out HW8.out).mono ?_
  rintro e w7 ⟨rfl, hb⟩
  have HB7 := Lib.hid (HB6.out.trans (hb.mono HB6.out.size))
  clear hb
  rw [HOk.out]
  go_wp2_with fail
  go_ret
  exact ⟨rfl, HB7.out⟩
end Go.Proofs.YtehnfibmglnlcaaDoor
