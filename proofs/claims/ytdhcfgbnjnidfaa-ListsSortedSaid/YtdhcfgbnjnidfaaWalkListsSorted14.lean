/- Layer 14: ListsSorted, walked over the interface. -/
import Derived.Test.YtdhcfgbnjnidfaaLiI
import Derived.Test.YtdhcfgbnjnidfaaRef14A
set_option linter.unusedVariables false
namespace Go.Proofs.Ytdhcfgbnjnidfaa.listsSorted
open Go Go.RowKit
variable {G : Nat} {T : World → Prop}

set_option maxRecDepth 20000 in
set_option maxHeartbeats 8000000 in
theorem walk (I : LiIf G T) (hal : ∀ w, T w → Calls Try.prog 9 #[] w fun e w' => e = .returned (.bool true) ∧ Below w.heap.size w w')
    (w : World) (hT : T w) (lv : Value) (l : List Int) (okl : ∀ x ∈ l, -9223372036854775808 ≤ x ∧ x < 9223372036854775808) (hl : Rd w 1 lv l.length (i64s l)) :
    Calls Try.prog 3 #[lv] w fun e w' => e = .returned (.bool true) ∧ Below w.heap.size w w' := by
  have HT := Lib.hid hT; have HAL := Lib.hid hal
  have HL := Lib.hid hl; have HS := Lib.hid okl
  obtain ⟨pl, cl, hv⟩ := hl.shape
  subst hv
  clear hT hal hl okl
  go_enter Try.func3, Try.ntmps3
  go_wp2_with fail
  refine (HAL.out _ HT.out).mono ?_
  rintro e w1 ⟨rfl, hB⟩
  have HB1 := Lib.hid hB
  have HT1 := Lib.hid (I.below HT.out hB)
  have HL1 := Lib.hid (HL.out.below hB)
  clear HT HL hB
  obtain ⟨d, hd⟩ : ∃ d, decide (AscB ltI l) = d := ⟨_, rfl⟩
  have HC := Lib.hid (I.isSorted _ l w1 HT1.out HL1.out HS.out)
  have HR := Lib.hid (fun w' hb => ref_sorted14 (.slice pl l.length cl) l w' (HL1.out.below hb))
  rw [hd] at HC HR
  clear hd
  go_wp2_with fail
  refine HC.out.mono ?_
  rintro e w2 ⟨rfl, hB⟩
  have HB2 := Lib.hid (HB1.out.trans (hB.mono HB1.out.size))
  have HR2 := Lib.hid (HR.out w2 hB)
  clear HC HR HB1 hB
  go_wp2_with fail
  refine HR2.out.mono ?_
  rintro e w3 ⟨rfl, hB⟩
  have HB3 := Lib.hid (HB2.out.trans (hB.mono HB2.out.size))
  clear HR2 HB2 hB
  have hdd : (d == d) = true := by cases d <;> rfl
  go_wp2_with fail
  go_ret
  exact ⟨rfl, HB3.out⟩
end Go.Proofs.Ytdhcfgbnjnidfaa.listsSorted
