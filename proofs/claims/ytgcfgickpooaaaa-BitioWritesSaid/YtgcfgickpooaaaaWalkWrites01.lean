/- Layer 1: BitioWrites, walked. -/
import Derived.Test.YtgcfgickpooaaaaWrite01
namespace Go.Proofs.Ytgcfgickpooaaaa.bitioWrites
open Go Go.RowKit
theorem flatMap_field_ne {l : List (Nat × Int)} (h : l ≠ []) : l.flatMap fieldCells ≠ [] := by
  cases l with
  | nil => exact absurd rfl h
  | cons a l => simp [fieldCells]

set_option maxHeartbeats 1000000 in
theorem walk (w : World) (v : Value) (l : List (Nat × Int)) (ok : ∀ a ∈ l, fieldOk a) (hl : Rd w 2 v l.length (l.flatMap fieldCells)) (hz : l.length * 16 ≤ 140737488351232) :
    Calls Try.prog 3 #[v] w fun e w' => e = .returned (.bool true) ∧ Below w.heap.size w w' := by
  have HL := Lib.hid hl
  have HK := Lib.hid ok
  obtain ⟨q, c, hv⟩ := hl.shape
  subst hv
  clear hl ok
  by_cases hlt : 300 < l.length
  · have hlt' : (300 : Int) < (l.length : Int) := by omega
    go_enter Try.func3, Try.ntmps3
    go_wp2_with fail
    refine (alive_any _).mono ?_
    rintro e w1 ⟨rfl, hB⟩
    go_wp2_with fail
    go_ret
    exact ⟨rfl, hB⟩
  · have hlt' : ¬ (300 : Int) < (l.length : Int) := by omega
    have hfl := fieldsBits_length l
    go_enter Try.func3, Try.ntmps3
    go_wp2_with fail
    refine (new_writer _).mono ?_
    rintro e w1 ⟨rfl, hW1, hB1⟩
    have hR := HL.out.below hB1
    have hs : l ≠ [] → ∀ k, (Value.slice q l.length c).ownBlock = some k → k ≠ w.heap.size ∧ (Value.slice none 0 0).ownBlock ≠ some k := fun hne k hk => ⟨by have := HL.out.lt (flatMap_field_ne hne) k hk; omega, by simp [Value.ownBlock]⟩
    have HB1 := Lib.hid hB1; have HW1 := Lib.hid hW1; have HR := Lib.hid hR; have HS := Lib.hid hs
    clear hB1 hW1 hR hs
    go_wp2_with fail
    refine (write_any _ _ _ _ l _ HW1.out HR.out HS.out HK.out (by simp; omega)).mono ?_
    rintro e w2 ⟨v2, bv, rfl, hW⟩
    have hB2 : Below w.heap.size w w2 := HB1.out.trans (hW.upd.below HB1.out.size (Nat.le_refl _) (by simp [Value.ownBlock]))
    obtain ⟨bp, bc, hbv⟩ := (Rd.of_owns hW.own).shape
    subst hbv
    have HW := Lib.hid hW; have HB2 := Lib.hid hB2
    clear hW hB2
    go_wp2_with fail
    refine (alive_any _).mono ?_
    rintro e w3 ⟨rfl, hB3⟩
    have HW3 := Lib.hid (HW.out.below hB3)
    have HB3 := Lib.hid (HB2.out.trans (hB3.mono HB2.out.size))
    clear hB3
    go_wp2_with fail
    refine (wlen _ _ _ _ HW3.out.wr).mono ?_
    rintro e w4 ⟨rfl, rfl⟩
    go_wp2_with fail
    refine (wbytes _ _ _ _ HW3.out.wr (by simp; omega)).mono ?_
    rintro e w5 ⟨r, rfl, hM⟩
    have HW5 := Lib.hid (HW3.out.below hM.2)
    have HB5 := Lib.hid (HB3.out.trans (hM.2.mono HB3.out.size))
    have HM := Lib.hid hM.1
    clear hM
    go_wp2_with fail
    refine (ref_pack _ _ _ (Rd.of_owns HW5.out.own) (by omega)).mono ?_
    rintro e w6 ⟨r2, rfl, hM2⟩
    have HB6 := Lib.hid (HB5.out.trans (hM2.2.mono HB5.out.size))
    have HM1 := Lib.hid ((Rd.of_owns HM.out).below hM2.2)
    have HM2 := Lib.hid (Rd.of_owns hM2.1)
    clear hM2
    go_wp2_with fail
    refine (equal_any _ _ _ _ _ _ _ HM1.out HM2.out (pack_lt _) (pack_lt _)).mono ?_
    rintro e w7 ⟨rfl, rfl⟩
    rw [List.nil_append, decide_eq_true rfl]
    go_wp2_with fail
    go_ret
    exact ⟨rfl, HB6.out⟩
end Go.Proofs.Ytgcfgickpooaaaa.bitioWrites
