/- Layer 4: the examples of the chapter. -/
import Derived.Test.YtkgghlhmgolfbaaDoorIface04
import Derived.Test.YtkgghlhmgolfbaaDoorApp04
set_option linter.unusedVariables false
namespace Go.Proofs.YtkgghlhmgolfbaaDoor
open Go Go.RowKit

theorem groups_1 : groups 1 = [1] := groups_small (by decide)
theorem groups_2 : groups 2 = [2] := groups_small (by decide)
theorem bytes_ab : bytesOf (numsOf ⟨#[97, 98]⟩) = [2, 97, 98] := by
  have e : numsOf ⟨#[97, 98]⟩ = [97, 98] := by decide
  rw [e, bytesOf]
  show groups 2 ++ _ = _
  rw [groups_2]; rfl
theorem read_a : outString [1, 97, 5] 0 1 = .ok [97] 2 := by
  have h := outString_back [] [97] [5] (by decide) 1 (by decide)
  have e : bytesOf [97] = [1, 97] := by
    rw [bytesOf]
    show groups 1 ++ _ = _
    rw [groups_1]; rfl
  rw [e] at h
  exact h
theorem read_5 : outByte [1, 97, 5] 2 = .ok 5 3 := rfl

set_option maxHeartbeats 2000000 in
theorem alive_any (w : World) (hT : Tab w) : Calls Tryd.prog 9 #[] w fun e w' => e = .returned (.bool true) ∧ Below w.heap.size w w' := by
  have HB0 : Hid (Below w.heap.size w (w.alloc (.cells #[.int .u8 1, .int .u8 97, .int .u8 5] 5))) := (Below.refl _ _).alloc (Nat.le_refl _) _
  have HL0 := Lib.hid (lit_rd w #[.int .u8 1, .int .u8 97, .int .u8 5] [1, 97, 5] rfl (by decide))
  have HT0 := Lib.hid (hT.below HB0.out (Nat.le_refl _))
  clear hT
  go_enter Tryd.func9, Tryd.ntmps9
  go_wp2_with fail
  refine (reader.new _ [1, 97, 5] _ HT0.out HL0.out (by decide) (by decide)).mono ?_
  rintro en w1 ⟨p, vr, rfl, hR, hp, hv, hb⟩
  have HR1 := Lib.hid hR
  have HP : Hid (w.heap.size ≤ p) := by show _ ≤ _; have := HB0.out.size; omega
  have HB1 := Lib.hid (HB0.out.trans (hb.mono HB0.out.size))
  clear hR hp hv hb HT0 HL0
  go_wp2_with fail
  refine (append_bytes _ 0 [] ⟨#[97, 98]⟩ _ (World.ownsRow_nil _ _ _ _) (by decide)).mono ?_
  rintro en w2 ⟨v2, rfl, hP⟩
  rw [bytes_ab] at hP
  have hP : AppPost (.slice none 0 0) 3 [2, 97, 98] w1 v2 w2 := hP
  have HB2 := Lib.hid (HB1.out.trans (hP.below HB1.out.size nil_block))
  have HR2 := Lib.hid (HR1.out.below (hP.below (Nat.le_refl _) nil_block))
  have HO2 := Lib.hid (hP.made HB1.out.size nil_block)
  obtain ⟨p2, c2, hv2⟩ := (Rd.of_owns hP.own).shape
  subst hv2
  clear hP HR1
  go_wp2_with fail
  have HB3 : Hid (Below w.heap.size w (w2.alloc (.cells #[.int .u8 2, .int .u8 97, .int .u8 98] 5))) := HB2.out.alloc HB2.out.size _
  have HO3 : Hid (Rd (w2.alloc (.cells #[.int .u8 2, .int .u8 97, .int .u8 98] 5)) 1 (.slice p2 3 c2) 3 (u8s [2, 97, 98])) := (Rd.of_owns HO2.out).below ((Below.refl _ _).alloc (Nat.le_refl _) _)
  have HL3 := Lib.hid (lit_rd w2 #[.int .u8 2, .int .u8 97, .int .u8 98] [2, 97, 98] rfl (by decide))
  have HR3 := Lib.hid (HR2.out.below ((Below.refl _ w2).alloc (Nat.le_refl _) (.cells #[.int .u8 2, .int .u8 97, .int .u8 98] 5)))
  refine (equal_any _ _ _ _ [2, 97, 98] [2, 97, 98] _ HO3.out HL3.out (by decide) (by decide)).mono ?_
  rintro en w3 ⟨rfl, rfl⟩
  clear HO3 HL3 HO2 HB2 HR2 HB1
  generalize w2.alloc (.cells #[.int .u8 2, .int .u8 97, .int .u8 98] 5) = w3 at *
  go_wp2_with fail
  refine (reader.string 1 (by decide) HR3.out).mono ?_
  rintro en w4 ⟨hm, hg⟩
  rw [read_a] at hg
  have eA : strOf [97] = ⟨#[97]⟩ := by decide
  have he : en = .returned (.string ⟨#[97]⟩) := hg.1.trans (by rw [← eA])
  subst he
  have hR := hg.2
  have HR4 := Lib.hid hR
  have HB4 := Lib.hid (HB3.out.trans (hm.below HB3.out.size (fun k hk e => by have := HP.out; omega)))
  clear hm hR HR3 HB3 eA hg
  go_wp2_with fail
  refine (reader.pos HR4.out).mono ?_
  rintro en w5 ⟨rfl, hb⟩
  have HR5 := Lib.hid (HR4.out.below hb)
  have HB5 := Lib.hid (HB4.out.trans (hb.mono HB4.out.size))
  clear hb HR4 HB4
  go_wp2_with fail
  refine (reader.fin HR5.out).mono ?_
  rintro en w6 ⟨rfl, hb⟩
  have e4 : (if (0 : Int) = 0 ∧ 2 < [1, 97, 5].length then (4 : Int) else 0) = 4 := by decide
  rw [e4]
  have HR6 := Lib.hid (HR5.out.below hb)
  have HB6 := Lib.hid (HB5.out.trans (hb.mono HB5.out.size))
  clear hb HR5 HB5 e4
  go_wp2_with fail
  refine (reader.byte HR6.out).mono ?_
  rintro en w7 ⟨hm, hg⟩
  rw [read_5] at hg
  have he : en = .returned (.int .u8 5) := hg.1
  subst he
  have hR := hg.2
  have HR7 := Lib.hid hR
  have HB7 := Lib.hid (HB6.out.trans (hm.below HB6.out.size (fun k hk e => by have := HP.out; omega)))
  clear hm hR HR6 HB6 hg
  go_wp2_with fail
  refine (reader.fin HR7.out).mono ?_
  rintro en w8 ⟨rfl, hb⟩
  have e0 : (if (0 : Int) = 0 ∧ 3 < [1, 97, 5].length then (4 : Int) else 0) = 0 := by decide
  rw [e0]
  have HB8 := Lib.hid (HB7.out.trans (hb.mono HB7.out.size))
  clear hb HR7 HB7 e0
  go_wp2_with fail
  go_ret
  exact ⟨rfl, HB8.out⟩
end Go.Proofs.YtkgghlhmgolfbaaDoor
