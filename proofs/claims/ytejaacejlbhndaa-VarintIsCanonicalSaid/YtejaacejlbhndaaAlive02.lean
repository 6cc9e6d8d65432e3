/- Layer 2: the examples of the chapter. -/
import Derived.Test.YtejaacejlbhndaaVarintB
import Derived.Test.YtejaacejlbhndaaRef02
set_option linter.unusedVariables false
namespace Go.Proofs.Ytejaacejlbhndaa
open Go Go.RowKit

theorem groups_300 : groups 300 = [172, 2] := by rw [groups_big (by decide), groups_small (by decide)]
theorem groups_5 : groups 5 = [5] := groups_small (by decide)
theorem fold_m3 : fold (-3) = 5 := by decide
theorem read_80_00 : readAt [128, 0] 0 = (0, 0, 5) := by decide

/-- What an append to a row that the call has made leaves behind. -/
theorem AppPost.below {v : Value} {n : Nat} {out : List Nat} {w : World} {v' : Value} {w' : World} (h : AppPost v n out w v' w') {B : Nat} (hB : B ≤ w.heap.size) (hv : ∀ k, v.ownBlock = some k → B ≤ k) : Below B w w' :=
  h.mods.below hB (fun k hk e => by have := hv k e; omega)
theorem AppPost.made {v : Value} {n : Nat} {out : List Nat} {w : World} {v' : Value} {w' : World} (h : AppPost v n out w v' w') {B : Nat} (hB : B ≤ w.heap.size) (hv : ∀ k, v.ownBlock = some k → B ≤ k) : w'.ownsRow B 5 1 v' n (u8s out) :=
  owns_rebase h.own (fun k hk => by
    rcases h.fresh k hk with e | e
    · exact hv k e
    · omega)
theorem nil_block {B : Nat} : ∀ k, (Value.slice none 0 0).ownBlock = some k → B ≤ k := fun k e => by simp [Value.ownBlock] at e

theorem lit_rd (w : World) (cs : Array Value) (l : List Nat) (h : cs.toList = u8s l) (hn : l.length ≤ maxLen) : Rd (w.alloc (.cells cs 5)) 1 (.slice (some ⟨w.heap.size, 0, none⟩) l.length l.length) l.length (u8s l) := by
  have hs : cs.size = l.length * 1 := by rw [← Array.length_toList, h, u8s_length, Nat.mul_one]
  have := Rd.of_owns (World.ownsRow_lit (base := 0) (e := 5) w cs l.length (Nat.zero_le _) (by simpa using hn) hs)
  rwa [h] at this

set_option maxHeartbeats 1000000 in
theorem alive_any (w : World) : Calls Try.prog 9 #[] w fun e w' => e = .returned (.bool true) ∧ Below w.heap.size w w' := by
  have hR : Rd (w.alloc (.cells #[.int .u8 128, .int .u8 0] 5)) 1 (.slice (some ⟨w.heap.size, 0, none⟩) 2 2) 2 (u8s [128, 0]) :=
    Rd.of_owns (World.ownsRow_lit (base := 0) w #[.int .u8 128, .int .u8 0] 2 (Nat.zero_le _) (by simp [maxLen]) (by simp))
  have HR := Lib.hid hR; clear hR
  have HB : Hid (Below w.heap.size w (w.alloc (.cells #[.int .u8 128, .int .u8 0] 5))) := (Below.refl _ _).alloc (Nat.le_refl _) _
  go_enter Try.func9, Try.ntmps9
  go_wp2_with fail
  refine (get_any _ [128, 0] 0 _ HR.out (by decide)).mono ?_
  rintro e w1 ⟨rfl, rfl⟩
  rw [read_80_00]
  generalize w.alloc (.cells #[.int .u8 128, .int .u8 0] 5) = w1 at *
  clear HR
  go_wp2_with fail
  refine (append_any _ 0 [] 300 (by decide) _ (World.ownsRow_nil _ _ _ _) (by decide)).mono ?_
  rintro e w2 ⟨v2, rfl, hP⟩
  rw [groups_300] at hP
  have HB2 := Lib.hid (HB.out.trans (hP.below HB.out.size nil_block))
  have HO2 := Lib.hid (hP.made HB.out.size nil_block)
  obtain ⟨p2, c2, hv2⟩ := (Rd.of_owns hP.own).shape
  subst hv2
  clear hP
  go_wp2_with fail
  have HB3 : Hid (Below w.heap.size w (w2.alloc (.cells #[.int .u8 172, .int .u8 2] 5))) := HB2.out.alloc HB2.out.size _
  have HO3 : Hid (Rd (w2.alloc (.cells #[.int .u8 172, .int .u8 2] 5)) 1 (.slice p2 2 c2) 2 (u8s [172, 2])) := (Rd.of_owns HO2.out).below ((Below.refl _ _).alloc (Nat.le_refl _) _)
  have HL3 := Lib.hid (lit_rd w2 #[.int .u8 172, .int .u8 2] [172, 2] rfl (by decide))
  refine (equal_any _ _ _ _ [172, 2] [172, 2] _ HO3.out HL3.out (by decide) (by decide)).mono ?_
  rintro e w3 ⟨rfl, rfl⟩
  rw [decide_eq_true (rfl : [172, 2] = [172, 2])]
  clear HB HB2 HO2 HO3 HL3
  generalize w2.alloc (.cells #[.int .u8 172, .int .u8 2] 5) = w3 at *
  go_wp2_with fail
  refine (append_signed _ 0 [] (-3) (by decide) _ (World.ownsRow_nil _ _ _ _) (by decide)).mono ?_
  rintro e w4 ⟨v4, rfl, hP⟩
  rw [fold_m3, groups_5] at hP
  have HB4 := Lib.hid (HB3.out.trans (hP.below HB3.out.size nil_block))
  have HO4 := Lib.hid (hP.made HB3.out.size nil_block)
  obtain ⟨p4, c4, hv4⟩ := (Rd.of_owns hP.own).shape
  subst hv4
  clear hP
  go_wp2_with fail
  have HB5 : Hid (Below w.heap.size w (w4.alloc (.cells #[.int .u8 5] 5))) := HB4.out.alloc HB4.out.size _
  have HO5 : Hid (Rd (w4.alloc (.cells #[.int .u8 5] 5)) 1 (.slice p4 1 c4) 1 (u8s [5])) := (Rd.of_owns HO4.out).below ((Below.refl _ _).alloc (Nat.le_refl _) _)
  have HL5 := Lib.hid (lit_rd w4 #[.int .u8 5] [5] rfl (by decide))
  refine (equal_any _ _ _ _ [5] [5] _ HO5.out HL5.out (by decide) (by decide)).mono ?_
  rintro e w5 ⟨rfl, rfl⟩
  rw [decide_eq_true (rfl : [5] = [5])]
  clear HB3 HB4 HO4 HO5 HL5
  generalize w4.alloc (.cells #[.int .u8 5] 5) = w5 at *
  go_wp2_with fail
  refine (size_any 300 (by decide) _).mono ?_
  rintro e w6 ⟨rfl, hB⟩
  rw [groups_300]
  have HB6 := Lib.hid (HB5.out.trans (hB.mono HB5.out.size))
  clear hB
  go_wp2_with fail
  go_ret
  exact ⟨rfl, HB6.out⟩
end Go.Proofs.Ytejaacejlbhndaa
