/- Layer 14: ListsCombine, walked over the interface. -/
import Derived.Test.YtdhcfgbnjnidfaaWalkListsComplement14
set_option linter.unusedVariables false
namespace Go.Proofs.Ytdhcfgbnjnidfaa.listsCombine
open Go Go.RowKit
variable {G : Nat} {T : World → Prop}

theorem flat_map_sort (m : List (List Int)) : (m.map sortZ).flatten.length ≤ m.flatten.length := by
  induction m with
  | nil => simp
  | cons l m ih =>
    rw [List.map_cons, List.flatten_cons, List.flatten_cons, List.length_append, List.length_append]
    have := sort_len l
    omega
theorem sortedLL_map {m : List (List Int)} (h : m.flatten.length + m.length ≤ 300) (hx : ∀ l ∈ m, ∀ x ∈ l, -9223372036854775808 ≤ x ∧ x < 9223372036854775808) : SortedLL (m.map sortZ) := by
  refine ⟨fun l hl => ?_, fun l hl => ?_, by rw [List.length_map]; omega, by have := flat_map_sort m; omega⟩
  · obtain ⟨k, _, rfl⟩ := List.mem_map.1 hl
    exact sort_asc k
  · obtain ⟨k, hk, rfl⟩ := List.mem_map.1 hl
    exact listsComplement.smallZ_sort (by have := flat_mem_len hk; omega) (hx k hk)

set_option maxRecDepth 20000 in
set_option maxHeartbeats 8000000 in
theorem walk (I : LiIf G T) (hal : ∀ w, T w → Calls Try.prog 9 #[] w fun e w' => e = .returned (.bool true) ∧ Below w.heap.size w w')
    (w : World) (hT : T w) (lv : Value) (m : List (List Int)) (okl : ∀ l ∈ m, ∀ x ∈ l, -9223372036854775808 ≤ x ∧ x < 9223372036854775808) (hl : RdLL w lv m) :
    Calls Try.prog 4 #[lv] w fun e w' => e = .returned (.bool true) ∧ Below w.heap.size w w' := by
  have HT := Lib.hid hT; have HAL := Lib.hid hal
  have HS := Lib.hid okl
  have HSo := Lib.hid (sorted14 _ m w hl)
  obtain ⟨pl, cl, hv⟩ := hl.shape
  subst hv
  clear hT hal hl okl
  go_enter Try.func4, Try.ntmps4
  go_wp2_with fail
  refine HSo.out.mono ?_
  rintro e w2 ⟨he, hB⟩
  have HB2 := Lib.hid hB
  have HT2 := Lib.hid (I.below HT.out hB)
  clear HT hB HSo
  rcases he with rfl | ⟨hsm, v, rfl, hm⟩
  · go_wp2_with fail
    refine (HAL.out _ HT2.out).mono ?_
    rintro e wz ⟨rfl, hB⟩
    have HBz := Lib.hid (HB2.out.trans (hB.mono HB2.out.size))
    go_wp2_with fail
    go_ret
    exact ⟨rfl, HBz.out⟩
  · have HM := Lib.hid hm
    have HSl := Lib.hid (sortedLL_map hsm HS.out)
    clear hsm hm HS
    generalize m.map sortZ = q at *
    obtain ⟨pm, cm, hv⟩ := HM.out.shape
    subst hv
    go_wp2_with fail
    refine (HAL.out _ HT2.out).mono ?_
    rintro e w3 ⟨rfl, hB⟩
    have HB3 := Lib.hid (HB2.out.trans (hB.mono HB2.out.size))
    have HT3 := Lib.hid (I.below HT2.out hB)
    have HM3 := Lib.hid (HM.out.below hB)
    clear HB2 HT2 HM hB
    go_wp2_with fail
    refine (I.inter _ q w3 HT3.out HM3.out HSl.out).mono ?_
    rintro e w4 ⟨r1, rfl, hO⟩
    have HO := Lib.hid hO
    have HB4 := Lib.hid (HB3.out.trans (hO.bel.mono HB3.out.size))
    have HT4 := Lib.hid (I.below HT3.out hO.bel)
    have HM4 := Lib.hid (HM3.out.below hO.bel)
    obtain ⟨p4, c4, hv⟩ := hO.shape
    subst hv
    clear HB3 HT3 HM3 hO
    go_wp2_with fail
    refine (ref_inter14 _ q w4 HM4.out (fun l hl => by have := (HSl.out.small l hl).1; omega) (by have := HSl.out.len; omega)).mono ?_
    rintro e w5 ⟨r2, rfl, hO⟩
    have HB5 := Lib.hid (HB4.out.trans (hO.bel.mono HB4.out.size))
    have HT5 := Lib.hid (I.below HT4.out hO.bel)
    have HM5 := Lib.hid (HM4.out.below hO.bel)
    have HEq := Lib.hid (equal_int _ _ (interZ q) (interZ q) w5 (HO.out.below hO.bel).rd hO.rd)
    rw [decide_eq_true rfl] at HEq
    obtain ⟨p5, c5, hv⟩ := hO.shape
    subst hv
    clear HB4 HT4 HM4 hO HO
    generalize interZ q = z at *
    go_wp2_with fail
    refine HEq.out.mono ?_
    rintro e w6 ⟨rfl, hB⟩
    have HB6 := Lib.hid (HB5.out.trans (hB.mono HB5.out.size))
    have HT6 := Lib.hid (I.below HT5.out hB)
    have HM6 := Lib.hid (HM5.out.below hB)
    clear HB5 HT5 HM5 hB HEq
    go_wp2_with fail
    refine (I.union _ q w6 HT6.out HM6.out HSl.out).mono ?_
    rintro e w7 ⟨r3, rfl, hO⟩
    have HO := Lib.hid hO
    have HB7 := Lib.hid (HB6.out.trans (hO.bel.mono HB6.out.size))
    have HM7 := Lib.hid (HM6.out.below hO.bel)
    obtain ⟨p7, c7, hv⟩ := hO.shape
    subst hv
    clear HB6 HT6 HM6 hO
    go_wp2_with fail
    refine (ref_union14 _ q w7 HM7.out (by have := HSl.out.flat; omega) (by have := HSl.out.len; omega)).mono ?_
    rintro e w8 ⟨r4, rfl, hO⟩
    have HB8 := Lib.hid (HB7.out.trans (hO.bel.mono HB7.out.size))
    have HEq := Lib.hid (equal_int _ _ (unionZ q) (unionZ q) w8 (HO.out.below hO.bel).rd hO.rd)
    rw [decide_eq_true rfl] at HEq
    obtain ⟨p8, c8, hv⟩ := hO.shape
    subst hv
    clear HB7 HM7 hO HO
    generalize unionZ q = z2 at *
    go_wp2_with fail
    refine HEq.out.mono ?_
    rintro e w9 ⟨rfl, hB⟩
    have HB9 := Lib.hid (HB8.out.trans (hB.mono HB8.out.size))
    go_wp2_with fail
    go_ret
    exact ⟨rfl, HB9.out⟩
end Go.Proofs.Ytdhcfgbnjnidfaa.listsCombine
