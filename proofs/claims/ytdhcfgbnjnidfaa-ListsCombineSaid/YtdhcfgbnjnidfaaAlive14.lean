/- Layer 14: the examples of the chapter, over the interface. -/
import Derived.Test.YtdhcfgbnjnidfaaLiI
import Derived.Test.YtdhcfgbnjnidfaaEqualI
import Derived.Test.YtdhcfgbnjnidfaaAllocN
import Derived.Test.YtdhcfgbnjnidfaaRdBlk
set_option linter.unusedVariables false
set_option maxRecDepth 20000
namespace Go.Proofs.Ytdhcfgbnjnidfaa
open Go Go.RowKit
variable {G : Nat} {T : World → Prop}

def zA14 : List Int := [1, 2, 5]
def zB14 : List Int := [2, 5, 9]
theorem inter_ax14 : interZ [zA14, zB14] = [2, 5] := by decide
theorem union_ax14 : unionZ [zA14, zB14] = [1, 2, 5, 9] := by decide
theorem diff_ax14 : diffZ zA14 zB14 = [1] := by decide
theorem compl_ax14 : complZ zA14 6 = [0, 3, 4] := by decide
theorem asc_a14 : AscB ltI zA14 := by decide
theorem asc_b14 : AscB ltI zB14 := by decide
theorem small_a14 : SmallZ zA14 := ⟨by decide, by decide⟩
theorem small_b14 : SmallZ zB14 := ⟨by decide, by decide⟩
theorem sorted_ab14 : SortedLL [zA14, zB14] := ⟨by
  intro l hl
  simp only [List.mem_cons, List.not_mem_nil, or_false] at hl
  rcases hl with rfl | rfl
  · exact asc_a14
  · exact asc_b14, by
  intro l hl
  simp only [List.mem_cons, List.not_mem_nil, or_false] at hl
  rcases hl with rfl | rfl
  · exact small_a14
  · exact small_b14, by decide, by decide⟩

set_option maxHeartbeats 4000000 in
theorem alive_of14 (I : LiIf G T) (w : World) (hT : T w) : Calls Try.prog 9 #[] w fun e w' => e = .returned (.bool true) ∧ Below w.heap.size w w' := by
  have HT := Lib.hid hT
  clear hT
  go_enter Try.func9, Try.ntmps9
  go_wp2_with fail
  obtain ⟨n, hn⟩ : ∃ n, w.heap.size = n := ⟨_, rfl⟩
  rw [hn]
  obtain ⟨w1, hw1⟩ : ∃ x, x = w.alloc (.cells #[.int .i64 1, .int .i64 2, .int .i64 5] 3) := ⟨_, rfl⟩
  rw [← hw1]
  obtain ⟨k1, s1, b1⟩ := alloc_next hw1 hn
  obtain ⟨w2, hw2⟩ : ∃ x, x = w1.alloc (.cells #[.int .i64 2, .int .i64 5, .int .i64 9] 3) := ⟨_, rfl⟩
  rw [← hw2]
  obtain ⟨k2, s2, b2⟩ := alloc_next hw2 s1
  obtain ⟨w3, hw3⟩ : ∃ x, x = w2.alloc (.cells #[.slice (some ⟨n, 0, none⟩) 3 3, .slice (some ⟨n + 1, 0, none⟩) 3 3] 22) := ⟨_, rfl⟩
  rw [← hw3]
  obtain ⟨k3, s3, b3⟩ := alloc_next hw3 s2
  have HB3 : Hid (Below w.heap.size w w3) := by
    have c2 := b1.trans (b2.mono b1.size)
    exact c2.trans (b3.mono c2.size)
  have HT3 := Lib.hid (I.below HT.out HB3.out)
  have HA3 : Hid (Rd w3 1 (.slice (some ⟨n, 0, none⟩) 3 3) zA14.length (i64s zA14)) := Rd.of_blk (n := 3) ((k1.below b2).below b3) rfl (by simp [maxLen])
  have HC3 : Hid (Rd w3 1 (.slice (some ⟨n + 1, 0, none⟩) 3 3) zB14.length (i64s zB14)) := Rd.of_blk (n := 3) (k2.below b3) rfl (by simp [maxLen])
  have HM := Lib.hid (RdLL.pair (l := zA14) (k := zB14) (Rd.of_blk (n := 2) k3 rfl (by simp [maxLen])) HA3.out HC3.out)
  clear hw1 hw2 hw3 k1 k2 k3 s1 s2 s3 b1 b2 b3 hn HT
  have HX := Lib.hid (I.inter _ [zA14, zB14] w3 HT3.out HM.out sorted_ab14)
  rw [inter_ax14] at HX
  refine HX.out.mono ?_
  rintro e w4 ⟨r4, rfl, hO⟩
  have b4 := hO.bel
  have HB4 := Lib.hid (HB3.out.trans (b4.mono HB3.out.size))
  have HT4 := Lib.hid (I.below HT3.out b4)
  have HA4 := Lib.hid (HA3.out.below b4)
  have HC4 := Lib.hid (HC3.out.below b4)
  have HO := Lib.hid hO
  obtain ⟨p4, c4, hv⟩ : ∃ p c, r4 = .slice p 2 c := hO.shape
  subst hv
  clear hO HX b4
  go_wp2_with fail
  obtain ⟨n4, hn4⟩ : ∃ x, w4.heap.size = x := ⟨_, rfl⟩
  rw [hn4]
  obtain ⟨w5, hw5⟩ : ∃ x, x = w4.alloc (.cells #[.int .i64 2, .int .i64 5] 3) := ⟨_, rfl⟩
  rw [← hw5]
  obtain ⟨k5, _, b5⟩ := alloc_next hw5 hn4
  have HB5 := Lib.hid (HB4.out.trans (b5.mono HB4.out.size))
  have HT5 := Lib.hid (I.below HT4.out b5)
  have HA5 := Lib.hid (HA4.out.below b5)
  have HC5 := Lib.hid (HC4.out.below b5)
  have HEq := Lib.hid (equal_int _ _ ([2, 5] : List Int) ([2, 5] : List Int) w5 (HO.out.below b5).rd (Rd.of_blk (n := 2) k5 rfl (by simp [maxLen])))
  rw [decide_eq_true rfl] at HEq
  clear hw5 k5 b5 hn4 HO
  refine HEq.out.mono ?_
  rintro e w6 ⟨rfl, b6⟩
  have HB6 := Lib.hid (HB5.out.trans (b6.mono HB5.out.size))
  have HT6 := Lib.hid (I.below HT5.out b6)
  have HA6 := Lib.hid (HA5.out.below b6)
  have HC6 := Lib.hid (HC5.out.below b6)
  clear HEq b6 HA4 HC4 HT4 HB4 HA5 HC5 HT5 HB5
  go_wp2_with fail
  clear HM
  obtain ⟨n6, hn6⟩ : ∃ x, w6.heap.size = x := ⟨_, rfl⟩
  rw [hn6]
  obtain ⟨w7, hw7⟩ : ∃ x, x = w6.alloc (.cells #[.slice (some ⟨n, 0, none⟩) 3 3, .slice (some ⟨n + 1, 0, none⟩) 3 3] 22) := ⟨_, rfl⟩
  rw [← hw7]
  obtain ⟨k7, _, b7⟩ := alloc_next hw7 hn6
  have HB7 := Lib.hid (HB6.out.trans (b7.mono HB6.out.size))
  have HT7 := Lib.hid (I.below HT6.out b7)
  have HA7 := Lib.hid (HA6.out.below b7)
  have HC7 := Lib.hid (HC6.out.below b7)
  have HM := Lib.hid (RdLL.pair (l := zA14) (k := zB14) (Rd.of_blk (n := 2) k7 rfl (by simp [maxLen])) HA7.out HC7.out)
  clear hw7 k7 b7 hn6
  have HX := Lib.hid (I.union _ [zA14, zB14] w7 HT7.out HM.out sorted_ab14)
  rw [union_ax14] at HX
  refine HX.out.mono ?_
  rintro e w8 ⟨r8, rfl, hO⟩
  have b8 := hO.bel
  have HB8 := Lib.hid (HB7.out.trans (b8.mono HB7.out.size))
  have HT8 := Lib.hid (I.below HT7.out b8)
  have HA8 := Lib.hid (HA7.out.below b8)
  have HC8 := Lib.hid (HC7.out.below b8)
  have HO := Lib.hid hO
  obtain ⟨p8, c8, hv⟩ : ∃ p c, r8 = .slice p 4 c := hO.shape
  subst hv
  clear hO HX b8
  go_wp2_with fail
  obtain ⟨n8, hn8⟩ : ∃ x, w8.heap.size = x := ⟨_, rfl⟩
  rw [hn8]
  obtain ⟨w9, hw9⟩ : ∃ x, x = w8.alloc (.cells #[.int .i64 1, .int .i64 2, .int .i64 5, .int .i64 9] 3) := ⟨_, rfl⟩
  rw [← hw9]
  obtain ⟨k9, _, b9⟩ := alloc_next hw9 hn8
  have HB9 := Lib.hid (HB8.out.trans (b9.mono HB8.out.size))
  have HT9 := Lib.hid (I.below HT8.out b9)
  have HA9 := Lib.hid (HA8.out.below b9)
  have HC9 := Lib.hid (HC8.out.below b9)
  have HEq := Lib.hid (equal_int _ _ ([1, 2, 5, 9] : List Int) ([1, 2, 5, 9] : List Int) w9 (HO.out.below b9).rd (Rd.of_blk (n := 4) k9 rfl (by simp [maxLen])))
  rw [decide_eq_true rfl] at HEq
  clear hw9 k9 b9 hn8 HO
  refine HEq.out.mono ?_
  rintro e w10 ⟨rfl, b10⟩
  have HB10 := Lib.hid (HB9.out.trans (b10.mono HB9.out.size))
  have HT10 := Lib.hid (I.below HT9.out b10)
  have HA10 := Lib.hid (HA9.out.below b10)
  have HC10 := Lib.hid (HC9.out.below b10)
  clear HEq b10 HA8 HC8 HT8 HB8 HA9 HC9 HT9 HB9
  go_wp2_with fail
  have HX := Lib.hid (I.diff _ _ zA14 zB14 w10 HT10.out HA10.out HC10.out asc_a14 asc_b14 small_a14 small_b14)
  rw [diff_ax14] at HX
  refine HX.out.mono ?_
  rintro e w11 ⟨r11, rfl, hO⟩
  have b11 := hO.bel
  have HB11 := Lib.hid (HB10.out.trans (b11.mono HB10.out.size))
  have HT11 := Lib.hid (I.below HT10.out b11)
  have HA11 := Lib.hid (HA10.out.below b11)
  have HC11 := Lib.hid (HC10.out.below b11)
  have HO := Lib.hid hO
  obtain ⟨p11, c11, hv⟩ : ∃ p c, r11 = .slice p 1 c := hO.shape
  subst hv
  clear hO HX b11
  go_wp2_with fail
  obtain ⟨n11, hn11⟩ : ∃ x, w11.heap.size = x := ⟨_, rfl⟩
  rw [hn11]
  obtain ⟨w12, hw12⟩ : ∃ x, x = w11.alloc (.cells #[.int .i64 1] 3) := ⟨_, rfl⟩
  rw [← hw12]
  obtain ⟨k12, _, b12⟩ := alloc_next hw12 hn11
  have HB12 := Lib.hid (HB11.out.trans (b12.mono HB11.out.size))
  have HT12 := Lib.hid (I.below HT11.out b12)
  have HA12 := Lib.hid (HA11.out.below b12)
  have HC12 := Lib.hid (HC11.out.below b12)
  have HEq := Lib.hid (equal_int _ _ ([1] : List Int) ([1] : List Int) w12 (HO.out.below b12).rd (Rd.of_blk (n := 1) k12 rfl (by simp [maxLen])))
  rw [decide_eq_true rfl] at HEq
  clear hw12 k12 b12 hn11 HO
  refine HEq.out.mono ?_
  rintro e w13 ⟨rfl, b13⟩
  have HB13 := Lib.hid (HB12.out.trans (b13.mono HB12.out.size))
  have HT13 := Lib.hid (I.below HT12.out b13)
  have HA13 := Lib.hid (HA12.out.below b13)
  have HC13 := Lib.hid (HC12.out.below b13)
  clear HEq b13 HA11 HC11 HT11 HB11 HA12 HC12 HT12 HB12
  go_wp2_with fail
  have HX := Lib.hid (I.compl _ zA14 6 w13 HT13.out HA13.out asc_a14 small_a14 (by decide) (by decide))
  rw [compl_ax14] at HX
  refine HX.out.mono ?_
  rintro e w14 ⟨r14, rfl, hO⟩
  have b14 := hO.bel
  have HB14 := Lib.hid (HB13.out.trans (b14.mono HB13.out.size))
  have HT14 := Lib.hid (I.below HT13.out b14)
  have HA14 := Lib.hid (HA13.out.below b14)
  have HC14 := Lib.hid (HC13.out.below b14)
  have HO := Lib.hid hO
  obtain ⟨p14, c14, hv⟩ : ∃ p c, r14 = .slice p 3 c := hO.shape
  subst hv
  clear hO HX b14
  go_wp2_with fail
  obtain ⟨n14, hn14⟩ : ∃ x, w14.heap.size = x := ⟨_, rfl⟩
  rw [hn14]
  obtain ⟨w15, hw15⟩ : ∃ x, x = w14.alloc (.cells #[.int .i64 0, .int .i64 3, .int .i64 4] 3) := ⟨_, rfl⟩
  rw [← hw15]
  obtain ⟨k15, _, b15⟩ := alloc_next hw15 hn14
  have HB15 := Lib.hid (HB14.out.trans (b15.mono HB14.out.size))
  have HT15 := Lib.hid (I.below HT14.out b15)
  have HA15 := Lib.hid (HA14.out.below b15)
  have HC15 := Lib.hid (HC14.out.below b15)
  have HEq := Lib.hid (equal_int _ _ ([0, 3, 4] : List Int) ([0, 3, 4] : List Int) w15 (HO.out.below b15).rd (Rd.of_blk (n := 3) k15 rfl (by simp [maxLen])))
  rw [decide_eq_true rfl] at HEq
  clear hw15 k15 b15 hn14 HO
  refine HEq.out.mono ?_
  rintro e w16 ⟨rfl, b16⟩
  have HB16 := Lib.hid (HB15.out.trans (b16.mono HB15.out.size))
  have HT16 := Lib.hid (I.below HT15.out b16)
  have HA16 := Lib.hid (HA15.out.below b16)
  have HC16 := Lib.hid (HC15.out.below b16)
  clear HEq b16 HA14 HC14 HT14 HB14 HA15 HC15 HT15 HB15
  go_wp2_with fail
  have HX := Lib.hid (I.isSorted _ zA14 w16 HT16.out HA16.out small_a14.2)
  rw [decide_eq_true asc_a14] at HX
  refine HX.out.mono ?_
  rintro e w17 ⟨rfl, b17⟩
  have HB17 := Lib.hid (HB16.out.trans (b17.mono HB16.out.size))
  clear HX b17
  go_wp2_with fail
  go_ret
  exact ⟨rfl, HB17.out⟩
end Go.Proofs.Ytdhcfgbnjnidfaa
