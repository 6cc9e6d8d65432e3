/- AlivP, AllocN, EqualI, Alive15, StrCmp, PbA, PbB, PbP, in one text. -/
import Derived.Test.YtpjfhakmffcolaaMrg8
import Derived.Test.YtpjfhakmffcolaaMrg5
import Derived.Test.YtpjfhakmffcolaaMrg1
import Derived.Test.YtpjfhakmffcolaaMrg2
import Derived.Test.YtpjfhakmffcolaaMrg7
import Derived.Lib.Bytealg
import Derived.Laws.Externs
import Derived.Test.YtpjfhakmffcolaaMrg6
import Derived.Test.YtpjfhakmffcolaaMrg4
import Derived.StillTailTactics
import Derived.Laws.EntriesVeiled

section
/- Layer 15: the example of the chapter, as lists. No program in sight. -/
set_option linter.unusedVariables false
set_option maxRecDepth 20000
namespace Go.Proofs.Ytpjfhakmffcolaa
open Go Go.RowKit

def a15 : Lab := (lA, l1)
def b15 : Lab := (lB, l2)
def mAB : List (List Lab) := [[a15], [a15, b15]]
def iAB : List Ent := [(a15, [0, 1]), (b15, [1])]
def tAB : List ByteArray := [l1, l2, lA, lB]
theorem cmp_ab15 : cmpLab a15 b15 = -1 := by
  have h0 : ordB ltS lA lB = -1 := by rw [ordB, if_pos lAB]
  rw [cmpLab, cmpP]
  show (if ordB ltS lA lB = 0 then _ else ordB ltS lA lB) = -1
  rw [h0]; rfl
theorem cmp_aa15 : cmpLab a15 a15 = 0 := cmpLab_ok.refl _
theorem ins1_15 : insR a15 0 [] = [(a15, [0])] := rfl
theorem ins2_15 : insR a15 1 [(a15, [0])] = [(a15, [0, 1])] := by
  have h : insB ltI 1 [0] = [0, 1] := by decide
  simp [insR, insStep, cmp_aa15, h]
theorem ins3_15 : insR b15 1 [(a15, [0, 1])] = iAB := by
  simp [insR, insStep, cmp_ab15, iAB]
theorem build_ab15 : buildP mAB = iAB := by
  have h : buildP mAB = insR b15 1 (insR a15 1 (insR a15 0 [])) := rfl
  rw [h, ins1_15, ins2_15, ins3_15]
theorem lt_2a : ltS l2 lA = true := by simp [ltS, l2, lA, ByteArray.toList_eq, Op.bytesLess]
theorem asc_t15 : AscB ltS tAB := by
  have h1 := l12; have h2 := lt_2a; have h3 := lAB
  have h4 := ltS_ok.tr _ _ _ h1 h2
  have h5 := ltS_ok.tr _ _ _ h2 h3
  have h6 := ltS_ok.tr _ _ _ h4 h3
  simp [AscB, tAB, h1, h2, h3, h4, h5, h6]
theorem fits_t15 : Fits tAB := by
  intro s hs
  simp only [tAB, List.mem_cons, List.not_mem_nil, or_false] at hs
  rcases hs with rfl | rfl | rfl | rfl <;> decide
theorem ix1 : idxT tAB l1 = 0 := by rw [idxT, findS_at (asc_nodup asc_t15) (n := 0) rfl]; rfl
theorem ix2 : idxT tAB l2 = 1 := by rw [idxT, findS_at (asc_nodup asc_t15) (n := 1) rfl]; rfl
theorem ixA : idxT tAB lA = 2 := by rw [idxT, findS_at (asc_nodup asc_t15) (n := 2) rfl]; rfl
theorem ixB : idxT tAB lB = 3 := by rw [idxT, findS_at (asc_nodup asc_t15) (n := 3) rfl]; rfl
theorem in_t15 : ∀ e ∈ iAB, labIn tAB e.1 := by
  intro e he
  simp only [iAB, List.mem_cons, List.not_mem_nil, or_false] at he
  rcases he with rfl | rfl <;> exact ⟨by simp [tAB, a15, b15], by simp [tAB, a15, b15]⟩
theorem bytes_ab15 : entsBytes tAB iAB = [2, 2, 0, 2, 0, 1, 3, 1, 1, 1] := by
  simp [entsBytes, iAB, entBytes, labBytes, serBytes, fManyS, serB, a15, b15, ix1, ix2, ixA, ixB, groups_small]
theorem one_ab15 : ∀ x ∈ [a15, b15], oneL x = 0 := one_ab11
theorem small_ab15 : SmallP mAB := by
  refine ⟨by decide, by decide, fun s hs x hx => ?_, fun s hs => ?_, fun s hs x hx => ?_⟩
  · have hx2 : x = a15 ∨ x = b15 := by
      simp only [mAB, List.mem_cons, List.not_mem_nil, or_false] at hs
      rcases hs with rfl | rfl
      · simp at hx; exact Or.inl hx
      · simpa using hx
    rcases hx2 with rfl | rfl <;> exact ⟨by decide, by decide⟩
  · simp only [mAB, List.mem_cons, List.not_mem_nil, or_false] at hs
    rcases hs with rfl | rfl
    · exact List.pairwise_singleton _ _
    · exact asc_ab11
  · simp only [mAB, List.mem_cons, List.not_mem_nil, or_false] at hs
    rcases hs with rfl | rfl
    · simp at hx; subst hx; exact one_ab15 _ (by simp)
    · exact one_ab15 x hx
theorem smallI_ab15 : SmallI 2 iAB := by have h := small_idx small_ab15; rw [build_ab15] at h; exact h
theorem enc_ab15 : encPoR tAB iAB = (0, [2, 2, 0, 2, 0, 1, 3, 1, 1, 1]) := by rw [encPo_ok in_t15, bytes_ab15]
theorem dec_ab15 : decPo tAB 2 [2, 2, 0, 2, 0, 1, 3, 1, 1, 1] = (0, iAB) := by
  rw [← bytes_ab15]
  exact decPo_back asc_t15 (by decide) (by decide) (by decide) (smallI_ab15.okE in_t15)
theorem find_ab15 : findP iAB a15 = [0, 1] := by simp [findP, iAB]
theorem named_ab15 : namedP iAB lB = [1] := by
  have h : lA ≠ lB := ltS_ok.ne lAB
  simp [namedP, iAB, a15, b15, h]
  decide
theorem sized_a15 : LabSized [a15] := by
  intro x hx
  simp only [List.mem_singleton] at hx
  subst hx
  exact ⟨by decide, by decide⟩
end Go.Proofs.Ytpjfhakmffcolaa

end

section
/- Worlds after literals. No program in sight. -/
set_option linter.unusedVariables false
set_option maxRecDepth 20000
namespace Go.Proofs.Ytpjfhakmffcolaa
open Go Go.RowKit

variable {G : Nat} {T : World → Prop}

theorem alloc_next {w w' : World} {n : Nat} {cs : Array Value} {t : TypeId} (hw : w' = w.alloc (.cells cs t)) (hs : w.heap.size = n) : Blk w' n cs.toList ∧ w'.heap.size = n + 1 ∧ Below w.heap.size w w' := by
  subst hw; subst hs
  exact ⟨Blk.new w cs t, by simp, (Mods.alloc (fun _ => False) w _).below (Nat.le_refl _) (fun _ _ e => e)⟩

theorem Blk.below {w w' : World} {b : Nat} {cs : List Value} (h : Blk w b cs) (hb : Below w.heap.size w w') : Blk w' b cs := h.of_same (hb.block _ h.lt)
end Go.Proofs.Ytpjfhakmffcolaa

end

section
/- Layer 14: slices.Equal of numbers (as at []int64). -/
set_option linter.unusedVariables false
namespace Go.Proofs.Ytpjfhakmffcolaa
open Go Go.RowKit

set_option maxHeartbeats 1000000 in
/-- slices.Equal. -/
theorem equal_int (a b : Value) (l k : List Int) (w : World) (ha : Rd w 1 a l.length (i64s l)) (hb : Rd w 1 b k.length (i64s k)) :
    Calls Try.prog 19 #[a, b] w fun e w' => e = .returned (.bool (decide (l = k))) ∧ Below w.heap.size w w' := by
  have HA := Lib.hid ha; have HB := Lib.hid hb
  obtain ⟨pa, ca, hv⟩ := ha.shape
  subst hv
  obtain ⟨pb, cb, hv⟩ := hb.shape
  subst hv
  clear ha hb
  by_cases hlen : l.length = k.length
  · have hlb : ((l.length : Int) == (k.length : Int)) = true := by rw [hlen]; simp
    have hli : (l.length : Int) = (k.length : Int) := by omega
    have HLen := Lib.hid hlen
    have HMax : Hid ((l.length : Int) ≤ 9223372036854775807) := by show _ ≤ _; have := HA.out.le; unfold maxLen at this; omega
    rw [← hlen] at HB ⊢
    clear hlen hlb hli
    go_enter Try.func19, Try.ntmps19
    go_wp2_with fail
    go_loopw [13] (fun i wr => ∃ j : Nat, j ≤ l.length ∧ i = .int .i64 (j : Int) ∧ Hid (Below w.heap.size w wr) ∧ Hid (l.take j = k.take j)) (fun i _ => l.length - (intOf i).toNat)
    case atStart => exact ⟨0, by omega, rfl, Below.refl _ _, rfl⟩
    case round =>
      obtain ⟨j, hj, rfl, HBw, HT⟩ := hrel
      by_cases hlt : j < l.length
      · have hlt' : (j : Int) < (l.length : Int) := by omega
        have hmx := HMax.out
        have hltk : j < k.length := by have := HLen.out; omega
        have hca := (HA.out.below HBw.out)
        have hcb := (HB.out.below HBw.out)
        obtain ⟨b1, o1, c1, e, m1, m2, hc1⟩ := hca.at (fun e => by have := congrArg List.length e; rw [i64s_length] at this; simp at this; subst this; simp at hlt)
        simp only [Value.slice.injEq] at e
        obtain ⟨rfl, _, rfl⟩ := e
        obtain ⟨b2, o2, c2, e, m3, m4, hc2⟩ := hcb.at (fun e => by have := congrArg List.length e; rw [i64s_length] at this; simp at this; subst this; simp at hltk)
        simp only [Value.slice.injEq] at e
        obtain ⟨rfl, _, rfl⟩ := e
        have h1 := hc1 j _ (i64s_get l j hlt)
        have h2 := hc2 j _ (i64s_get k j hltk)
        have HS : Hid (l[j] = k[j] → l.take (j + 1) = k.take (j + 1)) := fun e => by rw [List.take_add_one, List.take_add_one, List.getElem?_eq_getElem hlt, List.getElem?_eq_getElem hltk, e, HT.out]
        have HN : Hid (l[j] ≠ k[j] → decide (l = k) = false) := fun e => by
          rw [decide_eq_false_iff_not]
          intro h
          apply e
          have h3 : l[j]? = k[j]? := by rw [h]
          rw [List.getElem?_eq_getElem hlt, List.getElem?_eq_getElem hltk] at h3
          exact Option.some.inj h3
        clear hc1 hc2 hca hcb m1 m2 m3 m4
        generalize l[j] = x at *
        generalize k[j] = y at *
        clear hltk
        by_cases hxy : x = y
        · subst hxy
          have HS2 := Lib.hid (HS.out rfl)
          clear HS HN
          go_wp2_with fail
          go_quiet (fail)
          have HB2 : Hid (Below w.heap.size w (wr.drewN nq)) := HBw.out.trans ⟨rfl, rfl, rfl, Nat.le_refl _, fun _ _ => rfl⟩
          clear h1 h2
          generalize wr.drewN nq = w2 at *
          go_wp2_with fail
          go_round
          case rel => exact ⟨j + 1, by omega, by go_num, HB2.out, HS2.out⟩
          case measure => simp [intOf]; omega
        · have HN2 := Lib.hid (HN.out hxy)
          have hxb : (x == y) = false := by rw [beq_eq_false_iff_ne]; exact hxy
          clear HS HN hxy
          go_wp2_with fail
          go_quiet (fail)
          have HB2 : Hid (Below w.heap.size w (wr.drewN nq)) := HBw.out.trans ⟨rfl, rfl, rfl, Nat.le_refl _, fun _ _ => rfl⟩
          clear h1 h2
          generalize wr.drewN nq = w2 at *
          go_wp2_with fail
          go_ret
          exact ⟨by rw [HN2.out]; rfl, HB2.out⟩
      · obtain rfl : j = l.length := by omega
        have hnl : ¬ (l.length : Int) < (l.length : Int) := by omega
        have HE : Hid (decide (l = k) = true) := by
          show _ = _
          rw [decide_eq_true_iff]
          have h := HT.out
          rw [List.take_length, List.take_of_length_le (by have := HLen.out; omega)] at h
          exact h
        go_wp2_with fail
        go_ret
        exact ⟨by rw [HE.out]; rfl, HBw.out⟩
  · have hlb : ((l.length : Int) == (k.length : Int)) = false := by rw [beq_eq_false_iff_ne]; omega
    have hli : ¬ (l.length : Int) = (k.length : Int) := by omega
    have HE : Hid (decide (l = k) = false) := by
      show _ = _
      rw [decide_eq_false_iff_not]
      intro h; exact hlen (by rw [h])
    clear hlen
    go_enter Try.func19, Try.ntmps19
    go_wp2_with fail
    go_ret
    exact ⟨by rw [HE.out]; rfl, Below.refl _ _⟩
end Go.Proofs.Ytpjfhakmffcolaa

end

section
/- Layer 15: the example of the chapter, over the interface. -/
set_option linter.unusedVariables false
set_option maxRecDepth 20000
namespace Go.Proofs.Ytpjfhakmffcolaa
open Go Go.RowKit
variable {G : Nat} {T : World → Prop}

set_option maxHeartbeats 4000000 in
theorem alive_of15 (I : PoIf G T) (w : World) (hT : T w) : Calls Try.prog 10 #[] w fun e w' => e = .returned (.bool true) ∧ Below w.heap.size w w' := by
  have HT := Lib.hid hT
  clear hT
  go_enter Try.func10, Try.ntmps10
  go_wp2_with fail
  obtain ⟨n, hn⟩ : ∃ n, w.heap.size = n := ⟨_, rfl⟩
  rw [hn]
  obtain ⟨w1, hw1⟩ : ∃ x, x = w.alloc (.cells #[.string ⟨#[97]⟩, .string ⟨#[49]⟩] 34) := ⟨_, rfl⟩
  rw [← hw1]
  obtain ⟨k0, s1, b1⟩ := alloc_next hw1 hn
  obtain ⟨w2, hw2⟩ : ∃ x, x = w1.alloc (.cells #[.string ⟨#[98]⟩, .string ⟨#[50]⟩] 34) := ⟨_, rfl⟩
  rw [← hw2]
  obtain ⟨k1, s2, b2⟩ := alloc_next hw2 s1
  obtain ⟨w3, hw3⟩ : ∃ x, x = w2.alloc (.cells #[.string ⟨#[97]⟩, .string ⟨#[49]⟩] 34) := ⟨_, rfl⟩
  rw [← hw3]
  obtain ⟨k2, s3, b3⟩ := alloc_next hw3 s2
  obtain ⟨w4, hw4⟩ : ∃ x, x = w3.alloc (.cells #[.string ⟨#[97]⟩, .string ⟨#[49]⟩, .string ⟨#[98]⟩, .string ⟨#[50]⟩] 34) := ⟨_, rfl⟩
  rw [← hw4]
  obtain ⟨k3, s4, b4⟩ := alloc_next hw4 s3
  obtain ⟨w5, hw5⟩ : ∃ x, x = w4.alloc (.cells #[.slice (some ⟨n + 1 + 1, 0, none⟩) 1 1, .slice (some ⟨n + 1 + 1 + 1, 0, none⟩) 2 2] 36) := ⟨_, rfl⟩
  rw [← hw5]
  obtain ⟨k4, s5, b5⟩ := alloc_next hw5 s4
  have B5 : Below w.heap.size w w5 := by
    have c2 := b1.trans (b2.mono b1.size)
    have c3 := c2.trans (b3.mono c2.size)
    have c4 := c3.trans (b4.mono c3.size)
    exact c4.trans (b5.mono c4.size)
  have HK0 : Hid (Blk w5 n [.string lA, .string l1]) := (((k0.below b2).below b3).below b4).below b5
  have K2 := (k2.below b4).below b5
  have K3 := k3.below b5
  have HM : Hid (RdBL w5 (.slice (some ⟨n + 1 + 1 + 1 + 1, 0, none⟩) 2 2) mAB) :=
    ⟨[.slice (some ⟨n + 1 + 1, 0, none⟩) 1 1, .slice (some ⟨n + 1 + 1 + 1, 0, none⟩) 2 2], Rd.of_blk k4 rfl (by simp [maxLen]), rfl, fun i h s hi hj => by
      match i with
      | 0 => simp [mAB] at hi hj; subst hi hj; exact Rd.of_blk (n := 1) K2 rfl (by simp [maxLen])
      | 1 => simp [mAB] at hi hj; subst hi hj; exact Rd.of_blk (n := 2) K3 rfl (by simp [maxLen])
      | i + 2 => simp at hi⟩
  have HB5 := Lib.hid B5
  have HT5 := Lib.hid (I.below HT.out B5)
  have hbu := I.build _ mAB w5 HT5.out HM.out small_ab15
  rw [build_ab15] at hbu
  have HBu := Lib.hid hbu
  clear hbu B5 K2 K3 k0 k1 k2 k3 k4 s1 s2 s3 s4 s5 b1 b2 b3 b4 b5 hw1 hw2 hw3 hw4 hw5 HT hn HM
  refine HBu.out.mono ?_
  rintro e w6 ⟨r6, rfl, hr, hB⟩
  have HR6 := Lib.hid hr
  obtain ⟨p6, c6, hv⟩ : ∃ p c, r6 = .slice p 2 c := hr.shape
  subst hv
  have HB6 := Lib.hid (HB5.out.trans (hB.mono HB5.out.size))
  have HT6 := Lib.hid (I.below HT5.out hB)
  have HK6 := Lib.hid (HK0.out.below hB)
  clear hr hB HBu HB5 HT5 HK0
  obtain ⟨z, hz⟩ : ∃ z, w6.heap.size = z := ⟨_, rfl⟩
  obtain ⟨w7, hw7⟩ : ∃ x, x = w6.alloc (.cells #[.string ⟨#[49]⟩, .string ⟨#[50]⟩, .string ⟨#[97]⟩, .string ⟨#[98]⟩] 9) := ⟨_, rfl⟩
  obtain ⟨kt, _, hB⟩ := alloc_next hw7 hz
  have HW7 : Hid (w6.alloc (.cells #[.string ⟨#[49]⟩, .string ⟨#[50]⟩, .string ⟨#[97]⟩, .string ⟨#[98]⟩] 9) = w7) := hw7.symm
  have HZ := Lib.hid hz
  have HTt : Hid (Rd w7 1 (.slice (some ⟨z, 0, none⟩) 4 4) tAB.length (strs tAB)) := Rd.of_blk (n := 4) kt rfl (by simp [maxLen])
  have HB7 := Lib.hid (HB6.out.trans (hB.mono HB6.out.size))
  have HT7 := Lib.hid (I.below HT6.out hB)
  have HK7 := Lib.hid (HK6.out.below hB)
  have HR7 := Lib.hid (HR6.out.below hB)
  clear kt hB hw7 hz HB6 HT6 HK6 HR6
  go_wp2_with fail
  rw [HW7.out, HZ.out]
  clear HW7 HZ
  have hen := I.encode _ _ tAB iAB 2 w7 HT7.out HTt.out (by decide) asc_t15 fits_t15 HR7.out smallI_ab15.idx (by decide) (by decide) (fun e he => (smallI_ab15.ser e he).2.1) (by rw [bytes_ab15]; decide)
  rw [enc_ab15] at hen
  have HEn := Lib.hid hen
  clear hen
  try go_wp2_with fail
  refine HEn.out.mono ?_
  rintro e w8 ⟨⟨r8, rfl, hr, _⟩, hB⟩
  have HR8 : Hid (Rd w8 1 r8 ([2, 2, 0, 2, 0, 1, 3, 1, 1, 1] : List Nat).length (u8s [2, 2, 0, 2, 0, 1, 3, 1, 1, 1])) := hr
  obtain ⟨p8, c8, hv⟩ : ∃ p c, r8 = .slice p 10 c := hr.shape
  subst hv
  have HB8 := Lib.hid (HB7.out.trans (hB.mono HB7.out.size))
  have HT8 := Lib.hid (I.below HT7.out hB)
  have HK8 := Lib.hid (HK7.out.below hB)
  have HL8 := Lib.hid (HR7.out.below hB)
  have HTt8 := Lib.hid (HTt.out.below hB)
  have hde := I.decode _ _ tAB 2 [2, 2, 0, 2, 0, 1, 3, 1, 1, 1] w8 HT8.out HTt8.out (by decide) asc_t15 fits_t15 (by decide) HR8.out (by decide) (by decide)
  rw [dec_ab15] at hde
  have HDe := Lib.hid hde
  clear hde hr hB HEn HB7 HT7 HK7 HR7 HTt
  go_wp2_with fail
  refine HDe.out.mono ?_
  rintro e w9 ⟨⟨r9, rfl, hr⟩, hB⟩
  obtain ⟨p9, c9, hv⟩ : ∃ p c, r9 = .slice p 2 c := hr.shape
  subst hv
  have HB9 := Lib.hid (HB8.out.trans (hB.mono HB8.out.size))
  have HT9 := Lib.hid (I.below HT8.out hB)
  have HK9 := Lib.hid (HK8.out.below hB)
  have HL9 := Lib.hid (HL8.out.below hB)
  have HR9 := Lib.hid (HR8.out.below hB)
  clear hr hB HDe HB8 HT8 HK8 HL8 HR8 HTt8
  go_wp2_with fail
  have hbc : Below w9.heap.size w9 (w9.alloc (.cells #[.int .u8 2, .int .u8 2, .int .u8 0, .int .u8 2, .int .u8 0, .int .u8 1, .int .u8 3, .int .u8 1, .int .u8 1, .int .u8 1] 5)) := (Below.refl _ _).alloc (Nat.le_refl _) _
  have HB10 := Lib.hid (HB9.out.trans (hbc.mono HB9.out.size))
  have HT10 := Lib.hid (I.below HT9.out hbc)
  have HK10 := Lib.hid (HK9.out.below hbc)
  have HL10 := Lib.hid (HL9.out.below hbc)
  have HR10 := Lib.hid (HR9.out.below hbc)
  have HLt := Lib.hid (lit_rd w9 #[.int .u8 2, .int .u8 2, .int .u8 0, .int .u8 2, .int .u8 0, .int .u8 1, .int .u8 3, .int .u8 1, .int .u8 1, .int .u8 1] [2, 2, 0, 2, 0, 1, 3, 1, 1, 1] rfl (by decide))
  clear hbc HB9 HT9 HK9 HL9 HR9
  generalize w9.alloc (.cells #[.int .u8 2, .int .u8 2, .int .u8 0, .int .u8 2, .int .u8 0, .int .u8 1, .int .u8 3, .int .u8 1, .int .u8 1, .int .u8 1] 5) = w10 at *
  refine (equal_any _ _ 10 10 [2, 2, 0, 2, 0, 1, 3, 1, 1, 1] [2, 2, 0, 2, 0, 1, 3, 1, 1, 1] w10 HR10.out HLt.out (by decide) (by decide)).mono ?_
  rintro e w11 ⟨rfl, rfl⟩
  rw [decide_eq_true (rfl : ([2, 2, 0, 2, 0, 1, 3, 1, 1, 1] : List Nat) = [2, 2, 0, 2, 0, 1, 3, 1, 1, 1])]
  have d0 : w10.cell? ⟨n, 0, none⟩ = some (.string lA) := by rw [HK10.out.cell]; rfl
  have d1 : w10.cell? ⟨n, 1, none⟩ = some (.string l1) := by rw [HK10.out.cell]; rfl
  have hfi := I.find _ iAB 2 a15 w10 HT10.out HL10.out smallI_ab15 sized_a15
  rw [find_ab15] at hfi
  have HFi := Lib.hid hfi
  clear hfi HLt HR10
  go_wp2_with fail
  refine HFi.out.mono ?_
  rintro e w11 ⟨r11, rfl, hr, hB⟩
  have HR11 : Hid (Rd w11 1 r11 2 (i64s [0, 1])) := hr
  obtain ⟨p11, c11, hv⟩ : ∃ p c, r11 = .slice p 2 c := hr.shape
  subst hv
  have HB11 := Lib.hid (HB10.out.trans (hB.mono HB10.out.size))
  have HT11 := Lib.hid (I.below HT10.out hB)
  have HL11 := Lib.hid (HL10.out.below hB)
  clear hr hB HFi HB10 HT10 HK10 HL10 d0 d1
  obtain ⟨z, hz⟩ : ∃ z, w11.heap.size = z := ⟨_, rfl⟩
  obtain ⟨w12, hw12⟩ : ∃ x, x = w11.alloc (.cells #[.int .i64 0, .int .i64 1] 3) := ⟨_, rfl⟩
  obtain ⟨kt, _, hB⟩ := alloc_next hw12 hz
  have HW12 : Hid (w11.alloc (.cells #[.int .i64 0, .int .i64 1] 3) = w12) := hw12.symm
  have HZ := Lib.hid hz
  have HLi : Hid (Rd w12 1 (.slice (some ⟨z, 0, none⟩) 2 2) 2 (i64s [0, 1])) := Rd.of_blk (n := 2) kt rfl (by simp [maxLen])
  have HB12 := Lib.hid (HB11.out.trans (hB.mono HB11.out.size))
  have HT12 := Lib.hid (I.below HT11.out hB)
  have HL12 := Lib.hid (HL11.out.below hB)
  have HR12 := Lib.hid (HR11.out.below hB)
  clear kt hB hw12 hz HB11 HT11 HL11 HR11
  go_wp2_with fail
  rw [HW12.out, HZ.out]
  clear HW12 HZ
  try go_wp2_with fail
  refine (equal_int _ _ [0, 1] [0, 1] w12 HR12.out HLi.out).mono ?_
  rintro e w13 ⟨rfl, hB⟩
  rw [decide_eq_true (rfl : ([0, 1] : List Int) = [0, 1])]
  have HB13 := Lib.hid (HB12.out.trans (hB.mono HB12.out.size))
  have HT13 := Lib.hid (I.below HT12.out hB)
  have HL13 := Lib.hid (HL12.out.below hB)
  have hna := I.named _ iAB 2 lB w13 HT13.out HL13.out smallI_ab15 (by decide)
  rw [named_ab15] at hna
  have HNa := Lib.hid hna
  clear hna hB HB12 HT12 HL12 HR12 HLi
  go_wp2_with fail
  refine HNa.out.mono ?_
  rintro e w14 ⟨r14, rfl, hr, hB⟩
  have HR14 : Hid (Rd w14 1 r14 1 (i64s [1])) := hr
  obtain ⟨p14, c14, hv⟩ : ∃ p c, r14 = .slice p 1 c := hr.shape
  subst hv
  have HB14 := Lib.hid (HB13.out.trans (hB.mono HB13.out.size))
  clear hr hB HNa HB13 HT13 HL13
  obtain ⟨z, hz⟩ : ∃ z, w14.heap.size = z := ⟨_, rfl⟩
  obtain ⟨w15, hw15⟩ : ∃ x, x = w14.alloc (.cells #[.int .i64 1] 3) := ⟨_, rfl⟩
  obtain ⟨kt, _, hB⟩ := alloc_next hw15 hz
  have HW15 : Hid (w14.alloc (.cells #[.int .i64 1] 3) = w15) := hw15.symm
  have HZ := Lib.hid hz
  have HLi : Hid (Rd w15 1 (.slice (some ⟨z, 0, none⟩) 1 1) 1 (i64s [1])) := Rd.of_blk (n := 1) kt rfl (by simp [maxLen])
  have HB15 := Lib.hid (HB14.out.trans (hB.mono HB14.out.size))
  have HR15 := Lib.hid (HR14.out.below hB)
  clear kt hB hw15 hz HB14 HR14
  go_wp2_with fail
  rw [HW15.out, HZ.out]
  clear HW15 HZ
  try go_wp2_with fail
  refine (equal_int _ _ [1] [1] w15 HR15.out HLi.out).mono ?_
  rintro e w16 ⟨rfl, hB⟩
  rw [decide_eq_true (rfl : ([1] : List Int) = [1])]
  have HB16 := Lib.hid (HB15.out.trans (hB.mono HB15.out.size))
  clear hB
  go_wp2_with fail
  go_ret
  exact ⟨rfl, HB16.out⟩
end Go.Proofs.Ytpjfhakmffcolaa

end

section
/- strings.Compare, over its extern. (Cut from XLbA.) -/
set_option linter.unusedVariables false
set_option maxRecDepth 20000
namespace Go.Proofs.Ytpjfhakmffcolaa
open Go Go.RowKit

theorem ordS_bytes (a b : ByteArray) : Lib.compareBytes a.data.toList b.data.toList = ordS a b := by
  have key : ∀ (a b : List UInt8), Lib.compareBytes a b = if Op.bytesLess a b then -1 else if Op.bytesLess b a then 1 else 0 := by
    intro a
    induction a with
    | nil => intro b; cases b <;> simp [Lib.compareBytes, Op.bytesLess]
    | cons x a ih =>
      intro b
      cases b with
      | nil => simp [Lib.compareBytes, Op.bytesLess]
      | cons y b =>
        rw [Lib.compareBytes, ih b]
        by_cases h1 : x < y
        · simp [Op.bytesLess, h1]
        · by_cases h2 : y < x
          · have hne : ¬ x = y := fun e => by subst e; exact h1 h2
            simp [Op.bytesLess, h1, h2, hne]
          · have e : x = y := UInt8.le_antisymm (UInt8.not_lt.1 h2) (UInt8.not_lt.1 h1)
            subst e
            simp [Op.bytesLess, h1]
  have ha : a.toList = a.data.toList := by simp [ByteArray.toList_eq]
  have hb : b.toList = b.data.toList := by simp [ByteArray.toList_eq]
  rw [key, ordS, ordB, ltS, ltS, ha, hb]

theorem cmpString_any (a b : ByteArray) (w : World) : Calls Try.prog 68 #[.string a, .string b] w fun e w' => e = .returned (.int .i64 (ordS a b)) ∧ w' = w := by
  rw [← ordS_bytes]
  go_enter Try.func68, Try.ntmps68
  go_wp2_with fail
  rw [run_callFunc_extern Try.func92 (by kernel_rfl) (by kernel_rfl) (by kernel_rfl) (e := Extern.BytealgCompare.compare) (by kernel_rfl), Lib.run_compareString]
  simp only [Result.andThen]
  rw [Oper.upon_value]
  go_wp2_with fail
  go_ret
  exact ⟨rfl, rfl⟩

theorem strCompare_any (a b : ByteArray) (w : World) : Calls Try.prog 43 #[.string a, .string b] w fun e w' => e = .returned (.int .i64 (ordS a b)) ∧ w' = w := by
  have HC := Lib.hid (cmpString_any a b)
  generalize ordS a b = c at *
  go_enter Try.func43, Try.ntmps43
  go_wp2_with fail
  refine (HC.out _).mono ?_
  rintro e w' ⟨rfl, rfl⟩
  go_wp2_with fail
  go_ret
  exact ⟨rfl, rfl⟩
end Go.Proofs.Ytpjfhakmffcolaa

end

section
/- Layer 15, the program's own: the order of labels (cmp.Or of two comparisons), and the functions that compare. -/
set_option linter.unusedVariables false
set_option maxRecDepth 20000
namespace Go.Proofs.Ytpjfhakmffcolaa
open Go Go.RowKit

/-- The first number that is not 0. -/
def orZ : List Int → Int
  | [] => 0
  | x :: l => if x = 0 then orZ l else x
theorem orZ_at {l : List Int} {i : Nat} {x : Int} (h : l[i]? = some x) (e : orZ l = orZ (l.drop i)) : orZ l = if x = 0 then orZ (l.drop (i + 1)) else x := by
  have h1 : l.drop i = x :: l.drop (i + 1) := by rw [List.drop_eq_getElem_cons (List.getElem?_eq_some_iff.1 h).1, (List.getElem?_eq_some_iff.1 h).2]
  rw [e, h1]; rfl

theorem cmpOr_any (v : Value) (l : List Int) (w : World) (hl : Rd w 1 v l.length (i64s l)) (hn : l.length ≤ 1000) :
    Calls Try.prog 62 #[v] w fun e w' => e = .returned (.int .i64 (orZ l)) ∧ w' = w := by
  have HL := Lib.hid hl
  obtain ⟨p, c, hv⟩ := hl.shape
  subst hv
  have hlm : (l.length : Int) ≤ 1000 := by omega
  clear hl hn
  go_enter Try.func62, Try.ntmps62
  go_wp2_with fail
  go_loopw [8] (fun iv wr => ∃ (i : Nat), i ≤ l.length ∧ iv = .int .i64 (i : Int) ∧ Hid (orZ l = orZ (l.drop i)) ∧ wr = w) (fun iv _ => l.length - (intOf iv).toNat)
  case atStart => exact ⟨0, Nat.zero_le _, rfl, rfl, rfl⟩
  case round =>
    obtain ⟨i, hi, rfl, HO, rfl⟩ := hrel
    have him : (i : Int) ≤ 1000 := by omega
    by_cases hlt : i < l.length
    · have hlt' : (i : Int) < (l.length : Int) := by omega
      obtain ⟨x, hx⟩ : ∃ x, l[i]? = some x := ⟨_, List.getElem?_eq_getElem hlt⟩
      obtain ⟨b, off, c', e, _, _, hcell⟩ := HL.out.at (fun e => by have := congrArg List.length e; rw [i64s_length] at this; rw [this] at hlt; simp at hlt)
      simp only [Value.slice.injEq] at e
      obtain ⟨rfl, _, rfl⟩ := e
      have c0 : wr.cell? ⟨b, off + i, none⟩ = some (.int .i64 x) := hcell i _ (by rw [i64s, List.getElem?_map, hx]; rfl)
      have HX := Lib.hid (orZ_at hx HO.out)
      clear hcell hx hlt HO
      by_cases h0 : x = 0
      · subst h0
        rw [if_pos rfl] at HX
        go_wp2_with fail
        go_round
        case rel => exact ⟨i + 1, by omega, by go_num, HX.out, by first | rfl | trivial⟩
        case measure => simp [intOf]; omega
      · rw [if_neg h0] at HX
        have hxb : (x == 0) = false := by rw [beq_eq_false_iff_ne]; exact h0
        go_wp2_with fail
        go_ret
        exact ⟨by rw [HX.out]; rfl, rfl⟩
    · have hlt' : ¬ (i : Int) < (l.length : Int) := by omega
      have HX : Hid (orZ l = 0) := by have h := HO.out; rw [List.drop_of_length_le (by omega)] at h; exact h
      go_wp2_with fail
      go_ret
      exact ⟨by rw [HX.out]; rfl, rfl⟩

theorem orZ_lab (x y : Lab) : orZ [ordS x.1 y.1, ordS x.2 y.2] = cmpLab x y := by
  show (if ordS x.1 y.1 = 0 then (if ordS x.2 y.2 = 0 then 0 else ordS x.2 y.2) else ordS x.1 y.1) = cmpLab x y
  unfold cmpLab cmpP
  split
  · split
    · next h => exact h.symm
    · rfl
  · rfl

set_option maxHeartbeats 4000000 in
theorem po_compare (x y : Lab) (w : World) :
    Calls Try.prog 35 #[.agg #[.string x.1, .string x.2], .agg #[.string y.1, .string y.2]] w fun e w' => e = .returned (.int .i64 (cmpLab x y)) ∧ Grw w w' := by
  obtain ⟨xn, xv⟩ := x
  obtain ⟨yn, yv⟩ := y
  show Calls Try.prog 35 #[.agg #[.string xn, .string xv], .agg #[.string yn, .string yv]] w fun e w' => e = .returned (.int .i64 (cmpLab (xn, xv) (yn, yv))) ∧ Grw w w'
  obtain ⟨w1, hw1⟩ : ∃ w1, w1 = w.alloc (.cells #[.string xn, .string xv] 34) := ⟨_, rfl⟩
  obtain ⟨w2, hw2⟩ : ∃ w2, w2 = w1.alloc (.cells #[.string yn, .string yv] 34) := ⟨_, rfl⟩
  have HW : Hid ((w.alloc (.cells #[.string xn, .string xv] 34)).alloc (.cells #[.string yn, .string yv] 34) = w2) := by show _ = _; rw [hw2, hw1]
  have HG : Hid (Grw w w2.drew) := by show Grw _ _; rw [hw2, hw1]; exact (((Grw.refl w).alloc _).alloc _).drew
  have hs1 : w1.heap.size = w.heap.size + 1 := by rw [hw1]; simp
  have HX : Hid (Blk w2.drew w.heap.size [.string xn, .string xv]) := by
    show Blk _ _ _
    rw [hw2, hw1]; exact ((Blk.new w _ _).alloc _).drew
  have HY : Hid (Blk w2.drew (w.heap.size + 1) [.string yn, .string yv]) := by
    show Blk _ _ _
    rw [← hs1, hw2]; exact (Blk.new w1 _ _).drew
  have HE := Lib.hid (orZ_lab (xn, xv) (yn, yv))
  simp only at HE
  have HC1 := Lib.hid (fun W => strCompare_any xn yn W)
  have HC2 := Lib.hid (fun W => strCompare_any xv yv W)
  generalize ordS xn yn = o1 at *
  generalize ordS xv yv = o2 at *
  generalize cmpLab (xn, xv) (yn, yv) = cc at *
  clear hw1 hw2 hs1
  go_enter Try.func35, Try.ntmps35
  go_wp2_with fail
  rw [HW.out]
  clear HW
  obtain ⟨bx, hbx⟩ : ∃ bx, w.heap.size = bx := ⟨_, rfl⟩
  rw [hbx] at HX HY ⊢
  clear hbx
  obtain ⟨bye, hby⟩ : ∃ by', bx + 1 = by' := ⟨_, rfl⟩
  rw [hby] at HY ⊢
  clear hby
  have HS : Hid (∀ w' : World, (w'.cell? ⟨bx, 0, none⟩ = some (.string xn) ∧ w'.cell? ⟨bx, 1, none⟩ = some (.string xv) ∧ w'.cell? ⟨bye, 0, none⟩ = some (.string yn) ∧ w'.cell? ⟨bye, 1, none⟩ = some (.string yv)) → (w'.cell? ⟨bx, 0, none⟩ = some (.string xn) ∧ w'.cell? ⟨bx, 1, none⟩ = some (.string xv) ∧ w'.cell? ⟨bye, 0, none⟩ = some (.string yn) ∧ w'.cell? ⟨bye, 1, none⟩ = some (.string yv))) := fun _ h => h
  refine wp_normal ?_
  refine wp_region_takeH (fun w' : World => w'.cell? ⟨bx, 0, none⟩ = some (.string xn) ∧ w'.cell? ⟨bx, 1, none⟩ = some (.string xv) ∧ w'.cell? ⟨bye, 0, none⟩ = some (.string yn) ∧ w'.cell? ⟨bye, 1, none⟩ = some (.string yv)) [4, 9, 10, 11] [0, 1, 2, 3, 5, 6, 7, 8, 4, 9, 10, 11, 12] (by kernel_rfl) (by kernel_rfl) (by kernel_rfl) ?_ ?_ ?_
  · intro c a a' w hd h; cases h.1
  · exact ⟨HX.out.cell 0, HX.out.cell 1, HY.out.cell 0, HY.out.cell 1⟩
  simp only [taken, List.map_cons, List.map_nil, List.getElem?_cons_succ, List.getElem?_cons_zero, Option.getD_some]
  generalize w2.drew = w3 at *
  repeat (first
        | (refine takeH_skip rfl ?_; simp only [Act.put, List.setIfInBounds_toArray, List.set_cons_succ, List.set_cons_zero])
        | (refine takeH_blind rfl rfl ?_; apply Exists.intro; refine ⟨fun w => ?_, ?_⟩; (go_simp; try with_reducible rfl); simp only [Act.put, List.setIfInBounds_toArray, List.set_cons_succ, List.set_cons_zero])
        | (refine takeH_reads rfl rfl ?_; apply Exists.intro; refine ⟨fun w' hS => ?_, ?_⟩; (obtain ⟨d0, d1, d2, d3⟩ := HS.out w' hS; go_simp; try with_reducible rfl); simp only [Act.put, List.setIfInBounds_toArray, List.set_cons_succ, List.set_cons_zero]))
  refine takeH_call rfl rfl (fun K' hK => ?_)
  go_wp2_with fail
  refine (HC1.out _).mono ?_
  rintro en w4 ⟨rfl, rfl⟩
  refine hK _ _ ⟨HX.out.cell 0, HX.out.cell 1, HY.out.cell 0, HY.out.cell 1⟩ ?_
  clear hK K' HC1
  repeat (first
        | (refine takeH_skip rfl ?_; simp only [Act.put, List.setIfInBounds_toArray, List.set_cons_succ, List.set_cons_zero])
        | (refine takeH_blind rfl rfl ?_; apply Exists.intro; refine ⟨fun w => ?_, ?_⟩; (go_simp; try with_reducible rfl); simp only [Act.put, List.setIfInBounds_toArray, List.set_cons_succ, List.set_cons_zero])
        | (refine takeH_reads rfl rfl ?_; apply Exists.intro; refine ⟨fun w' hS => ?_, ?_⟩; (obtain ⟨d0, d1, d2, d3⟩ := HS.out w' hS; go_simp; try with_reducible rfl); simp only [Act.put, List.setIfInBounds_toArray, List.set_cons_succ, List.set_cons_zero]))
  refine takeH_call rfl rfl (fun K' hK => ?_)
  go_wp2_with fail
  refine (HC2.out _).mono ?_
  rintro en w5 ⟨rfl, rfl⟩
  refine hK _ _ ⟨HX.out.cell 0, HX.out.cell 1, HY.out.cell 0, HY.out.cell 1⟩ ?_
  clear hK K' HC2
  obtain ⟨w6, hw6⟩ : ∃ w6, w6 = w5.alloc (.cells #[.int .i64 o1, .int .i64 o2] 3) := ⟨_, rfl⟩
  have HW6 : Hid (w5.alloc (.cells #[.int .i64 o1, .int .i64 o2] 3) = w6) := hw6.symm
  have HG6 : Hid (Grw w w6) := by show Grw _ _; rw [hw6]; exact HG.out.alloc _
  have HX6 : Hid (Blk w6 bx [.string xn, .string xv]) := by show Blk _ _ _; rw [hw6]; exact HX.out.alloc _
  have HY6 : Hid (Blk w6 bye [.string yn, .string yv]) := by show Blk _ _ _; rw [hw6]; exact HY.out.alloc _
  have HRd : Hid (Rd w6 1 (.slice (some ⟨w5.heap.size, 0, none⟩) 2 2) [o1, o2].length (i64s [o1, o2])) := by
    show Rd _ _ _ _ _
    rw [hw6]; exact Rd.of_blk (n := 2) (Blk.new w5 _ _) rfl (by simp [maxLen])
  have HOr := Lib.hid (cmpOr_any _ [o1, o2] w6 HRd.out (by simp))
  rw [HE.out] at HOr
  clear hw6 HX HY HG HRd HE
  repeat (first
        | (refine takeH_skip rfl ?_; simp only [Act.put, List.setIfInBounds_toArray, List.set_cons_succ, List.set_cons_zero])
        | (refine takeH_blind rfl rfl ?_; apply Exists.intro; refine ⟨fun w => ?_, ?_⟩; (go_simp; try with_reducible rfl); simp only [Act.put, List.setIfInBounds_toArray, List.set_cons_succ, List.set_cons_zero])
        | (refine takeH_reads rfl rfl ?_; apply Exists.intro; refine ⟨fun w' hS => ?_, ?_⟩; (obtain ⟨d0, d1, d2, d3⟩ := HS.out w' hS; go_simp; try with_reducible rfl); simp only [Act.put, List.setIfInBounds_toArray, List.set_cons_succ, List.set_cons_zero]))
  refine takeH_call rfl rfl (fun K' hK => ?_)
  go_wp2_with fail
  rw [HW6.out]
  refine hK _ _ ⟨HX6.out.cell 0, HX6.out.cell 1, HY6.out.cell 0, HY6.out.cell 1⟩ ?_
  clear hK K' HW6
  repeat (first
        | (refine takeH_skip rfl ?_; simp only [Act.put, List.setIfInBounds_toArray, List.set_cons_succ, List.set_cons_zero])
        | (refine takeH_blind rfl rfl ?_; apply Exists.intro; refine ⟨fun w => ?_, ?_⟩; (go_simp; try with_reducible rfl); simp only [Act.put, List.setIfInBounds_toArray, List.set_cons_succ, List.set_cons_zero])
        | (refine takeH_reads rfl rfl ?_; apply Exists.intro; refine ⟨fun w' hS => ?_, ?_⟩; (obtain ⟨d0, d1, d2, d3⟩ := HS.out w' hS; go_simp; try with_reducible rfl); simp only [Act.put, List.setIfInBounds_toArray, List.set_cons_succ, List.set_cons_zero]))
  refine takeH_call rfl rfl (fun K' hK => ?_)
  go_wp2_with fail
  refine HOr.out.mono ?_
  rintro en w7 ⟨rfl, rfl⟩
  refine hK _ _ ⟨HX6.out.cell 0, HX6.out.cell 1, HY6.out.cell 0, HY6.out.cell 1⟩ ?_
  clear hK K' HOr
  repeat (first
        | (refine takeH_skip rfl ?_; simp only [Act.put, List.setIfInBounds_toArray, List.set_cons_succ, List.set_cons_zero])
        | (refine takeH_blind rfl rfl ?_; apply Exists.intro; refine ⟨fun w => ?_, ?_⟩; (go_simp; try with_reducible rfl); simp only [Act.put, List.setIfInBounds_toArray, List.set_cons_succ, List.set_cons_zero])
        | (refine takeH_reads rfl rfl ?_; apply Exists.intro; refine ⟨fun w' hS => ?_, ?_⟩; (obtain ⟨d0, d1, d2, d3⟩ := HS.out w' hS; go_simp; try with_reducible rfl); simp only [Act.put, List.setIfInBounds_toArray, List.set_cons_succ, List.set_cons_zero]))
  refine takeH_nil ?_
  go_wp2_with fail
  go_ret
  exact ⟨rfl, HG6.out⟩
end Go.Proofs.Ytpjfhakmffcolaa

end

section
/- Layer 15, the program's own: the closures that compare entries; sort.Search. -/
set_option linter.unusedVariables false
set_option maxRecDepth 20000
namespace Go.Proofs.Ytpjfhakmffcolaa
open Go Go.RowKit

/-- A function of entries that looks at their labels alone; cp: what it has captured. -/
structure OrdIs (w0 : World) (F : FuncId) (cp : Value) (o : Lab → Int) : Prop where
  enter : ∀ (args : Array Value) (w : World), (callFunc F args).run Try.prog w = .ok (.enter F args) w
  gives : ∀ (x : Lab) (p : Option Addr) (n c : Nat) (w : World), Grw w0 w → Calls Try.prog F #[.agg #[.string x.1, .string x.2, .slice p n c], cp] w fun e w' => e = .returned (.int .i64 (o x)) ∧ Grw w w'
theorem OrdIs.later {w0 w1 : World} {F : FuncId} {cp : Value} {o : Lab → Int} (h : OrdIs w0 F cp o) (hg : Grw w0 w1) : OrdIs w1 F cp o := ⟨h.enter, fun x p n c w k => h.gives x p n c w (hg.trans k)⟩

theorem find_order (w0 : World) (bx : Nat) (y : Lab) (h : Blk w0 bx [.string y.1, .string y.2]) : OrdIs w0 41 (.pointer (some ⟨bx, 0, none⟩)) (fun x => cmpLab x y) where
  enter := fun _ _ => rfl
  gives := fun x p n c w hg => by
    obtain ⟨xn, xv⟩ := x
    obtain ⟨yn, yv⟩ := y
    show Calls Try.prog 41 #[.agg #[.string xn, .string xv, .slice p n c], .pointer (some ⟨bx, 0, none⟩)] w fun e w' => e = .returned (.int .i64 (cmpLab (xn, xv) (yn, yv))) ∧ Grw w w'
    have hk := hg.blk h
    have HG : Hid (Grw w (w.alloc (.cells #[.string xn, .string xv, .slice p n c] 68))) := (Grw.refl w).alloc _
    have hY : Blk (w.alloc (.cells #[.string xn, .string xv, .slice p n c] 68)) bx [.string yn, .string yv] := hk.alloc _
    have y0 : (w.alloc (.cells #[.string xn, .string xv, .slice p n c] 68)).cell? ⟨bx, 0, none⟩ = some (.string yn) := hY.cell 0
    have y1 : (w.alloc (.cells #[.string xn, .string xv, .slice p n c] 68)).cell? ⟨bx, 1, none⟩ = some (.string yv) := hY.cell 1
    have HC := Lib.hid (po_compare (xn, xv) (yn, yv) (w.alloc (.cells #[.string xn, .string xv, .slice p n c] 68)))
    clear hY hk h hg
    generalize cmpLab (xn, xv) (yn, yv) = o at *
    go_enter Try.func41, Try.ntmps41
    go_wp2_with fail
    refine HC.out.mono ?_
    rintro e w2 ⟨rfl, hG⟩
    have HG2 := Lib.hid (HG.out.trans hG)
    clear HC hG y0 y1
    go_wp2_with fail
    go_ret
    exact ⟨rfl, HG2.out⟩

theorem named_order (w0 : World) (bx : Nat) (y : ByteArray) (h : Blk w0 bx [.string y]) : OrdIs w0 42 (.pointer (some ⟨bx, 0, none⟩)) (fun x => ordS x.1 y) where
  enter := fun _ _ => rfl
  gives := fun x p n c w hg => by
    obtain ⟨xn, xv⟩ := x
    show Calls Try.prog 42 #[.agg #[.string xn, .string xv, .slice p n c], .pointer (some ⟨bx, 0, none⟩)] w fun e w' => e = .returned (.int .i64 (ordS xn y)) ∧ Grw w w'
    have hk := hg.blk h
    have HG : Hid (Grw w (w.alloc (.cells #[.string xn, .string xv, .slice p n c] 68))) := (Grw.refl w).alloc _
    have hY : Blk (w.alloc (.cells #[.string xn, .string xv, .slice p n c] 68)) bx [.string y] := hk.alloc _
    have y0 : (w.alloc (.cells #[.string xn, .string xv, .slice p n c] 68)).cell? ⟨bx, 0, none⟩ = some (.string y) := hY.cell 0
    have HC := Lib.hid (strCompare_any xn y (w.alloc (.cells #[.string xn, .string xv, .slice p n c] 68)))
    clear hY hk h hg
    generalize ordS xn y = o at *
    go_enter Try.func42, Try.ntmps42
    go_wp2_with fail
    refine HC.out.mono ?_
    rintro e w2 ⟨rfl, rfl⟩
    clear HC y0
    go_wp2_with fail
    go_ret
    exact ⟨rfl, HG.out⟩

theorem build_order (x y : Lab) (p q : Option Addr) (n c m d : Nat) (w : World) :
    Calls Try.prog 34 #[.agg #[.string x.1, .string x.2, .slice p n c], .agg #[.string y.1, .string y.2, .slice q m d]] w fun e w' => e = .returned (.int .i64 (cmpLab x y)) ∧ Grw w w' := by
  obtain ⟨xn, xv⟩ := x
  obtain ⟨yn, yv⟩ := y
  show Calls Try.prog 34 #[.agg #[.string xn, .string xv, .slice p n c], .agg #[.string yn, .string yv, .slice q m d]] w fun e w' => e = .returned (.int .i64 (cmpLab (xn, xv) (yn, yv))) ∧ Grw w w'
  obtain ⟨w1, hw1⟩ : ∃ w1, w1 = w.alloc (.cells #[.string xn, .string xv, .slice p n c] 68) := ⟨_, rfl⟩
  obtain ⟨w2, hw2⟩ : ∃ w2, w2 = w1.alloc (.cells #[.string yn, .string yv, .slice q m d] 68) := ⟨_, rfl⟩
  have HW : Hid ((w.alloc (.cells #[.string xn, .string xv, .slice p n c] 68)).alloc (.cells #[.string yn, .string yv, .slice q m d] 68) = w2) := by show _ = _; rw [hw2, hw1]
  have HG : Hid (Grw w w2) := by show Grw _ _; rw [hw2, hw1]; exact ((Grw.refl w).alloc _).alloc _
  have hs1 : w1.heap.size = w.heap.size + 1 := by rw [hw1]; simp
  have hX : Blk w2 w.heap.size [.string xn, .string xv, .slice p n c] := by rw [hw2, hw1]; exact (Blk.new w _ _).alloc _
  have hY : Blk w2 (w.heap.size + 1) [.string yn, .string yv, .slice q m d] := by rw [← hs1, hw2]; exact Blk.new w1 _ _
  have x0 : w2.cell? ⟨w.heap.size, 0, none⟩ = some (.string xn) := hX.cell 0
  have x1 : w2.cell? ⟨w.heap.size, 1, none⟩ = some (.string xv) := hX.cell 1
  have y0 : w2.cell? ⟨w.heap.size + 1, 0, none⟩ = some (.string yn) := hY.cell 0
  have y1 : w2.cell? ⟨w.heap.size + 1, 1, none⟩ = some (.string yv) := hY.cell 1
  have HC := Lib.hid (po_compare (xn, xv) (yn, yv) w2)
  clear hw1 hw2 hX hY hs1
  generalize cmpLab (xn, xv) (yn, yv) = o at *
  go_enter Try.func34, Try.ntmps34
  go_wp2_with fail
  rw [HW.out]
  clear HW
  go_wp2_with fail
  refine HC.out.mono ?_
  rintro e w3 ⟨rfl, hG⟩
  have HG2 := Lib.hid (HG.out.trans hG)
  clear HC hG x0 x1 y0 y1
  go_wp2_with fail
  go_ret
  exact ⟨rfl, HG2.out⟩

set_option maxHeartbeats 2000000 in
/-- sort.Search with a closure of two captured variables. -/
theorem search_any (F : FuncId) (c1 c2 : Value) (n : Nat) (p : Nat → Bool) (w : World) (hcf : ∀ (args : Array Value) (w : World), (callFunc F args).run Try.prog w = .ok (.enter F args) w) (hn : n ≤ 1000000)
    (hf : ∀ (w' : World) (i : Nat), Grw w w' → i < n → Calls Try.prog F #[.int .i64 (i : Int), c1, c2] w' fun e w'' => e = .returned (.bool (p i)) ∧ Grw w' w'')
    (hmono : ∀ a b, a ≤ b → b < n → p a = true → p b = true) :
    Calls Try.prog 65 #[.int .i64 (n : Int), .func (.func F) #[] #[c1, c2]] w fun e w' => ∃ k : Nat, e = .returned (.int .i64 (k : Int)) ∧ (k ≤ n ∧ (∀ t, t < k → p t = false) ∧ ∀ t, k ≤ t → t < n → p t = true) ∧ Grw w w' := by
  have HF := Lib.hid hf; have HM := Lib.hid hmono
  have hnm : (n : Int) ≤ 1000000 := by omega
  have HN := Lib.hid hn
  clear hf hmono hn
  go_enter Try.func65, Try.ntmps65
  go_wp2_with fail
  go_loopw [5, 6] (fun lv hv wr => ∃ (lo hi : Nat), lo ≤ hi ∧ hi ≤ n ∧ lv = .int .i64 (lo : Int) ∧ hv = .int .i64 (hi : Int) ∧ Hid ((∀ t, t < lo → p t = false) ∧ ∀ t, hi ≤ t → t < n → p t = true) ∧ Hid (Grw w wr)) (fun lv hv _ => (intOf hv).toNat - (intOf lv).toNat)
  case atStart => exact ⟨0, n, Nat.zero_le _, Nat.le_refl _, rfl, rfl, ⟨fun t h => absurd h (Nat.not_lt_zero t), fun t h1 h2 => by omega⟩, Grw.refl _⟩
  case round =>
    obtain ⟨lo, hi, hlh, hhn, rfl, rfl, HP, HG⟩ := hrel
    by_cases hlt : lo < hi
    · have hlt' : (lo : Int) < (hi : Int) := by omega
      obtain ⟨m, hm⟩ : ∃ m, (lo + hi) / 2 = m := ⟨_, rfl⟩
      have hm1 : lo ≤ m ∧ m < hi := by omega
      have HMm := Lib.hid hm1
      have HHn := Lib.hid hhn
      have hmi : ((lo : Int) + (hi : Int)) / 2 = (m : Int) := by omega
      have hmx : (m : Int) ≤ 1000000 := by omega
      have HC := Lib.hid (HF.out wr m HG.out (by omega))
      obtain ⟨b, hb⟩ : ∃ b, p m = b := ⟨_, rfl⟩
      have HB := Lib.hid hb
      rw [hb] at HC
      clear hb hm hm1
      cases b
      · have HP2 : Hid ((∀ t, t < m + 1 → p t = false) ∧ ∀ t, hi ≤ t → t < n → p t = true) := ⟨fun t ht => Decidable.byContradiction fun hpt => by
            have h2 := HM.out t m (by omega) (by have := HMm.out; have := HHn.out; omega) (by simpa using hpt)
            rw [HB.out] at h2
            exact Bool.noConfusion h2, HP.out.2⟩
        go_wp2_with (first | (go_at_fn F; refine HC.out.mono ?_; rintro e w2 ⟨rfl, hG⟩) | fail)
        have HG2 := Lib.hid (HG.out.trans hG)
        clear hG HC
        go_wp2_with fail
        go_round
        case rel => exact ⟨m + 1, hi, by have := HMm.out; omega, HHn.out, by go_num, rfl, HP2.out, HG2.out⟩
        case measure => simp [intOf]; have := HMm.out; omega
      · have HP2 : Hid ((∀ t, t < lo → p t = false) ∧ ∀ t, m ≤ t → t < n → p t = true) := ⟨HP.out.1, fun t h1 h2 => HM.out m t h1 h2 HB.out⟩
        go_wp2_with (first | (go_at_fn F; refine HC.out.mono ?_; rintro e w2 ⟨rfl, hG⟩) | fail)
        have HG2 := Lib.hid (HG.out.trans hG)
        clear hG HC
        go_wp2_with fail
        go_round
        case rel => exact ⟨lo, m, HMm.out.1, by have := HMm.out; have := HHn.out; omega, rfl, rfl, HP2.out, HG2.out⟩
        case measure => simp [intOf]; have := HMm.out; omega
    · have hlt' : ¬ (lo : Int) < (hi : Int) := by omega
      have HX : Hid (lo ≤ n ∧ (∀ t, t < lo → p t = false) ∧ ∀ t, lo ≤ t → t < n → p t = true) := ⟨by omega, HP.out.1, fun t h1 h2 => HP.out.2 t (by omega) h2⟩
      go_wp2_with fail
      go_ret
      exact ⟨lo, rfl, HX.out, HG.out⟩
end Go.Proofs.Ytpjfhakmffcolaa

end

section
/- Layer 15: entries that are found by halves: pure. -/
set_option linter.unusedVariables false
namespace Go.Proofs.Ytpjfhakmffcolaa
open Go Go.RowKit

def geP (o : Lab → Int) (l : List Ent) (i : Nat) : Bool := match l[i]? with
  | some e => decide (0 ≤ o e.1)
  | none => true
def gtP (o : Lab → Int) (l : List Ent) (i : Nat) : Bool := match l[i]? with
  | some e => decide (0 < o e.1)
  | none => true
/-- The label is greater: so is what the order says of it. -/
def UpO (o : Lab → Int) : Prop := ∀ a b, ltE a b = true → (0 ≤ o a → 0 ≤ o b) ∧ (0 < o a → 0 < o b)
theorem cmp_up {α : Type} {cmp : α → α → Int} (h : CmpOk cmp) {a b x : α} (hab : cmp a b = -1 ∨ cmp a b = 0) : (0 ≤ cmp a x → 0 ≤ cmp b x) ∧ (0 < cmp a x → 0 < cmp b x) := by
  rcases hab with e | e
  · have key : 0 ≤ cmp a x → 0 < cmp b x := fun h0 => by
      rcases h.dom a x with f | f | f
      · omega
      · rw [← (h.eq a x).1 f, h.flip a b, e]; decide
      · have h1 : cmp x a = -1 := by rw [h.flip a x, f]
        have h2 := h.tr x a b h1 e
        rw [h.flip x b, h2]; decide
    exact ⟨fun h0 => Int.le_of_lt (key h0), fun h0 => key (Int.le_of_lt h0)⟩
  · rw [(h.eq a b).1 e]
    exact ⟨id, id⟩
theorem up_find (x : Lab) : UpO (fun y => cmpLab y x) := fun a b h => cmp_up cmpLab_ok (Or.inl (by unfold ltE at h; simpa using h))
theorem up_named (n : ByteArray) : UpO (fun y => ordS y.1 n) := fun a b h => cmp_up ordS_ok (by
  unfold ltE at h
  have h' : cmpLab a b = -1 := by simpa using h
  unfold cmpLab cmpP at h'
  split at h'
  · next e => exact Or.inr e
  · exact Or.inl h')
theorem asc_drop {α : Type} {lt : α → α → Bool} {l : List α} (h : AscB lt l) (k : Nat) : AscB lt (l.drop k) := List.Pairwise.sublist (List.drop_sublist k l) h
theorem asc_pair {l : List Ent} (h : AscB ltE (l.map Prod.fst)) {i j : Nat} {a b : Ent} (hij : i < j) (ha : l[i]? = some a) (hb : l[j]? = some b) : ltE a.1 b.1 = true := by
  obtain ⟨hi, e1⟩ := List.getElem?_eq_some_iff.1 ha
  obtain ⟨hj, e2⟩ := List.getElem?_eq_some_iff.1 hb
  have := List.pairwise_iff_getElem.1 (List.pairwise_map.1 h) i j hi hj hij
  rw [e1, e2] at this
  exact this
theorem ge_mono {o : Lab → Int} (ho : UpO o) {l : List Ent} (h : AscB ltE (l.map Prod.fst)) : ∀ i j, i ≤ j → j < l.length → geP o l i = true → geP o l j = true := by
  intro i j hij hj hi
  obtain ⟨a, ha⟩ : ∃ a, l[i]? = some a := ⟨_, List.getElem?_eq_getElem (by omega)⟩
  obtain ⟨b, hb⟩ : ∃ b, l[j]? = some b := ⟨_, List.getElem?_eq_getElem hj⟩
  unfold geP at hi ⊢
  rw [ha] at hi
  rw [hb]
  simp only [decide_eq_true_eq] at hi ⊢
  rcases Nat.eq_or_lt_of_le hij with e | e
  · subst e; rw [ha] at hb; cases hb; exact hi
  · exact (ho _ _ (asc_pair h e ha hb)).1 hi
theorem gt_mono {o : Lab → Int} (ho : UpO o) {l : List Ent} (h : AscB ltE (l.map Prod.fst)) : ∀ i j, i ≤ j → j < l.length → gtP o l i = true → gtP o l j = true := by
  intro i j hij hj hi
  obtain ⟨a, ha⟩ : ∃ a, l[i]? = some a := ⟨_, List.getElem?_eq_getElem (by omega)⟩
  obtain ⟨b, hb⟩ : ∃ b, l[j]? = some b := ⟨_, List.getElem?_eq_getElem hj⟩
  unfold gtP at hi ⊢
  rw [ha] at hi
  rw [hb]
  simp only [decide_eq_true_eq] at hi ⊢
  rcases Nat.eq_or_lt_of_le hij with e | e
  · subst e; rw [ha] at hb; cases hb; exact hi
  · exact (ho _ _ (asc_pair h e ha hb)).2 hi
/-- What lies between is what was looked for. -/
theorem between {o : Lab → Int} {l : List Ent} {a k : Nat} (h1 : ∀ t, t < a → geP o l t = false) (h2 : ∀ t, a ≤ t → t < l.length → geP o l t = true) (h3 : ∀ t, t < k → gtP o (l.drop a) t = false) (h4 : ∀ t, k ≤ t → t < (l.drop a).length → gtP o (l.drop a) t = true) :
    (l.drop a).take k = l.filter fun e => decide (o e.1 = 0) := by
  have e1 : l.filter (fun e => decide (o e.1 = 0)) = (l.take a).filter (fun e => decide (o e.1 = 0)) ++ (((l.drop a).take k).filter (fun e => decide (o e.1 = 0)) ++ ((l.drop a).drop k).filter (fun e => decide (o e.1 = 0))) := by
    rw [← List.filter_append, ← List.filter_append, List.take_append_drop, List.take_append_drop]
  have f1 : (l.take a).filter (fun e => decide (o e.1 = 0)) = [] := List.filter_eq_nil_iff.2 fun e he => by
    obtain ⟨t, ht, rfl⟩ := List.mem_take_iff_getElem.1 he
    have h := h1 t (by omega)
    unfold geP at h
    rw [List.getElem?_eq_getElem (by omega)] at h
    simp only [decide_eq_false_iff_not] at h
    simp only [decide_eq_true_eq]
    omega
  have f3 : ((l.drop a).drop k).filter (fun e => decide (o e.1 = 0)) = [] := List.filter_eq_nil_iff.2 fun e he => by
    obtain ⟨t, ht, rfl⟩ := List.getElem_of_mem he
    rw [List.length_drop] at ht
    have h := h4 (k + t) (by omega) (by omega)
    unfold gtP at h
    rw [List.getElem?_eq_getElem (by omega)] at h
    simp only [decide_eq_true_eq] at h
    rw [List.getElem_drop]
    simp only [decide_eq_true_eq]
    omega
  have f2 : ((l.drop a).take k).filter (fun e => decide (o e.1 = 0)) = (l.drop a).take k := List.filter_eq_self.2 fun e he => by
    obtain ⟨t, ht, rfl⟩ := List.mem_take_iff_getElem.1 he
    have g3 := h3 t (by omega)
    have hl : (l.drop a).length = l.length - a := List.length_drop
    have g2 := h2 (a + t) (by omega) (by omega)
    unfold gtP at g3
    unfold geP at g2
    rw [List.getElem?_eq_getElem (by omega)] at g2 g3
    rw [List.getElem_drop] at g3 ⊢
    simp only [decide_eq_false_iff_not, decide_eq_true_eq] at g2 g3 ⊢
    omega
  rw [e1, f1, f2, f3]
  simp
theorem findP_union {n : Int} {l : List Ent} (h : IsIdx n l) (x : Lab) : unionZ ((l.filter fun e => decide (cmpLab e.1 x = 0)).map Prod.snd) = findP l x := by
  have hp : (fun e : Ent => decide (cmpLab e.1 x = 0)) = fun e => decide (e.1 = x) := by
    funext e; rw [decide_eq_decide]; exact cmpLab_ok.eq e.1 x
  rw [hp, findP, ← List.head?_filter]
  have hm : ∀ e ∈ l.filter (fun e => decide (e.1 = x)), e ∈ l ∧ e.1 = x := fun e he => by simpa using List.mem_filter.1 he
  have ha : (l.filter (fun e => decide (e.1 = x))).Pairwise (fun a b => ltE a.1 b.1 = true) := List.Pairwise.filter _ (List.pairwise_map.1 h.1)
  generalize l.filter (fun e => decide (e.1 = x)) = f at *
  match f, hm, ha with
  | [], _, _ => simp [unionZ, tabB, tabFrom]
  | [e], hm, _ =>
    simp only [List.map_cons, List.map_nil, List.head?_cons, Option.map_some, Option.getD_some]
    refine ext_asc (union_asc _) (h.2 e (hm e (by simp)).1).1 (fun y => ?_)
    rw [union_mem]
    simp
  | e :: d :: r, hm, ha =>
    have h1 := (List.pairwise_cons.1 ha).1 d (by simp)
    rw [(hm e (by simp)).2, (hm d (by simp)).2, ltE_ok.irr] at h1
    cases h1
theorem namedP_union (l : List Ent) (n : ByteArray) : unionZ ((l.filter fun e => decide (ordS e.1.1 n = 0)).map Prod.snd) = namedP l n := by
  have hp : (fun e : Ent => decide (ordS e.1.1 n = 0)) = fun e => decide (e.1.1 = n) := by
    funext e; rw [decide_eq_decide]; exact ordS_ok.eq e.1.1 n
  rw [hp]; rfl
theorem filter_flat (p : Ent → Bool) (l : List Ent) : ((l.filter p).map Prod.snd).flatten.length ≤ (l.map Prod.snd).flatten.length := by
  induction l with
  | nil => simp
  | cons e l ih =>
    rw [List.filter_cons]
    split
    · simp only [List.map_cons, List.flatten_cons, List.length_append]; omega
    · simp only [List.map_cons, List.flatten_cons, List.length_append]; omega

/-- A part of a list of entries. -/
theorem RdE.upto {w : World} {p : Option Addr} {n c : Nat} {l : List Ent} (k : RdE w (.slice p n c) l) (i : Nat) (hi : i ≤ l.length) : RdE w (.slice p i c) (l.take i) := by
  obtain ⟨M, h1, h2, h3⟩ := k.ex
  have hn : n = M.length := by obtain ⟨_, _, e⟩ := h2.shape; simp only [Value.slice.injEq] at e; exact e.2.1
  subst h1
  subst hn
  rw [List.length_map] at hi
  have h := h2.upto i hi
  have e : (entCells M).take (i * 3) = entCells (M.take i) := by
    have : entCells M = entCells (M.take i) ++ entCells (M.drop i) := by rw [← entCells_append, List.take_append_drop]
    rw [this, List.take_append_of_le_length (by rw [entCells_length, List.length_take]; omega), List.take_of_length_le (by rw [entCells_length, List.length_take]; omega)]
  rw [e] at h
  refine ⟨M.take i, by rw [List.map_take], ?_, fun q hq => h3 q (List.mem_of_mem_take hq)⟩
  rw [List.length_take, Nat.min_eq_left hi]
  exact h
theorem RdE.from {w : World} {p : Option Addr} {n c : Nat} {l : List Ent} (k : RdE w (.slice p n c) l) (i : Nat) (hi : i ≤ l.length) : RdE w (sliced p i n c 3) (l.drop i) := by
  obtain ⟨M, h1, h2, h3⟩ := k.ex
  have hn : n = M.length := by obtain ⟨_, _, e⟩ := h2.shape; simp only [Value.slice.injEq] at e; exact e.2.1
  subst h1
  subst hn
  rw [List.length_map] at hi
  have h := h2.from i hi
  have e : (entCells M).drop (i * 3) = entCells (M.drop i) := by
    have : entCells M = entCells (M.take i) ++ entCells (M.drop i) := by rw [← entCells_append, List.take_append_drop]
    rw [this, List.drop_append_of_le_length (by rw [entCells_length, List.length_take]; omega), List.drop_of_length_le (by rw [entCells_length, List.length_take]; omega), List.nil_append]
  rw [e] at h
  refine ⟨M.drop i, by rw [List.map_drop], ?_, fun q hq => h3 q (List.mem_of_mem_drop hq)⟩
  rw [List.length_drop]
  exact h
/-- 's[i:]' as it stands. -/
theorem wpList_fromS {P : Program} {t e : TypeId} {sz bytes : Nat} (hE : Elem P t e sz bytes) (w : World) (p : Option Addr) (n c i : Nat) (hi : i ≤ n) (r : Value) (hr : sliced p i n c sz = r)
    {ops : Array Oper} {rest : List Oper} {o : Oper} {a : Act} {Q : Exit → Act → World → Prop} (hgd : Region.wanted o (yielded ops a.tmps) = true) (s x : Operand) (ho : o.op = .slice t s (some x) none none)
    (hs : a.eval s = .slice p n c) (hx : a.eval x = .int .i64 (i : Int))
    (h : wpList P ops Q rest (a.put o.dst r) w) : wpList P ops Q (o :: rest) a w := by
  obtain ⟨inf, z, hinf, hz, hsize, hby, hzs⟩ := hE.hi
  refine BigFrame.wpList_want hgd fun K hK => ?_
  have helem : P.elem t = e := by simp [Program.elem, hE.ht]
  have hu : P.underlying t = some (.slice (P.elem t)) := by rw [helem]; exact hE.ht
  have hcell : P.cellsOf (P.elem t) = sz := by rw [helem]; simp [Program.cellsOf, hinf, hsize]
  have hr' : (Instr.sliceAt t (.slice p n c) (some (.int .i64 (i : Int))) none none).run P w = .ok r w := by
    have hsz := run_sizeOf (w := w) (show P.info? (P.elem t) = some inf by rw [helem]; exact hinf)
    rw [run_sliceAt_slice (h := hu), run_slice_l (ht := hu) (h0 := by omega) (h1 := by omega), hsz, hcell, ← hr]
    simp [Result.andThen]
  unfold Oper.wp execOp
  simp only [ho, Sem.run_bind, Sem.run_pure, Result.andThen_ok, hs, hx, hr', Option.map_some, Option.map_none]
  exact hK _ _ h
theorem RdE.cap {w : World} {p : Option Addr} {n c : Nat} {l : List Ent} (k : RdE w (.slice p n c) l) : n ≤ c := by
  obtain ⟨M, _, h1, _⟩ := k.ex
  obtain ⟨_, _, e, _, h2, _⟩ := h1
  simp only [Value.slice.injEq] at e
  obtain ⟨_, rfl, rfl⟩ := e
  exact h2
end Go.Proofs.Ytpjfhakmffcolaa

end
