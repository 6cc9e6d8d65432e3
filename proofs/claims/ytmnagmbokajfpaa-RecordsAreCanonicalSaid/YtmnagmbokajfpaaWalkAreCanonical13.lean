/- Layer 13: RecordsAreCanonical, walked over the interface. -/
import Derived.Test.YtmnagmbokajfpaaMrg5
import Derived.Test.YtmnagmbokajfpaaMrg8
import Derived.Test.YtmnagmbokajfpaaMrg2
set_option linter.unusedVariables false
namespace Go.Proofs.Ytmnagmbokajfpaa.recordsAreCanonical
open Go Go.RowKit
variable {G : Nat} {T : World → Prop}

set_option maxRecDepth 20000 in
set_option maxHeartbeats 8000000 in
theorem walk (I : RcIf G T) (hal : ∀ w, T w → Calls Try.prog 11 #[] w fun e w' => e = .returned (.bool true) ∧ Below w.heap.size w w')
    (w : World) (hT : T w) (sv : Value) (s : List ByteArray) (oks : ∀ z ∈ s, z.size ≤ maxLen) (hs : Rd w 1 sv s.length (strs s)) (bv : Value) (b : List Nat) (okb : ∀ z ∈ b, z < 256) (hb : Rd w 1 bv b.length (u8s b)) :
    Calls Try.prog 6 #[sv, bv] w fun e w' => e = .returned (.bool true) ∧ Below w.heap.size w w' := by
  have HT := Lib.hid hT; have HAL := Lib.hid hal
  have HLs := Lib.hid hs; have HSs := Lib.hid oks
  obtain ⟨ps, cs, hv⟩ := hs.shape
  subst hv
  have HLb := Lib.hid hb; have HSb := Lib.hid okb
  obtain ⟨pb, cb, hv⟩ := hb.shape
  subst hv
  clear hT hal hs oks hb okb
  go_enter Try.func6, Try.ntmps6
  go_wp2_with fail
  refine (large10 _ s w HLs.out (fun z hz => by have := HSs.out z hz; unfold maxLen at this; omega)).mono ?_
  rintro e w1 ⟨he, hB⟩
  have HB1 := Lib.hid (hB)
  have HT1 := Lib.hid (I.below HT.out hB)
  have K1s := Lib.hid (HLs.out.below hB)
  have K1b := Lib.hid (HLb.out.below hB)
  clear HT HLs HLb hB
  rcases he with rfl | ⟨rfl, h5, _⟩
  · have := trivial
    go_wp2_with fail
    refine (HAL.out _ HT1.out).mono ?_
    rintro e wz ⟨rfl, hB⟩
    have HBz := Lib.hid (HB1.out.trans (hB.mono HB1.out.size))
    go_wp2_with fail
    go_ret
    exact ⟨rfl, HBz.out⟩
  · have := trivial
    have HNS : Hid (s.length ≤ 500) := h5
    clear h5
    go_wp2_with fail
    refine (long10 _ s w1 K1s.out).mono ?_
    rintro e w2 ⟨he, hB⟩
    have HB2 := Lib.hid (HB1.out.trans (hB.mono HB1.out.size))
    have HT2 := Lib.hid (I.below HT1.out hB)
    have K2s := Lib.hid (K1s.out.below hB)
    have K2b := Lib.hid (K1b.out.below hB)
    clear HT1 HB1 K1s K1b hB
    rcases he with rfl | ⟨rfl, h6⟩
    · have := trivial
      go_wp2_with fail
      refine (HAL.out _ HT2.out).mono ?_
      rintro e wz ⟨rfl, hB⟩
      have HBz := Lib.hid (HB2.out.trans (hB.mono HB2.out.size))
      go_wp2_with fail
      go_ret
      exact ⟨rfl, HBz.out⟩
    · have := trivial
      have HFS : Hid (∀ z ∈ s, z.size ≤ 65535) := h6
      clear h6
      by_cases hbl : (5000 : Int) < (b.length : Int)
      · have := trivial
        go_wp2_with fail
        refine (HAL.out _ HT2.out).mono ?_
        rintro e wz ⟨rfl, hB⟩
        have HBz := Lib.hid (HB2.out.trans (hB.mono HB2.out.size))
        go_wp2_with fail
        go_ret
        exact ⟨rfl, HBz.out⟩
      · have HNb : Hid (b.length ≤ 5000) := by show _ ≤ _; omega
        go_wp2_with fail
        refine (ref_table10 _ s w2 K2s.out (by have := HNS.out; omega)).mono ?_
        rintro e w3 ⟨tv, rfl, hO⟩
        have R3t : Hid (Rd w3 1 tv (tabS s).length (strs (tabS s))) := hO.rd
        obtain ⟨pt, ct, hv⟩ := R3t.out.shape
        subst hv
        have HB3 := Lib.hid (HB2.out.trans (hO.bel.mono HB2.out.size))
        have HT3 := Lib.hid (I.below HT2.out hO.bel)
        have K3s := Lib.hid (K2s.out.below hO.bel)
        have K3b := Lib.hid (K2b.out.below hO.bel)
        clear HT2 HB2 K2s K2b 
        clear hO
        have HTa := Lib.hid (tabS_asc s); have HTf : Hid (Fits (tabS s)) := tabS_fits HFS.out; have HTn : Hid ((tabS s).length ≤ 1000) := by show _ ≤ _; have := tabS_len s; have := HNS.out; omega
        obtain ⟨t, ht⟩ : ∃ t, tabS s = t := ⟨_, rfl⟩
        rw [ht] at R3t HTa HTf HTn ⊢
        have HTe := Lib.hid ht
        clear ht
        have HAll := Lib.hid (decRc_all HTa.out (by have := HTn.out; omega) HTf.out HSb.out (by have := HNb.out; omega))
        have HDe := Lib.hid (I.decode _ _ t b w3 HT3.out R3t.out (by have := HTn.out; omega) HTa.out HTf.out K3b.out HSb.out (by have := HNb.out; omega))
        obtain ⟨o, ho⟩ : ∃ o, decRc t b = o := ⟨_, rfl⟩
        rw [ho] at HAll HDe
        clear ho
        go_wp2_with fail
        refine (HDe.out).mono ?_
        rintro e w4 ⟨⟨r, rfl, hr, _⟩, hB⟩
        have R4l := Lib.hid hr
        obtain ⟨pl, cl, hv⟩ := R4l.out.shape
        subst hv
        have HB4 := Lib.hid (HB3.out.trans (hB.mono HB3.out.size))
        have HT4 := Lib.hid (I.below HT3.out hB)
        have K4s := Lib.hid (K3s.out.below hB)
        have K4b := Lib.hid (K3b.out.below hB)
        have K4t := Lib.hid (R3t.out.below hB)
        clear HT3 HB3 K3s K3b R3t hB
        clear hr HDe
        by_cases h0 : o.1 = 0
        · have hz : (o.1 : Int) = 0 := by omega
          have HEq := Lib.hid (HAll.out.2.2.1 h0)
          rw [hz]
          clear h0 hz
          have hen := I.encode _ _ t o.2 w4 HT4.out K4t.out (by have := HTn.out; omega) HTa.out HTf.out R4l.out HAll.out.2.1 HAll.out.1 (by rw [HEq.out.2]; have := HNb.out; omega)
          rw [HEq.out.1] at hen
          have HEn := Lib.hid hen
          clear hen
          go_wp2_with fail
          refine (HEn.out).mono ?_
          rintro e w5 ⟨⟨r, rfl, hr, _⟩, hB⟩
          have R5c : Hid (Rd w5 1 r b.length (u8s b)) := hr
          obtain ⟨pc, cc, hv⟩ := R5c.out.shape
          subst hv
          have HB5 := Lib.hid (HB4.out.trans (hB.mono HB4.out.size))
          have HT5 := Lib.hid (I.below HT4.out hB)
          have K5s := Lib.hid (K4s.out.below hB)
          have K5b := Lib.hid (K4b.out.below hB)
          have K5t := Lib.hid (K4t.out.below hB)
          have K5l := Lib.hid (R4l.out.below hB)
          clear HT4 HB4 K4s K4b K4t R4l hB
          clear hr HEn
          go_wp2_with fail
          refine (HAL.out _ HT5.out).mono ?_
          rintro e w6 ⟨rfl, hB⟩
          have HB6 := Lib.hid (HB5.out.trans (hB.mono HB5.out.size))
          have HT6 := Lib.hid (I.below HT5.out hB)
          have K6s := Lib.hid (K5s.out.below hB)
          have K6b := Lib.hid (K5b.out.below hB)
          have K6t := Lib.hid (K5t.out.below hB)
          have K6l := Lib.hid (K5l.out.below hB)
          have K6c := Lib.hid (R5c.out.below hB)
          clear HT5 HB5 K5s K5b K5t K5l R5c hB
          go_wp2_with fail
          refine (equal_any _ _ _ _ b b w6 K6b.out K6c.out HSb.out HSb.out).mono ?_
          rintro e wq ⟨rfl, rfl⟩
          rw [decide_eq_true (rfl : b = b)]
          go_wp2_with fail
          go_ret
          exact ⟨rfl, HB6.out⟩
        · have hz : ((o.1 : Int) == 0) = false := by rw [beq_eq_false_iff_ne]; omega
          have he := HAll.out.2.2.2 h0
          have hl0 : o.2.length = 0 := by rw [he]; rfl
          have HL0 := Lib.hid hl0
          clear he hl0
          have hli : (o.2.length : Int) = 0 := by have := HL0.out; omega
          go_wp2_with fail
          refine (HAL.out _ HT4.out).mono ?_
          rintro e w5 ⟨rfl, hB⟩
          have HB5 := Lib.hid (HB4.out.trans (hB.mono HB4.out.size))
          have HT5 := Lib.hid (I.below HT4.out hB)
          have K5s := Lib.hid (K4s.out.below hB)
          have K5b := Lib.hid (K4b.out.below hB)
          have K5t := Lib.hid (K4t.out.below hB)
          have K5l := Lib.hid (R4l.out.below hB)
          clear HT4 HB4 K4s K4b K4t R4l hB
          go_wp2_with fail
          go_ret
          exact ⟨rfl, HB5.out⟩
end Go.Proofs.Ytmnagmbokajfpaa.recordsAreCanonical
