/- Layer 15: PostingsAreCanonical, walked over the interface. -/
import Derived.Test.YtpjfhakmffcolaaMrg5
import Derived.Test.YtpjfhakmffcolaaMrg17
import Derived.Test.YtpjfhakmffcolaaMrg8
import Derived.Test.YtpjfhakmffcolaaMrg18
import Derived.Test.YtpjfhakmffcolaaMrg6
import Derived.Test.YtpjfhakmffcolaaMrg2
set_option linter.unusedVariables false
namespace Go.Proofs.Ytpjfhakmffcolaa.postingsAreCanonical
open Go Go.RowKit
variable {G : Nat} {T : World → Prop}

set_option maxRecDepth 20000 in
set_option maxHeartbeats 8000000 in
theorem walk (I : PoIf G T) (hal : ∀ w, T w → Calls Try.prog 10 #[] w fun e w' => e = .returned (.bool true) ∧ Below w.heap.size w w')
    (w : World) (hT : T w) (sv : Value) (s : List ByteArray) (oks : ∀ z ∈ s, z.size ≤ maxLen) (hs : Rd w 1 sv s.length (strs s)) (n : Int) (okn : -9223372036854775808 ≤ n ∧ n < 9223372036854775808) (bv : Value) (b : List Nat) (okb : ∀ z ∈ b, z < 256) (hb : Rd w 1 bv b.length (u8s b)) :
    Calls Try.prog 8 #[sv, .int .i64 n, bv] w fun e w' => e = .returned (.bool true) ∧ Below w.heap.size w w' := by
  have HT := Lib.hid hT; have HAL := Lib.hid hal; have HNn : Hid (-9223372036854775808 ≤ n ∧ n ≤ 9223372036854775807) := ⟨okn.1, by omega⟩
  have HLs := Lib.hid hs; have HSs := Lib.hid oks
  obtain ⟨ps, cs, hv⟩ := hs.shape
  subst hv
  have HLb := Lib.hid hb; have HSb := Lib.hid okb
  obtain ⟨pb, cb, hv⟩ := hb.shape
  subst hv
  clear hT hal hs oks hb okb okn
  go_enter Try.func8, Try.ntmps8
  go_wp2_with fail
  refine (large10 _ s w HLs.out (fun z hz => by have := HSs.out z hz; unfold maxLen at this; omega)).mono ?_
  rintro e w1 ⟨he, hB⟩
  have HB1 := Lib.hid hB
  have HT1 := Lib.hid (I.below HT.out hB)
  have K1s := Lib.hid (HLs.out.below hB)
  have K1b := Lib.hid (HLb.out.below hB)
  clear HT HLs HLb hB
  rcases he with rfl | ⟨rfl, h5, _⟩
  · go_wp2_with fail
    refine (HAL.out _ HT1.out).mono ?_
    rintro e wz ⟨rfl, hB⟩
    have HBz := Lib.hid (HB1.out.trans (hB.mono HB1.out.size))
    go_wp2_with fail
    go_ret
    exact ⟨rfl, HBz.out⟩
  · have HNS : Hid (s.length ≤ 500) := h5
    clear h5
    go_wp2_with fail
    refine (long10 _ s w1 K1s.out).mono ?_
    rintro e w2 ⟨he, hB⟩
    have HB2 := Lib.hid (HB1.out.trans (hB.mono HB1.out.size))
    have HT2 := Lib.hid (I.below HT1.out hB)
    have K2s := Lib.hid (K1s.out.below hB)
    have K2b := Lib.hid (K1b.out.below hB)
    clear HT1 HB1 K1s K1b hB
    rcases he with rfl | ⟨rfl, h6⟩
    · go_wp2_with fail
      refine (HAL.out _ HT2.out).mono ?_
      rintro e wz ⟨rfl, hB⟩
      have HBz := Lib.hid (HB2.out.trans (hB.mono HB2.out.size))
      go_wp2_with fail
      go_ret
      exact ⟨rfl, HBz.out⟩
    · have HFS : Hid (∀ z ∈ s, z.size ≤ 65535) := h6
      clear h6
      by_cases hbl : (5000 : Int) < (b.length : Int)
      · go_wp2_with fail
        refine (HAL.out _ HT2.out).mono ?_
        rintro e wz ⟨rfl, hB⟩
        have HBz := Lib.hid (HB2.out.trans (hB.mono HB2.out.size))
        go_wp2_with fail
        go_ret
        exact ⟨rfl, HBz.out⟩
      · have HNb : Hid (b.length ≤ 5000) := by show _ ≤ _; omega
        go_wp2_with fail
        refine (ref_table10 _ s w2 K2s.out (by have := HNS.out; omega)).mono ?_
        rintro e w3 ⟨tv, rfl, hO⟩
        have R3t : Hid (Rd w3 1 tv (tabS s).length (strs (tabS s))) := hO.rd
        obtain ⟨pt, ct, hv⟩ := R3t.out.shape
        subst hv
        have HB3 := Lib.hid (HB2.out.trans (hO.bel.mono HB2.out.size))
        have HT3 := Lib.hid (I.below HT2.out hO.bel)
        have K3b := Lib.hid (K2b.out.below hO.bel)
        clear HT2 HB2 K2s K2b hO
        have HTa := Lib.hid (tabS_asc s); have HTf : Hid (Fits (tabS s)) := tabS_fits HFS.out; have HTn : Hid ((tabS s).length ≤ 1000) := by show _ ≤ _; have := tabS_len s; have := HNS.out; omega
        obtain ⟨t, ht⟩ : ∃ t, tabS s = t := ⟨_, rfl⟩
        rw [ht] at R3t HTa HTf HTn ⊢
        clear ht
        have HIv : Hid ((decPo t n b).1 = 0 → okEnts t n (decPo t n b).2 ∧ encPoR t (decPo t n b).2 = (0, b)) := fun h => decPo_inv HTa.out (by have := HTn.out; omega) (by have := HNn.out; omega) HSb.out h
        have HEr : Hid ((decPo t n b).1 ≠ 0 → (decPo t n b).2 = []) := decPo_err
        have HDe := Lib.hid (I.decode _ _ t n b w3 HT3.out R3t.out (by have := HTn.out; omega) HTa.out HTf.out HNn.out K3b.out HSb.out (by have := HNb.out; omega))
        obtain ⟨⟨o1, o2⟩, ho⟩ : ∃ o, decPo t n b = o := ⟨_, rfl⟩
        rw [ho] at HIv HEr HDe
        clear ho
        go_wp2_with fail
        refine HDe.out.mono ?_
        rintro e w4 ⟨⟨r, rfl, hr⟩, hB⟩
        have R4l : Hid (RdE w4 r o2) := hr
        obtain ⟨pl, cl, hv⟩ := R4l.out.shape
        subst hv
        have HB4 := Lib.hid (HB3.out.trans (hB.mono HB3.out.size))
        have HT4 := Lib.hid (I.below HT3.out hB)
        have R4t := Lib.hid (R3t.out.below hB)
        have K4b := Lib.hid (K3b.out.below hB)
        clear HT3 HB3 R3t K3b hB hr HDe
        by_cases h0 : o1 = 0
        · subst h0
          obtain ⟨hok, henc⟩ := HIv.out rfl
          have hok2 := okEnts_iff.1 hok
          have hB : b = entsBytes t o2 := by
            have h := henc
            rw [encPo_ok hok2.2.1] at h
            exact (congrArg Prod.snd h).symm
          have hge := ents_ge t o2
          rw [← hB] at hge
          have HIx : Hid (IsIdx n o2) := hok2.1
          have HGe : Hid (o2.length ≤ 5000 ∧ ∀ e ∈ o2, e.2.length ≤ 5000) := ⟨by have := hge.1; have := HNb.out; omega, fun e he => by have := hge.2 e he; have := HNb.out; omega⟩
          have HEc := Lib.hid henc
          have HBl : Hid ((entsBytes t o2).length ≤ 1000000000) := by show _ ≤ _; rw [← hB]; have := HNb.out; omega
          clear hok henc hok2 hB hge HIv HEr
          go_wp2_with fail
          refine (refr15 _ o2 w4 R4l.out (by have := HGe.out; omega)).mono ?_
          rintro e w5 ⟨r5, rfl, M5, hE, hM⟩
          have R5 : Hid (RdE w5 r5 o2) := by show RdE _ _ _; rw [← hM]; exact hE.rd
          obtain ⟨p5, c5, hv⟩ := R5.out.shape
          subst hv
          have HB5 := Lib.hid (HB4.out.trans (hE.bel.mono HB4.out.size))
          have HT5 := Lib.hid (I.below HT4.out hE.bel)
          have R5t := Lib.hid (R4t.out.below hE.bel)
          have R5l := Lib.hid (R4l.out.below hE.bel)
          have K5b := Lib.hid (K4b.out.below hE.bel)
          clear hE hM HB4 HT4 R4t R4l K4b
          go_wp2_with fail
          refine (ref_is15 _ o2 n w5 R5.out (by have := HGe.out; omega) (fun e he => by have := HGe.out.2 e he; omega)).mono ?_
          rintro e w6 ⟨rfl, hB⟩
          rw [decide_eq_true HIx.out]
          have HB6 := Lib.hid (HB5.out.trans (hB.mono HB5.out.size))
          have HT6 := Lib.hid (I.below HT5.out hB)
          have R6t := Lib.hid (R5t.out.below hB)
          have R6l := Lib.hid (R5l.out.below hB)
          have K6b := Lib.hid (K5b.out.below hB)
          clear hB HB5 HT5 R5t R5l K5b R5
          have hen := I.encode _ _ t o2 n w6 HT6.out R6t.out (by have := HTn.out; omega) HTa.out HTf.out R6l.out HIx.out HNn.out.2 (by have := HGe.out; omega) (fun e he => by have := HGe.out.2 e he; omega) HBl.out
          rw [HEc.out] at hen
          have HEn := Lib.hid hen
          clear hen
          go_wp2_with fail
          refine HEn.out.mono ?_
          rintro e w7 ⟨⟨r7, rfl, hr, _⟩, hB⟩
          have R7 : Hid (Rd w7 1 r7 b.length (u8s b)) := hr
          obtain ⟨p7, c7, hv⟩ : ∃ p c, r7 = .slice p b.length c := hr.shape
          subst hv
          have HB7 := Lib.hid (HB6.out.trans (hB.mono HB6.out.size))
          have HT7 := Lib.hid (I.below HT6.out hB)
          have K7b := Lib.hid (K6b.out.below hB)
          clear hr hB HEn HT6 HB6 R6t R6l K6b
          go_wp2_with fail
          refine (HAL.out _ HT7.out).mono ?_
          rintro e w8 ⟨rfl, hB⟩
          have HB8 := Lib.hid (HB7.out.trans (hB.mono HB7.out.size))
          have R8 := Lib.hid (R7.out.below hB)
          have K8b := Lib.hid (K7b.out.below hB)
          clear hB HB7 HT7 R7 K7b
          go_wp2_with fail
          refine (equal_any _ _ _ _ b b w8 K8b.out R8.out HSb.out HSb.out).mono ?_
          rintro e w9 ⟨rfl, rfl⟩
          rw [decide_eq_true (rfl : b = b)]
          go_wp2_with fail
          go_ret
          exact ⟨rfl, HB8.out⟩
        · have HNil := Lib.hid (HEr.out h0)
          obtain rfl : o2 = [] := HNil.out
          have h0b : ((o1 : Int) == 0) = false := by rw [beq_eq_false_iff_ne]; omega
          have h0c : ¬ (o1 : Int) = 0 := by omega
          clear h0
          go_wp2_with fail
          refine (HAL.out _ HT4.out).mono ?_
          rintro e w5 ⟨rfl, hB⟩
          have HB5 := Lib.hid (HB4.out.trans (hB.mono HB4.out.size))
          clear hB
          go_wp2_with fail
          go_ret
          exact ⟨rfl, HB5.out⟩
end Go.Proofs.Ytpjfhakmffcolaa.postingsAreCanonical
