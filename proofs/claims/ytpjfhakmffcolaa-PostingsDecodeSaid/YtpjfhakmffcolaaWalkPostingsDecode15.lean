/- Layer 15: PostingsDecode, walked over the interface. -/
import Derived.Test.YtpjfhakmffcolaaMrg5
import Derived.Test.YtpjfhakmffcolaaMrg17
import Derived.Test.YtpjfhakmffcolaaMrg8
import Derived.Test.YtpjfhakmffcolaaMrg18
import Derived.Test.YtpjfhakmffcolaaMrg6
import Derived.Test.YtpjfhakmffcolaaMrg19
set_option linter.unusedVariables false
namespace Go.Proofs.Ytpjfhakmffcolaa.postingsDecode
open Go Go.RowKit
variable {G : Nat} {T : World → Prop}

set_option maxRecDepth 20000 in
set_option maxHeartbeats 8000000 in
theorem walk (I : PoIf G T) (hal : ∀ w, T w → Calls Try.prog 10 #[] w fun e w' => e = .returned (.bool true) ∧ Below w.heap.size w w')
    (w : World) (hT : T w) (sv : Value) (s : List ByteArray) (oks : ∀ z ∈ s, z.size ≤ maxLen) (hs : Rd w 1 sv s.length (strs s)) (n : Int) (okn : -9223372036854775808 ≤ n ∧ n < 9223372036854775808) (bv : Value) (b : List Nat) (okb : ∀ z ∈ b, z < 256) (hb : Rd w 1 bv b.length (u8s b)) :
    Calls Try.prog 6 #[sv, .int .i64 n, bv] w fun e w' => e = .returned (.bool true) ∧ Below w.heap.size w w' := by
  have HT := Lib.hid hT; have HAL := Lib.hid hal; have HNn : Hid (-9223372036854775808 ≤ n ∧ n ≤ 9223372036854775807) := ⟨okn.1, by omega⟩
  have HLs := Lib.hid hs; have HSs := Lib.hid oks
  obtain ⟨ps, cs, hv⟩ := hs.shape
  subst hv
  have HLb := Lib.hid hb; have HSb := Lib.hid okb
  obtain ⟨pb, cb, hv⟩ := hb.shape
  subst hv
  clear hT hal hs oks hb okb okn
  go_enter Try.func6, Try.ntmps6
  go_wp2_with fail
  refine (large10 _ s w HLs.out (fun z hz => by have := HSs.out z hz; unfold maxLen at this; omega)).mono ?_
  rintro e w1 ⟨he, hB⟩
  have HB1 := Lib.hid hB
  have HT1 := Lib.hid (I.below HT.out hB)
  have K1s := Lib.hid (HLs.out.below hB)
  have K1b := Lib.hid (HLb.out.below hB)
  clear HT HLs HLb hB
  rcases he with rfl | ⟨rfl, h5, _⟩
  · go_wp2_with fail
    refine (HAL.out _ HT1.out).mono ?_
    rintro e wz ⟨rfl, hB⟩
    have HBz := Lib.hid (HB1.out.trans (hB.mono HB1.out.size))
    go_wp2_with fail
    go_ret
    exact ⟨rfl, HBz.out⟩
  · have HNS : Hid (s.length ≤ 500) := h5
    clear h5
    go_wp2_with fail
    refine (long10 _ s w1 K1s.out).mono ?_
    rintro e w2 ⟨he, hB⟩
    have HB2 := Lib.hid (HB1.out.trans (hB.mono HB1.out.size))
    have HT2 := Lib.hid (I.below HT1.out hB)
    have K2s := Lib.hid (K1s.out.below hB)
    have K2b := Lib.hid (K1b.out.below hB)
    clear HT1 HB1 K1s K1b hB
    rcases he with rfl | ⟨rfl, h6⟩
    · go_wp2_with fail
      refine (HAL.out _ HT2.out).mono ?_
      rintro e wz ⟨rfl, hB⟩
      have HBz := Lib.hid (HB2.out.trans (hB.mono HB2.out.size))
      go_wp2_with fail
      go_ret
      exact ⟨rfl, HBz.out⟩
    · have HFS : Hid (∀ z ∈ s, z.size ≤ 65535) := h6
      clear h6
      by_cases hbl : (5000 : Int) < (b.length : Int)
      · go_wp2_with fail
        refine (HAL.out _ HT2.out).mono ?_
        rintro e wz ⟨rfl, hB⟩
        have HBz := Lib.hid (HB2.out.trans (hB.mono HB2.out.size))
        go_wp2_with fail
        go_ret
        exact ⟨rfl, HBz.out⟩
      · have HNb : Hid (b.length ≤ 5000) := by show _ ≤ _; omega
        go_wp2_with fail
        refine (ref_table10 _ s w2 K2s.out (by have := HNS.out; omega)).mono ?_
        rintro e w3 ⟨tv, rfl, hO⟩
        have R3t : Hid (Rd w3 1 tv (tabS s).length (strs (tabS s))) := hO.rd
        obtain ⟨pt, ct, hv⟩ := R3t.out.shape
        subst hv
        have HB3 := Lib.hid (HB2.out.trans (hO.bel.mono HB2.out.size))
        have HT3 := Lib.hid (I.below HT2.out hO.bel)
        have K3b := Lib.hid (K2b.out.below hO.bel)
        clear HT2 HB2 K2s K2b hO
        have HTa := Lib.hid (tabS_asc s); have HTf : Hid (Fits (tabS s)) := tabS_fits HFS.out; have HTn : Hid ((tabS s).length ≤ 1000) := by show _ ≤ _; have := tabS_len s; have := HNS.out; omega
        obtain ⟨t, ht⟩ : ∃ t, tabS s = t := ⟨_, rfl⟩
        rw [ht] at R3t HTa HTf HTn ⊢
        clear ht
        have HIv : Hid ((decPo t n b).1 = 0 → okEnts t n (decPo t n b).2 ∧ encPoR t (decPo t n b).2 = (0, b)) := fun h => decPo_inv HTa.out (by have := HTn.out; omega) (by have := HNn.out; omega) HSb.out h
        have HEr : Hid ((decPo t n b).1 ≠ 0 → (decPo t n b).2 = []) := decPo_err
        have HDe := Lib.hid (I.decode _ _ t n b w3 HT3.out R3t.out (by have := HTn.out; omega) HTa.out HTf.out HNn.out K3b.out HSb.out (by have := HNb.out; omega))
        have HRf := Lib.hid (fun w h1 h2 => ref_decode15 (.slice pt t.length ct) (.slice pb b.length cb) t n b w h1 (by have := HTn.out; omega) HNn.out h2 HSb.out (by have := HNb.out; omega))
        have HGe : Hid (((decPo t n b).2).length ≤ 5000 ∧ (∀ e ∈ (decPo t n b).2, e.2.length ≤ 5000 ∧ e.1.1.size ≤ 65535 ∧ e.1.2.size ≤ 65535) ∧ ((decPo t n b).1 = 0 → IsIdx n (decPo t n b).2)) := by
          by_cases h0 : (decPo t n b).1 = 0
          · obtain ⟨hok, henc⟩ := HIv.out h0
            have hok2 := okEnts_iff.1 hok
            have hB : b = entsBytes t (decPo t n b).2 := by
              have h := henc
              rw [encPo_ok hok2.2.1] at h
              exact (congrArg Prod.snd h).symm
            have hge := ents_ge t (decPo t n b).2
            rw [← hB] at hge
            refine ⟨by have := hge.1; have := HNb.out; omega, fun e he => ⟨by have := hge.2 e he; have := HNb.out; omega, HTf.out _ (hok2.2.1 e he).1, HTf.out _ (hok2.2.1 e he).2⟩, fun _ => hok2.1⟩
          · show _ ∧ _ ∧ _
            rw [HEr.out h0]
            exact ⟨by simp, (fun e he => by cases he), fun h => absurd h h0⟩
        clear HIv HEr
        obtain ⟨⟨o1, o2⟩, ho⟩ : ∃ o, decPo t n b = o := ⟨_, rfl⟩
        rw [ho] at HGe HDe HRf
        clear ho
        go_wp2_with fail
        refine HDe.out.mono ?_
        rintro e w4 ⟨⟨r, rfl, hr⟩, hB⟩
        have R4l : Hid (RdE w4 r o2) := hr
        obtain ⟨pl, cl, hv⟩ := R4l.out.shape
        subst hv
        have HB4 := Lib.hid (HB3.out.trans (hB.mono HB3.out.size))
        have HT4 := Lib.hid (I.below HT3.out hB)
        have R4t := Lib.hid (R3t.out.below hB)
        have K4b := Lib.hid (K3b.out.below hB)
        clear HT3 HB3 R3t K3b hB hr HDe
        go_wp2_with fail
        refine (HRf.out w4 R4t.out K4b.out).mono ?_
        rintro e w5 ⟨⟨r, rfl, hr⟩, hB⟩
        have R5m : Hid (RdE w5 r o2) := hr
        obtain ⟨pm, cm, hv⟩ := R5m.out.shape
        subst hv
        have HB5 := Lib.hid (HB4.out.trans (hB.mono HB4.out.size))
        have HT5 := Lib.hid (I.below HT4.out hB)
        have R5l := Lib.hid (R4l.out.below hB)
        clear HT4 HB4 R4t K4b R4l hB hr HRf
        go_wp2_with fail
        refine (HAL.out _ HT5.out).mono ?_
        rintro e w6 ⟨rfl, hB⟩
        have HB6 := Lib.hid (HB5.out.trans (hB.mono HB5.out.size))
        have R6l := Lib.hid (R5l.out.below hB)
        have R6m := Lib.hid (R5m.out.below hB)
        clear HT5 HB5 R5l R5m hB
        go_wp2_with fail
        refine (refr15 _ o2 w6 R6l.out (by have := HGe.out.1; omega)).mono ?_
        rintro e w7 ⟨r7, rfl, M7, hE, hM⟩
        have R7 : Hid (RdE w7 r7 o2) := by show RdE _ _ _; rw [← hM]; exact hE.rd
        obtain ⟨p7, c7, hv⟩ := R7.out.shape
        subst hv
        have HB7 := Lib.hid (HB6.out.trans (hE.bel.mono HB6.out.size))
        have R7m := Lib.hid (R6m.out.below hE.bel)
        clear hE hM HB6 R6l R6m
        have HSm : Hid (SmallE o2) := ⟨by have := HGe.out.1; omega, fun e he => by have := (HGe.out.2.1 e he).1; omega⟩
        go_wp2_with fail
        refine (ref_same15 _ _ o2 o2 w7 R7.out R7m.out HSm.out HSm.out).mono ?_
        rintro e w8 ⟨rfl, hB⟩
        have HB8 := Lib.hid (HB7.out.trans (hB.mono HB7.out.size))
        have R8m := Lib.hid (R7m.out.below hB)
        clear HB7 R7 R7m hB
        rw [decide_eq_true (rfl : o2 = o2)]
        by_cases h0 : o1 = 0
        · subst h0
          have HIx : Hid (IsIdx n o2) := HGe.out.2.2 rfl
          go_wp2_with fail
          refine (ref_is15 _ o2 n w8 R8m.out (by have := HGe.out.1; omega) (fun e he => by have := (HGe.out.2.1 e he).1; omega)).mono ?_
          rintro e w9 ⟨rfl, hB⟩
          have HB9 := Lib.hid (HB8.out.trans (hB.mono HB8.out.size))
          rw [decide_eq_true HIx.out]
          clear hB HB8
          go_wp2_with fail
          go_ret
          exact ⟨rfl, HB9.out⟩
        · have h0b : ((o1 : Int) == 0) = false := by rw [beq_eq_false_iff_ne]; omega
          have h0c : ¬ (o1 : Int) = 0 := by omega
          clear h0
          go_wp2_with fail
          go_ret
          exact ⟨rfl, HB8.out⟩
end Go.Proofs.Ytpjfhakmffcolaa.postingsDecode
