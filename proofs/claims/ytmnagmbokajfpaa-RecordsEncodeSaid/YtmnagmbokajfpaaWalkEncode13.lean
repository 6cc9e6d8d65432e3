/- Layer 13: RecordsEncode, walked over the interface. -/
import Derived.Test.YtmnagmbokajfpaaMrg5
import Derived.Test.YtmnagmbokajfpaaMrg8
import Derived.Test.YtmnagmbokajfpaaMrg2
set_option linter.unusedVariables false
namespace Go.Proofs.Ytmnagmbokajfpaa.recordsEncode
open Go Go.RowKit
variable {G : Nat} {T : World → Prop}

set_option maxRecDepth 20000 in
set_option maxHeartbeats 8000000 in
theorem walk (I : RcIf G T) (hal : ∀ w, T w → Calls Try.prog 11 #[] w fun e w' => e = .returned (.bool true) ∧ Below w.heap.size w w')
    (w : World) (hT : T w) (sv : Value) (s : List ByteArray) (oks : ∀ z ∈ s, z.size ≤ maxLen) (hs : Rd w 1 sv s.length (strs s)) (lv : Value) (l : List Rec) (okl : SizedR l) (hl : RdR w lv l) :
    Calls Try.prog 3 #[sv, lv] w fun e w' => e = .returned (.bool true) ∧ Below w.heap.size w w' := by
  have HT := Lib.hid hT; have HAL := Lib.hid hal
  have HLs := Lib.hid hs; have HSs := Lib.hid oks
  obtain ⟨ps, cs, hv⟩ := hs.shape
  subst hv
  have HLl := Lib.hid hl; have HSl := Lib.hid okl
  obtain ⟨pl, cl, hv⟩ := hl.shape
  subst hv
  clear hT hal hs oks hl okl
  go_enter Try.func3, Try.ntmps3
  go_wp2_with fail
  refine (large10 _ s w HLs.out (fun z hz => by have := HSs.out z hz; unfold maxLen at this; omega)).mono ?_
  rintro e w1 ⟨he, hB⟩
  have HB1 := Lib.hid (hB)
  have HT1 := Lib.hid (I.below HT.out hB)
  have K1s := Lib.hid (HLs.out.below hB)
  have K1l := Lib.hid (HLl.out.below hB)
  clear HT HLs HLl hB
  rcases he with rfl | ⟨rfl, h5, _⟩
  · have := trivial
    go_wp2_with fail
    refine (HAL.out _ HT1.out).mono ?_
    rintro e wz ⟨rfl, hB⟩
    have HBz := Lib.hid (HB1.out.trans (hB.mono HB1.out.size))
    go_wp2_with fail
    go_ret
    exact ⟨rfl, HBz.out⟩
  · have := trivial
    have HNS : Hid (s.length ≤ 500) := h5
    clear h5
    go_wp2_with fail
    refine (long10 _ s w1 K1s.out).mono ?_
    rintro e w2 ⟨he, hB⟩
    have HB2 := Lib.hid (HB1.out.trans (hB.mono HB1.out.size))
    have HT2 := Lib.hid (I.below HT1.out hB)
    have K2s := Lib.hid (K1s.out.below hB)
    have K2l := Lib.hid (K1l.out.below hB)
    clear HT1 HB1 K1s K1l hB
    rcases he with rfl | ⟨rfl, h6⟩
    · have := trivial
      go_wp2_with fail
      refine (HAL.out _ HT2.out).mono ?_
      rintro e wz ⟨rfl, hB⟩
      have HBz := Lib.hid (HB2.out.trans (hB.mono HB2.out.size))
      go_wp2_with fail
      go_ret
      exact ⟨rfl, HBz.out⟩
    · have := trivial
      have HFS : Hid (∀ z ∈ s, z.size ≤ 65535) := h6
      clear h6
      go_wp2_with fail
      refine (large13 _ l w2 K2l.out HSl.out).mono ?_
      rintro e w3 ⟨he, hB⟩
      have HB3 := Lib.hid (HB2.out.trans (hB.mono HB2.out.size))
      have HT3 := Lib.hid (I.below HT2.out hB)
      have K3s := Lib.hid (K2s.out.below hB)
      have K3l := Lib.hid (K2l.out.below hB)
      clear HT2 HB2 K2s K2l hB
      rcases he with rfl | ⟨rfl, h7, _⟩
      · have := trivial
        go_wp2_with fail
        refine (HAL.out _ HT3.out).mono ?_
        rintro e wz ⟨rfl, hB⟩
        have HBz := Lib.hid (HB3.out.trans (hB.mono HB3.out.size))
        go_wp2_with fail
        go_ret
        exact ⟨rfl, HBz.out⟩
      · have := trivial
        have Ml := Lib.hid h7
        clear h7
        go_wp2_with fail
        refine (ref_table10 _ s w3 K3s.out (by have := HNS.out; omega)).mono ?_
        rintro e w4 ⟨tv, rfl, hO⟩
        have R4t : Hid (Rd w4 1 tv (tabS s).length (strs (tabS s))) := hO.rd
        obtain ⟨pt, ct, hv⟩ := R4t.out.shape
        subst hv
        have HB4 := Lib.hid (HB3.out.trans (hO.bel.mono HB3.out.size))
        have HT4 := Lib.hid (I.below HT3.out hO.bel)
        have K4s := Lib.hid (K3s.out.below hO.bel)
        have K4l := Lib.hid (K3l.out.below hO.bel)
        clear HT3 HB3 K3s K3l 
        clear hO
        have HTa := Lib.hid (tabS_asc s); have HTf : Hid (Fits (tabS s)) := tabS_fits HFS.out; have HTn : Hid ((tabS s).length ≤ 1000) := by show _ ≤ _; have := tabS_len s; have := HNS.out; omega
        obtain ⟨t, ht⟩ : ∃ t, tabS s = t := ⟨_, rfl⟩
        rw [ht] at R4t HTa HTf HTn ⊢
        have HTe := Lib.hid ht
        clear ht
        go_wp2_with fail
        refine (prog13 _ l w4 K4l.out (by have := Ml.out.len; omega)).mono ?_
        rintro e w5 ⟨xv, rfl, hds, hN⟩
        have R5x := Lib.hid hN.rd
        obtain ⟨px, cx, hv⟩ := R5x.out.shape
        subst hv
        have HB5 := Lib.hid (HB4.out.trans (hN.row.bel.mono HB4.out.size))
        have HT5 := Lib.hid (I.below HT4.out hN.row.bel)
        have K5s := Lib.hid (K4s.out.below hN.row.bel)
        have K5l := Lib.hid (K4l.out.below hN.row.bel)
        have K5t := Lib.hid (R4t.out.below hN.row.bel)
        clear HT4 HB4 K4s K4l R4t 
        clear hN
        have HLe := Lib.hid (encRc_len (t := t) (by have := HTn.out; omega) Ml.out HSl.out)
        have HLt := Lib.hid (encRcR_lt HTa.out (by have := HTn.out; omega) Ml.out.small)
        have HEn := Lib.hid (I.encode _ _ t l w5 HT5.out K5t.out (by have := HTn.out; omega) HTa.out HTf.out R5x.out HSl.out Ml.out.small (by have := HLe.out; omega))
        have HRf := Lib.hid (fun rv w h1 h2 => ref_encode13 (.slice pt t.length ct) rv t l w h1 (by have := HTn.out; omega) h2 (by have := Ml.out.len; omega) (fun r hr => ⟨by have := Ml.out.lab r hr; omega, by have := Ml.out.chs hr; omega⟩) (fun r hr n hn => (HSl.out r hr).2 n hn) (by have := HLe.out; omega))
        generalize encRcR t l = o at *
        go_wp2_with fail
        refine (HEn.out).mono ?_
        rintro e w6 ⟨⟨r, rfl, hr, _⟩, hB⟩
        have R6b := Lib.hid hr
        obtain ⟨pb, cb, hv⟩ := R6b.out.shape
        subst hv
        have HB6 := Lib.hid (HB5.out.trans (hB.mono HB5.out.size))
        have HT6 := Lib.hid (I.below HT5.out hB)
        have K6s := Lib.hid (K5s.out.below hB)
        have K6t := Lib.hid (K5t.out.below hB)
        have K6x := Lib.hid (R5x.out.below hB)
        clear HT5 HB5 K5s K5t R5x hB
        clear hr HEn
        go_wp2_with fail
        refine (refr13 _ l w6 K6x.out (by have := Ml.out.len; omega)).mono ?_
        rintro e w7 ⟨yv, rfl, hds2, hN⟩
        have R7y := Lib.hid hN.rd
        obtain ⟨py, cy, hv⟩ := R7y.out.shape
        subst hv
        have HB7 := Lib.hid (HB6.out.trans (hN.row.bel.mono HB6.out.size))
        have HT7 := Lib.hid (I.below HT6.out hN.row.bel)
        have K7s := Lib.hid (K6s.out.below hN.row.bel)
        have K7t := Lib.hid (K6t.out.below hN.row.bel)
        have K7x := Lib.hid (K6x.out.below hN.row.bel)
        have K7b := Lib.hid (R6b.out.below hN.row.bel)
        clear HT6 HB6 K6s K6t K6x R6b 
        clear hN
        go_wp2_with fail
        refine (HRf.out _ w7 K7t.out R7y.out).mono ?_
        rintro e w8 ⟨⟨r, rfl, hr, _⟩, hB⟩
        have R8c := Lib.hid hr
        obtain ⟨pc, cc, hv⟩ := R8c.out.shape
        subst hv
        have HB8 := Lib.hid (HB7.out.trans (hB.mono HB7.out.size))
        have HT8 := Lib.hid (I.below HT7.out hB)
        have K8s := Lib.hid (K7s.out.below hB)
        have K8t := Lib.hid (K7t.out.below hB)
        have K8x := Lib.hid (K7x.out.below hB)
        have K8b := Lib.hid (K7b.out.below hB)
        have K8y := Lib.hid (R7y.out.below hB)
        clear HT7 HB7 K7s K7t K7x K7b R7y hB
        clear hr HRf
        go_wp2_with fail
        refine (HAL.out _ HT8.out).mono ?_
        rintro e w9 ⟨rfl, hB⟩
        have HB9 := Lib.hid (HB8.out.trans (hB.mono HB8.out.size))
        have HT9 := Lib.hid (I.below HT8.out hB)
        have K9s := Lib.hid (K8s.out.below hB)
        have K9t := Lib.hid (K8t.out.below hB)
        have K9x := Lib.hid (K8x.out.below hB)
        have K9b := Lib.hid (K8b.out.below hB)
        have K9y := Lib.hid (K8y.out.below hB)
        have K9c := Lib.hid (R8c.out.below hB)
        clear HT8 HB8 K8s K8t K8x K8b K8y R8c hB
        go_wp2_with fail
        refine (equal_any _ _ _ _ o.2 o.2 w9 K9b.out K9c.out HLt.out HLt.out).mono ?_
        rintro e wq ⟨rfl, rfl⟩
        rw [decide_eq_true (rfl : o.2 = o.2)]
        go_wp2_with fail
        go_ret
        exact ⟨rfl, HB9.out⟩
end Go.Proofs.Ytmnagmbokajfpaa.recordsEncode
