/- Layer 15: PostingsEncode, walked over the interface. -/
import Derived.Test.YtpjfhakmffcolaaMrg5
import Derived.Test.YtpjfhakmffcolaaMrg7
import Derived.Test.YtpjfhakmffcolaaMrg8
import Derived.Test.YtpjfhakmffcolaaMrg17
import Derived.Test.YtpjfhakmffcolaaMrg6
import Derived.Test.YtpjfhakmffcolaaMrg2
set_option linter.unusedVariables false
namespace Go.Proofs.Ytpjfhakmffcolaa.postingsEncode
open Go Go.RowKit
variable {G : Nat} {T : World → Prop}

set_option maxRecDepth 20000 in
set_option maxHeartbeats 8000000 in
theorem walk (I : PoIf G T) (hal : ∀ w, T w → Calls Try.prog 10 #[] w fun e w' => e = .returned (.bool true) ∧ Below w.heap.size w w')
    (w : World) (hT : T w) (sv : Value) (s : List ByteArray) (oks : ∀ z ∈ s, z.size ≤ maxLen) (hs : Rd w 1 sv s.length (strs s)) (lv : Value) (l : List (List Lab)) (okl : ∀ s ∈ l, LabSized s) (hl : RdBL w lv l) :
    Calls Try.prog 5 #[sv, lv] w fun e w' => e = .returned (.bool true) ∧ Below w.heap.size w w' := by
  have HT := Lib.hid hT; have HAL := Lib.hid hal; have HSl := Lib.hid okl; have HSs := Lib.hid oks
  have HLs := Lib.hid hs; have HLl := Lib.hid hl
  obtain ⟨ps, cs, hv⟩ := hs.shape
  subst hv
  obtain ⟨pl, cl, hv⟩ := hl.shape
  subst hv
  clear hT hal okl hl oks hs
  go_enter Try.func5, Try.ntmps5
  go_wp2_with fail
  refine (norm15 _ l w HLl.out HSl.out).mono ?_
  rintro e w1 ⟨he, hB⟩
  have HB1 := Lib.hid hB
  have HT1 := Lib.hid (I.below HT.out hB)
  have K1s := Lib.hid (HLs.out.below hB)
  clear HT HLl HLs hB
  rcases he with rfl | ⟨mv, rfl, hs, hN, hP⟩
  · go_wp2_with fail
    refine (HAL.out _ HT1.out).mono ?_
    rintro e wz ⟨rfl, hB⟩
    have HBz := Lib.hid (HB1.out.trans (hB.mono HB1.out.size))
    go_wp2_with fail
    go_ret
    exact ⟨rfl, HBz.out⟩
  · obtain ⟨m, hm⟩ : ∃ m, normsP l = m := ⟨_, rfl⟩
    rw [hm] at hN hP
    have HP := Lib.hid hP
    have R1m := Lib.hid hN.rd
    have HI := Lib.hid (small_idx hP)
    obtain ⟨pm, cm, hv⟩ := R1m.out.shape
    subst hv
    clear hm hN hP
    go_wp2_with fail
    refine (large10 _ s w1 K1s.out (fun z hz => by have := HSs.out z hz; unfold maxLen at this; omega)).mono ?_
    rintro e w2 ⟨he, hB⟩
    have HB2 := Lib.hid (HB1.out.trans (hB.mono HB1.out.size))
    have HT2 := Lib.hid (I.below HT1.out hB)
    have R2m := Lib.hid (R1m.out.below hB)
    have K2s := Lib.hid (K1s.out.below hB)
    clear HT1 HB1 R1m K1s hB
    rcases he with rfl | ⟨rfl, h5, _⟩
    · go_wp2_with fail
      refine (HAL.out _ HT2.out).mono ?_
      rintro e wz ⟨rfl, hB⟩
      have HBz := Lib.hid (HB2.out.trans (hB.mono HB2.out.size))
      go_wp2_with fail
      go_ret
      exact ⟨rfl, HBz.out⟩
    · have HNS : Hid (s.length ≤ 500) := h5
      clear h5
      go_wp2_with fail
      refine (long10 _ s w2 K2s.out).mono ?_
      rintro e w3 ⟨he, hB⟩
      have HB3 := Lib.hid (HB2.out.trans (hB.mono HB2.out.size))
      have HT3 := Lib.hid (I.below HT2.out hB)
      have R3m := Lib.hid (R2m.out.below hB)
      have K3s := Lib.hid (K2s.out.below hB)
      clear HT2 HB2 R2m K2s hB
      rcases he with rfl | ⟨rfl, h6⟩
      · go_wp2_with fail
        refine (HAL.out _ HT3.out).mono ?_
        rintro e wz ⟨rfl, hB⟩
        have HBz := Lib.hid (HB3.out.trans (hB.mono HB3.out.size))
        go_wp2_with fail
        go_ret
        exact ⟨rfl, HBz.out⟩
      · have HFS : Hid (∀ z ∈ s, z.size ≤ 65535) := h6
        clear h6
        go_wp2_with fail
        refine (ref_table10 _ s w3 K3s.out (by have := HNS.out; omega)).mono ?_
        rintro e w4 ⟨tv, rfl, hO⟩
        have R4t : Hid (Rd w4 1 tv (tabS s).length (strs (tabS s))) := hO.rd
        obtain ⟨pt, ct, hv⟩ := R4t.out.shape
        subst hv
        have HB4 := Lib.hid (HB3.out.trans (hO.bel.mono HB3.out.size))
        have HT4 := Lib.hid (I.below HT3.out hO.bel)
        have R4m := Lib.hid (R3m.out.below hO.bel)
        clear HT3 HB3 R3m K3s hO
        have HTa := Lib.hid (tabS_asc s); have HTf : Hid (Fits (tabS s)) := tabS_fits HFS.out; have HTn : Hid ((tabS s).length ≤ 1000) := by show _ ≤ _; have := tabS_len s; have := HNS.out; omega
        obtain ⟨t, ht⟩ : ∃ t, tabS s = t := ⟨_, rfl⟩
        rw [ht] at R4t HTa HTf HTn ⊢
        clear ht
        have HBy := Lib.hid (HI.out.bytes (t := t) (by have := HTn.out; omega))
        go_wp2_with fail
        refine (ref_build15 _ m w4 R4m.out (by have := HP.out.flat; omega) (by have := HP.out.len; omega)).mono ?_
        rintro e w5 ⟨r5, rfl, M5, hE, hM⟩
        have HB5 := Lib.hid (HB4.out.trans (hE.bel.mono HB4.out.size))
        have HT5 := Lib.hid (I.below HT4.out hE.bel)
        have R5 : Hid (RdE w5 r5 (buildP m)) := by show RdE _ _ _; rw [← hM]; exact hE.rd
        have R5t := Lib.hid (R4t.out.below hE.bel)
        obtain ⟨p5, c5, hv⟩ := R5.out.shape
        subst hv
        clear HB4 R4m R4t HT4 hE hM
        obtain ⟨D, hD⟩ : ∃ D, buildP m = D := ⟨_, rfl⟩
        have HmN : Hid (m.length = m.length) := rfl
        rw [hD] at R5 HI HBy ⊢
        clear hD
        go_wp2_with fail
        refine (prog15 _ D w5 R5.out (by have := HI.out.ok.len; omega)).mono ?_
        rintro e w6 ⟨r6, rfl, M6, hE, hM⟩
        have HB6 := Lib.hid (HB5.out.trans (hE.bel.mono HB5.out.size))
        have HT6 := Lib.hid (I.below HT5.out hE.bel)
        have R6 : Hid (RdE w6 r6 D) := by show RdE _ _ _; rw [← hM]; exact hE.rd
        have R6d := Lib.hid (R5.out.below hE.bel)
        have R6t := Lib.hid (R5t.out.below hE.bel)
        obtain ⟨p6, c6, hv⟩ := R6.out.shape
        subst hv
        clear HB5 R5 R5t HT5 hE hM
        have HEn := Lib.hid (I.encode _ _ t D (m.length : Int) w6 HT6.out R6t.out (by have := HTn.out; omega) HTa.out HTf.out R6.out HI.out.idx (by have := HI.out.bnd; omega) (by have := HI.out.ok.len; omega) (fun e he => (HI.out.ser e he).2.1) HBy.out)
        have HRn := Lib.hid (fun W h1 h2 => ref_encode15 (.slice pt t.length ct) (.slice p5 D.length c5) t D W h1 (by have := HTn.out; omega) h2 (by have := HI.out.ok.len; omega) HI.out.ser HBy.out)
        have HLt : Hid (∀ c ∈ (encPoR t D).2, c < 256) := by
          show ∀ c ∈ _, c < 256
          by_cases hin : ∀ e ∈ D, labIn t e.1
          · rw [encPo_ok hin]
            exact encPo_lt HTa.out (by have := HTn.out; omega) (by have := HI.out.bnd; omega) (okEnts_iff.2 ⟨HI.out.idx, hin, by have := HI.out.ok.len; omega, fun e he => by have := (HI.out.ok.ser e he).2; omega⟩)
          · rw [encPoR, if_neg hin]; intro c hc; cases hc
        obtain ⟨o, ho⟩ : ∃ o, encPoR t D = o := ⟨_, rfl⟩
        rw [ho] at HEn HRn HLt
        clear ho
        go_wp2_with fail
        refine HEn.out.mono ?_
        rintro e w7 ⟨⟨r7, rfl, hr, _⟩, hB⟩
        have R7 := Lib.hid hr
        obtain ⟨p7, c7, hv⟩ := hr.shape
        subst hv
        have HB7 := Lib.hid (HB6.out.trans (hB.mono HB6.out.size))
        have HT7 := Lib.hid (I.below HT6.out hB)
        have R7d := Lib.hid (R6d.out.below hB)
        have R7t := Lib.hid (R6t.out.below hB)
        clear hr hB HEn HT6 HB6 R6 R6d R6t
        go_wp2_with fail
        refine (HRn.out w7 R7t.out R7d.out).mono ?_
        rintro e w8 ⟨⟨r8, rfl, hr⟩, hB⟩
        have R8 := Lib.hid (Rd.of_owns hr)
        obtain ⟨p8, c8, hv⟩ := R8.out.shape
        subst hv
        have HB8 := Lib.hid (HB7.out.trans (hB.mono HB7.out.size))
        have HT8 := Lib.hid (I.below HT7.out hB)
        have R8a := Lib.hid (R7.out.below hB)
        clear hr hB HRn HT7 HB7 R7 R7d R7t
        go_wp2_with fail
        refine (HAL.out _ HT8.out).mono ?_
        rintro e w9 ⟨rfl, hB⟩
        have HB9 := Lib.hid (HB8.out.trans (hB.mono HB8.out.size))
        have R9 := Lib.hid (R8.out.below hB)
        have R9a := Lib.hid (R8a.out.below hB)
        clear hB HB8 R8 R8a HT8
        go_wp2_with fail
        refine (equal_any _ _ _ _ o.2 o.2 w9 R9a.out R9.out HLt.out HLt.out).mono ?_
        rintro e w10 ⟨rfl, rfl⟩
        rw [decide_eq_true (rfl : o.2 = o.2)]
        go_wp2_with fail
        go_ret
        exact ⟨rfl, HB9.out⟩
end Go.Proofs.Ytpjfhakmffcolaa.postingsEncode
