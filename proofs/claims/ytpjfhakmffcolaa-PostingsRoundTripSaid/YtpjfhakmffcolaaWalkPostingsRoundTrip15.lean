/- Layer 15: PostingsRoundTrip, walked over the interface. -/
import Derived.Test.YtpjfhakmffcolaaMrg5
import Derived.Test.YtpjfhakmffcolaaMrg8
import Derived.Test.YtpjfhakmffcolaaMrg7
import Derived.Test.YtpjfhakmffcolaaMrg19
import Derived.Test.YtpjfhakmffcolaaMrg6
set_option linter.unusedVariables false
namespace Go.Proofs.Ytpjfhakmffcolaa.postingsRoundTrip
open Go Go.RowKit
variable {G : Nat} {T : World → Prop}

set_option maxRecDepth 20000 in
set_option maxHeartbeats 8000000 in
theorem walk (I : PoIf G T) (hal : ∀ w, T w → Calls Try.prog 10 #[] w fun e w' => e = .returned (.bool true) ∧ Below w.heap.size w w')
    (w : World) (hT : T w) (lv : Value) (l : List (List Lab)) (okl : ∀ s ∈ l, LabSized s) (hl : RdBL w lv l) :
    Calls Try.prog 7 #[lv] w fun e w' => e = .returned (.bool true) ∧ Below w.heap.size w w' := by
  have HT := Lib.hid hT; have HAL := Lib.hid hal; have HSl := Lib.hid okl
  have HLl := Lib.hid hl
  obtain ⟨pl, cl, hv⟩ := hl.shape
  subst hv
  clear hT hal okl hl
  go_enter Try.func7, Try.ntmps7
  go_wp2_with fail
  refine (norm15 _ l w HLl.out HSl.out).mono ?_
  rintro e w1 ⟨he, hB⟩
  have HB1 := Lib.hid hB
  have HT1 := Lib.hid (I.below HT.out hB)
  clear HT HLl hB
  rcases he with rfl | ⟨mv, rfl, hs, hN, hP⟩
  · go_wp2_with fail
    refine (HAL.out _ HT1.out).mono ?_
    rintro e wz ⟨rfl, hB⟩
    have HBz := Lib.hid (HB1.out.trans (hB.mono HB1.out.size))
    go_wp2_with fail
    go_ret
    exact ⟨rfl, HBz.out⟩
  · obtain ⟨m, hm⟩ : ∃ m, normsP l = m := ⟨_, rfl⟩
    rw [hm] at hN hP
    have HP := Lib.hid hP
    have R1m := Lib.hid hN.rd
    have HI := Lib.hid (small_idx hP)
    have hmi : (m.length : Int) ≤ 300 := by have := hP.len; omega
    obtain ⟨pm, cm, hv⟩ := R1m.out.shape
    subst hv
    clear hm hN hP
    go_wp2_with fail
    refine (table15 _ m w1 R1m.out (by have := HP.out.len; omega) (by have := HP.out.flat; omega)).mono ?_
    rintro e w2 ⟨tv, rfl, hO⟩
    have R2t : Hid (Rd w2 1 tv (tabS (strsP m)).length (strs (tabS (strsP m)))) := hO.rd
    obtain ⟨pt, ct, hv⟩ := R2t.out.shape
    subst hv
    have HB2 := Lib.hid (HB1.out.trans (hO.bel.mono HB1.out.size))
    have HT2 := Lib.hid (I.below HT1.out hO.bel)
    have R2m := Lib.hid (R1m.out.below hO.bel)
    clear HT1 HB1 R1m hO
    have HTa := Lib.hid (tabS_asc (strsP m)); have HTf : Hid (Fits (tabS (strsP m))) := tabS_fits (strings_fit HP.out)
    have HLi : Hid (∀ e ∈ buildP m, labIn (tabS (strsP m)) e.1) := labs_in_table m
    obtain ⟨t, ht⟩ : ∃ t, tabS (strsP m) = t := ⟨_, rfl⟩
    rw [ht] at R2t HTa HTf HLi ⊢
    clear ht
    go_wp2_with fail
    refine (large10 _ t w2 R2t.out (fun z hz => by have := HTf.out z hz; omega)).mono ?_
    rintro e w3 ⟨he, hB⟩
    have HB3 := Lib.hid (HB2.out.trans (hB.mono HB2.out.size))
    have HT3 := Lib.hid (I.below HT2.out hB)
    have R3m := Lib.hid (R2m.out.below hB)
    have R3t := Lib.hid (R2t.out.below hB)
    clear HT2 HB2 R2m R2t hB
    rcases he with rfl | ⟨rfl, h5, _⟩
    · go_wp2_with fail
      refine (HAL.out _ HT3.out).mono ?_
      rintro e wz ⟨rfl, hB⟩
      have HBz := Lib.hid (HB3.out.trans (hB.mono HB3.out.size))
      go_wp2_with fail
      go_ret
      exact ⟨rfl, HBz.out⟩
    · have HTn : Hid (t.length ≤ 500) := h5
      clear h5
      have HBy := Lib.hid (HI.out.bytes8 (t := t) (by have := HTn.out; omega))
      go_wp2_with fail
      refine (ref_build15 _ m w3 R3m.out (by have := HP.out.flat; omega) (by have := HP.out.len; omega)).mono ?_
      rintro e w5 ⟨r5, rfl, M5, hE, hM⟩
      have HB5 := Lib.hid (HB3.out.trans (hE.bel.mono HB3.out.size))
      have HT5 := Lib.hid (I.below HT3.out hE.bel)
      have R5 : Hid (RdE w5 r5 (buildP m)) := by show RdE _ _ _; rw [← hM]; exact hE.rd
      have R5t := Lib.hid (R3t.out.below hE.bel)
      obtain ⟨p5, c5, hv⟩ := R5.out.shape
      subst hv
      clear HB3 R3m R3t HT3 hE hM
      obtain ⟨D, hD⟩ : ∃ D, buildP m = D := ⟨_, rfl⟩
      rw [hD] at R5 HI HBy HLi ⊢
      clear hD
      go_wp2_with fail
      refine (prog15 _ D w5 R5.out (by have := HI.out.ok.len; omega)).mono ?_
      rintro e w6 ⟨r6, rfl, M6, hE, hM⟩
      have HB6 := Lib.hid (HB5.out.trans (hE.bel.mono HB5.out.size))
      have HT6 := Lib.hid (I.below HT5.out hE.bel)
      have R6 : Hid (RdE w6 r6 D) := by show RdE _ _ _; rw [← hM]; exact hE.rd
      have R6d := Lib.hid (R5.out.below hE.bel)
      have R6t := Lib.hid (R5t.out.below hE.bel)
      obtain ⟨p6, c6, hv⟩ := R6.out.shape
      subst hv
      clear HB5 R5 R5t HT5 hE hM
      have HOk := Lib.hid (HI.out.okE HLi.out)
      have hen := I.encode _ _ t D (m.length : Int) w6 HT6.out R6t.out (by have := HTn.out; omega) HTa.out HTf.out R6.out HI.out.idx (by have := HI.out.bnd; omega) (by have := HI.out.ok.len; omega) (fun e he => (HI.out.ser e he).2.1) (Nat.le_trans HBy.out (by decide))
      rw [encPo_ok HLi.out] at hen
      have HEn := Lib.hid hen
      have HLt := Lib.hid (encPo_lt HTa.out (by have := HTn.out; omega) (by have := HI.out.bnd; omega) HOk.out)
      have HBk := Lib.hid (decPo_back HTa.out (by have := HTn.out; omega) (by have := HI.out.bnd; omega) (by omega) HOk.out)
      clear hen
      obtain ⟨B, hBe⟩ : ∃ B, entsBytes t D = B := ⟨_, rfl⟩
      rw [hBe] at HEn HLt HBk HBy
      clear hBe
      go_wp2_with fail
      refine HEn.out.mono ?_
      rintro e w7 ⟨⟨r7, rfl, hr, _⟩, hB⟩
      have R7 : Hid (Rd w7 1 r7 B.length (u8s B)) := hr
      obtain ⟨p7, c7, hv⟩ : ∃ p c, r7 = .slice p B.length c := hr.shape
      subst hv
      have HB7 := Lib.hid (HB6.out.trans (hB.mono HB6.out.size))
      have HT7 := Lib.hid (I.below HT6.out hB)
      have R7d := Lib.hid (R6d.out.below hB)
      have R7t := Lib.hid (R6t.out.below hB)
      clear hr hB HEn HT6 HB6 R6 R6d R6t
      have hde := I.decode _ _ t (m.length : Int) B w7 HT7.out R7t.out (by have := HTn.out; omega) HTa.out HTf.out (by omega) R7.out HLt.out HBy.out
      rw [HBk.out] at hde
      have HDe := Lib.hid hde
      clear hde
      go_wp2_with fail
      refine HDe.out.mono ?_
      rintro e w8 ⟨⟨r8, rfl, hr⟩, hB⟩
      have R8 : Hid (RdE w8 r8 D) := hr
      obtain ⟨p8, c8, hv⟩ := R8.out.shape
      subst hv
      have HB8 := Lib.hid (HB7.out.trans (hB.mono HB7.out.size))
      have HT8 := Lib.hid (I.below HT7.out hB)
      have R8d := Lib.hid (R7d.out.below hB)
      clear hr hB HDe HT7 HB7 R7 R7d R7t
      go_wp2_with fail
      refine (HAL.out _ HT8.out).mono ?_
      rintro e w9 ⟨rfl, hB⟩
      have HB9 := Lib.hid (HB8.out.trans (hB.mono HB8.out.size))
      have R9 := Lib.hid (R8.out.below hB)
      have R9d := Lib.hid (R8d.out.below hB)
      clear hB HB8 R8 R8d HT8
      go_wp2_with fail
      refine (refr15 _ D w9 R9.out (by have := HI.out.ok.len; omega)).mono ?_
      rintro e w10 ⟨r10, rfl, M10, hE, hM⟩
      have HB10 := Lib.hid (HB9.out.trans (hE.bel.mono HB9.out.size))
      have R10 : Hid (RdE w10 r10 D) := by show RdE _ _ _; rw [← hM]; exact hE.rd
      have R10d := Lib.hid (R9d.out.below hE.bel)
      obtain ⟨p10, c10, hv⟩ := R10.out.shape
      subst hv
      have HSm : Hid (SmallE D) := ⟨by have := HI.out.ok.len; omega, fun e he => by have := (HI.out.ok.ser e he).2; omega⟩
      clear hE hM HB9 R9 R9d
      go_wp2_with fail
      refine (ref_same15 _ _ D D w10 R10.out R10d.out HSm.out HSm.out).mono ?_
      rintro e w11 ⟨rfl, hB⟩
      have HB11 := Lib.hid (HB10.out.trans (hB.mono HB10.out.size))
      rw [decide_eq_true (rfl : D = D)]
      clear hB
      go_wp2_with fail
      go_ret
      exact ⟨rfl, HB11.out⟩
end Go.Proofs.Ytpjfhakmffcolaa.postingsRoundTrip
