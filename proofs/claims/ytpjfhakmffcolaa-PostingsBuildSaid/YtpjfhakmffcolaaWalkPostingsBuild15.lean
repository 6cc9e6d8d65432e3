/- Layer 15: PostingsBuild, walked over the interface. -/
import Derived.Test.YtpjfhakmffcolaaMrg5
import Derived.Test.YtpjfhakmffcolaaMrg7
import Derived.Test.YtpjfhakmffcolaaMrg8
set_option linter.unusedVariables false
namespace Go.Proofs.Ytpjfhakmffcolaa.postingsBuild
open Go Go.RowKit
variable {G : Nat} {T : World → Prop}

set_option maxRecDepth 20000 in
set_option maxHeartbeats 8000000 in
theorem walk (I : PoIf G T) (hal : ∀ w, T w → Calls Try.prog 10 #[] w fun e w' => e = .returned (.bool true) ∧ Below w.heap.size w w')
    (w : World) (hT : T w) (lv : Value) (l : List (List Lab)) (okl : ∀ s ∈ l, LabSized s) (hl : RdBL w lv l) :
    Calls Try.prog 3 #[lv] w fun e w' => e = .returned (.bool true) ∧ Below w.heap.size w w' := by
  have HT := Lib.hid hT; have HAL := Lib.hid hal; have HSl := Lib.hid okl
  have HLl := Lib.hid hl
  obtain ⟨pl, cl, hv⟩ := hl.shape
  subst hv
  clear hT hal okl hl
  go_enter Try.func3, Try.ntmps3
  go_wp2_with fail
  refine (norm15 _ l w HLl.out HSl.out).mono ?_
  rintro e w1 ⟨he, hB⟩
  have HB1 := Lib.hid hB
  have HT1 := Lib.hid (I.below HT.out hB)
  clear HT HLl hB
  rcases he with rfl | ⟨mv, rfl, hs, hN, hP⟩
  · go_wp2_with fail
    refine (HAL.out _ HT1.out).mono ?_
    rintro e wz ⟨rfl, hB⟩
    have HBz := Lib.hid (HB1.out.trans (hB.mono HB1.out.size))
    go_wp2_with fail
    go_ret
    exact ⟨rfl, HBz.out⟩
  · obtain ⟨m, hm⟩ : ∃ m, normsP l = m := ⟨_, rfl⟩
    rw [hm] at hN hP
    have HP := Lib.hid hP
    have R1m := Lib.hid hN.rd
    have HI := Lib.hid (small_idx hP)
    obtain ⟨pm, cm, hv⟩ := R1m.out.shape
    subst hv
    clear hm hN hP
    go_wp2_with fail
    refine (HAL.out _ HT1.out).mono ?_
    rintro e w2 ⟨rfl, hB⟩
    have HB2 := Lib.hid (HB1.out.trans (hB.mono HB1.out.size))
    have HT2 := Lib.hid (I.below HT1.out hB)
    have R2m := Lib.hid (R1m.out.below hB)
    clear HT1 HB1 R1m hB
    go_wp2_with fail
    refine (I.build _ m w2 HT2.out R2m.out HP.out).mono ?_
    rintro e w3 ⟨r, rfl, hr, hB⟩
    have HB3 := Lib.hid (HB2.out.trans (hB.mono HB2.out.size))
    have R3m := Lib.hid (R2m.out.below hB)
    have R3 := Lib.hid hr
    obtain ⟨pr, cr, hv⟩ := hr.shape
    subst hv
    clear HT2 HB2 R2m hB hr
    go_wp2_with fail
    refine (refr15 _ _ w3 R3.out (by have := HI.out.ok.len; omega)).mono ?_
    rintro e w4 ⟨r4, rfl, M4, hE, hM⟩
    have HB4 := Lib.hid (HB3.out.trans (hE.bel.mono HB3.out.size))
    have R4m := Lib.hid (R3m.out.below hE.bel)
    have R4 : Hid (RdE w4 r4 (buildP m)) := by show RdE _ _ _; rw [← hM]; exact hE.rd
    obtain ⟨p4, c4, hv⟩ := R4.out.shape
    subst hv
    clear HB3 R3m R3 hE hM
    go_wp2_with fail
    refine (ref_build15 _ m w4 R4m.out (by have := HP.out.flat; omega) (by have := HP.out.len; omega)).mono ?_
    rintro e w5 ⟨r5, rfl, M5, hE, hM⟩
    have HB5 := Lib.hid (HB4.out.trans (hE.bel.mono HB4.out.size))
    have R5 : Hid (RdE w5 r5 (buildP m)) := by show RdE _ _ _; rw [← hM]; exact hE.rd
    have R5a := Lib.hid (R4.out.below hE.bel)
    obtain ⟨p5, c5, hv⟩ := R5.out.shape
    subst hv
    clear HB4 R4m R4 hE hM
    have HSm : Hid (SmallE (buildP m)) := ⟨by have := HI.out.ok.len; omega, fun e he => by have := (HI.out.ok.ser e he).2; omega⟩
    go_wp2_with fail
    refine (ref_same15 _ _ (buildP m) (buildP m) w5 R5a.out R5.out HSm.out HSm.out).mono ?_
    rintro e w6 ⟨rfl, hB⟩
    have HB6 := Lib.hid (HB5.out.trans (hB.mono HB5.out.size))
    rw [decide_eq_true (rfl : buildP m = buildP m)]
    clear hB
    go_wp2_with fail
    go_ret
    exact ⟨rfl, HB6.out⟩
end Go.Proofs.Ytpjfhakmffcolaa.postingsBuild
