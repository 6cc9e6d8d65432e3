/- Layer 4: the reference's reader: Uint, Take. -/
import Derived.Test.YtkgghlhmgolfbaaDoorRef04A
set_option linter.unusedVariables false
namespace Go.Proofs.YtkgghlhmgolfbaaDoor
open Go Go.RowKit

set_option maxHeartbeats 1000000 in
theorem rr_uint (q : Nat) (v : Value) (B : List Nat) (a most : Nat) (w : World) (h : RRd w q v B a 0) (hB : ∀ c ∈ B, c < 256) (ha : a ≤ B.length) (hm : most < 18446744073709551616) :
    Calls Tryd.prog 35 #[.pointer (some ⟨q, 0, none⟩), .int .u64 (most : Int)] w fun en w' => Mods (fun k => k = q) w w' ∧ Got (outUint B a most) (fun c => .int .u64 (c : Int)) (.int .u64 0) (fun b e => RRd w' q v B b e) a en := by
  obtain ⟨c0, c1, c2, f1, f2⟩ := h.cells
  have H := Lib.hid h
  have HB := Lib.hid hB
  obtain ⟨p, c, hv⟩ := h.rd.shape
  subst hv
  have hcs := outUint_cases hB ha most
  have HG := Lib.hid (fun n => calls_flip (ref_get (.slice p B.length c) B (a : Int) (w.drewN n) (h.drewN n).rd hB))
  clear h hB
  go_enter Tryd.func35, Tryd.ntmps35
  go_wp2_with fail
  go_quiet ((go_at_call 56; exact Calls.quiet_of_same (HG.out _)))
  have H1 := Lib.hid (H.out.drewN nq)
  obtain ⟨c0, c1, c2, f1, f2⟩ := H1.out.cells
  have HM1 : Hid (Mods (fun k => k = q) w (w.drewN nq)) := Mods.drewN _ _ _
  generalize w.drewN nq = w1 at *
  clear HG H
  rcases hcs with ⟨e, he, hr, ho⟩ | ⟨x, to, hr, hto, htl, hx, ho⟩
  · rw [hr]
    have HO := Lib.hid ho
    have heb : ((e : Int) == 0) = false := by rw [beq_eq_false_iff_ne]; omega
    clear hr ho
    go_wp2_with fail
    refine (rr_fail q _ B a 0 (e : Int) _ H1.out).mono ?_
    rintro en w2 ⟨rfl, hR, hm⟩
    rw [if_pos rfl] at hR
    have HM := Lib.hid (HM1.out.trans hm (fun _ _ e => e))
    have HR := Lib.hid hR
    clear hR hm
    go_wp2_with fail
    go_ret
    exact ⟨HM.out, by rw [HO.out]; exact ⟨rfl, HR.out⟩⟩
  · rw [hr]
    have HO := Lib.hid ho
    clear hr ho
    by_cases hlt : most < x
    · have hlt' : (most : Int) < (x : Int) := by omega
      rw [if_pos hlt] at HO
      go_wp2_with fail
      refine (rr_fail q _ B a 0 7 _ H1.out).mono ?_
      rintro en w2 ⟨rfl, hR, hm⟩
      rw [if_pos rfl] at hR
      have HM := Lib.hid (HM1.out.trans hm (fun _ _ e => e))
      have HR := Lib.hid hR
      clear hR hm
      go_wp2_with fail
      go_ret
      exact ⟨HM.out, by rw [HO.out]; exact ⟨rfl, HR.out⟩⟩
    · have hlt' : ¬ (most : Int) < (x : Int) := by omega
      rw [if_neg hlt] at HO
      go_wp2_with fail
      go_ret
      exact ⟨HM1.out.trans (mods_set _ q 1 _) (fun _ _ e => e), by rw [HO.out]; exact ⟨rfl, H1.out.setAt to⟩⟩
end Go.Proofs.YtkgghlhmgolfbaaDoor
