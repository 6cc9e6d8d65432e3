/- RcO, RcP, BytesClone, WireFn, RcQ, Iface13, in one text. -/
import Derived.Test.YtmnagmbokajfpaaMrg11
import Derived.Test.YtmnagmbokajfpaaMrg7
import Derived.Deep.CutRange
import Derived.Deep.Cut
import Derived.Test.YtmnagmbokajfpaaMrg5
import Derived.Test.YtmnagmbokajfpaaMrg10

section
/- Layer 13, the program's own: a record. -/
set_option linter.unusedVariables false
set_option maxRecDepth 20000
namespace Go.Proofs.Ytmnagmbokajfpaa
open Go Go.RowKit

theorem strRec13 : Str Try.prog 55 2 [.slice none 0 0, .slice none 0 0] := Str.mk' Try.underlying55 rfl (by kernel_rfl) rfl
theorem lens_fin {B : List Nat} {a e a2 e2 : Nat} {l : List Int} (h : outE (pLens0 B a) e = fin l a2 e2) : outE (pLens B a) e = fin l a2 (if l = [] then (if e2 = 0 then 23 else e2) else e2) := by
  have key : ∀ (n b : Nat) (u : List Int) (b' : Nat), pMany pLen B n b [] = .ok u b' → (u = [] ↔ n = 0) := by
    have gen : ∀ (n b : Nat) (acc u : List Int) (b' : Nat), pMany pLen B n b acc = .ok u b' → u.length = acc.length + n := by
      intro n
      induction n with
      | zero => intro b acc u b' h; rw [pMany] at h; cases h; rfl
      | succ n ih =>
        intro b acc u b' h
        rw [pMany] at h
        split at h
        · cases h
        · have := ih _ _ _ _ h
          rw [List.length_append] at this
          simp at this
          omega
    intro n b u b' h
    have := gen n b [] u b' h
    simp only [List.length_nil, Nat.zero_add] at this
    rw [← this, List.length_eq_zero_iff]
  have hp := pList_count 0 pLen B a
  have hp2 := pList_count 23 pLen B a
  have e0 : pLens0 B a = pList 0 pLen B a := rfl
  have e1 : pLens B a = pList 23 pLen B a := rfl
  by_cases h0 : e2 = 0
  · obtain ⟨rfl, ho⟩ := fin_ok h h0
    subst h0
    rw [e0, hp] at ho
    rw [outE_zero, e1, hp2]
    cases hc : outCount B a with
    | bad k => rw [hc] at ho; cases ho
    | ok n b =>
      rw [hc] at ho
      simp only [ne_eq, not_true_eq_false, false_and, if_false] at ho ⊢
      have hk := key n b l a2 ho
      by_cases hl : l = []
      · rw [if_pos ⟨by decide, hk.1 hl⟩, if_pos hl, fin]; simp
      · rw [if_neg (fun e => hl (hk.2 e.2)), if_neg hl, fin, if_pos rfl]
        exact ho
  · have hr : (if l = [] then (if e2 = 0 then 23 else e2) else e2) = e2 := by split <;> simp
    rw [hr]
    rcases fin_bad h h0 with ⟨rfl, ho⟩ | ⟨k, rfl⟩
    · rw [outE_zero, fin, if_neg h0, e1, hp2]
      rw [e0, hp] at ho
      cases hc : outCount B a with
      | bad k => rw [hc] at ho; cases ho; rfl
      | ok n b =>
        rw [hc] at ho
        simp only [ne_eq, not_true_eq_false, false_and, if_false] at ho ⊢
        by_cases hn : n = 0
        · subst hn; rw [pMany] at ho; cases ho
        · rw [if_neg (fun e => hn e.2)]; exact ho
    · rw [outE_ne _ k, fin, if_neg k]

set_option maxHeartbeats 8000000 in
theorem rc_record (g q : Nat) (v : Value) (B : List Nat) (tv : Value) (t : List ByteArray) (a e : Nat) (w : World) (h : RcRd w g q v B tv t a e) (hB : ∀ c ∈ B, c < 256) (hz : B.length ≤ 100000000) (hn : t.length ≤ 1000000) :
    Calls Try.prog 32 #[.pointer (some ⟨g, 0, none⟩)] w fun en w' => Mods (fun k => k = q) w w' ∧ ∃ (h : Hd) (s : Rec) (a' e' : Nat), en = .returned (.agg #[h.1, h.2]) ∧ RecAt w' h s ∧ ((∀ k, h.1.ownBlock = some k → w.heap.size ≤ k) ∧ (∀ k, h.2.ownBlock = some k → w.heap.size ≤ k)) ∧ RcRd w' g q v B tv t a' e' ∧ outE (pRec t B a) e = fin s a' e' := by
  have hb1 : Below w.heap.size w (w.alloc (.cells #[.slice none 0 0, .slice none 0 0] 55)) := (Below.refl _ w).alloc (Nat.le_refl _) _
  have HM1 : Hid (Mods (fun k => k = q) w (w.alloc (.cells #[.slice none 0 0, .slice none 0 0] 55))) := Mods.of_below hb1 _
  have HR1 := Lib.hid (h.below hb1)
  have HG : Hid (Blk (w.alloc (.cells #[.slice none 0 0, .slice none 0 0] 55)) w.heap.size [.slice none 0 0, .slice none 0 0]) := Blk.new _ _ _
  have HS1 : Hid ((w.alloc (.cells #[.slice none 0 0, .slice none 0 0] 55)).heap.size = w.heap.size + 1) := by show _ = _; simp
  have HLw := Lib.hid h.low
  have HB := Lib.hid hB; have HZ := Lib.hid hz; have HN := Lib.hid hn
  clear h hB hz hn hb1
  go_enter Try.func32, Try.ntmps32
  go_wp2_with fail
  generalize w.alloc (.cells #[.slice none 0 0, .slice none 0 0] 55) = w1 at *
  obtain ⟨r, hr⟩ : ∃ r, w.heap.size = r := ⟨_, rfl⟩
  have HRw := Lib.hid hr
  rw [hr] at HG HS1 ⊢
  clear hr
  have HQr : Hid (r ≠ q) := fun e => by have := HLw.out.q; have := HRw.out; omega
  refine (gl_labels g q v B tv t a e w1 HR1.out HB.out HZ.out HN.out).mono ?_
  rintro en w2 ⟨hm2, l1, r1, a1, e1, rfl, ho1, hR2, hf1⟩
  have HM2 := Lib.hid (HM1.out.trans hm2 (fun _ _ e => e)); have HR2 := Lib.hid hR2; have HF1 := Lib.hid hf1; have HO1 := Lib.hid ho1
  have HG2 := Lib.hid (hm2.blk HG.out HQr.out)
  have HS2 : Hid (w1.heap.size ≤ w2.heap.size) := hm2.size
  obtain ⟨p1, c1, hv1⟩ := (Rd.of_owns ho1).shape
  subst hv1
  clear hm2 hR2 hf1 HG HM1 HR1 ho1
  go_wp2_with fail
  refine (gl_lengths g q v B tv t a1 e1 w2 HR2.out HB.out HZ.out HN.out).mono ?_
  rintro en w3 ⟨hm3, l2, r2, a2, e2, rfl, ho2, hR3, hf2⟩
  have HM3 := Lib.hid (HM2.out.trans hm3 (fun _ _ e => e)); have HR3 := Lib.hid hR3; have HO2 := Lib.hid ho2
  have HF : Hid (outE (pRec t B a) e = fin (l1, l2) a2 (if l2 = [] then (if e2 = 0 then 23 else e2) else e2)) := fin_pair HF1.out (lens_fin hf2)
  have HO1' : Hid (w3.ownsRow w1.heap.size 54 2 (.slice p1 l1.length c1) l1.length (labCells l1)) := hm3.owns HO1.out (fun k hk e => by have := (HO1.out.lt k hk).1; have := HLw.out.q; have := HRw.out; have := HS1.out; omega)
  have HG3 := Lib.hid (hm3.blk HG2.out HQr.out)
  have HS3 : Hid (w2.heap.size ≤ w3.heap.size) := hm3.size
  obtain ⟨p2, c2, hv2⟩ := (Rd.of_owns ho2).shape
  subst hv2
  clear hm3 hR3 hf2 HG2 HM2 HR2 HF1 ho2 HO1
  -- what stands at the end, in the world before the result is stored
  have hend : ∀ (w4 : World) (e4 : Nat), (e4 = if l2 = [] then (if e2 = 0 then 23 else e2) else e2) → Mods (fun k => k = q) w3 w4 → RcRd w4 g q v B tv t a2 e4 →
      (Blk ((w4.setCell ⟨r, 0, none⟩ (.slice p1 l1.length c1)).setCell ⟨r, 1, none⟩ (.slice p2 l2.length c2)) r [.slice p1 l1.length c1, .slice p2 l2.length c2]) ∧
      (Mods (fun k => k = q) w ((w4.setCell ⟨r, 0, none⟩ (.slice p1 l1.length c1)).setCell ⟨r, 1, none⟩ (.slice p2 l2.length c2)) ∧ ∃ (h : Hd) (s : Rec) (a' e' : Nat), Ending.returned (.agg #[.slice p1 l1.length c1, .slice p2 l2.length c2]) = .returned (.agg #[h.1, h.2]) ∧ RecAt ((w4.setCell ⟨r, 0, none⟩ (.slice p1 l1.length c1)).setCell ⟨r, 1, none⟩ (.slice p2 l2.length c2)) h s ∧ ((∀ k, h.1.ownBlock = some k → w.heap.size ≤ k) ∧ (∀ k, h.2.ownBlock = some k → w.heap.size ≤ k)) ∧ RcRd ((w4.setCell ⟨r, 0, none⟩ (.slice p1 l1.length c1)).setCell ⟨r, 1, none⟩ (.slice p2 l2.length c2)) g q v B tv t a' e' ∧ outE (pRec t B a) e = fin s a' e') := by
    intro w4 e4 he4 hm4 hR4
    have hrw := HRw.out; have hs1 := HS1.out; have hs2 := HS2.out; have hs3 := HS3.out; have hl := HLw.out
    have hmr : Mods (fun k => k = r) w4 ((w4.setCell ⟨r, 0, none⟩ (.slice p1 l1.length c1)).setCell ⟨r, 1, none⟩ (.slice p2 l2.length c2)) := (Mods.set (fun k => k = r) _ _ _ (fun _ => rfl)).trans (Mods.set (fun k => k = r) _ _ _ (fun _ => rfl)) (fun _ _ e => e)
    have ho1 : w4.ownsRow w1.heap.size 54 2 (.slice p1 l1.length c1) l1.length (labCells l1) := hm4.owns HO1'.out (fun k hk e => by have := (HO1'.out.lt k hk).1; have := hl.q; omega)
    have ho2 : w4.ownsRow w2.heap.size 3 1 (.slice p2 l2.length c2) l2.length (i64s l2) := hm4.owns HO2.out (fun k hk e => by have := (HO2.out.lt k hk).1; have := hl.q; omega)
    have ho1' := hmr.owns ho1 (fun k hk e => by have := (ho1.lt k hk).1; omega)
    have ho2' := hmr.owns ho2 (fun k hk e => by have := (ho2.lt k hk).1; omega)
    refine ⟨(hm4.blk HG3.out HQr.out).set2 _ _, (HM3.out.trans hm4 (fun _ _ e => e)).trans hmr (fun j hj e => by omega), (.slice p1 l1.length c1, .slice p2 l2.length c2), (l1, l2), a2, e4, rfl, ⟨Rd.of_owns ho1', Rd.of_owns ho2'⟩, ⟨fun k hk => by have := (ho1.lt k hk).1; omega, fun k hk => by have := (ho2.lt k hk).1; omega⟩, ?_, by rw [he4]; exact HF.out⟩
    exact hR4.mods hmr (fun e => by have := hl.g; omega) (fun e => by have := hl.q; omega) (fun hne k hk e => by have := hl.v hne k hk; omega) (fun hne k hk e => by have := hl.t hne k hk; omega)
  have HEnd := Lib.hid hend
  clear hend
  by_cases h0 : l2.length = 0
  · have h0i : (l2.length : Int) = 0 := by omega
    have hl2 : l2 = [] := List.eq_nil_of_length_eq_zero h0
    have HFl := Lib.hid (rc_fail g q v B tv t a2 e2 23 w3 HR3.out)
    rw [show ((23 : Nat) : Int) = 23 from rfl] at HFl
    obtain ⟨g0, g1, g2⟩ := HR3.out.cells
    have HL2 := Lib.hid hl2
    clear h0 hl2
    go_wp2_with fail
    refine HFl.out.mono ?_
    rintro en w4 ⟨rfl, hR4, hm4⟩
    obtain ⟨hb, hp⟩ := HEnd.out w4 _ (by rw [if_pos HL2.out]) hm4 hR4
    obtain ⟨⟨c0, c1'⟩, f0, f1⟩ := (hm4.blk HG3.out HQr.out).two
    have HBk := Lib.hid hb; have HP := Lib.hid hp
    clear hR4 hm4 hb hp HFl g0 g1 g2
    go_wp2_with fail
    refine bodyPost_ret (resultsS (p := 2) strRec13 (by kernel_rfl) _ r rfl [.slice p1 l1.length c1, .slice p2 l2.length c2] HBk.out rfl) rfl ?_
    exact HP.out
  · have h0i : ¬ (l2.length : Int) = 0 := by omega
    have hcb : ((l2.length : Int) == 0) = false := by rw [beq_eq_false_iff_ne]; exact h0i
    have HL2 : Hid (¬ l2 = []) := fun e => h0 (by rw [e]; rfl)
    obtain ⟨hb, hp⟩ := HEnd.out w3 _ (by rw [if_neg HL2.out]) (Mods.refl _ _) HR3.out
    obtain ⟨⟨c0, c1'⟩, f0, f1⟩ := HG3.out.two
    have HBk := Lib.hid hb; have HP := Lib.hid hp
    clear hb hp h0
    go_wp2_with fail
    refine bodyPost_ret (resultsS (p := 2) strRec13 (by kernel_rfl) _ r rfl [.slice p1 l1.length c1, .slice p2 l2.length c2] HBk.out rfl) rfl ?_
    exact HP.out
end Go.Proofs.Ytmnagmbokajfpaa

end

section
/- Layer 13, the program's own: lists of records. -/
set_option linter.unusedVariables false
set_option maxRecDepth 20000
namespace Go.Proofs.Ytmnagmbokajfpaa
open Go Go.RowKit

theorem elemRc13 : Elem Try.prog 28 55 2 48 := Elem.mk' (z := .agg #[.slice none 0 0, .slice none 0 0]) Try.underlying28 (by kernel_rfl) rfl (by decide)
/-- The records under way, in a row that is newer than the call. -/
structure DcN (t : TypeId) (w0 : World) (q N : Nat) (wr : World) (hs : List Hd) (acc : List Rec) (vv : Value) : Prop where
  dc : DcIn t w0 q wr hs acc vv
  far : ∀ k, vv.ownBlock = some k → N ≤ k
set_option maxHeartbeats 16000000 in
theorem gl_records (g q : Nat) (v : Value) (B : List Nat) (tv : Value) (t : List ByteArray) (a e : Nat) (w0 w : World) (hb0 : Below w0.heap.size w0 w) (hq0 : w0.heap.size ≤ q) (h : RcRd w g q v B tv t a e) (hB : ∀ c ∈ B, c < 256) (hz : B.length ≤ 100000000) (hn : t.length ≤ 1000000) :
    Calls Try.prog 31 #[.pointer (some ⟨g, 0, none⟩), .func (.func 32) #[.pointer (some ⟨g, 0, none⟩)] #[]] w fun en w' => Mods (fun k => k = q) w w' ∧ ∃ (l : List Rec) (hs : List Hd) (r : Value) (a' e' : Nat), en = .returned r ∧ DcN 55 w0 q w.heap.size w' hs l r ∧ RcRd w' g q v B tv t a' e' ∧ outE (pRecs t B a) e = fin l a' e' := by
  have HU := Lib.hid (rc_number g q v B tv t a e w h hB hz)
  have HB := Lib.hid hB; have HZ := Lib.hid hz; have HN := Lib.hid hn; have HA := Lib.hid h.at_; have HLw := Lib.hid h.low
  have hbm : (B.length : Int) ≤ 100000000 := by omega
  obtain ⟨T, hT⟩ : ∃ T, outE (pRecs t B a) e = T := ⟨_, rfl⟩
  have HT := Lib.hid hT
  rw [hT]
  have HB0 := Lib.hid hb0; have HQ0 := Lib.hid hq0
  clear h hB hz hn hT hb0 hq0
  go_enter Try.func31, Try.ntmps31
  go_wp2_with fail
  refine HU.out.mono ?_
  rintro en w1 ⟨hm, n, b, e1, rfl, hn, hR, hf, h0⟩
  have HM1 := Lib.hid hm; have HR1 := Lib.hid hR; have HF := Lib.hid hf; have H0 := Lib.hid h0; have HNn := Lib.hid hn
  have hbl := hR.at_
  have hw : IntKind.u64.wrap ((B.length : Int) - (b : Int)) = ((B.length - b : Nat) : Int) := by rw [IntKind.wrap_u64]; omega
  obtain ⟨g0, g1, g2⟩ := hR.cells
  have HAt := Lib.hid (fun k => rd_at q v B b (e1 : Int) (w1.drewN k) (HR1.out.rr.drewN k))
  obtain ⟨D, hD⟩ : ∃ D, B.length - b = D := ⟨_, rfl⟩
  have HD := Lib.hid hD
  rw [hD] at hw
  clear HU hm hR hf h0 hn hD
  go_wp2_with fail
  go_quiet ((go_at_call 48; exact Calls.quiet_of_same (HAt.out _)))
  have HR2 := Lib.hid (HR1.out.below (below_drewN w1 nq))
  have HM2 : Hid (Mods (fun k => k = q) w (w1.drewN nq)) := HM1.out.trans (Mods.drewN _ _ _) (fun _ _ e => e)
  clear HAt HM1 HR1 g0 g1 g2
  generalize w1.drewN nq = w2 at *
  obtain ⟨g0, g1, g2⟩ := HR2.out.cells
  go_upto_if 22 with fail
  go_cut [22] from 10 to 28 (fun bv wx => ∃ (bb : Bool) (e2 : Nat), bv = .bool bb ∧ Hid (T = outE (pMany (pRec t) B (n - 0) b []) e2 ∧ (e2 = 0 → n ≤ 100000000)) ∧ Hid (RcRd wx g q v B tv t b e2) ∧ Hid (Mods (fun k => k = q) w wx))
  case first =>
    by_cases hlt : D < n
    · have hlt' : (D : Int) < (n : Int) := by omega
      obtain ⟨he1, hst⟩ := list_short (p := pRec t) HB.out HA.out HF.out H0.out (by have := HD.out; omega)
      subst he1
      have hfl := rc_fail g q v B tv t b 0 3 w2 HR2.out
      rw [if_pos rfl, show ((3 : Nat) : Int) = 3 from rfl] at hfl
      have HFl := Lib.hid hfl
      have HX : Hid (T = outE (pMany (pRec t) B (n - 0) b []) 3 ∧ ((3 : Nat) = 0 → n ≤ 100000000)) := ⟨HT.out.symm.trans hst, fun h => absurd h (by decide)⟩
      clear hst hlt hfl
      go_wp2_with fail
      refine HFl.out.mono ?_
      rintro en w3 ⟨rfl, hR3, hm3⟩
      have HR3 := Lib.hid hR3
      have HM3 := Lib.hid (HM2.out.trans hm3 (fun _ _ e => e))
      clear HFl hR3 hm3
      go_wp2_with fail
      go_meet
      exact ⟨_, 3, rfl, HX.out, HR3.out, HM3.out⟩
    · have hlt' : ¬ (D : Int) < (n : Int) := by omega
      have HX : Hid (T = outE (pMany (pRec t) B (n - 0) b []) e1 ∧ (e1 = 0 → n ≤ 100000000)) := ⟨HT.out.symm.trans (list_start HB.out HA.out HF.out (by have := HD.out; omega)), fun _ => by have := HD.out; omega⟩
      go_wp2_with fail
      go_meet
      exact ⟨_, e1, rfl, HX.out, HR2.out, HM2.out⟩
  case rest =>
  obtain ⟨bb, e2, rfl, HX, HR3, HM3⟩ := hcut
  clear g0 g1 g2 HR2 HM2 HD hw hbl
  go_wp2_with fail
  have HO0 : Hid (DcN 55 w0 q w.heap.size wc [] [] (.slice none 0 0)) := ⟨(⟨⟨⟨World.ownsRow_nil _ _ _ _, HB0.out.trans (HM3.out.below HB0.out.size (fun k hk e => by have := HQ0.out; omega))⟩, rfl, fun i h s hi _ => by simp at hi⟩, (fun k hk => by cases hk), fun i h s hi _ => by simp at hi⟩ : DcIn _ w0 q wc [] [] _), fun k hk => by cases hk⟩
  go_loopw [6, 29] (fun vv iv wr => ∃ (i x e' : Nat) (acc : List Rec) (hs : List Hd), i ≤ n ∧ iv = .int .u64 (i : Int) ∧ Hid (acc.length = i ∧ (e' = 0 → n ≤ 100000000) ∧ T = outE (pMany (pRec t) B (n - i) x acc) e') ∧ Hid (DcN 55 w0 q w.heap.size wr hs acc vv) ∧ Hid (Mods (fun k => k = q) w wr) ∧ Hid (RcRd wr g q v B tv t x e')) (fun _ iv _ => n - (intOf iv).toNat)
  case atStart => exact ⟨0, b, e2, [], [], Nat.zero_le _, rfl, ⟨rfl, HX.out.2, HX.out.1⟩, HO0.out, HM3.out, HR3.out⟩
  case round =>
    obtain ⟨i, x, e', acc, hs, hi, rfl, HI, HO, HM, HR⟩ := hrel
    clear HX HR3 HM3 HO0
    obtain ⟨pv, cv, hvv⟩ := HO.out.dc.nr.row.rd.shape
    subst hvv
    by_cases hlt : i < n
    · have hlt' : (i : Int) < (n : Int) := by omega
      have HGt := Lib.hid (rc_record g q v B tv t x e' wr HR.out HB.out HZ.out HN.out)
      go_wp2_with fail
      refine HGt.out.mono ?_
      rintro en w3 ⟨hm3, ⟨s1, s2⟩, s0, x3, e3, rfl, hA3, hfar, hR3, hf3⟩
      simp only at hA3 hfar
      have hof3 : ∀ k, (Value.slice pv hs.length cv).ownBlock = some k → k < wr.heap.size := fun k hk => (HO.out.dc.nr.row.row.lt k hk).2
      have HRo : Hid (RecOff (fun j => (Value.slice pv hs.length cv).ownBlock = some j) (s1, s2) s0 ∧ RecOff (fun j => j = q) (s1, s2) s0) := ⟨⟨fun _ k hk e => by have := hfar.1 k hk; have := hof3 k e; omega, fun _ k hk e => by have := hfar.2 k hk; have := hof3 k e; omega⟩, ⟨fun _ k hk e => by have := hfar.1 k hk; have := HR.out.rr.blk.lt; omega, fun _ k hk e => by have := hfar.2 k hk; have := HR.out.rr.blk.lt; omega⟩⟩
      obtain ⟨⟨ps1, cs1, hs1⟩, ⟨ps2, cs2, hs2⟩⟩ : (∃ p c, s1 = .slice p s0.1.length c) ∧ (∃ p c, s2 = .slice p s0.2.length c) := ⟨hA3.1.shape, hA3.2.shape⟩
      have HF3 := Lib.hid hf3
      have HM3 := Lib.hid (HM.out.trans hm3 (fun _ _ e => e))
      have HO3 : Hid (DcN 55 w0 q w.heap.size w3 hs acc (.slice pv hs.length cv)) := ⟨HO.out.dc.mods hm3 HQ0.out, HO.out.far⟩
      have hbA : Hid (Below w3.heap.size w3 (w3.alloc (.cells #[s1, s2] 55))) := (Below.refl _ w3).alloc (Nat.le_refl _) _
      have HM4 := Lib.hid (HM3.out.trans (Mods.of_below hbA.out (fun k => k = q)) (fun _ _ e => e))
      have HR4 := Lib.hid (hR3.below hbA.out)
      have HO4 : Hid (DcN 55 w0 q w.heap.size (w3.alloc (.cells #[s1, s2] 55)) hs acc (.slice pv hs.length cv)) := ⟨HO3.out.dc.below hbA.out, HO3.out.far⟩
      have HA4 : Hid (RecAt (w3.alloc (.cells #[s1, s2] 55)) (s1, s2) s0) := hA3.below hbA.out
      have HG : Hid (Blk (w3.alloc (.cells #[s1, s2] 55)) w3.heap.size [s1, s2]) := Blk.new _ _ _
      have HS3 : Hid (w.heap.size ≤ w3.heap.size) := HM3.out.size
      obtain ⟨g0, g1, g2⟩ := HR4.out.cells
      obtain ⟨⟨c0, c1⟩, f0, f1⟩ := HG.out.two
      subst hs1; subst hs2
      clear HGt hm3 hR3 hf3 HO HM HR HO3 HM3 hbA hA3 hfar hof3
      go_wp2_with fail
      generalize w3.alloc (.cells #[.slice ps1 s0.1.length cs1, .slice ps2 s0.2.length cs2] 55) = w4 at *
      obtain ⟨r, hr⟩ : ∃ r, w3.heap.size = r := ⟨_, rfl⟩
      rw [hr] at HG HS3 c0 c1 f0 f1 ⊢
      clear hr
      have HEr := Lib.hid (rd_err q v B x3 (e3 : Int) w4 HR4.out.rr)
      refine HEr.out.mono ?_
      rintro en w5 ⟨rfl, rfl⟩
      clear HEr
      by_cases he : e3 = 0
      · subst he
        have HI2 : Hid ((acc ++ [s0]).length = i + 1 ∧ ((0 : Nat) = 0 → n ≤ 100000000) ∧ T = outE (pMany (pRec t) B (n - (i + 1)) x3 (acc ++ [s0])) 0) := by
          obtain ⟨a1, a2, a3⟩ := HI.out
          have he' : e' = 0 := (fin_ok HF3.out rfl).1
          exact ⟨by rw [List.length_append, a1]; rfl, fun _ => a2 he', list_step hlt a3 HF3.out rfl⟩
        have hnm : (n : Int) ≤ 100000000 := by have := HI2.out.2.1 rfl; omega
        have HLb : Hid ((hs.length + 1) * 48 ≤ 140737488355328 ∧ hs.length + 1 ≤ maxLen) := by show _ ∧ _; have := HI.out.1; have := HO4.out.dc.nr.len; unfold maxLen; omega
        have HOz := Lib.hid HO4.out.dc.nr.row.base0
        have HZq : Hid (q < w5.heap.size) := HR4.out.rr.blk.lt
        clear HF3 HI HG hlt
        go_wp2_with (at_builtin; refine wpList_push elemRc13 _ #[.slice ps1 s0.1.length cs1, .slice ps2 s0.2.length cs2] _ _ _ HOz.out rfl (by simp [Value.oneCell']) HLb.out rfl _ _ rfl rfl rfl ?_)
        intro v6 w6 k1 m1 h1
        have hof : ∀ k, (Value.slice pv hs.length cv).ownBlock = some k → w.heap.size ≤ k := HO4.out.far
        have HO6 : Hid (DcN 55 w0 q w.heap.size w6 (hs ++ [((.slice ps1 s0.1.length cs1, .slice ps2 s0.2.length cs2) : Hd)]) (acc ++ [s0]) v6) := by
          refine ⟨⟨HO4.out.dc.nr.pushed (h := (.slice ps1 s0.1.length cs1, .slice ps2 s0.2.length cs2)) (s := s0) HA4.out HRo.out.1 k1 m1 h1, fun k hk => ?_, fun i' h' s' hi' hj' => ?_⟩, fun k hk => ?_⟩
          · rcases h1 k hk with e | e
            · have := hof k e; have := HLw.out.q; omega
            · have := HZq.out; omega
          · rcases getElem?_snoc hi' with e | ⟨e, rfl⟩
            · rcases getElem?_snoc hj' with f | ⟨f, _⟩
              · exact HO4.out.dc.hq i' h' s' e f
              · have := (List.getElem?_eq_some_iff.1 e).1; have := HO4.out.dc.nr.len; omega
            · rcases getElem?_snoc hj' with f | ⟨_, rfl⟩
              · have := (List.getElem?_eq_some_iff.1 f).1; have := HO4.out.dc.nr.len; omega
              · exact HRo.out.2
          · rcases h1 k hk with e | e
            · exact hof k e
            · have := HM4.out.size; omega
        have HM6 : Hid (Mods (fun k => k = q) w w6) := HM4.out.trans m1 (fun j hj e => by have := hof j e; omega)
        have HR6 : Hid (RcRd w6 g q v B tv t x3 0) := HR4.out.mods m1 (fun e => by have := hof g e; have := HLw.out.g; omega) (fun e => by have := hof q e; have := HLw.out.q; omega) (fun hne k hk e => by have := hof k e; have := HLw.out.v hne k hk; omega) (fun hne k hk e => by have := hof k e; have := HLw.out.t hne k hk; omega)
        obtain ⟨p6, c6, hv6⟩ := HO6.out.dc.nr.row.rd.shape
        subst hv6
        clear k1 m1 h1 hof HOz HO4 HM4 HR4 c0 c1 f0 f1 g0 g1 g2
        generalize acc ++ [s0] = acc2 at *
        generalize hs ++ [((.slice ps1 s0.1.length cs1, .slice ps2 s0.2.length cs2) : Hd)] = hs2 at *
        go_wp2_with fail
        go_round
        case rel => exact ⟨i + 1, x3, 0, acc2, hs2, by omega, by go_num, ⟨HI2.out.1, fun _ => HI2.out.2.1 trivial, HI2.out.2.2⟩, HO6.out, HM6.out, HR6.out⟩
        case measure => simp [intOf]; omega
      · have heb : ((e3 : Int) == 0) = false := by rw [beq_eq_false_iff_ne]; omega
        have HX : Hid (T = fin acc x3 e3) := list_break hlt HI.out.2.2 HF3.out he
        clear HI HF3 HG he c0 c1 f0 f1 g0 g1 g2
        go_wp2_with fail
        go_ret
        exact ⟨HM4.out, acc, hs, _, x3, e3, rfl, HO4.out, HR4.out, HX.out⟩
    · have hlt' : ¬ (i : Int) < (n : Int) := by omega
      have HX : Hid (T = fin acc x e') := list_end (by omega) HI.out.2.2
      go_wp2_with fail
      go_ret
      first
        | exact ⟨HM.out, acc, hs, _, x, e', rfl, HO.out, HR.out, HX.out⟩
        | exact ⟨HM.out, acc, hs, _, rfl, HO.out, x, e', HR.out, HX.out⟩
end Go.Proofs.Ytmnagmbokajfpaa

end

section
/- bytes.Clone. -/
set_option linter.unusedVariables false
namespace Go.Proofs.Ytmnagmbokajfpaa
open Go Go.RowKit
set_option maxHeartbeats 400000 in
theorem bytes_clone (v : Value) (n : Nat) (vs : List Value) (w : World) (h : Rd w 1 v n vs) (h1 : ∀ u ∈ vs, u.oneCell' = true) (hn : n ≤ 140737488355328) :
    Calls Try.prog 46 #[v] w fun e w' => ∃ r, e = .returned r ∧ Made w w' 5 1 r n vs := by
  have hq : ∀ (w : World) (a : Option Addr) (n c n' c' : Nat), (binOp .eql 30 (.slice a n c) (.slice none n' c')).run Try.prog w = .ok (.bool a.isNone) w := fun w a n c n' c' => Lib.run_eql_slice_nil w _ _ a n c n' c' Try.underlying30
  obtain ⟨p, c, hv⟩ := h.shape
  subst hv
  cases p with
  | none =>
    obtain ⟨_, _, e, hl, _, _, hnil, _⟩ := h
    simp only [Value.slice.injEq] at e
    obtain ⟨rfl, _, rfl⟩ := e
    obtain ⟨rfl, rfl⟩ := hnil rfl
    obtain rfl : vs = [] := List.eq_nil_of_length_eq_zero (by simpa using hl)
    go_enter Try.func46, Try.ntmps46
    go_wp2
    go_ret
    exact ⟨_, rfl, World.ownsRow_nil _ _ _ _, Below.refl _ _⟩
  | some ad =>
    have hmax : n ≤ maxLen := by unfold maxLen; omega
    have HB : Hid (Below w.heap.size w (w.alloc (.cells #[] 5))) := (Below.refl _ _).alloc (Nat.le_refl _) _
    have HR := Lib.hid (h.below HB.out)
    clear h
    have HO : Hid ((w.alloc (.cells #[] 5)).ownsRow 0 5 1 (.slice (some ⟨w.heap.size, 0, none⟩) 0 0) 0 []) := World.ownsRow_lit (base := 0) w #[] 0 (Nat.zero_le _) (by simp [maxLen]) (by simp)
    have HL : Hid ((0 + n) * 1 ≤ 140737488355328 ∧ 0 + n ≤ maxLen) := by show _ ∧ _; omega
    go_enter Try.func46, Try.ntmps46
    go_wp2_with (at_builtin; refine wpList_extend Try.elemU8 _ _ _ _ _ _ _ HO.out HR.out h1 HL.out rfl _ _ rfl rfl rfl ?_)
    intro v' w1 hown hmods hfr
    have HM : Hid (Made w w1 5 1 v' n vs) := by
      refine ⟨?_, HB.out.trans (hmods.below HB.out.size (fun k hk e => by simp [Value.ownBlock] at e; omega))⟩
      try simp only [List.nil_append, Nat.zero_add] at hown
      exact owns_rebase hown (fun k hk => by
        rcases hfr k hk with e | e
        · simp [Value.ownBlock] at e; omega
        · have := HB.out.size; omega)
    clear hown hmods hfr
    go_wp2
    go_ret
    exact ⟨_, rfl, HM.out⟩
end Go.Proofs.Ytmnagmbokajfpaa

end

section
/- Layer 4: NewReader. -/
set_option linter.unusedVariables false
set_option maxRecDepth 20000
namespace Go.Proofs.Ytmnagmbokajfpaa
open Go Go.RowKit


theorem rd_new (v : Value) (B : List Nat) (w : World) (h : Rd w 1 v B.length (u8s B)) (hz : B.length ≤ 140737488355000) :
    Calls Try.prog 30 #[v] w fun en w' => ∃ p vr, en = .returned (.pointer (some ⟨p, 0, none⟩)) ∧ RRd w' p vr B 0 0 ∧ w.heap.size ≤ p ∧ (∀ k, vr.ownBlock = some k → w.heap.size ≤ k ∧ k < w'.heap.size) ∧ Below w.heap.size w w' := by
  have H := Lib.hid h
  obtain ⟨q, c, hv⟩ := h.shape
  subst hv
  have HL : Hid (B.length ≤ 140737488355328) := by show _ ≤ _; omega
  clear h
  go_enter Try.func30, Try.ntmps30
  go_wp2_with fail
  refine (bytes_clone _ B.length _ w H.out (u8s_oneCell _) HL.out).mono ?_
  rintro en w1 ⟨r, rfl, hM⟩
  have HB := Lib.hid hM.2
  have HM := Lib.hid hM.1
  obtain ⟨p3, c3, hr⟩ := (Rd.of_owns hM.1).shape
  subst hr
  clear hM
  go_wp2_with fail
  go_ret
  have hs := HB.out.size
  have hb : Below w.heap.size w1 (w1.alloc (.cells #[.slice p3 B.length c3, .int .i64 0, .int .i64 0] 93)) := (Below.refl _ _).alloc hs _
  refine ⟨w1.heap.size, _, rfl, ⟨Blk.new w1 _ _, ?_, fun _ k hk => ?_⟩, hs, fun k hk => ⟨(HM.out.lt k hk).1, by have := (HM.out.lt k hk).2; simp; omega⟩, HB.out.trans hb⟩
  · exact (Rd.of_owns HM.out).below ((Below.refl _ _).alloc (Nat.le_refl _) _)
  · have := (HM.out.lt k hk).2; omega
end Go.Proofs.Ytmnagmbokajfpaa

end

section
/- Layer 13, the program's own: Decode. -/
set_option linter.unusedVariables false
set_option maxRecDepth 20000
namespace Go.Proofs.Ytmnagmbokajfpaa
open Go Go.RowKit

theorem decRc_fin {t : List ByteArray} {B : List Nat} {l : List Rec} {a e : Nat} (h : outE (pRecs t B 0) 0 = fin l a e) : decRc t B = if e = 0 then (if a < B.length then (4, []) else (0, l)) else (e, []) := by
  rw [outE_zero] at h
  unfold decRc pAll
  rw [h]
  unfold fin
  by_cases h0 : e = 0
  · rw [if_pos h0, if_pos h0]
  · rw [if_neg h0, if_neg h0]

set_option maxHeartbeats 8000000 in
theorem prg_decode13 (tv bv : Value) (t : List ByteArray) (B : List Nat) (w : World) (ht : Rd w 1 tv t.length (strs t)) (hn : t.length ≤ 1000000) (hl : Rd w 1 bv B.length (u8s B)) (hB : ∀ c ∈ B, c < 256) (hz : B.length ≤ 100000000) :
    Calls Try.prog 18 #[tv, bv] w (GotRc w (decRc t B)) := by
  have HN := Lib.hid (rd_new bv B w hl (by omega))
  have HT := Lib.hid ht; have HTn := Lib.hid hn; have HBl := Lib.hid hB; have HZ := Lib.hid hz
  obtain ⟨pb, cb, hv⟩ := hl.shape
  subst hv
  obtain ⟨pt, ct, hv⟩ := ht.shape
  subst hv
  have hbm : (B.length : Int) ≤ 100000000 := by omega
  clear ht hn hl hB hz
  go_enter Try.func18, Try.ntmps18
  go_wp2_with fail
  refine HN.out.mono ?_
  rintro en w1 ⟨q, vr, rfl, hR, hq, hvr, hb⟩
  have hb1 : Below w1.heap.size w1 (w1.alloc (.cells #[.pointer (some ⟨q, 0, none⟩), .int .i64 (B.length : Int), .slice pt t.length ct] 69)) := (Below.refl _ w1).alloc (Nat.le_refl _) _
  have HB2 : Hid (Below w.heap.size w (w1.alloc (.cells #[.pointer (some ⟨q, 0, none⟩), .int .i64 (B.length : Int), .slice pt t.length ct] 69))) := hb.trans (hb1.mono hb.size)
  have HQ := Lib.hid hq
  have HR2 : Hid (RcRd (w1.alloc (.cells #[.pointer (some ⟨q, 0, none⟩), .int .i64 (B.length : Int), .slice pt t.length ct] 69)) w1.heap.size q vr B (.slice pt t.length ct) t 0 0) :=
    ⟨Blk.new _ _ _, hR.below hb1, HT.out.below HB2.out, Nat.zero_le _, fun e => by have := hR.blk.lt; omega, fun hne k hk e => by have := HT.out.lt (strs_ne' hne) k hk; omega⟩
  have HS1 : Hid (w.heap.size ≤ w1.heap.size) := hb.size
  clear HN hR hq hvr hb hb1
  go_wp2_with fail
  generalize w1.alloc (.cells #[.pointer (some ⟨q, 0, none⟩), .int .i64 (B.length : Int), .slice pt t.length ct] 69) = w2 at *
  obtain ⟨g, hg⟩ : ∃ g, w1.heap.size = g := ⟨_, rfl⟩
  rw [hg] at HR2 HS1 ⊢
  clear hg
  refine (gl_records g q vr B (.slice pt t.length ct) t 0 0 w w2 HB2.out HQ.out HR2.out HBl.out HZ.out HTn.out).mono ?_
  rintro en w3 ⟨hm3, l, hs, r, a, e, rfl, hD, hR3, hf⟩
  have HD := Lib.hid hD; have HR3 := Lib.hid hR3
  have HX := Lib.hid (decRc_fin hf)
  have HE := Lib.hid (rd_end q vr B a (e : Int) w3 hR3.rr)
  obtain ⟨g0, g1, g2⟩ := hR3.cells
  obtain ⟨pr, cr, hr⟩ := hD.dc.nr.row.rd.shape
  subst hr
  clear HR2 hm3 hD hR3 hf
  go_wp2_with fail
  refine HE.out.mono ?_
  rintro en w4 ⟨rfl, k, rfl⟩
  have HD4 := Lib.hid (HD.out.dc.below (below_drewN w3 k))
  clear HE g0 g1 g2
  by_cases he : e = 0
  · subst he
    rw [if_pos rfl] at HX
    by_cases hlt : a < B.length
    · rw [if_pos hlt] at HX
      rw [if_pos ⟨rfl, hlt⟩]
      clear hlt
      go_wp2_with fail
      go_ret2
      exact ⟨by rw [HX.out]; exact ⟨_, rfl, RdR.nil _, fun k hk => by cases hk⟩, HD4.out.nr.row.bel⟩
    · rw [if_neg hlt] at HX
      rw [if_neg (fun h => hlt h.2)]
      clear hlt
      go_wp2_with fail
      go_ret2
      exact ⟨by rw [HX.out]; exact ⟨_, rfl, HD4.out.nr.rd, fun k hk => (HD4.out.nr.row.row.lt k hk).1⟩, HD4.out.nr.row.bel⟩
  · rw [if_neg he] at HX
    have heb : ((e : Int) == 0) = false := by rw [beq_eq_false_iff_ne]; omega
    have hei : ¬ (e : Int) = 0 := by omega
    rw [if_neg (fun h => hei h.1)]
    clear he
    go_wp2_with fail
    go_ret2
    exact ⟨by rw [HX.out]; exact ⟨_, rfl, RdR.nil _, fun k hk => by cases hk⟩, HD4.out.nr.row.bel⟩
end Go.Proofs.Ytmnagmbokajfpaa

end

section
/- Layer 13: the program's records are as the walks ask. -/
set_option linter.unusedVariables false
namespace Go.Proofs.Ytmnagmbokajfpaa
open Go Go.RowKit

theorem recordsMet : RcIf 0 (fun _ => True) where
  keeps := fun _ _ _ => trivial
  low := fun _ => Nat.zero_le _
  encode := fun tv lv t l w _ ht hn ha _ hl hz hs hE => (prg_encode13o tv lv t l w ht hn ha hl (by have := hs.len; omega) (fun r hr => ⟨by have := hs.lab r hr; omega, by have := hs.chs r hr; omega⟩) (fun r hr => (hz r hr).2) hE).mono fun _ _ h => h.got
  decode := fun tv bv t B w _ ht hn _ _ hb hB hz => prg_decode13 tv bv t B w ht hn hb hB hz
  unused := fun tv lv t l w _ ht hn ha _ hl _ hs => prg_unused13 tv lv t l w ht hn ha hl hs
  total := fun lv l w _ hl _ hs hok => prg_total13 lv l w hl hs hok
end Go.Proofs.Ytmnagmbokajfpaa

end
