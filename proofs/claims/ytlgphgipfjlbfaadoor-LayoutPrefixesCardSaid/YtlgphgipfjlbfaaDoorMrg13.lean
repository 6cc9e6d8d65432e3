/- LtE, WireFn, LtG, LtH, Iface16, Laid03, Ref16D, ClS, Ref03C, in one text. -/
import Derived.Test.YtlgphgipfjlbfaaDoorMrg12
import Derived.Test.YtlgphgipfjlbfaaDoorMrg11
import Derived.Test.YtlgphgipfjlbfaaDoorMrg8
import Derived.Test.YtlgphgipfjlbfaaDoorMrg5
import Derived.Test.YtlgphgipfjlbfaaDoorMrg4
import Derived.Test.YtlgphgipfjlbfaaDoorRows
import Derived.Test.YtlgphgipfjlbfaaDoorMrg10
import Derived.Lib.LaidTab
import Derived.LaidMore
import Derived.LaidHandle
import Derived.Lay
import Derived.Test.YtlgphgipfjlbfaaDoorMrg3
import Derived.Test.YtlgphgipfjlbfaaDoorMrg6

section
/- Layer 16: the program's table of contents and its checksum. -/
set_option linter.unusedVariables false
set_option linter.unusedSimpArgs false
set_option maxRecDepth 20000
namespace Go.Proofs.YtlgphgipfjlbfaaDoor
open Go Go.RowKit

set_option maxHeartbeats 4000000 in
theorem ly_toc (ov : Value) (l : List Nat) (q : Nat) (v : Value) (B : List Nat) (a e : Nat) (w : World) (h : LyR w q v B a e) (hz : B.length ≤ 140737488355000) (hB : ∀ c ∈ B, c < 256) (ho : Rd w 1 ov l.length (natI l)) (h5 : l.length ≤ 5) (hb : ∀ x ∈ l, x < 9223372036854775808) (hq : ∀ k, ov.ownBlock = some k → k ≠ q) :
    Calls Tryd.prog 44 #[.pointer (some ⟨q, 0, none⟩), ov] w fun en w' => en = .returned (.tuple #[]) ∧ Mods (fun k => k = q) w w' ∧ ∃ d x y, LyR w' q v B x (if y = 0 then (if d = contents l then 0 else 13) else y) ∧ outE (outSection B a 5) e = fin d x y := by
  have H := Lib.hid h; have HZ := Lib.hid hz; have HB := Lib.hid hB; have HO := Lib.hid ho; have H5 := Lib.hid h5; have HX := Lib.hid hb
  have HQ := Lib.hid hq
  obtain ⟨po, co, hv⟩ := ho.shape
  subst hv
  clear h hz hB ho h5 hb hq
  go_enter Tryd.func44, Tryd.ntmps44
  go_wp2_with fail
  refine (ly_section q v B a e w H.out HZ.out HB.out 5 (by decide)).mono ?_
  rintro en w2 ⟨hm, d, r, x, y, rfl, hR, hf, hO, hd⟩
  have HR2 := Lib.hid hR; have HM2 := Lib.hid hm; have HF2 := Lib.hid hf; have HD2 := Lib.hid (Rd.of_owns hO); have HDl := Lib.hid hd
  have HO2 := Lib.hid (HO.out.mods hm (fun k hk => HQ.out k hk))
  obtain ⟨pr, cr, hv⟩ := (Rd.of_owns hO).shape
  subst hv
  clear hR hm hf hO hd H HO
  go_wp2_with fail
  refine (ly_contents _ l w2 HO2.out H5.out HX.out).mono ?_
  rintro en w3 ⟨r3, rfl, hC⟩
  have HC3 := Lib.hid hC.rd
  have HR3 := Lib.hid (HR2.out.below hC.bel)
  have HM3 : Hid (Mods (fun k => k = q) w w3) := HM2.out.trans (Mods.of_below hC.bel _) (fun _ _ e => e)
  have HD3 := Lib.hid (HD2.out.below hC.bel)
  have HCl := Lib.hid (contents_lt l)
  obtain ⟨p3, c3, hv⟩ := hC.shape
  subst hv
  clear hC HR2 HM2 HD2 HO2
  obtain ⟨C, hC⟩ : ∃ C, contents l = C := ⟨_, rfl⟩
  have HCe := Lib.hid hC
  rw [hC] at HC3 HCl ⊢
  clear hC
  go_wp2_with fail
  refine (equal_any _ _ _ _ d C w3 HD3.out HC3.out HDl.out HCl.out).mono ?_
  rintro en w4 ⟨rfl, rfl⟩
  by_cases hdc : d = C
  · have hb : decide (d = C) = true := decide_eq_true hdc
    have HF : Hid (LyR w3 q v B x (if y = 0 then (if d = C then 0 else 13) else y)) := by
      show LyR _ _ _ _ _ _
      rw [if_pos hdc]
      by_cases hy : y = 0
      · rw [if_pos hy, ← hy]; exact HR3.out
      · rw [if_neg hy]; exact HR3.out
    rw [hb]
    clear hb hdc
    go_wp2_with fail
    go_end0
    exact ⟨rfl, HM3.out, d, x, y, by rw [HCe.out]; exact HF.out, HF2.out⟩
  · have hb : decide (d = C) = false := decide_eq_false hdc
    have HY : Hid ((if y = 0 then (if d = C then 0 else 13) else y) = if y = 0 then 13 else y) := by show _ = _; rw [if_neg hdc]
    rw [hb]
    clear hb hdc
    go_wp2_with fail
    refine (ly_fail q v B x y w3 HR3.out 13).mono ?_
    rintro en w4 ⟨rfl, hR4, hm⟩
    have HM4 : Hid (Mods (fun k => k = q) w w4) := HM3.out.trans hm (fun _ _ e => e)
    have HF : Hid (LyR w4 q v B x (if y = 0 then (if d = C then 0 else 13) else y)) := by
      show LyR _ _ _ _ _ _
      rw [HY.out]
      exact hR4
    clear hR4 hm HM3 HR3
    go_wp2_with fail
    go_end0
    exact ⟨rfl, HM4.out, d, x, y, by rw [HCe.out]; exact HF.out, HF2.out⟩

set_option maxHeartbeats 4000000 in
theorem ly_sum (bv : Value) (q : Nat) (v : Value) (B : List Nat) (a e : Nat) (w : World) (h : LyR w q v B a e) (hz : B.length ≤ 140737488355000) (hB : ∀ c ∈ B, c < 256) (hb : Rd w 1 bv B.length (u8s B)) (hq : B ≠ [] → ∀ k, bv.ownBlock = some k → k ≠ q) :
    Calls Tryd.prog 45 #[.pointer (some ⟨q, 0, none⟩), bv] w fun en w' => en = .returned (.tuple #[]) ∧ Mods (fun k => k = q) w w' ∧ ∃ x y, LyR w' q v B x y ∧ outE (crcO B a) e = fin () x y := by
  have H := Lib.hid h; have HZ := Lib.hid hz; have HB := Lib.hid hB; have HO := Lib.hid hb
  have HQ := Lib.hid hq
  obtain ⟨po, co, hv⟩ := hb.shape
  subst hv
  clear h hz hB hb hq
  go_enter Tryd.func45, Tryd.ntmps45
  go_wp2_with fail
  refine (ly_take q v B a e w H.out HZ.out HB.out 4 (by decide)).mono ?_
  rintro en w2 ⟨hm, d, r, x, y, rfl, hR, hf⟩
  have HR2 := Lib.hid hR; have HM2 := Lib.hid hm; have HF2 := Lib.hid hf
  have HO2 : Hid (Rd w2 1 (.slice po B.length co) B.length (u8s B)) := HO.out.mods' hm (fun hn k hk => HQ.out (u8s_ne hn) k hk)
  have hxle := hR.at_
  clear hR hm hf H HO
  go_wp2_with fail
  refine (rd_at q v B x (y : Int) w2 HR2.out.rr).mono ?_
  rintro en w3 ⟨rfl, rfl⟩
  have hcb : B.length ≤ co := by obtain ⟨_, _, e, _, h, _⟩ := HO2.out; cases e; exact h
  have HT2 : Hid (Rd w3 1 (.slice po x co) (B.take x).length (u8s (B.take x))) := by
    show Rd _ _ _ _ _
    have h := HO2.out.upto x hxle
    rw [List.length_take, Nat.min_eq_left hxle]
    rw [Nat.mul_one, show (u8s B).take x = u8s (B.take x) by simp [u8s, List.map_take]] at h
    exact h
  have HTb : Hid (∀ z ∈ B.take x, z < 256) := fun z hz => HB.out z (List.mem_of_mem_take hz)
  have HCr : Hid (outE (crcO B a) e = fin () x (if y = 0 then (if isCrc (B.take x) = true then 0 else 12) else y)) := by
    show _ = _
    by_cases hy : y = 0
    · obtain ⟨rfl, h1⟩ := fin_ok HF2.out hy
      rw [outTake, if_neg (by omega)] at h1
      split at h1
      · cases h1
      · next hn =>
        simp only [Int.toNat_natCast] at h1
        cases h1
        rw [if_pos hy, outE_zero, crcO, if_neg (by omega)]
        split
        · simp [fin]
        · simp [fin]
    · rw [if_neg hy, fin, if_neg hy]
      rcases fin_bad HF2.out hy with ⟨rfl, h1⟩ | ⟨h1, rfl⟩
      · rw [outTake, if_neg (by omega)] at h1
        split at h1
        · next hn =>
          cases h1
          rw [outE_zero, crcO, if_pos (by omega)]
        · cases h1
      · rw [outE_ne _ h1]
  clear HO2 HF2
  go_wp2_with (refine wpList_upto Tryd.elemU8 w3 po B.length co x hxle hcb rfl _ _ rfl rfl rfl ?_)
  refine (crc_check _ (B.take x) w3 HR2.out.tab HT2.out HTb.out).mono ?_
  rintro en w4 ⟨rfl, hb4⟩
  have HR4 := Lib.hid (HR2.out.below hb4)
  have HM4 : Hid (Mods (fun k => k = q) w w4) := HM2.out.trans (Mods.of_below hb4 _) (fun _ _ e => e)
  clear hb4 HR2 HM2 HT2 HTb
  by_cases hc : isCrc (B.take x) = true
  · have HF : Hid (LyR w4 q v B x (if y = 0 then (if isCrc (B.take x) = true then 0 else 12) else y)) := by
      show LyR _ _ _ _ _ _
      rw [if_pos hc]
      by_cases hy : y = 0
      · rw [if_pos hy, ← hy]; exact HR4.out
      · rw [if_neg hy]; exact HR4.out
    rw [hc]
    clear hc
    go_wp2_with fail
    go_end0
    exact ⟨rfl, HM4.out, x, _, HF.out, HCr.out⟩
  · have HY : Hid ((if y = 0 then (if isCrc (B.take x) = true then 0 else 12) else y) = if y = 0 then 12 else y) := by show _ = _; rw [if_neg hc]
    rw [show isCrc (B.take x) = false by simpa using hc]
    clear hc
    go_wp2_with fail
    refine (ly_fail q v B x y w4 HR4.out 12).mono ?_
    rintro en w5 ⟨rfl, hR5, hm⟩
    have HM5 : Hid (Mods (fun k => k = q) w w5) := HM4.out.trans hm (fun _ _ e => e)
    have HF : Hid (LyR w5 q v B x (if y = 0 then (if isCrc (B.take x) = true then 0 else 12) else y)) := by
      show LyR _ _ _ _ _ _
      rw [HY.out]
      exact hR5
    clear hR5 hm HM4 HR4
    go_wp2_with fail
    go_end0
    exact ⟨rfl, HM5.out, x, _, HF.out, HCr.out⟩
end Go.Proofs.YtlgphgipfjlbfaaDoor

end

section
/- Layer 4: NewReader. -/
set_option linter.unusedVariables false
set_option maxRecDepth 20000
namespace Go.Proofs.YtlgphgipfjlbfaaDoor
open Go Go.RowKit


theorem rd_new (v : Value) (B : List Nat) (w : World) (h : Rd w 1 v B.length (u8s B)) (hz : B.length ≤ 140737488355000) :
    Calls Tryd.prog 40 #[v] w fun en w' => ∃ p vr, en = .returned (.pointer (some ⟨p, 0, none⟩)) ∧ RRd w' p vr B 0 0 ∧ w.heap.size ≤ p ∧ (∀ k, vr.ownBlock = some k → w.heap.size ≤ k ∧ k < w'.heap.size) ∧ Below w.heap.size w w' := by
  have H := Lib.hid h
  obtain ⟨q, c, hv⟩ := h.shape
  subst hv
  have HL : Hid (B.length ≤ 140737488355328) := by show _ ≤ _; omega
  clear h
  go_enter Tryd.func40, Tryd.ntmps40
  go_wp2_with fail
  refine (bytes_clone _ B.length _ w H.out (u8s_oneCell _) HL.out).mono ?_
  rintro en w1 ⟨r, rfl, hM⟩
  have HB := Lib.hid hM.2
  have HM := Lib.hid hM.1
  obtain ⟨p3, c3, hr⟩ := (Rd.of_owns hM.1).shape
  subst hr
  clear hM
  go_wp2_with fail
  go_ret
  have hs := HB.out.size
  have hb : Below w.heap.size w1 (w1.alloc (.cells #[.slice p3 B.length c3, .int .i64 0, .int .i64 0] 88)) := (Below.refl _ _).alloc hs _
  refine ⟨w1.heap.size, _, rfl, ⟨Blk.new w1 _ _, ?_, fun _ k hk => ?_⟩, hs, fun k hk => ⟨(HM.out.lt k hk).1, by have := (HM.out.lt k hk).2; simp; omega⟩, HB.out.trans hb⟩
  · exact (Rd.of_owns HM.out).below ((Below.refl _ _).alloc (Nat.le_refl _) _)
  · have := (HM.out.lt k hk).2; omega
end Go.Proofs.YtlgphgipfjlbfaaDoor

end

section
/- Layer 16: the program's parse. -/
set_option linter.unusedVariables false
set_option linter.unusedSimpArgs false
set_option maxRecDepth 20000
namespace Go.Proofs.YtlgphgipfjlbfaaDoor
open Go Go.RowKit

theorem ly_sectionZ (q : Nat) (v : Value) (B : List Nat) (a e : Nat) (w : World) (h : LyR w q v B a e) (hz : B.length ≤ 140737488355000) (hB : ∀ c ∈ B, c < 256) (id : Nat) (z : Int) (he : z = (id : Int)) (hid : id < 256) :
    Calls Tryd.prog 43 #[.pointer (some ⟨q, 0, none⟩), .int .u8 z] w fun en w' => Mods (fun k => k = q) w w' ∧ ∃ (d : List Nat) (r : Value) (a' e' : Nat), en = .returned r ∧ LyR w' q v B a' e' ∧ outE (outSection B a id) e = fin d a' e' ∧ w'.ownsRow w.heap.size 5 1 r d.length (u8s d) ∧ (∀ c ∈ d, c < 256) := by
  subst he
  exact ly_section q v B a e w h hz hB id hid

set_option maxHeartbeats 16000000 in
theorem ly_parse (bv : Value) (B : List Nat) (w : World) (hT : Tab w) (h : Rd w 1 bv B.length (u8s B)) (hB : ∀ c ∈ B, c < 256) (hz : B.length ≤ 140737488355000) :
    Calls Tryd.prog 31 #[bv] w (GotLy w B) := by
  have HT := Lib.hid hT; have HR := Lib.hid h; have HBl := Lib.hid hB; have HZ := Lib.hid hz
  obtain ⟨pb, cb, hv⟩ := h.shape
  subst hv
  have HVl : Hid (B ≠ [] → ∀ k, (Value.slice pb B.length cb).ownBlock = some k → k < w.heap.size) := fun hne => h.lt (fun e => hne (List.eq_nil_of_length_eq_zero (by have := congrArg List.length e; rw [u8s_length] at this; exact this)))
  have HLow := Lib.hid hT.low
  clear h hB hz hT
  go_enter Tryd.func31, Tryd.ntmps31
  go_wp2_with (refine wpList_allocS strF rfl rfl ?_)
  intro w1 hK1 hB1 hS1
  go_wp2_with (refine wpList_allocS strF rfl rfl ?_)
  intro w2 hK2 hB2 hS2
  obtain ⟨g, hg⟩ : ∃ g, w.heap.size = g := ⟨_, rfl⟩
  rw [hg] at hK1 hS1 hK2 hB2 hS2 HLow ⊢
  try rw [hS1] at hK2
  try rw [hS1] at hB2
  try rw [hS1] at hS2
  try rw [hS1]
  have HP0 : Hid (LyF w w2 g nil4 [0, 0, 0, 0, 0]) := ⟨hK1.of_same (hB2.block g (by omega)), hK2, hB1.trans (hB2.mono (by omega)), by omega, rfl, rfl, by decide, by decide⟩
  have HS2 : Hid (w2.heap.size = g + 2 ∧ w.heap.size = g) := ⟨hS2, hg⟩
  clear hK1 hB1 hS1 hK2 hB2 hS2 hg
  go_wp2_with fail
  refine (rd_new _ B w2 (HR.out.below HP0.out.bel) HZ.out).mono ?_
  rintro en w3 ⟨q, vr, rfl, hR, hq, hvr, hb⟩
  have HP3 := Lib.hid (HP0.out.below hb)
  have HQ : Hid (g + 2 ≤ q ∧ (∀ k, vr.ownBlock = some k → g + 2 ≤ k)) := by
    rw [HS2.out.1] at hq hvr
    exact ⟨hq, fun k hk => (hvr k hk).1⟩
  have HR3 : Hid (LyR w3 q vr B 0 0) := ⟨hR, Nat.zero_le _, HT.out.below HP3.out.bel (Nat.le_refl _), by have := HLow.out; have := HQ.out.1; omega⟩
  clear hR hq hvr hb HP0
  go_wp2_with fail
  refine (ly_mark ⟨#[84, 83, 66, 75, 1]⟩ (by decide) (by rw [litH]; decide) q vr B 0 0 w3 HR3.out HZ.out).mono ?_
  rw [litH]
  rintro en w4 ⟨rfl, hm, a1, e1, hR4, hf⟩
  have HP4 := Lib.hid (HP3.out.mods hm (fun k e => by have := HQ.out.1; omega))
  have HR4 := Lib.hid hR4; have HF1 := Lib.hid hf
  obtain ⟨T, hT⟩ : ∃ T, outE (secsF 4 1 a1 [] B) e1 = T := ⟨_, rfl⟩
  have HTe := Lib.hid hT
  have HT0 : Hid (outE (secsF (4 - 0) (1 + 0) a1 [] B) e1 = T) := hT
  clear hm hR4 hf HP3 HR3 hT
  go_wp2_with fail
  go_loopw [12] (fun iv wr => ∃ (i x e : Nat) (acc : List (List Nat × Nat)) (vs : List Value) (az : List Nat), i ≤ 4 ∧ iv = .int .i64 (i : Int) ∧ Hid (LyF w wr g vs az) ∧ Hid (LyR wr q vr B x e) ∧ Hid (outE (secsF (4 - i) (1 + i) x acc B) e = T) ∧ Hid (e = 0 → acc.length = i ∧ RdS wr vs (acc.map Prod.fst ++ List.replicate (4 - i) []) ∧ az = acc.map Prod.snd ++ List.replicate (5 - i) 0) ∧ Hid (∀ v ∈ vs, ∀ k, v.ownBlock = some k → q < k)) (fun iv _ => 4 - (intOf iv).toNat)
  case atStart => exact ⟨0, a1, e1, [], nil4, [0, 0, 0, 0, 0], Nat.zero_le _, rfl, HP4.out, HR4.out, HT0.out, fun _ => ⟨rfl, rdS_none w4, rfl⟩, fun v hv k hk => by
    have : v = .slice none 0 0 := List.eq_of_mem_replicate hv
    subst this; cases hk⟩
  case round =>
    obtain ⟨i, x, e, acc, vs, az, hi, rfl, HP, HRr, HTr, HI, HV⟩ := hrel
    clear HP4 HR4 HT0
    have him : (i : Int) ≤ 4 := by omega
    have hxl : x < 9223372036854775808 := by have := HRr.out.at_; have := HZ.out; omega
    by_cases hlt : i < 4
    · have hlt' : (i : Int) < 4 := by omega
      have hlt5 : (i : Int) < 5 := by omega
      obtain ⟨x0, ac, af⟩ := HP.out.cellO (i := i) (by omega)
      go_wp2_with fail
      refine (rd_at q vr B x (e : Int) wr HRr.out.rr).mono ?_
      rintro en wq ⟨rfl, rfl⟩
      have hm1 : Mods (fun k => k = g + 1) wq (wq.setCell ⟨g + 1, 4 + i, none⟩ (.int .i64 (x : Int))) := Mods.set _ _ _ _ (fun _ => rfl)
      have HP1 := Lib.hid (HP.out.setO (i := i) hxl)
      have HR1 := Lib.hid (HRr.out.set hm1 (by have := HQ.out.1; omega) (by have := HLow.out; omega) (fun _ j hj e => by have := HQ.out.2 j hj; omega))
      have HI1 : Hid (e = 0 → acc.length = i ∧ RdS (wq.setCell ⟨g + 1, 4 + i, none⟩ (.int .i64 (x : Int))) vs (acc.map Prod.fst ++ List.replicate (4 - i) []) ∧ az = acc.map Prod.snd ++ List.replicate (5 - i) 0) := fun h => by
        obtain ⟨a1, a2, a3⟩ := HI.out h
        exact ⟨a1, a2.mods hm1 (fun v hv k hk e => by have := HV.out v hv k hk; have := HQ.out.1; omega), a3⟩
      clear hm1 HI HP HRr
      go_wp2_with fail
      generalize wq.setCell ⟨g + 1, 4 + i, none⟩ (.int .i64 (x : Int)) = w2 at *
      refine (ly_sectionZ q vr B x e w2 HR1.out HZ.out HBl.out (i + 1) (1 + (i : Int)) (by omega) (by omega)).mono ?_
      rintro en w3 ⟨hm3, d, r, x3, e3, rfl, hR3, hf3, hO3, hd3⟩
      have HP3 := Lib.hid (HP1.out.mods hm3 (fun k e => by have := HQ.out.1; omega))
      have HR3 := Lib.hid hR3; have HF3 := Lib.hid hf3
      have HO3 := Lib.hid hO3
      have hq2 := HR1.out.rr.blk.lt
      have HRq : Hid (∀ k, r.ownBlock = some k → q < k) := fun k hk => by have := (hO3.lt k hk).1; omega
      have HI3 : Hid (e = 0 → acc.length = i ∧ RdS w3 vs (acc.map Prod.fst ++ List.replicate (4 - i) []) ∧ az.set i x = acc.map Prod.snd ++ [x] ++ List.replicate (5 - (i + 1)) 0) := fun h => by
        obtain ⟨a1, a2, a3⟩ := HI1.out h
        exact ⟨a1, a2.mods hm3 (fun v hv k hk e => by have := HV.out v hv k hk; omega), by rw [a3, offs_set a1 hlt [] x, List.map_append]; rfl⟩
      obtain ⟨pr, cr, hr⟩ := (Rd.of_owns hO3).shape
      subst hr
      clear hm3 hR3 hf3 hO3 hd3 HP1 HR1 HI1 hq2 ac af hxl
      obtain ⟨u0, sc, sf⟩ := HP3.out.cellS hlt
      have hm4 : Mods (fun k => k = g + 1) w3 (w3.setCell ⟨g + 1, i, none⟩ (.slice pr d.length cr)) := Mods.set _ _ _ _ (fun _ => rfl)
      have HP4 := Lib.hid (HP3.out.setS (i := i) (n := d.length) (c := cr) (p := pr) hlt)
      have HR4 := Lib.hid (HR3.out.set hm4 (by have := HQ.out.1; omega) (by have := HLow.out; omega) (fun _ j hj e => by have := HQ.out.2 j hj; omega))
      have HV4 : Hid (∀ v ∈ vs.set i (.slice pr d.length cr), ∀ k, v.ownBlock = some k → q < k) := fun v hv k hk => by
        rcases List.mem_or_eq_of_mem_set hv with hu | rfl
        · exact HV.out v hu k hk
        · exact HRq.out k hk
      have HT4 : Hid (outE (secsF (4 - (i + 1)) (1 + (i + 1)) x3 (acc ++ [(d, x)]) B) e3 = T) := by
        show _ = _
        by_cases h : e3 = 0
        · exact secs_step hlt HTr.out HF3.out h
        · exact secs_fail hlt HTr.out HF3.out h _ _ _ _
      have HI4 : Hid (e3 = 0 → (acc ++ [(d, x)]).length = i + 1 ∧ RdS (w3.setCell ⟨g + 1, i, none⟩ (.slice pr d.length cr)) (vs.set i (.slice pr d.length cr)) ((acc ++ [(d, x)]).map Prod.fst ++ List.replicate (4 - (i + 1)) []) ∧ az.set i x = (acc ++ [(d, x)]).map Prod.snd ++ List.replicate (5 - (i + 1)) 0) := fun h => by
        obtain ⟨a1, a2, a3⟩ := HI3.out (fin_ok HF3.out h).1
        refine ⟨by rw [List.length_append, a1]; rfl, ?_, by rw [a3, List.map_append]; rfl⟩
        rw [← secs_set a1 hlt d x]
        exact (a2.mods hm4 (fun v hv k hk e => by have := HV.out v hv k hk; have := HQ.out.1; omega)).set ((Rd.of_owns HO3.out).mods hm4 (fun k hk e => by have := HRq.out k hk; have := HQ.out.1; omega))
      clear hm4 HP3 HR3 HV HTr HI3 HF3 HO3 HRq
      go_wp2_with fail
      go_round
      case rel => exact ⟨i + 1, x3, e3, acc ++ [(d, x)], _, _, by omega, by go_num, HP4.out, HR4.out, HT4.out, HI4.out, HV4.out⟩
      case measure => simp [intOf]; omega
    · have hlt' : ¬ (i : Int) < 4 := by omega
      have hi4 : i = 4 := by omega
      subst hi4
      obtain ⟨x0, ac, af⟩ := HP.out.cellO (i := 4) (by omega)
      go_wp2_with fail
      refine (rd_at q vr B x (e : Int) wr HRr.out.rr).mono ?_
      rintro en wq ⟨rfl, rfl⟩
      have hm1 : Mods (fun k => k = g + 1) wq (wq.setCell ⟨g + 1, 4 + 4, none⟩ (.int .i64 (x : Int))) := Mods.set _ _ _ _ (fun _ => rfl)
      have HP1 := Lib.hid (HP.out.setO (i := 4) hxl)
      have HR1 := Lib.hid (HRr.out.set hm1 (by have := HQ.out.1; omega) (by have := HLow.out; omega) (fun _ j hj e => by have := HQ.out.2 j hj; omega))
      have HI1 : Hid (e = 0 → acc.length = 4 ∧ RdS (wq.setCell ⟨g + 1, 4 + 4, none⟩ (.int .i64 (x : Int))) vs (acc.map Prod.fst) ∧ az.set 4 x = acc.map Prod.snd ++ [x]) := fun h => by
        obtain ⟨a1, a2, a3⟩ := HI.out h
        rw [show 4 - 4 = 0 from rfl, List.replicate_zero, List.append_nil] at a2
        refine ⟨a1, a2.mods hm1 (fun v hv k hk e => by have := HV.out v hv k hk; have := HQ.out.1; omega), ?_⟩
        rw [a3, List.set_append_right _ _ (by rw [List.length_map]; omega), List.length_map, a1]
        rfl
      have HT1 : Hid (outE (secsF 0 5 x acc B) e = T) := HTr.out
      clear hm1 HI HP HRr HTr
      obtain ⟨az5, haz⟩ : ∃ az5, az.set 4 x = az5 := ⟨_, rfl⟩
      rw [haz] at HP1 HI1
      clear haz
      simp only [Nat.reduceAdd] at HP1 HR1 HI1 ac af
      go_wp2_with fail
      generalize wq.setCell ⟨g + 1, 8, none⟩ (.int .i64 (x : Int)) = w2 at *
      have HOf := Lib.hid HP1.out.offs
      have hl4 : (az5.take 4).length = 4 := by rw [List.length_take, HP1.out.al]; rfl
      have HAz : Hid (e = 0 → az5.take 4 = acc.map Prod.snd) := fun h => by
        obtain ⟨a1, _, a3⟩ := HI1.out h
        rw [a3, List.take_append_of_le_length (by rw [List.length_map]; omega), List.take_of_length_le (by rw [List.length_map]; omega)]
      refine (ly_toc _ (az5.take 4) q vr B x e w2 HR1.out HZ.out HBl.out HOf.out (by omega) (fun y hy => HP1.out.ab y (List.mem_of_mem_take hy)) (fun k hk => by have e : g + 1 = k := Option.some.inj hk; have := HQ.out.1; omega)).mono ?_
      rintro en w3 ⟨rfl, hm, d, x5, y5, hR3, hf⟩
      have HF5 := Lib.hid hf
      have HP3 := Lib.hid (HP1.out.mods hm (fun k e => by have := HQ.out.1; omega))
      have HI3 : Hid (e = 0 → acc.length = 4 ∧ RdS w3 vs (acc.map Prod.fst) ∧ az5 = acc.map Prod.snd ++ [x]) := fun h => by
        obtain ⟨a1, a2, a3⟩ := HI1.out h
        exact ⟨a1, a2.mods hm (fun v hv k hk e => by have := HV.out v hv k hk; omega), a3⟩
      obtain ⟨e5, he5⟩ : ∃ e5, (if y5 = 0 then (if d = contents (az5.take 4) then 0 else 13) else y5) = e5 := ⟨_, rfl⟩
      have HE5 := Lib.hid he5
      rw [he5] at hR3
      have HR3 := Lib.hid hR3
      clear hm hf hR3 he5 hl4 HOf HP1 HR1 HI1 ac af hxl
      go_wp2_with fail
      refine (ly_sum _ q vr B x5 e5 w3 HR3.out HZ.out HBl.out (HR.out.below HP3.out.bel) (fun hn k hk => by have := HVl.out hn k hk; have := HS2.out; have := HQ.out.1; omega)).mono ?_
      rintro en w4 ⟨rfl, hm, x6, e6, hR4, hf⟩
      have HF6 := Lib.hid hf
      have HP4 := Lib.hid (HP3.out.mods hm (fun k e => by have := HQ.out.1; omega))
      have HI4 : Hid (e = 0 → acc.length = 4 ∧ RdS w4 vs (acc.map Prod.fst) ∧ az5 = acc.map Prod.snd ++ [x]) := fun h => by
        obtain ⟨a1, a2, a3⟩ := HI3.out h
        exact ⟨a1, a2.mods hm (fun v hv k hk e => by have := HV.out v hv k hk; omega), a3⟩
      have HR4 := Lib.hid hR4
      clear hm hf hR4 HP3 HR3 HI3
      go_wp2_with fail
      refine (ly_mark ⟨#[75, 66, 83, 84]⟩ (by decide) (by rw [litT]; decide) q vr B x6 e6 w4 HR4.out HZ.out).mono ?_
      rw [litT]
      rintro en w5 ⟨rfl, hm, x7, e7, hR5, hf⟩
      have HP5 := Lib.hid (HP4.out.mods hm (fun k e => by have := HQ.out.1; omega))
      have HI5 : Hid (e = 0 → acc.length = 4 ∧ RdS w5 vs (acc.map Prod.fst) ∧ az5 = acc.map Prod.snd ++ [x]) := fun h => by
        obtain ⟨a1, a2, a3⟩ := HI4.out h
        exact ⟨a1, a2.mods hm (fun v hv k hk e => by have := HV.out v hv k hk; omega), a3⟩
      have hTot := ly_total HF1.out (HT1.out.trans HTe.out.symm) HF5.out HAz.out (by rw [HE5.out]; exact HF6.out) hf
      have HLay := Lib.hid (ly_lay hTot.1)
      have HE0 := Lib.hid hTot.2
      have HR5 := Lib.hid hR5
      clear hm hf hR5 HP4 HR4 HI4 hTot HF1 HT1 HTe HF5 HAz HE5 HF6
      go_wp2_with fail
      refine (rd_end q vr B x7 (e7 : Int) w5 HR5.out.rr).mono ?_
      rintro en w6 ⟨rfl, n6, rfl⟩
      have hbn := (Mods.drewN (fun _ => False) w5 n6).below (B := w5.heap.size) (Nat.le_refl _) (fun _ _ e => e)
      have HP6 := Lib.hid (HP5.out.below hbn)
      have HI6 : Hid (e = 0 → acc.length = 4 ∧ RdS (w5.drewN n6) vs (acc.map Prod.fst) ∧ az5 = acc.map Prod.snd ++ [x]) := fun h => by
        obtain ⟨a1, a2, a3⟩ := HI5.out h
        exact ⟨a1, a2.below hbn, a3⟩
      clear hbn HP5 HI5 HR5
      generalize w5.drewN n6 = w6 at *
      by_cases hok : e7 = 0 ∧ ¬ x7 < B.length
      · have hb : (if (e7 : Int) = 0 ∧ x7 < B.length then (4 : Int) else (e7 : Int)) = 0 := by rw [if_neg (fun h => hok.2 h.2)]; omega
        obtain ⟨a1, a2, a3⟩ := HI6.out (HE0.out hok.1)
        have HLy : Hid (lay B = (acc.map Prod.fst, az5, 0)) := by show _ = _; rw [HLay.out, if_pos hok, a3]
        have HS6 := Lib.hid a2
        rw [hb]
        clear hb a1 a2 a3 hok HI6 HLay HE0
        have HLn : Hid ((vs ++ natI az5).length = 9) := by show _ = _; rw [List.length_append, natI_length, HP6.out.vl, HP6.out.al]
        have HOne : Hid (∀ u ∈ vs ++ natI az5, u.oneCell' = true) := fun u hu => by
          rcases List.mem_append.1 hu with h | h
          · exact HP6.out.vo u h
          · exact one_natI _ u h
        go_wp2_with (first
          | (refine wpList_loadS strF rfl _ rfl (g + 1) 0 rfl _ HP6.out.bf.rangeAt HLn.out ?_)
          | (refine wpList_storeS strF rfl _ _ rfl g rfl (vs ++ natI az5) _ rfl HP6.out.b2 rfl HLn.out HOne.out ?_))
        intro w7 hk hm hs
        have HK7 := Lib.hid hk
        have HS7 := Lib.hid (HS6.out.mods hm (fun v hv k hk e => by have := HV.out v hv k hk; have := HQ.out.1; omega))
        have HB7 : Hid (Below w.heap.size w w7) := HP6.out.bel.trans (hm.below HP6.out.bel.size (fun k hk e => by have := HP6.out.low; omega))
        have HVl4 := Lib.hid HP6.out.vl; have HAl5 := Lib.hid HP6.out.al
        clear hk hm hs HS6 HP6
        go_wp2_with fail
        refine bodyPost_ret (resultsS2 (p := 2) (u := 3) strF (by kernel_rfl) _ g rfl (vs ++ natI az5) HK7.out HLn.out) rfl ?_
        exact ⟨vs, by rw [HLy.out]; rfl, HVl4.out, by rw [HLy.out]; exact HAl5.out, by rw [HLy.out]; exact HS7.out, (fun v hv k hk => by have := HV.out v hv k hk; have := HQ.out.1; have := HS2.out.2; omega), HB7.out⟩
      · obtain ⟨eR, heR⟩ : ∃ eR : Nat, (if e7 = 0 then 4 else e7) = eR := ⟨_, rfl⟩
        have hb : (if (e7 : Int) = 0 ∧ x7 < B.length then (4 : Int) else (e7 : Int)) = (eR : Int) := by
          rw [← heR]
          by_cases h7 : e7 = 0
          · have : x7 < B.length := Decidable.byContradiction fun h => hok ⟨h7, h⟩
            rw [if_pos ⟨by omega, this⟩, if_pos h7]
            rfl
          · rw [if_neg (fun h => h7 (by omega)), if_neg h7]
        have hne : ¬ (eR : Int) = 0 := by
          have : eR ≠ 0 := by
            rw [← heR]
            split
            · decide
            · assumption
          omega
        have hneb : ((eR : Int) != 0) = true := by rw [bne_iff_ne]; exact hne
        have HLy : Hid (lay B = (noSecs, noOffs, eR)) := by show _ = _; rw [HLay.out, if_neg hok, heR]
        rw [hb]
        clear hb hok HI6 HLay HE0 heR
        go_wp2_with (refine wpList_storeS strF rfl _ _ rfl g rfl (nil4 ++ zero5) _ rfl HP6.out.b2 rfl rfl (by decide) ?_)
        intro w7 hk hm hs
        have HK7 := Lib.hid hk
        have HB7 : Hid (Below w.heap.size w w7) := HP6.out.bel.trans (hm.below HP6.out.bel.size (fun k hk e => by have := HP6.out.low; omega))
        clear hk hm hs HP6
        go_wp2_with fail
        refine bodyPost_ret (resultsS2 (p := 2) (u := 3) strF (by kernel_rfl) _ g rfl (nil4 ++ zero5) HK7.out rfl) rfl ?_
        exact ⟨nil4, by rw [HLy.out]; rfl, rfl, by rw [HLy.out]; rfl, by rw [HLy.out]; exact rdS_none w7, (fun v hv k hk => by
          have : v = .slice none 0 0 := List.eq_of_mem_replicate hv
          subst this; cases hk), HB7.out⟩
end Go.Proofs.YtlgphgipfjlbfaaDoor

end

section
/- Layer 16: the program's Parse, Offsets and Certain. -/
set_option linter.unusedVariables false
set_option linter.unusedSimpArgs false
set_option maxRecDepth 20000
namespace Go.Proofs.YtlgphgipfjlbfaaDoor
open Go Go.RowKit

section
variable (bv : Value) (B : List Nat) (w : World) (hT : Tab w) (h : Rd w 1 bv B.length (u8s B)) (hB : ∀ c ∈ B, c < 256) (hz : B.length ≤ 140737488355000)
include hT h hB hz

set_option maxHeartbeats 4000000 in
theorem ly_Parse : Calls Tryd.prog 16 #[bv] w fun e w' => ∃ vs, e = .returned (.tuple #[.agg vs.toArray, .int .i64 ((lay B).2.2 : Int)]) ∧ RdS w' vs (lay B).1 ∧ Below w.heap.size w w' := by
  have HC : Hid (∀ w', Below w.heap.size w w' → Calls Tryd.prog 31 #[bv] w' (GotLy w' B)) := fun w' hb => ly_parse bv B w' (hT.below hb (Nat.le_refl _)) (h.below hb) hB hz
  obtain ⟨pb, cb, hv⟩ := h.shape
  subst hv
  clear hT h hB hz
  go_enter Tryd.func16, Tryd.ntmps16
  go_wp2_with (refine wpList_allocS strS rfl rfl ?_)
  intro w1 hk hb hs
  have HK1 := Lib.hid hk; have HB1 := Lib.hid hb
  obtain ⟨g, hg⟩ : ∃ g, w.heap.size = g := ⟨_, rfl⟩
  rw [hg] at HK1 hs ⊢
  have HS1 := Lib.hid hs
  clear hk hb hs
  have HG := Lib.hid hg
  go_wp2_with fail
  refine (HC.out w1 HB1.out).mono ?_
  rintro en w2 ⟨vs, rfl, hvl, hol, hS, hfar, hb⟩
  have HB2 : Hid (Below w.heap.size w w2) := HB1.out.trans (hb.mono HB1.out.size)
  have HK2 := Lib.hid (HK1.out.of_same (hb.block g HK1.out.lt))
  have HVl := Lib.hid hvl; have HOl := Lib.hid hol
  have HLn : Hid ((vs ++ natI (lay B).2.1).length = 9) := by show _ = _; rw [List.length_append, natI_length, hvl, hol]
  have HVo : Hid (∀ u ∈ vs, u.oneCell' = true) := hS.one
  have HOne : Hid (∀ u ∈ vs ++ natI (lay B).2.1, u.oneCell' = true) := fun u hu => by
    rcases List.mem_append.1 hu with h | h
    · exact HVo.out u h
    · exact one_natI _ u h
  have HS2 := Lib.hid hS; have HFar := Lib.hid hfar
  clear hvl hol hS hb HB1 HC hfar
  obtain ⟨O, hO⟩ : ∃ O, (lay B).2.1 = O := ⟨_, rfl⟩
  rw [hO] at HLn HOne HOl ⊢
  clear hO
  obtain ⟨E, hE⟩ : ∃ E, (lay B).2.2 = E := ⟨_, rfl⟩
  have HE := Lib.hid hE
  rw [hE]
  clear hE
  go_wp2_with (refine wpList_allocS strF rfl rfl ?_)
  intro w3 hk3 hb3 hs3
  go_wp2_with (refine wpList_storeS strF rfl _ _ rfl w2.heap.size rfl (vs ++ natI O) _ rfl hk3 rfl HLn.out HOne.out ?_)
  intro w4 hk hm hs
  have hb4 : Below w2.heap.size w2 w4 := mods_fresh (w := w2) hb3 hm (Nat.le_refl _)
  have HK4 := Lib.hid hk
  have HB4 : Hid (Below w.heap.size w w4) := HB2.out.trans (hb4.mono HB2.out.size)
  have HG4 := Lib.hid (HK2.out.of_same (hb4.block g HK2.out.lt))
  have HS4 := Lib.hid (HS2.out.below hb4)
  clear hk hm hs hb4 hk3 hb3 hs3 HB2 HK2 HK1
  have hra : w4.rangeAt w2.heap.size 0 vs := fun j v hv => by
    rw [Nat.zero_add, HK4.out.cell, List.getElem?_append_left (List.getElem?_eq_some_iff.1 hv).1]
    exact hv
  go_wp2_with (first
    | (refine wpList_loadS strS rfl _ rfl w2.heap.size 0 rfl vs hra HVl.out ?_)
    | (refine wpList_storeS strS rfl _ _ rfl g rfl vs nil4 rfl HG4.out rfl HVl.out HVo.out ?_))
  intro w5 hk hm hs
  have HK5 := Lib.hid hk
  have HS5 := Lib.hid (HS4.out.mods hm (fun v hv k hk e => by have := HFar.out v hv k hk; have := HS1.out; omega))
  have HB5 : Hid (Below w.heap.size w w5) := HB4.out.trans (hm.below HB4.out.size (fun k hk e => by have := HG.out; omega))
  clear hk hm hs hra
  go_wp2_with fail
  refine bodyPost_ret (resultsS2 (p := 2) (u := 3) strS (by kernel_rfl) _ g rfl vs HK5.out HVl.out) rfl ?_
  exact ⟨vs, by rw [HE.out]; rfl, HS5.out, HB5.out⟩

set_option maxHeartbeats 4000000 in
theorem ly_Offsets : Calls Tryd.prog 14 #[bv] w fun e w' => e = .returned (.tuple #[.agg (natI (lay B).2.1).toArray, .int .i64 ((lay B).2.2 : Int)]) ∧ Below w.heap.size w w' := by
  have HC : Hid (∀ w', Below w.heap.size w w' → Calls Tryd.prog 31 #[bv] w' (GotLy w' B)) := fun w' hb => ly_parse bv B w' (hT.below hb (Nat.le_refl _)) (h.below hb) hB hz
  obtain ⟨pb, cb, hv⟩ := h.shape
  subst hv
  clear hT h hB hz
  go_enter Tryd.func14, Tryd.ntmps14
  go_wp2_with (refine wpList_allocS strO rfl rfl ?_)
  intro w1 hk hb hs
  have HK1 := Lib.hid hk; have HB1 := Lib.hid hb
  obtain ⟨g, hg⟩ : ∃ g, w.heap.size = g := ⟨_, rfl⟩
  rw [hg] at HK1 hs ⊢
  have HS1 := Lib.hid hs
  clear hk hb hs
  have HG := Lib.hid hg
  go_wp2_with fail
  refine (HC.out w1 HB1.out).mono ?_
  rintro en w2 ⟨vs, rfl, hvl, hol, hS, hfar, hb⟩
  have HB2 : Hid (Below w.heap.size w w2) := HB1.out.trans (hb.mono HB1.out.size)
  have HK2 := Lib.hid (HK1.out.of_same (hb.block g HK1.out.lt))
  have HVl := Lib.hid hvl; have HOl := Lib.hid hol
  have HLn : Hid ((vs ++ natI (lay B).2.1).length = 9) := by show _ = _; rw [List.length_append, natI_length, hvl, hol]
  have HVo : Hid (∀ u ∈ vs, u.oneCell' = true) := hS.one
  have HOne : Hid (∀ u ∈ vs ++ natI (lay B).2.1, u.oneCell' = true) := fun u hu => by
    rcases List.mem_append.1 hu with h | h
    · exact HVo.out u h
    · exact one_natI _ u h
  have HS2 := Lib.hid hS; have HFar := Lib.hid hfar
  clear hvl hol hS hb HB1 HC hfar
  obtain ⟨O, hO⟩ : ∃ O, (lay B).2.1 = O := ⟨_, rfl⟩
  rw [hO] at HLn HOne HOl ⊢
  have HO := Lib.hid hO
  clear hO
  obtain ⟨E, hE⟩ : ∃ E, (lay B).2.2 = E := ⟨_, rfl⟩
  have HE := Lib.hid hE
  rw [hE]
  clear hE
  go_wp2_with (refine wpList_allocS strF rfl rfl ?_)
  intro w3 hk3 hb3 hs3
  go_wp2_with (refine wpList_storeS strF rfl _ _ rfl w2.heap.size rfl (vs ++ natI O) _ rfl hk3 rfl HLn.out HOne.out ?_)
  intro w4 hk hm hs
  have hb4 : Below w2.heap.size w2 w4 := mods_fresh (w := w2) hb3 hm (Nat.le_refl _)
  have HK4 := Lib.hid hk
  have HB4 : Hid (Below w.heap.size w w4) := HB2.out.trans (hb4.mono HB2.out.size)
  have HG4 := Lib.hid (HK2.out.of_same (hb4.block g HK2.out.lt))
  clear hk hm hs hb4 hk3 hb3 hs3 HB2 HK2 HK1
  have HOl5 : Hid ((natI O).length = 5) := by show _ = _; rw [natI_length]; exact HOl.out
  have hra : w4.rangeAt w2.heap.size 4 (natI O) := fun j v hv => by
    rw [HK4.out.cell, List.getElem?_append_right (by rw [HVl.out]; omega), HVl.out, Nat.add_sub_cancel_left]
    exact hv
  go_wp2_with (first
    | (refine wpList_loadS strO rfl _ rfl w2.heap.size 4 rfl (natI O) hra HOl5.out ?_)
    | (refine wpList_storeS strO rfl _ _ rfl g rfl (natI O) zero5 rfl HG4.out rfl HOl5.out (one_natI O) ?_))
  intro w5 hk hm hs
  have HK5 := Lib.hid hk
  have HB5 : Hid (Below w.heap.size w w5) := HB4.out.trans (hm.below HB4.out.size (fun k hk e => by have := HG.out; omega))
  clear hk hm hs hra
  go_wp2_with fail
  refine bodyPost_ret (resultsS2 (p := 2) (u := 3) strO (by kernel_rfl) _ g rfl (natI O) HK5.out HOl5.out) rfl ?_
  exact ⟨by rw [HE.out, HO.out]; rfl, HB5.out⟩

set_option maxHeartbeats 4000000 in
theorem ly_Certain : Calls Tryd.prog 18 #[bv] w fun e w' => e = .returned (.int .i64 (certE B : Int)) ∧ Below w.heap.size w w' := by
  have HC : Hid (∀ w', Below w.heap.size w w' → Calls Tryd.prog 31 #[bv] w' (GotLy w' B)) := fun w' hb => ly_parse bv B w' (hT.below hb (Nat.le_refl _)) (h.below hb) hB hz
  obtain ⟨pb, cb, hv⟩ := h.shape
  subst hv
  clear hT h hB hz
  go_enter Tryd.func18, Tryd.ntmps18
  have HB1 : Hid (Below w.heap.size w w) := Below.refl _ _
  go_wp2_with fail
  refine (HC.out w HB1.out).mono ?_
  rintro en w2 ⟨vs, rfl, hvl, hol, hS, hfar, hb⟩
  have HB2 : Hid (Below w.heap.size w w2) := HB1.out.trans (hb.mono HB1.out.size)
  have HVl := Lib.hid hvl; have HOl := Lib.hid hol
  have HLn : Hid ((vs ++ natI (lay B).2.1).length = 9) := by show _ = _; rw [List.length_append, natI_length, hvl, hol]
  have HVo : Hid (∀ u ∈ vs, u.oneCell' = true) := hS.one
  have HOne : Hid (∀ u ∈ vs ++ natI (lay B).2.1, u.oneCell' = true) := fun u hu => by
    rcases List.mem_append.1 hu with h | h
    · exact HVo.out u h
    · exact one_natI _ u h
  have HS2 := Lib.hid hS; have HFar := Lib.hid hfar
  clear hvl hol hS hb HB1 HC hfar
  obtain ⟨O, hO⟩ : ∃ O, (lay B).2.1 = O := ⟨_, rfl⟩
  rw [hO] at HLn HOne HOl ⊢
  clear hO
  obtain ⟨E, hE⟩ : ∃ E, (lay B).2.2 = E := ⟨_, rfl⟩
  have HE := Lib.hid hE
  rw [hE]
  clear hE
  go_wp2_with (refine wpList_allocS strF rfl rfl ?_)
  intro w3 hk3 hb3 hs3
  go_wp2_with (refine wpList_storeS strF rfl _ _ rfl w2.heap.size rfl (vs ++ natI O) _ rfl hk3 rfl HLn.out HOne.out ?_)
  intro w4 hk hm hs
  have hb4 : Below w2.heap.size w2 w4 := mods_fresh (w := w2) hb3 hm (Nat.le_refl _)
  have HK4 := Lib.hid hk
  have HB4 : Hid (Below w.heap.size w w4) := HB2.out.trans (hb4.mono HB2.out.size)
  clear hk hm hs hb4 hk3 hb3 hs3 HB2
  have HCe : Hid ((certE B : Int) = if E = 3 then 0 else (E : Int)) := by
    show _ = _
    rw [certE, HE.out]
    split <;> rfl
  by_cases h3 : E = 3
  · rw [if_pos h3] at HCe
    subst h3
    go_wp2_with fail
    go_ret
    exact ⟨by rw [HCe.out]; rfl, HB4.out⟩
  · rw [if_neg h3] at HCe
    have hne : ¬ (E : Int) = 3 := by omega
    have hneb : ((E : Int) == 3) = false := by rw [beq_eq_false_iff_ne]; exact hne
    clear h3
    go_wp2_with fail
    go_ret
    exact ⟨by rw [HCe.out]; rfl, HB4.out⟩
end
end Go.Proofs.YtlgphgipfjlbfaaDoor

end

section
/- Layer 16: the program's layout is as the walks ask. -/
set_option linter.unusedVariables false
namespace Go.Proofs.YtlgphgipfjlbfaaDoor
open Go Go.RowKit
theorem layoutMet : LyIf (0 + 1) Tab where
  keeps := fun h hm hs => h.mods hm hs
  low := fun h => h.low
  assemble := fun vs S w hT h h4 ok hz => by
    refine (ly_assemble vs S w hT h h4 ok hz).mono ?_
    rintro e w' ⟨r, rfl, hO⟩
    exact ⟨r, rfl, hO.rd, fun k hk => (hO.row.lt k hk).1, hO.bel⟩
  parse := fun bv B w hT h hB hz => ly_Parse bv B w hT h hB (by omega)
  offsets := fun bv B w hT h hB hz => ly_Offsets bv B w hT h hB (by omega)
  certain := fun bv B w hT h hB hz => ly_Certain bv B w hT h hB (by omega)
end Go.Proofs.YtlgphgipfjlbfaaDoor

end

section
/- Layer 3: the program's table, as the statements list it, gives the walks what they ask. -/
namespace Go.Proofs.YtlgphgipfjlbfaaDoor
open Go Go.RowKit

/-- What the statements list. -/
def listed : List (String × DataW Unit) := [("tsblock/crc.fourShifts", Rows.laid_tsblock_crc_fourShifts)]

theorem gFours : Tryd.prog.globalNamed "tsblock/crc.fourShifts" = some 0 := by kernel_rfl
theorem tFours : (Tryd.prog.globals[0]?).map (·.type) = some 104 := by kernel_rfl

theorem tab_of_laid {W : World} (h : laidMetH Tryd.prog listed W) : Tab W := by
  rw [MakeChecks.laidMetH_plain _ _ _ (by kernel_rfl)] at h
  have hT : Lib.TabIs Tryd.prog W "tsblock/crc.fourShifts" .u32 (fours.map fun n : Nat => (n : Int)) :=
    Lib.tabIs_of_head gFours tFours Tryd.underlying104 Tryd.underlying46 (by kernel_rfl) (by kernel_rfl) (rest := []) h
  intro i hi
  have := hT.cell gFours i (by simpa [fours] using hi)
  rw [this]
  have e : (fours.map fun n : Nat => (n : Int)).getD i 0 = ((fours.getD i 0 : Nat) : Int) := by
    simp only [List.getD_eq_getElem?_getD, List.getElem?_map]
    cases fours[i]? <;> rfl
  rw [e]

theorem start_met (os : Os) (args : Array Value) : laidMetH Tryd.prog listed ((World.laidAll Tryd.prog os listed).forCall (fun _ _ => 0) ⟨#[], args, []⟩).memory := by
  rw [MakeChecks.laidMetH_plain _ _ _ (by kernel_rfl)]
  exact laidMet_laidAll args (by kernel_rfl) (by kernel_rfl)
theorem start_shaped (os : Os) (args : Array Value) : ((World.laidAll Tryd.prog os listed).forCall (fun _ _ => 0) ⟨#[], args, []⟩).Shaped Tryd.prog := World.shaped_of_ZipB (by kernel_rfl) (by kernel_rfl)
end Go.Proofs.YtlgphgipfjlbfaaDoor

end

section
/- Layer 16: the reference's Same. -/
set_option linter.unusedVariables false
set_option maxRecDepth 20000
namespace Go.Proofs.YtlgphgipfjlbfaaDoor
open Go Go.RowKit

set_option maxHeartbeats 8000000 in
theorem ref_same16 (va vb : List Value) (A B : List (List Nat)) (w : World) (ha : RdS w va A) (hb : RdS w vb B) (ha4 : A.length = 4) (hb4 : B.length = 4) (oa : ∀ d ∈ A, ∀ c ∈ d, c < 256) (ob : ∀ d ∈ B, ∀ c ∈ d, c < 256) :
    Calls Tryd.prog 17 #[.agg va.toArray, .agg vb.toArray] w fun e w' => e = .returned (.bool (decide (A = B))) ∧ Below w.heap.size w w' := by
  have HA := Lib.hid ha; have HB := Lib.hid hb; have HA4 := Lib.hid ha4; have HB4 := Lib.hid hb4; have OA := Lib.hid oa; have OB := Lib.hid ob
  clear ha hb ha4 hb4 oa ob
  go_enter Tryd.func17, Tryd.ntmps17
  go_wp2_with (refine wpList_boxA rfl _ _ rfl va rfl ?_)
  intro w1 hK hB hS
  have HK1 := Lib.hid hK; have HB1 := Lib.hid hB; have HS1 := Lib.hid hS
  clear hK hB hS
  go_wp2_with (refine wpList_boxA rfl _ _ rfl vb rfl ?_)
  intro w2 hK hB hS
  have HK2 := Lib.hid hK; have HB2 : Hid (Below w.heap.size w w2) := HB1.out.trans (hB.mono HB1.out.size)
  have HJ2 := Lib.hid (HK1.out.of_same (hB.block _ HK1.out.lt))
  have HA2 := Lib.hid (HA.out.below HB2.out); have HBv2 := Lib.hid (HB.out.below HB2.out)
  obtain ⟨ga, hga⟩ : ∃ ga, w.heap.size = ga := ⟨_, rfl⟩
  obtain ⟨gb, hgb⟩ : ∃ gb, w1.heap.size = gb := ⟨_, rfl⟩
  have HGa := Lib.hid hga
  rw [hga] at HJ2 ⊢
  rw [hgb] at HK2 ⊢
  clear hK hB hS hga hgb HK1 HB1 HS1 HA HB
  go_wp2_with fail
  go_loopw [5] (fun iv wr => ∃ (i : Nat), i ≤ 4 ∧ iv = .int .i64 (i : Int) ∧ Hid (A.take i = B.take i) ∧ Hid (∃ n, wr = w2.drewN n)) (fun iv _ => 4 - (intOf iv).toNat)
  case atStart => exact ⟨0, Nat.zero_le _, rfl, rfl, ⟨0, rfl⟩⟩
  case round =>
    obtain ⟨i, hi, rfl, HE, HW⟩ := hrel
    have him : (i : Int) ≤ 4 := by omega
    have HBw : Hid (Below w2.heap.size w2 wr) := by obtain ⟨n, rfl⟩ := HW.out; exact (Mods.drewN (fun _ => False) w2 n).below (Nat.le_refl _) (fun _ _ e => e)
    have HBr : Hid (Below w.heap.size w wr) := HB2.out.trans (HBw.out.mono HB2.out.size)
    by_cases hlt : i < 4
    · have hlt' : (i : Int) < 4 := by omega
      obtain ⟨da, hda⟩ : ∃ d, A[i]? = some d := ⟨_, List.getElem?_eq_getElem (by have := HA4.out; omega)⟩
      obtain ⟨db, hdb⟩ : ∃ d, B[i]? = some d := ⟨_, List.getElem?_eq_getElem (by have := HB4.out; omega)⟩
      obtain ⟨pa, ca, hva, hra⟩ := HA2.out.get hda
      obtain ⟨pb, cb, hvb, hrb⟩ := HBv2.out.get hdb
      have ca0 : w2.cell? ⟨ga, i, none⟩ = some (.slice pa da.length ca) := by rw [HJ2.out.cell]; exact hva
      have cb0 : w2.cell? ⟨gb, i, none⟩ = some (.slice pb db.length cb) := by rw [HK2.out.cell]; exact hvb
      have HC : Hid (∀ w', Below wr.heap.size wr w' → w'.cell? ⟨ga, i, none⟩ = some (.slice pa da.length ca) ∧ w'.cell? ⟨gb, i, none⟩ = some (.slice pb db.length cb) ∧ True) := fun w' hb => by
        have hb2 : Below w2.heap.size w2 w' := HBw.out.trans (hb.mono HBw.out.size)
        exact ⟨(hb2.cell HJ2.out.lt).trans ca0, (hb2.cell HK2.out.lt).trans cb0, trivial⟩
      have HRa : Hid (∀ w', Below wr.heap.size wr w' → Rd w' 1 (.slice pa da.length ca) da.length (u8s da)) := fun w' hb => hra.below (HBw.out.trans (hb.mono HBw.out.size))
      have HRb : Hid (∀ w', Below wr.heap.size wr w' → Rd w' 1 (.slice pb db.length cb) db.length (u8s db)) := fun w' hb => hrb.below (HBw.out.trans (hb.mono HBw.out.size))
      have HQ := Lib.hid (strOf_inj (OA.out da (List.mem_of_getElem? hda)) (OB.out db (List.mem_of_getElem? hdb)))
      have HDa := Lib.hid hda; have HDb := Lib.hid hdb
      clear hda hdb hva hra hvb hrb ca0 cb0
      go_wp2_with fail
      refine wp_region_takeH (fun w' => Below wr.heap.size wr w') [] [0, 1, 2, 4, 5, 6, 3, 7, 8] (by kernel_rfl) (by kernel_rfl) (by kernel_rfl) ?_ ?_ ?_
      · intro c a a' w hd h; exact ⟨hd ▸ h.1, h.2⟩
      · exact (Below.refl _ wr).drew
      simp only [taken, List.map_cons, List.map_nil, List.getElem?_cons_succ, List.getElem?_cons_zero, Option.getD_some]
      repeat (first
        | (refine takeH_skip rfl ?_; simp only [Act.put, List.setIfInBounds_toArray, List.set_cons_succ, List.set_cons_zero])
        | (refine takeH_blind rfl rfl ?_; apply Exists.intro; refine ⟨fun w => ?_, ?_⟩; (go_simp; try with_reducible rfl); simp only [Act.put, List.setIfInBounds_toArray, List.set_cons_succ, List.set_cons_zero])
        | (refine takeH_reads rfl rfl ?_; apply Exists.intro; refine ⟨fun w' hS => ?_, ?_⟩; (obtain ⟨d0, d1, d2⟩ := HC.out w' hS; go_simp; try with_reducible rfl); simp only [Act.put, List.setIfInBounds_toArray, List.set_cons_succ, List.set_cons_zero]))
      refine takeH_read rfl rfl (.string (strOf da)) (fun w' hS => exec_convert _ _ _ rfl rfl ((HRa.out w' hS).conv _ _ _ Tryd.underlying22 Tryd.underlying5 Tryd.underlying9)) ?_
      simp only [Act.put, List.setIfInBounds_toArray, List.set_cons_succ, List.set_cons_zero]
      refine takeH_read rfl rfl (.string (strOf db)) (fun w' hS => exec_convert _ _ _ rfl rfl ((HRb.out w' hS).conv _ _ _ Tryd.underlying22 Tryd.underlying5 Tryd.underlying9)) ?_
      simp only [Act.put, List.setIfInBounds_toArray, List.set_cons_succ, List.set_cons_zero]
      have HW2 : Hid (∃ n, wr.drew = w2.drewN n) := by obtain ⟨n, rfl⟩ := HW.out; exact ⟨n + 1, rfl⟩
      by_cases hq : da = db
      · have heq : ((strOf da).toList == (strOf db).toList) = true := by rw [HQ.out]; exact decide_eq_true hq
        have HE2 : Hid (A.take (i + 1) = B.take (i + 1)) := by show _ = _; rw [List.take_add_one, List.take_add_one, HDa.out, HDb.out, HE.out, hq]
        clear HQ hq HC HRa HRb
        generalize strOf da = s1 at *
        generalize strOf db = s2 at *
        repeat (first
        | (refine takeH_skip rfl ?_; simp only [Act.put, List.setIfInBounds_toArray, List.set_cons_succ, List.set_cons_zero])
        | (refine takeH_blind rfl rfl ?_; apply Exists.intro; refine ⟨fun w => ?_, ?_⟩; (go_simp; try with_reducible rfl); simp only [Act.put, List.setIfInBounds_toArray, List.set_cons_succ, List.set_cons_zero]))
        refine takeH_nil ?_
        clear HW
        generalize wr.drew = w3 at *
        go_wp2_with fail
        go_round
        case rel => exact ⟨i + 1, by omega, by go_num, HE2.out, HW2.out⟩
        case measure => simp [intOf]; omega
      · have heq : ((strOf da).toList == (strOf db).toList) = false := by rw [HQ.out]; exact decide_eq_false hq
        have HE2 : Hid (¬ A = B) := fun e => hq (by have h1 := HDa.out; rw [e, HDb.out] at h1; exact (Option.some.inj h1).symm)
        have HBf : Hid (Below w.heap.size w wr.drew) := by obtain ⟨n, h⟩ := HW2.out; rw [h]; exact HB2.out.trans (((Mods.drewN (fun _ => False) w2 n).below (Nat.le_refl _) (fun _ _ e => e)).mono HB2.out.size)
        clear HQ hq HC HRa HRb
        generalize strOf da = s1 at *
        generalize strOf db = s2 at *
        repeat (first
        | (refine takeH_skip rfl ?_; simp only [Act.put, List.setIfInBounds_toArray, List.set_cons_succ, List.set_cons_zero])
        | (refine takeH_blind rfl rfl ?_; apply Exists.intro; refine ⟨fun w => ?_, ?_⟩; (go_simp; try with_reducible rfl); simp only [Act.put, List.setIfInBounds_toArray, List.set_cons_succ, List.set_cons_zero]))
        refine takeH_nil ?_
        clear HW HW2
        generalize wr.drew = w3 at *
        go_wp2_with fail
        go_ret
        exact ⟨by rw [decide_eq_false HE2.out]; rfl, HBf.out⟩
    · have hlt' : ¬ (i : Int) < 4 := by omega
      have HX : Hid (A = B) := by
        have h := HE.out
        rw [List.take_of_length_le (by have := HA4.out; omega), List.take_of_length_le (by have := HB4.out; omega)] at h
        exact h
      go_wp2_with fail
      go_ret
      exact ⟨by rw [decide_eq_true HX.out]; rfl, HBr.out⟩
end Go.Proofs.YtlgphgipfjlbfaaDoor

end

section
/- Layer 16: four rows of the call's own, none of which shares memory with another. -/
set_option linter.unusedVariables false
namespace Go.Proofs.YtlgphgipfjlbfaaDoor
open Go Go.RowKit

structure ClS (w : World) (b0 : Nat) (cs : List Value) (L : List (List Nat)) : Prop where
  len : cs.length = L.length
  own : ∀ (i : Nat) (v : Value) (d : List Nat), cs[i]? = some v → L[i]? = some d → w.ownsRow b0 5 1 v d.length (u8s d)
  apart : ∀ (i j : Nat) (v u : Value) (k : Nat), i ≠ j → cs[i]? = some v → cs[j]? = some u → v.ownBlock = some k → u.ownBlock ≠ some k
theorem ClS.none (w : World) (b0 : Nat) : ClS w b0 (List.replicate 4 (.slice none 0 0)) (List.replicate 4 []) :=
  ⟨rfl, fun i v d h1 h2 => by
    have e1 : v = .slice .none 0 0 := List.eq_of_mem_replicate (List.mem_of_getElem? h1)
    have e2 : d = [] := List.eq_of_mem_replicate (List.mem_of_getElem? h2)
    subst e1 e2
    exact World.ownsRow_nil _ _ _ _, fun i j v u k _ h1 _ hk => by
    have e1 : v = .slice .none 0 0 := List.eq_of_mem_replicate (List.mem_of_getElem? h1)
    subst e1; cases hk⟩
theorem ClS.rd {w : World} {b0 : Nat} {cs : List Value} {L : List (List Nat)} (h : ClS w b0 cs L) : RdS w cs L := ⟨h.len, fun i v d h1 h2 => Rd.of_owns (h.own i v d h1 h2)⟩
theorem ClS.get {w : World} {b0 : Nat} {cs : List Value} {L : List (List Nat)} (h : ClS w b0 cs L) {i : Nat} {d : List Nat} (hd : L[i]? = some d) : ∃ p c, cs[i]? = some (.slice p d.length c) ∧ w.ownsRow b0 5 1 (.slice p d.length c) d.length (u8s d) := by
  obtain ⟨p, c, hv, _⟩ := h.rd.get hd
  exact ⟨p, c, hv, h.own i _ d hv hd⟩
theorem ClS.blocks {w : World} {b0 : Nat} {cs : List Value} {L : List (List Nat)} (h : ClS w b0 cs L) {v : Value} (hv : v ∈ cs) {k : Nat} (hk : v.ownBlock = some k) : b0 ≤ k ∧ k < w.heap.size := by
  obtain ⟨i, hi⟩ := List.mem_iff_getElem?.1 hv
  obtain ⟨d, hd⟩ : ∃ d, L[i]? = some d := ⟨_, List.getElem?_eq_getElem (by rw [← h.len]; exact (List.getElem?_eq_some_iff.1 hi).1)⟩
  exact (h.own i v d hi hd).lt k hk
theorem ClS.mods {S : Nat → Prop} {w w' : World} {b0 : Nat} {cs : List Value} {L : List (List Nat)} (h : ClS w b0 cs L) (hm : Mods S w w') (hS : ∀ v ∈ cs, ∀ k, v.ownBlock = some k → ¬ S k) : ClS w' b0 cs L :=
  ⟨h.len, fun i v d h1 h2 => hm.owns (h.own i v d h1 h2) (hS v (List.mem_of_getElem? h1)), h.apart⟩
theorem ClS.below {w w' : World} {b0 : Nat} {cs : List Value} {L : List (List Nat)} (h : ClS w b0 cs L) (hb : Below w.heap.size w w') : ClS w' b0 cs L :=
  h.mods (Mods.of_below hb (fun _ => False)) (fun _ _ _ _ h => h)
/-- One more row, made anew. -/
theorem ClS.set {w w' : World} {b0 : Nat} {cs : List Value} {L : List (List Nat)} (h : ClS w b0 cs L) {i : Nat} {r : Value} {d : List Nat} (hM : Made w w' 5 1 r d.length (u8s d)) (hb : b0 ≤ w.heap.size) : ClS w' b0 (cs.set i r) (L.set i d) := by
  have h2 := h.below hM.2
  refine ⟨by rw [List.length_set, List.length_set, h.len], fun j v e h1 he => ?_, fun j j2 v u k hne h1 hu hk e => ?_⟩
  · rw [List.getElem?_set] at h1 he
    by_cases hij : i = j
    · subst hij
      rw [if_pos rfl] at h1 he
      split at h1
      · split at he
        · cases h1; cases he
          exact owns_rebase hM.1 (fun k hk => by have := (hM.1.lt k hk).1; omega)
        · cases he
      · cases h1
    · rw [if_neg hij] at h1 he
      exact h2.own j v e h1 he
  · rw [List.getElem?_set] at h1 hu
    by_cases h1j : i = j
    · have h2j : i ≠ j2 := fun e => hne (h1j.symm.trans e)
      rw [if_pos h1j] at h1; rw [if_neg h2j] at hu
      split at h1
      · cases h1
        have a := (hM.1.lt k hk).1
        have b := (h.blocks (List.mem_of_getElem? hu) e).2
        omega
      · cases h1
    · rw [if_neg h1j] at h1
      by_cases h2j : i = j2
      · rw [if_pos h2j] at hu
        split at hu
        · cases hu
          have a := (hM.1.lt k e).1
          have b := (h.blocks (List.mem_of_getElem? h1) hk).2
          omega
        · cases hu
      · rw [if_neg h2j] at hu
        exact h.apart j j2 v u k hne h1 hu hk e
/-- One row changed. -/
theorem ClS.change {w w' : World} {b0 : Nat} {cs : List Value} {L : List (List Nat)} (h : ClS w b0 cs L) {i : Nat} {v : Value} {d : List Nat} (hv : cs[i]? = some v) (hm : Mods (fun k => v.ownBlock = some k) w w') (ho : w'.ownsRow b0 5 1 v d.length (u8s d)) : ClS w' b0 cs (L.set i d) := by
  refine ⟨by rw [List.length_set, h.len], fun j u e h1 he => ?_, h.apart⟩
  rw [List.getElem?_set] at he
  by_cases hij : i = j
  · subst hij
    rw [if_pos rfl] at he
    rw [hv] at h1; cases h1
    split at he
    · cases he; exact ho
    · cases he
  · rw [if_neg hij] at he
    exact hm.owns (h.own j u e h1 he) (fun k hk e2 => h.apart i j v u k hij hv h1 e2 hk)
theorem take_set {S : List (List Nat)} {i : Nat} {d : List Nat} (h4 : S.length = 4) (hd : S[i]? = some d) : (S.take i ++ List.replicate (4 - i) []).set i d = S.take (i + 1) ++ List.replicate (4 - (i + 1)) [] := by
  have hi := (List.getElem?_eq_some_iff.1 hd).1
  rw [List.set_append_right _ _ (by rw [List.length_take]; omega), List.length_take, show i - min i S.length = 0 by omega, show 4 - i = (4 - (i + 1)) + 1 by omega, List.replicate_succ, List.set_cons_zero, List.take_add_one, hd, List.append_assoc]
  rfl
end Go.Proofs.YtlgphgipfjlbfaaDoor

end

section
/- Layer 3: the reference's Flip. -/
set_option linter.unusedVariables false
namespace Go.Proofs.YtlgphgipfjlbfaaDoor
open Go Go.RowKit

theorem flip_step (l : List Nat) (o p k : Nat) (h : p / 2 ^ k % 2 = 1) (hin : o + k < 8 * l.length) : flipTo l o p (k + 1) = flipBit (flipTo l o p k) (o + k) := by rw [flipTo, if_pos ⟨h, hin⟩]
theorem flip_stay (l : List Nat) (o p k : Nat) (h : ¬ (p / 2 ^ k % 2 = 1 ∧ o + k < 8 * l.length)) : flipTo l o p (k + 1) = flipTo l o p k := by rw [flipTo, if_neg h]
theorem half_pow (p k : Nat) : p / 2 ^ (k + 1) = p / 2 ^ k / 2 := by rw [Nat.pow_succ, Nat.div_div_eq_div_mul]

set_option maxHeartbeats 4000000 in
theorem ref_flip (v : Value) (l : List Nat) (o p : Nat) (w : World) (h : Rd w 1 v l.length (u8s l)) (hl : ∀ c ∈ l, c < 256) (hn : l.length ≤ 140737488355000) (ho : o < 8 * l.length) (hp : p < 4294967296) :
    Calls Tryd.prog 21 #[v, .int .i64 (o : Int), .int .u32 (p : Int)] w fun e w' => ∃ r, e = .returned r ∧ Made w w' 5 1 r l.length (u8s (flipTo l o p 32)) := by
  have H2 := Lib.hid h
  have HM := Lib.hid hl
  obtain ⟨q, c, hv⟩ := h.shape
  subst hv
  clear h hl
  have HB : Hid (Below w.heap.size w (w.alloc (.cells #[] 5))) := (Below.refl _ _).alloc (Nat.le_refl _) _
  have HR := Lib.hid (H2.out.below HB.out)
  have HO : Hid ((w.alloc (.cells #[] 5)).ownsRow 0 5 1 (.slice (some ⟨w.heap.size, 0, none⟩) 0 0) 0 []) := World.ownsRow_lit (base := 0) w #[] 0 (Nat.zero_le _) (by simp [maxLen]) (by simp)
  have HL : Hid ((0 + l.length) * 1 ≤ 140737488355328 ∧ 0 + l.length ≤ maxLen) := by show _ ∧ _; unfold maxLen; omega
  go_enter Tryd.func21, Tryd.ntmps21
  go_wp2_with (at_builtin; refine wpList_extend Tryd.elemU8 _ _ _ _ _ _ _ HO.out HR.out (u8s_oneCell _) HL.out rfl _ _ rfl rfl rfl ?_)
  intro v' w1 hown hmods hfr
  have HO1 : Hid (w1.ownsRow w.heap.size 5 1 v' l.length (u8s (flipTo l o p 0))) := by
    have h2 := owns_rebase hown (base' := w.heap.size) (fun k hk => by
      rcases hfr k hk with e | e
      · simp [Value.ownBlock] at e; omega
      · have := HB.out.size; omega)
    show World.ownsRow _ _ _ _ _ _ _
    simpa [flipTo] using h2
  have HB1 := Lib.hid (HB.out.trans (hmods.below HB.out.size (fun k hk e => by simp [Value.ownBlock] at e; omega)))
  clear hown hmods hfr HR HO HB
  obtain ⟨g, cap, hv1⟩ : ∃ g cap, v' = .slice (some ⟨g, 0, none⟩) l.length cap := by
    rcases owns_cases HO1.out with ⟨_, h0, _⟩ | ⟨g, cap, hv, _⟩
    · omega
    · exact ⟨g, cap, hv⟩
  subst hv1
  go_wp2_with fail
  go_loopw [2, 8] (fun pat i wr => ∃ k : Nat, k ≤ 32 ∧ i = .int .i64 (k : Int) ∧ pat = .int .u32 ((p / 2 ^ k : Nat) : Int) ∧ Hid (wr.ownsRow w.heap.size 5 1 (.slice (some ⟨g, 0, none⟩) l.length cap) l.length (u8s (flipTo l o p k))) ∧ Hid (Below w.heap.size w wr)) (fun _ i _ => 32 - (intOf i).toNat)
  case atStart => exact ⟨0, by decide, rfl, by simp, HO1, HB1⟩
  case round =>
    obtain ⟨k, hk, rfl, rfl, HOk, HBk⟩ := hrel
    by_cases hlt : k < 32
    · have hlt' : (k : Int) < 32 := by omega
      have HP := Lib.hid (half_pow p k)
      have HP32 : p / 2 ^ k < 4294967296 := Nat.lt_of_le_of_lt (Nat.div_le_self _ _) hp
      have HS := Lib.hid (flip_step l o p k)
      have HT := Lib.hid (flip_stay l o p k)
      have HF := Lib.hid (flipTo_lt HM.out o p k)
      have HFl := Lib.hid (flipTo_length l o p k)
      generalize p / 2 ^ k = X at *
      by_cases hin : o + k < 8 * l.length
      · by_cases hodd : X % 2 = 1
        · have hodd' : (X : Int) % 2 = 1 := by omega
          have hin' : (o : Int) + (k : Int) < 8 * (l.length : Int) := by omega
          obtain ⟨K, hK⟩ : ∃ K, o + k = K := ⟨_, rfl⟩
          have hKi : (o : Int) + (k : Int) = (K : Int) := by omega
          go_wp2_with fail
          clear hKi
          go_loop [10, 11] (fun x j => ∃ i : Nat, i ≤ K % 8 ∧ j = .int .i64 (i : Int) ∧ x = .int .i64 ((2 ^ i : Nat) : Int)) (fun _ j => K % 8 - (intOf j).toNat)
          case atStart => exact ⟨0, by omega, rfl, rfl⟩
          case round =>
            obtain ⟨i, hi, rfl, rfl⟩ := hrel
            have hW : 2 ^ i ≤ 128 := Nat.pow_le_pow_right (n := 2) (j := 7) (by decide) (by omega)
            by_cases hir : i < K % 8
            · have hir' : (i : Int) < (K : Int) % 8 := by omega
              have HW := Lib.hid (show 2 ^ (i + 1) = 2 ^ i * 2 from Nat.pow_succ 2 i)
              generalize 2 ^ i = W at *
              go_wp2_with fail
              go_round
              case rel => exact ⟨i + 1, by omega, by go_num, by rw [HW.out]; go_num⟩
              case measure => simp [intOf]; omega
            · have hir' : ¬ (i : Int) < (K : Int) % 8 := by omega
              have hKl : K / 8 < (flipTo l o p k).length := by rw [HFl.out]; omega
              have hKl' : (K : Int) / 8 < (l.length : Int) := by omega
              obtain ⟨x, hx⟩ : ∃ x, (flipTo l o p k)[K / 8] = x := ⟨_, rfl⟩
              have hcell : wr.cell? ⟨g, K / 8, none⟩ = some (.int .u8 (x : Int)) := by
                rw [HOk.out.cellAt (K / 8) (by omega), u8s_get _ _ hKl, hx]
              have hfro : wr.frozen? ⟨g, K / 8, none⟩ = false := HOk.out.frozenAt _
              have hx8 : x < 256 := hx ▸ HF.out _ (List.getElem_mem hKl)
              have HWX := Lib.hid (u8_xor_nat x (2 ^ i) hx8 (by omega))
              have hg : w.heap.size ≤ g := (HOk.out.lt g rfl).1
              have HON : Hid ((wr.setCell ⟨g, K / 8, none⟩ (.int .u8 (bits .xor .u8 (x : Int) ((2 ^ i : Nat) : Int)))).ownsRow w.heap.size 5 1 (.slice (some ⟨g, 0, none⟩) l.length cap) l.length (u8s (flipTo l o p (k + 1)))) := by
                show World.ownsRow _ _ _ _ _ _ _
                have e : flipTo l o p (k + 1) = (flipTo l o p k).set (K / 8) (x ^^^ 2 ^ i) := by
                  rw [HS.out hodd (by omega), hK, flipBit, List.getD_eq_getElem?_getD, List.getElem?_eq_getElem hKl, Option.getD_some, hx, show i = K % 8 by omega]
                rw [e, HWX.out, ← u8s_set]
                exact (HOk.out.stored (K / 8) _).1
              have HBN : Hid (Below w.heap.size w (wr.setCell ⟨g, K / 8, none⟩ (.int .u8 (bits .xor .u8 (x : Int) ((2 ^ i : Nat) : Int))))) := HBk.out.trans (Mods.below (Mods.set (fun j => j = g) _ _ _ (fun _ => rfl)) HBk.out.size (fun j hj e => by omega))
              clear hg HWX
              generalize 2 ^ i = W at *
              go_wp2_with fail
              go_roundw
              case rel => exact ⟨k + 1, by omega, by go_num, by rw [HP.out]; rfl, HON, HBN⟩
              case measure => simp [intOf]; omega
        · have hodd' : ¬ (X : Int) % 2 = 1 := by omega
          have hin' : (o : Int) + (k : Int) < 8 * (l.length : Int) := by omega
          have HOn : Hid (wr.ownsRow w.heap.size 5 1 (.slice (some ⟨g, 0, none⟩) l.length cap) l.length (u8s (flipTo l o p (k + 1)))) := by show World.ownsRow _ _ _ _ _ _ _; rw [HT.out (fun h => hodd h.1)]; exact HOk.out
          go_wp2_with fail
          go_roundw
          case rel => exact ⟨k + 1, by omega, by go_num, by rw [HP.out]; rfl, HOn, HBk⟩
          case measure => simp [intOf]; omega
      · have hin' : ¬ (o : Int) + (k : Int) < 8 * (l.length : Int) := by omega
        have HOn : Hid (wr.ownsRow w.heap.size 5 1 (.slice (some ⟨g, 0, none⟩) l.length cap) l.length (u8s (flipTo l o p (k + 1)))) := by show World.ownsRow _ _ _ _ _ _ _; rw [HT.out (fun h => hin h.2)]; exact HOk.out
        go_wp2_with fail
        go_roundw
        case rel => exact ⟨k + 1, by omega, by go_num, by rw [HP.out]; rfl, HOn, HBk⟩
        case measure => simp [intOf]; omega
    · have hlt' : ¬ (k : Int) < 32 := by omega
      have HK : Hid (k = 32) := by show _ = _; omega
      clear hk hlt
      go_wp2_with fail
      go_ret
      exact ⟨_, rfl, by have := HOk.out; rw [HK.out] at this; exact this, HBk.out⟩
end Go.Proofs.YtlgphgipfjlbfaaDoor

end
