/- Layer 1: BitioReads, walked. -/
import Derived.Test.YtgcfgickpooaaaaRef01C
import Derived.Test.YtgcfgickpooaaaaAlive01
import Derived.Test.YtgcfgickpooaaaaOpen
set_option linter.unusedVariables false
namespace Go.Proofs.Ytgcfgickpooaaaa.bitioReads
open Go Go.RowKit

/-- The program's reader and the reference's, at the same bit. -/
structure Both (B : Nat) (w0 w : World) (rp : Nat) (rv : Value) (q : Nat) (qv : Value) (i : Nat) (b : List Nat) : Prop where
  r : ReaderIn w rp rv i b
  f : RefIn w q qv ((unpack b).drop i)
  ne : rp ≠ q
  rq : rv.ownBlock ≠ some q
  qr : (unpack b).drop i ≠ [] → qv.ownBlock ≠ some rp
  hr : B ≤ rp
  hq : B ≤ q
  below : Below B w0 w
theorem Both.on {B : Nat} {w0 w w' : World} {rp q i : Nat} {rv qv : Value} {b : List Nat} (h : Both B w0 w rp rv q qv i b) (hB : B ≤ w.heap.size) (hb : Below w.heap.size w w') : Both B w0 w' rp rv q qv i b :=
  ⟨h.r.mods (Mods.of_below hb (fun _ => False)) (fun e => e) (fun _ _ e => e), h.f.below hb, h.ne, h.rq, h.qr, h.hr, h.hq, h.below.trans (hb.mono hB)⟩
theorem Both.drewN {B : Nat} {w0 w : World} {rp q i : Nat} {rv qv : Value} {b : List Nat} (h : Both B w0 w rp rv q qv i b) (hB : B ≤ w.heap.size) (d : Nat) : Both B w0 (w.drewN d) rp rv q qv i b :=
  h.on hB ((Mods.drewN (fun _ => False) w d).below (Nat.le_refl _) (fun _ _ e => e))
theorem Both.len {B : Nat} {w0 w : World} {rp q i : Nat} {rv qv : Value} {b : List Nat} (h : Both B w0 w rp rv q qv i b) : ((unpack b).drop i).length = 8 * b.length - i := by rw [List.length_drop, unpack_length]
theorem Both.step {B : Nat} {w0 w w1 w2 : World} {rp q i n : Nat} {rv qv qv' : Value} {b : List Nat} (h : Both B w0 w rp rv q qv i b) (hB : B ≤ w.heap.size) (hr : RBitsPost rp rv (i + n) b w w1) (hf : RefBitsPost q qv (((unpack b).drop i).drop n) w1 qv' w2) : Both B w0 w2 rp rv q qv' (i + n) b := by
  have e : ((unpack b).drop i).drop n = (unpack b).drop (i + n) := by rw [List.drop_drop]
  rw [e] at hf
  have hB1 : B ≤ w1.heap.size := Nat.le_trans hB hr.mods.size
  refine ⟨hr.rd.mods hf.mods h.ne (fun k hk e => h.rq (by rw [hk, e])), hf.rd, h.ne, h.rq, fun hne e => ?_, h.hr, h.hq, (h.below.trans (hr.mods.below hB (fun k hk e => by have := h.hr; omega))).trans (hf.mods.below hB1 (fun k hk e => by have := h.hq; omega))⟩
  rw [hf.own hne] at e
  exact h.qr (fun e2 => hne (by rw [← List.drop_drop, e2]; simp)) e

theorem endOf_endR (b : List Nat) (i : Nat) : endOf b i = endR ((unpack b).drop i) := by rw [endOf, endR, List.length_drop, unpack_length]

set_option maxHeartbeats 2000000 in
theorem walk (w : World) (bv : Value) (b : List Nat) (okb : ∀ x ∈ b, x < 256) (hb : Rd w 1 bv b.length (u8s b)) (hzb : b.length * 1 ≤ 140737488351232)
    (v : Value) (l : List Int) (ok : ∀ a ∈ l, -9223372036854775808 ≤ a ∧ a < 9223372036854775808) (hl : Rd w 1 v l.length (l.flatMap fun z => [Value.int .i64 z])) (hz : l.length * 8 ≤ 140737488351232) :
    Calls Try.prog 4 #[bv, v] w fun e w' => e = .returned (.bool true) ∧ Below w.heap.size w w' := by
  have HL := Lib.hid hl
  have HK := Lib.hid ok
  have HBb := Lib.hid hb
  have HKb := Lib.hid okb
  obtain ⟨p, c, hv⟩ := hl.shape
  subst hv
  obtain ⟨pb, cb, hv⟩ := hb.shape
  subst hv
  clear hl ok hb okb
  by_cases hltb : 300 < b.length
  · have hltb' : (300 : Int) < (b.length : Int) := by omega
    go_enter Try.func4, Try.ntmps4
    go_wp2_with fail
    refine (alive_any _).mono ?_
    rintro e w1 ⟨rfl, hB⟩
    go_wp2_with fail
    go_ret
    exact ⟨rfl, hB⟩
  by_cases hlt : 300 < l.length
  · have hltb' : ¬ (300 : Int) < (b.length : Int) := by omega
    have hlt' : (300 : Int) < (l.length : Int) := by omega
    go_enter Try.func4, Try.ntmps4
    go_wp2_with fail
    refine (alive_any _).mono ?_
    rintro e w1 ⟨rfl, hB⟩
    go_wp2_with fail
    go_ret
    exact ⟨rfl, hB⟩
  have hlt' : ¬ (300 : Int) < (l.length : Int) := by omega
  have hltb' : ¬ (300 : Int) < (b.length : Int) := by omega
  go_enter Try.func4, Try.ntmps4
  go_wp2_with fail
  refine (new_reader _ _ _ HBb.out (by omega) HKb.out).mono ?_
  rintro e w1 ⟨rp, rv, rfl, hR, hB1, hrp, hrv⟩
  have HR := Lib.hid hR; have HB1 := Lib.hid hB1; have HRV := Lib.hid hrv
  have hrl := hR.blk.lt
  clear hR hB1 hrv
  go_wp2_with fail
  refine (ref_unpack _ _ _ (HBb.out.below HB1.out) HKb.out (by omega)).mono ?_
  rintro e w2 ⟨u, rfl, hM⟩
  obtain ⟨up, uc, hush⟩ := (Rd.of_owns hM.1).shape
  subst hush
  have h12 : w1.heap.size ≤ w2.heap.size := hM.2.size
  have hul := owns_lt hM.1
  have hB2 : Below w.heap.size w w2 := HB1.out.trans (hM.2.mono HB1.out.size)
  have hal : Below w2.heap.size w2 (w2.alloc (.cells #[.slice up (unpack b).length uc] 41)) := (Below.refl _ _).alloc (Nat.le_refl _) _
  have HBo : Hid (Both w.heap.size w (w2.alloc (.cells #[.slice up (unpack b).length uc] 41)) rp rv w2.heap.size (.slice up (unpack b).length uc) 0 b) := by
    refine ⟨?_, ⟨Blk.new _ _ _, (Rd.of_owns hM.1).below hal, fun _ e => by have := hul _ e; omega⟩, by omega, fun e => ?_, fun _ e => ?_, hrp, hB2.size, hB2.trans (hal.mono hB2.size)⟩
    · exact (HR.out.mods (Mods.of_below hM.2 (fun _ => False)) (fun e => e) (fun _ _ e => e)).mods (Mods.of_below hal (fun _ => False)) (fun e => e) (fun _ _ e => e)
    · have := HRV.out _ e; omega
    · have := (hM.1.lt _ e).1; omega
  clear hM hul hal hB2
  go_wp2
  generalize w2.alloc (.cells #[.slice up (unpack b).length uc] 41) = w3 at *
  generalize w2.heap.size = q at *
  go_loopw [32] (fun c wr => ∃ (j i : Nat) (qv : Value), j ≤ l.length ∧ c = .int .i64 j ∧ Both w.heap.size w wr rp rv q qv i b) (fun c _ => l.length - (intOf c).toNat)
  case atStart => exact ⟨0, 0, _, Nat.zero_le _, rfl, HBo.out⟩
  case round =>
    obtain ⟨j, i, qv, hj, rfl, hBo⟩ := hrel
    by_cases hjl : j < l.length
    · have hx := HK.out l[j] (List.getElem_mem _)
      obtain ⟨bk, off, c', hv, hcell, hbl⟩ := rd_cell HL.out j hjl
      simp only [Value.slice.injEq] at hv
      obtain ⟨rfl, _, rfl⟩ := hv
      have hcw : wr.cell? ⟨bk, off + j, none⟩ = some (.int .i64 l[j]) := (hBo.below.cell (p := ⟨bk, off + j, none⟩) hbl).trans hcell
      clear hcell hbl
      generalize l[j] = n at *
      have HBo2 := Lib.hid hBo; clear hBo
      go_wp2_with fail
      by_cases hbad : n < 0 ∨ 64 < n
      · refine (rbits_bad _ _ _ hbad).mono ?_
        rintro e w4 ⟨rfl, rfl⟩
        go_wp2_with fail
        refine (ref_rbits_bad _ _ _ hbad).mono ?_
        rintro e w4 ⟨rfl, rfl⟩
        have HX := HBo2
        have hlen := HX.out.len
        have hi8 := HX.out.r.le
        obtain ⟨qp, qc, hqs⟩ := HX.out.f.rd.shape
        obtain ⟨N, hN⟩ : ∃ N, ((unpack b).drop i).length = N := ⟨_, rfl⟩
        have hN8 : (8 * (b.length : Int) - ((i : Nat) : Int) != (N : Int)) = false := by rw [bne_eq_false_iff_eq]; omega
        have hNl : N ≤ 2400 := by omega
        rw [hN] at hqs
        have HQS := Lib.hid hqs; clear hqs
        have HEE := Lib.hid (endOf_endR b i)
        have HN := Lib.hid hN
        clear hlen hN hi8
        generalize hE : endR ((unpack b).drop i) = E at HEE
        have HE2 := Lib.hid hE
        clear hE
        go_wp2
        refine wp_region_class (C := fun w' => Both w.heap.size w w' rp rv q qv i b) (HX.out.drewN HX.out.below.size 1) (by kernel_rfl) (by kernel_rfl) ?_
        repeat (go_big_quiet_step ((first | rfl | (exact fun _ => rfl) | (intro hC; rw [hC.f.blk.cell, HQS.out]; exact ⟨rfl, rfl⟩) | (intro hC; exact (left_any _ _ _ _ _ hC.r).mono fun e w' ⟨he, d, hd⟩ => ⟨he, by rw [hd]; exact hC.drewN hC.below.size d⟩) | (intro hC; exact (rend _ _ _ _ _ hC.r).mono fun e w' ⟨he, d, hd⟩ => ⟨he.trans (by rw [HEE.out]), by rw [hd]; exact hC.drewN hC.below.size d⟩) | (intro hC; exact (ref_end _ _ _ _ hC.f (by rw [HN.out]; omega)).mono fun e w' ⟨he, hd⟩ => ⟨he.trans (by rw [HE2.out]), by rw [hd]; exact hC⟩))))
        refine wpQuiet_nil ?_
        intro w9 hC9
        have HC9 := Lib.hid hC9; clear hC9
        go_wp2
        go_roundw
        case rel => exact ⟨j + 1, i, qv, by omega, by go_num, HC9.out⟩
        case measure => simp [intOf]; omega
      · obtain ⟨m, rfl⟩ := Int.eq_ofNat_of_zero_le (show 0 ≤ n by omega)
        have hm64 : m ≤ 64 := by omega
        by_cases hfit : i + m ≤ 8 * b.length
        · refine (rbits _ _ _ m _ _ HBo2.out.r hm64 hfit).mono ?_
          rintro e w4 ⟨rfl, hP⟩
          have hf4 : RefIn w4 q qv ((unpack b).drop i) := HBo2.out.f.mods hP.mods (fun e => HBo2.out.ne e.symm) (fun hne k hk e => HBo2.out.qr hne (by rw [hk, e]))
          have hlm : m ≤ ((unpack b).drop i).length := by rw [HBo2.out.len]; omega
          have hseg : numOf (seg b i m) = numOf (((unpack b).drop i).take m) := rfl
          have HP := Lib.hid hP; have HF4 := Lib.hid hf4
          rw [hseg]
          clear hP hf4 hseg
          go_wp2_with fail
          refine (ref_rbits _ _ m _ _ HF4.out hm64 hlm (by rw [HBo2.out.len]; omega)).mono ?_
          rintro e w5 ⟨rfl, qv2, hF⟩
          have HX := Lib.hid (HBo2.out.step HBo2.out.below.size HP.out hF)
          clear hF hlm
          generalize numOf (((unpack b).drop i).take m) = X at *
          clear HP HF4
          generalize i + m = i2 at *
          have hlen := HX.out.len
          have hi8 := HX.out.r.le
          obtain ⟨qp, qc, hqs⟩ := HX.out.f.rd.shape
          obtain ⟨N, hN⟩ : ∃ N, ((unpack b).drop i2).length = N := ⟨_, rfl⟩
          have hN8 : (8 * (b.length : Int) - ((i2 : Nat) : Int) != (N : Int)) = false := by rw [bne_eq_false_iff_eq]; omega
          have hNl : N ≤ 2400 := by omega
          rw [hN] at hqs
          have HQS := Lib.hid hqs; clear hqs
          have HEE := Lib.hid (endOf_endR b i2)
          have HN := Lib.hid hN
          clear hlen hN hi8
          generalize hE : endR ((unpack b).drop i2) = E at HEE
          have HE2 := Lib.hid hE
          clear hE
          go_wp2
          refine wp_region_class (C := fun w' => Both w.heap.size w w' rp rv q qv2 i2 b) (HX.out.drewN HX.out.below.size 1) (by kernel_rfl) (by kernel_rfl) ?_
          repeat (go_big_quiet_step ((first | rfl | (exact fun _ => rfl) | (intro hC; rw [hC.f.blk.cell, HQS.out]; exact ⟨rfl, rfl⟩) | (intro hC; exact (left_any _ _ _ _ _ hC.r).mono fun e w' ⟨he, d, hd⟩ => ⟨he, by rw [hd]; exact hC.drewN hC.below.size d⟩) | (intro hC; exact (rend _ _ _ _ _ hC.r).mono fun e w' ⟨he, d, hd⟩ => ⟨he.trans (by rw [HEE.out]), by rw [hd]; exact hC.drewN hC.below.size d⟩) | (intro hC; exact (ref_end _ _ _ _ hC.f (by rw [HN.out]; omega)).mono fun e w' ⟨he, hd⟩ => ⟨he.trans (by rw [HE2.out]), by rw [hd]; exact hC⟩))))
          refine wpQuiet_nil ?_
          intro w9 hC9
          have HC9 := Lib.hid hC9; clear hC9
          go_wp2
          go_roundw
          case rel => exact ⟨j + 1, i2, qv2, by omega, by go_num, HC9.out⟩
          case measure => simp [intOf]; omega
        · refine (rbits_eof _ _ _ m _ _ HBo2.out.r hm64 (by omega)).mono ?_
          rintro e w4 ⟨rfl, d, rfl⟩
          have HX := Lib.hid (HBo2.out.drewN HBo2.out.below.size d)
          have hlm : ((unpack b).drop i).length < m := by have := HBo2.out.r.le; rw [HBo2.out.len]; omega
          go_wp2_with fail
          refine (ref_rbits_eof _ _ m _ _ HX.out.f hm64 hlm).mono ?_
          rintro e w5 ⟨rfl, rfl⟩
          clear hlm
          have hlen := HX.out.len
          have hi8 := HX.out.r.le
          obtain ⟨qp, qc, hqs⟩ := HX.out.f.rd.shape
          obtain ⟨N, hN⟩ : ∃ N, ((unpack b).drop i).length = N := ⟨_, rfl⟩
          have hN8 : (8 * (b.length : Int) - ((i : Nat) : Int) != (N : Int)) = false := by rw [bne_eq_false_iff_eq]; omega
          have hNl : N ≤ 2400 := by omega
          rw [hN] at hqs
          have HQS := Lib.hid hqs; clear hqs
          have HEE := Lib.hid (endOf_endR b i)
          have HN := Lib.hid hN
          clear hlen hN hi8
          generalize hE : endR ((unpack b).drop i) = E at HEE
          have HE2 := Lib.hid hE
          clear hE
          go_wp2
          refine wp_region_class (C := fun w' => Both w.heap.size w w' rp rv q qv i b) (HX.out.drewN HX.out.below.size 1) (by kernel_rfl) (by kernel_rfl) ?_
          repeat (go_big_quiet_step ((first | rfl | (exact fun _ => rfl) | (intro hC; rw [hC.f.blk.cell, HQS.out]; exact ⟨rfl, rfl⟩) | (intro hC; exact (left_any _ _ _ _ _ hC.r).mono fun e w' ⟨he, d, hd⟩ => ⟨he, by rw [hd]; exact hC.drewN hC.below.size d⟩) | (intro hC; exact (rend _ _ _ _ _ hC.r).mono fun e w' ⟨he, d, hd⟩ => ⟨he.trans (by rw [HEE.out]), by rw [hd]; exact hC.drewN hC.below.size d⟩) | (intro hC; exact (ref_end _ _ _ _ hC.f (by rw [HN.out]; omega)).mono fun e w' ⟨he, hd⟩ => ⟨he.trans (by rw [HE2.out]), by rw [hd]; exact hC⟩))))
          refine wpQuiet_nil ?_
          intro w9 hC9
          have HC9 := Lib.hid hC9; clear hC9
          go_wp2
          go_roundw
          case rel => exact ⟨j + 1, i, qv, by omega, by go_num, HC9.out⟩
          case measure => simp [intOf]; omega
    · obtain rfl : j = l.length := by omega
      have hlen := hBo.len
      have hi8 := hBo.r.le
      obtain ⟨qp, qc, hqs⟩ := hBo.f.rd.shape
      obtain ⟨N, hN⟩ : ∃ N, ((unpack b).drop i).length = N := ⟨_, rfl⟩
      have hN8 : (8 * (b.length : Int) - (i : Int) == (N : Int)) = true := by rw [beq_iff_eq]; omega
      have hNl : N ≤ 2400 := by omega
      rw [hN] at hqs
      subst hqs
      have hEE := endOf_endR b i
      have HEE := Lib.hid hEE
      have HX := Lib.hid hBo
      have HN := Lib.hid hN
      clear hBo hEE hlen hN hi8
      generalize hE : endR ((unpack b).drop i) = E at HEE
      have HE2 := Lib.hid hE
      clear hE
      go_wp2
      refine wp_region_class (C := fun w' => Both w.heap.size w w' rp rv q (.slice qp N qc) i b) (HX.out.drewN HX.out.below.size 1) (by kernel_rfl) (by kernel_rfl) ?_
      go_big_quiet_step ((intro hC; exact (alive_any _).mono fun e w' ⟨he, hb⟩ => ⟨he, hC.on hC.below.size hb⟩))
      repeat (go_big_quiet_step ((first | rfl | (exact fun _ => rfl) | (intro hC; rw [hC.f.blk.cell]; exact ⟨rfl, rfl⟩) | (intro hC; exact (left_any _ _ _ _ _ hC.r).mono fun e w' ⟨he, d, hd⟩ => ⟨he, by rw [hd]; exact hC.drewN hC.below.size d⟩) | (intro hC; exact (rend _ _ _ _ _ hC.r).mono fun e w' ⟨he, d, hd⟩ => ⟨he.trans (by rw [HEE.out]), by rw [hd]; exact hC.drewN hC.below.size d⟩) | (intro hC; exact (ref_end _ _ _ _ hC.f (by rw [HN.out]; omega)).mono fun e w' ⟨he, hd⟩ => ⟨he.trans (by rw [HE2.out]), by rw [hd]; exact hC⟩))))
      refine wpQuiet_nil ?_
      intro w9 hC9
      go_wp2
      go_ret
      exact ⟨rfl, hC9.below⟩
end Go.Proofs.Ytgcfgickpooaaaa.bitioReads
