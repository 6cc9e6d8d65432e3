/- Ref15H, Table15, in one text. -/
import Derived.Test.YtpjfhakmffcolaaMrg13
import Derived.Test.YtpjfhakmffcolaaMrg7
import Derived.Test.YtpjfhakmffcolaaMrg18
import Derived.Test.YtpjfhakmffcolaaMrg5
import Derived.Deep.CutRange
import Derived.Deep.Cut
import Derived.Deep.CutBlock
import Derived.Test.YtpjfhakmffcolaaMrg2
import Derived.Test.YtpjfhakmffcolaaMrg17
import Derived.Test.YtpjfhakmffcolaaMrg6

section
/- Layer 15: the reference's Decode. -/
set_option linter.unusedVariables false
set_option maxRecDepth 20000
namespace Go.Proofs.Ytpjfhakmffcolaa
open Go Go.RowKit

theorem elemEnt15d : Elem Try.prog 27 67 3 56 := Elem.mk' (z := .agg #[.string ⟨#[]⟩, .string ⟨#[]⟩, .slice none 0 0]) Try.underlying27 (by kernel_rfl) rfl (by decide)
theorem elemInt15d : Elem Try.prog 38 3 1 8 := Elem.mk' (z := .int .i64 0) Try.underlying38 (by kernel_rfl) rfl (by decide)

set_option maxHeartbeats 16000000 in
theorem ref_decode15 (tv bv : Value) (t : List ByteArray) (n : Int) (B : List Nat) (w : World) (ht : Rd w 1 tv t.length (strs t)) (hn : t.length ≤ 100000000) (hnn : -9223372036854775808 ≤ n ∧ n ≤ 9223372036854775807) (hl : Rd w 1 bv B.length (u8s B)) (hB : ∀ c ∈ B, c < 256) (hz : B.length ≤ 100000000) :
    Calls Try.prog 29 #[tv, .int .i64 n, bv] w (GotPo w (decPo t n B)) := by
  have HBl := Lib.hid hB; have HT := Lib.hid ht; have HTn := Lib.hid hn; have HZ := Lib.hid hz
  by_cases hneg : n < 0
  · have HD : Hid (decPo t n B = (2, [])) := if_pos hneg
    obtain ⟨pb, cb, hv⟩ := hl.shape
    subst hv
    obtain ⟨pt, ct, hv⟩ := ht.shape
    subst hv
    clear ht hn hnn hl hB hz
    go_enter Try.func29, Try.ntmps29
    go_wp2_with fail
    go_ret2
    exact ⟨by rw [HD.out]; exact ⟨_, rfl, RdE.nil _⟩, Below.refl _ _⟩
  · have hneg' : ¬ n < 0 := hneg
    obtain ⟨T, hT⟩ : ∃ T, outE (pEnts t n B 0) 0 = T := ⟨_, rfl⟩
    have HTT := Lib.hid hT
    have HNn : Hid (0 ≤ n ∧ n ≤ 9223372036854775807) := ⟨by omega, hnn.2⟩
    have HVl : Hid (B ≠ [] → ∀ k, bv.ownBlock = some k → k < w.heap.size) := fun hne => hl.lt (fun e => hne (List.eq_nil_of_length_eq_zero (by have := congrArg List.length e; rw [u8s_length] at this; exact this)))
    have HTl : Hid (t ≠ [] → ∀ k, tv.ownBlock = some k → k < w.heap.size) := fun hne => ht.lt (fun e => hne (List.eq_nil_of_length_eq_zero (by have := congrArg List.length e; rw [strs_length] at this; exact this)))
    have HB1 : Hid (Below w.heap.size w (w.alloc (.cells #[bv, .int .i64 0, .int .i64 0] 96))) := (Below.refl _ w).alloc (Nat.le_refl _) _
    have HR1 : Hid (QRd (w.alloc (.cells #[bv, .int .i64 0, .int .i64 0] 96)) w.heap.size bv B tv t 0 0) := ⟨⟨Blk.new w _ _, hl.below HB1.out, fun hne k hk e => by have := HVl.out hne k hk; omega⟩, ht.below HB1.out, fun _ => Nat.zero_le _, fun hne k hk e => by have := HTl.out hne k hk; omega⟩
    obtain ⟨pb, cb, hv⟩ := hl.shape
    subst hv
    obtain ⟨pt, ct, hv⟩ := ht.shape
    subst hv
    clear ht hn hnn hl hB hz hneg hT
    go_enter Try.func29, Try.ntmps29
    go_wp2_with fail
    generalize w.alloc (.cells #[.slice pb B.length cb, .int .i64 0, .int .i64 0] 96) = w1 at *
    obtain ⟨q, hq⟩ : ∃ q, w.heap.size = q := ⟨_, rfl⟩
    have HQ := Lib.hid hq
    rw [hq] at HR1 ⊢
    clear hq
    refine (rq_count q _ B _ t 0 0 w1 HR1.out HBl.out HZ.out).mono ?_
    rintro en w2 ⟨hm, cnt, b0, e0, rfl, hcn, hR, hf, h0⟩
    have HM2 : Hid (Below w.heap.size w w2) := HB1.out.trans (hm.below HB1.out.size (fun k hk e => by have := HQ.out; omega))
    have HR2 := Lib.hid hR
    have HS2 : Hid (T = outE (pManyS (pEnt t n) (fun _ e => some e.1) B (cnt - 0) b0 none []) e0) := by
      show _ = _
      rw [← HTT.out]
      exact listS_go hf (Or.inl rfl)
    clear hm hR hf h0 HB1 HR1
    have hni : (cnt : Int) ≤ 100000000 := by omega
    go_wp2_with fail
    go_loopw [10, 11] (fun vv iv wr => ∃ (i x e : Nat) (M : List EntV), i ≤ cnt ∧ iv = .int .i64 (i : Int) ∧ Hid (M.length = i) ∧ Hid (DcE 67 w q wr M vv) ∧ Hid (QRd wr q (.slice pb B.length cb) B (.slice pt t.length ct) t x e) ∧ Hid (T = outE (pManyS (pEnt t n) (fun _ e => some e.1) B (cnt - i) x (lastE (M.map Prod.fst)) (M.map Prod.fst)) e)) (fun _ iv _ => cnt - (intOf iv).toNat)
    case atStart => exact ⟨0, b0, e0, [], Nat.zero_le _, rfl, rfl, (⟨⟨World.ownsRow_nil _ _ _ _, HM2.out, fun p hp => by cases hp⟩, (fun k hk => by cases hk), fun p hp => by cases hp⟩ : DcE _ w q w2 [] _), HR2.out, HS2.out⟩
    case round =>
      obtain ⟨i, x, e, M, hi, rfl, HL, HDc, HR, HS⟩ := hrel
      clear HR2 HS2 HM2
      have him : (i : Int) ≤ 100000000 := by omega
      obtain ⟨c0, c1, c2, f1, f2⟩ := HR.out.rr.cells
      obtain ⟨pv, cv, hvv⟩ := HDc.out.nr.shape
      subst hvv
      by_cases hlt : i < cnt
      · have hlt' : (i : Int) < (cnt : Int) := by omega
        by_cases he : e = 0
        · subst he
          go_wp2_with fail
          refine (rq_symbol q _ B _ t x 0 wr HR.out HBl.out HTn.out).mono ?_
          rintro en w3 ⟨hm3, s1, x1, e1, rfl, hR3, hf1⟩
          have HR3 := Lib.hid hR3; have HF1 := Lib.hid hf1; have HM3 := Lib.hid hm3
          have HDc3 := Lib.hid (HDc.out.mods hm3 (by have := HQ.out; omega))
          clear hm3 hR3 hf1 HR HDc c0 c1 c2 f1 f2
          go_wp2_with fail
          refine (rq_symbol q _ B _ t x1 e1 w3 HR3.out HBl.out HTn.out).mono ?_
          rintro en w4 ⟨hm4, s2, x2, e2, rfl, hR4, hf2⟩
          have HF2 : Hid (outE (pLab t B x) 0 = fin (s1, s2) x2 e2) := fin_pair HF1.out hf2
          have HDc4 := Lib.hid (HDc3.out.mods hm4 (by have := HQ.out; omega))
          have hbA : Hid (Below w4.heap.size w4 (w4.alloc (.cells #[.string s1, .string s2, .slice none 0 0] 67))) := (Below.refl _ w4).alloc (Nat.le_refl _) _
          have HDc5 := Lib.hid (HDc4.out.below hbA.out)
          have HR5 := Lib.hid (hR4.below hbA.out)
          have HG : Hid (Blk (w4.alloc (.cells #[.string s1, .string s2, .slice none 0 0] 67)) w4.heap.size [.string s1, .string s2, .slice none 0 0]) := Blk.new _ _ _
          have HS5 : Hid ((w4.alloc (.cells #[.string s1, .string s2, .slice none 0 0] 67)).heap.size = w4.heap.size + 1 ∧ w.heap.size ≤ w4.heap.size ∧ q < w4.heap.size) := ⟨by simp, HDc4.out.nr.bel.size, hR4.rr.blk.lt⟩
          have HMv : Hid (∀ k, (Value.slice pv M.length cv).ownBlock = some k → k < w4.heap.size) := fun k hk => (HDc4.out.nr.row.lt k hk).2
          have HMs : Hid (∀ p ∈ M, p.1.2 ≠ [] → ∀ k, p.2.ownBlock = some k → k < w4.heap.size) := fun p hp hne k hk => (HDc4.out.nr.ser p hp).1.lt (i64s_ne15' hne) k hk
          clear hm4 hR4 hf2 HF1 HR3 HDc3 HM3 HDc4 hbA
          go_upto_region 11 with fail
          generalize w4.alloc (.cells #[.string s1, .string s2, .slice none 0 0] 67) = w5 at *
          obtain ⟨g, hg⟩ : ∃ g, w4.heap.size = g := ⟨_, rfl⟩
          rw [hg] at HG HS5 HMv HMs ⊢
          clear hg
          have hcase : (ltOpt (lastE (M.map Prod.fst)) (s1, s2) = true ∧ i = 0) ∨ (∃ (j : Nat) (d1 d2 : ByteArray), i = j + 1 ∧ ltOpt (lastE (M.map Prod.fst)) (s1, s2) = decide (cmpLab (d1, d2) (s1, s2) = -1) ∧ ∃ b off, pv = some ⟨b, off, none⟩ ∧ ∀ w', Below w5.heap.size w5 w' → w'.cell? ⟨b, off + j * 3, none⟩ = some (.string d1) ∧ w'.cell? ⟨b, off + j * 3 + 1, none⟩ = some (.string d2)) := by
            cases i with
            | zero =>
              have : M = [] := List.eq_nil_of_length_eq_zero HL.out
              left
              rw [this]
              exact ⟨rfl, rfl⟩
            | succ j =>
              right
              obtain ⟨⟨⟨d1, d2⟩, ds⟩, hd⟩ : ∃ p, (M.map Prod.fst)[j]? = some p := ⟨_, List.getElem?_eq_getElem (by rw [List.length_map]; have := HL.out; omega)⟩
              have hrd := HDc5.out.nr.rd
              have hml : (M.map Prod.fst).length = M.length := List.length_map ..
              rw [← hml] at hrd
              obtain ⟨b, off, q3, d3, e3, hal⟩ := hrd.always hd
              refine ⟨j, d1, d2, rfl, ?_, b, off, e3, fun w' hb => ⟨(hal w' hb).1.1, (hal w' hb).1.2.1⟩⟩
              rw [lastE_at hd (by rw [hml]; exact HL.out)]
              show ltE (d1, d2) (s1, s2) = _
              rfl
          obtain ⟨ok, hok⟩ : ∃ ok, ltOpt (lastE (M.map Prod.fst)) (s1, s2) = ok := ⟨_, rfl⟩
          have HOk := Lib.hid hok
          rw [hok] at hcase
          have HCase := Lib.hid hcase
          clear hok hcase
          go_cut [59] from 25 to 117 (fun bv wx => bv = .bool (!ok) ∧ Hid (Grw w5 wx))
          case first =>
            rcases HCase.out with ⟨hk1, hi0⟩ | ⟨j, d1, d2, hij, hk1, b, off, hpv, hcell⟩
            · subst hk1; subst hi0
              clear HCase
              go_quiet (fail)
              have HW : Hid (Grw w5 (w5.drewN nq)) := (Grw.refl w5).drewN nq
              generalize w5.drewN nq = w6 at *
              go_wp2_with fail
              go_meet
              exact ⟨rfl, HW.out⟩
            · subst hpv
              have HJ := Lib.hid hij
              have hi0 : decide (0 < i) = true := decide_eq_true (by omega)
              have hj1 : (i : Int) - 1 = (j : Int) := by omega
              have hj0 : (0 : Int) ≤ (j : Int) := by omega
              have hji : (j : Int) < (M.length : Int) := by have := HL.out; omega
              have hjw : IntKind.i64.wrap (j : Int) = (j : Int) := IntWalk.i64_in _ (by omega)
              have HGr : Hid (∀ n os, Grw w5 (Go.Sort.grow (w5.drewN n) os)) := fun n os => (Grw.refl w5).grow n os
              have z0 : ∀ n os, (Go.Sort.grow (w5.drewN n) os).cell? ⟨g, 0, none⟩ = some (.string s1) := fun n os => (HGr.out n os).below.cell (HG.out.lt) |>.trans (HG.out.cell 0)
              have z1 : ∀ n os, (Go.Sort.grow (w5.drewN n) os).cell? ⟨g, 1, none⟩ = some (.string s2) := fun n os => (HGr.out n os).below.cell (HG.out.lt) |>.trans (HG.out.cell 1)
              have z2 : ∀ n os, (Go.Sort.grow (w5.drewN n) os).cell? ⟨b, off + j * 3, none⟩ = some (.string d1) := fun n os => (hcell _ (HGr.out n os).below).1
              have z3 : ∀ n os, (Go.Sort.grow (w5.drewN n) os).cell? ⟨b, off + j * 3 + 1, none⟩ = some (.string d2) := fun n os => (hcell _ (HGr.out n os).below).2
              have HXC : Hid (∀ n os, Calls Try.prog 54 #[.agg #[.string d1, .string d2], .agg #[.string s1, .string s2]] (Go.Sort.grow (w5.drewN n) os) fun e w' => e = .returned (.int .i64 (cmpLab (d1, d2) (s1, s2))) ∧ ∃ q os', w' = Go.Sort.grow ((Go.Sort.grow (w5.drewN n) os).drewN q) os') := fun n os => ref_compare15 (d1, d2) (s1, s2) _
              have hdom := cmpLab_ok.dom (d1, d2) (s1, s2)
              generalize cmpLab (d1, d2) (s1, s2) = cv2 at *
              clear hij hcell HCase
              have mixed : Try.prog.follows .mixedOrders = true := by kernel_rfl
              rcases hdom with rfl | rfl | rfl
              · have hk2 : ok = true := hk1.trans (by decide)
                subst hk2
                clear hk1
                go_quiet_grown (first | (go_at_call 54; exact Calls.grown_of (HXC.out _ _)))
                have HW := Lib.hid (HGr.out nq osq)
                clear z0 z1 z2 z3 HXC HGr mixed
                generalize Go.Sort.grow (w5.drewN nq) osq = w6 at *
                go_wp2_with fail
                go_meet
                exact ⟨rfl, HW.out⟩
              · have hk2 : ok = false := hk1.trans (by decide)
                subst hk2
                clear hk1
                go_quiet_grown (first | (go_at_call 54; exact Calls.grown_of (HXC.out _ _)))
                have HW := Lib.hid (HGr.out nq osq)
                clear z0 z1 z2 z3 HXC HGr mixed
                generalize Go.Sort.grow (w5.drewN nq) osq = w6 at *
                go_wp2_with fail
                go_meet
                exact ⟨rfl, HW.out⟩
              · have hk2 : ok = false := hk1.trans (by decide)
                subst hk2
                clear hk1
                go_quiet_grown (first | (go_at_call 54; exact Calls.grown_of (HXC.out _ _)))
                have HW := Lib.hid (HGr.out nq osq)
                clear z0 z1 z2 z3 HXC HGr mixed
                generalize Go.Sort.grow (w5.drewN nq) osq = w6 at *
                go_wp2_with fail
                go_meet
                exact ⟨rfl, HW.out⟩
          case rest =>
          obtain ⟨rfl, HW⟩ := hcut
          generalize wc = w6 at *
          have HDc6 := Lib.hid (HDc5.out.below HW.out.below)
          have HR6 := Lib.hid (HR5.out.below HW.out.below)
          have HG6 := Lib.hid (HW.out.blk HG.out)
          have HS6 : Hid (w.heap.size ≤ g ∧ q < g ∧ g < w6.heap.size) := ⟨HS5.out.2.1, HS5.out.2.2, HG6.out.lt⟩
          clear HDc5 HR5 HG HS5 HW HCase
          go_upto_if 59 with fail
          go_cut [59] from 25 to 117 (fun bv wx => ∃ (bb : Bool) (e3 : Nat), bv = .bool bb ∧ Hid (outE (pLabO t (lastE (M.map Prod.fst)) B x) 0 = fin (s1, s2) x2 e3) ∧ Hid (QRd wx q (.slice pb B.length cb) B (.slice pt t.length ct) t x2 e3) ∧ Hid (Mods (fun k => k = q) w6 wx))
          case first =>
            cases ok with
            | true =>
              have HO2 : Hid (outE (pLabO t (lastE (M.map Prod.fst)) B x) 0 = fin (s1, s2) x2 e2) := only_yes (by decide) HF2.out HOk.out
              go_wp2_with fail
              go_meet
              exact ⟨_, e2, rfl, HO2.out, HR6.out, Mods.refl _ _⟩
            | false =>
              have HO2 : Hid (outE (pLabO t (lastE (M.map Prod.fst)) B x) 0 = fin (s1, s2) x2 (if e2 = 0 then 16 else e2)) := only_no (by decide) HF2.out HOk.out
              have HFl := Lib.hid (rq_fail q _ B _ t x2 e2 w6 HR6.out 16 (by decide))
              rw [show ((16 : Nat) : Int) = 16 from rfl] at HFl
              go_wp2_with fail
              refine HFl.out.mono ?_
              rintro en w7 ⟨rfl, hR7, hm7⟩
              have HR7 := Lib.hid hR7; have HM7 := Lib.hid hm7
              clear HFl hR7 hm7
              go_wp2_with fail
              go_meet
              exact ⟨_, _, rfl, HO2.out, HR7.out, HM7.out⟩
          case rest =>
          obtain ⟨bb, e3, rfl, HF3, HR7, HM7⟩ := hcut
          generalize wc = w7 at *
          have HDc7 := Lib.hid (HDc6.out.mods HM7.out (by have := HQ.out; omega))
          have HG7 := Lib.hid (HM7.out.blk HG6.out (by have := HS6.out; omega))
          have HS7 : Hid (w.heap.size ≤ g ∧ q < g ∧ g < w7.heap.size) := ⟨HS6.out.1, HS6.out.2.1, HG7.out.lt⟩
          clear HDc6 HR6 HG6 HS6 HM7 HF2 HOk
          go_wp2_with fail
          refine (rq_count q _ B _ t x2 e3 w7 HR7.out HBl.out HZ.out).mono ?_
          rintro en w8 ⟨hm8, k1, x3, e4, rfl, hk1, hR8, hf8, h08⟩
          have HR8 := Lib.hid hR8; have HF8 := Lib.hid hf8; have H08 := Lib.hid h08
          have HDc8 := Lib.hid (HDc7.out.mods hm8 (by have := HQ.out; omega))
          have HG8 := Lib.hid (hm8.blk HG7.out (by have := HS7.out; omega))
          have HS8 : Hid (w.heap.size ≤ g ∧ q < g ∧ g < w8.heap.size) := ⟨HS7.out.1, HS7.out.2.1, HG8.out.lt⟩
          have hk1i : (k1 : Int) ≤ 100000000 := by omega
          clear hm8 hR8 hf8 h08 HDc7 HG7 HS7 HR7
          go_upto_if 65 with fail
          go_cut [65] from 25 to 117 (fun bv wx => ∃ (bb : Bool) (e5 : Nat), bv = .bool bb ∧ Hid (outE (pSers n B x2) e3 = outE (pManyS (pSer n) (fun _ x => some x) B (k1 - 0) x3 (lastI []) []) e5) ∧ Hid (QRd wx q (.slice pb B.length cb) B (.slice pt t.length ct) t x3 e5) ∧ Hid (Mods (fun k => k = q) w8 wx))
          case first =>
            by_cases hk0 : k1 = 0
            · have hk0b : ((k1 : Int) == 0) = true := by rw [beq_iff_eq]; omega
              have HO2 : Hid (outE (pSers n B x2) e3 = outE (pManyS (pSer n) (fun _ x => some x) B (k1 - 0) x3 (lastI []) []) (if e4 = 0 then 22 else e4)) := listS_zero (by decide) HF8.out hk0
              have HFl := Lib.hid (rq_fail q _ B _ t x3 e4 w8 HR8.out 22 (by decide))
              rw [show ((22 : Nat) : Int) = 22 from rfl] at HFl
              clear hk0
              go_wp2_with fail
              refine HFl.out.mono ?_
              rintro en w9 ⟨rfl, hR9, hm9⟩
              have HR9 := Lib.hid hR9; have HM9 := Lib.hid hm9
              clear HFl hR9 hm9
              go_wp2_with fail
              go_meet
              exact ⟨_, _, rfl, HO2.out, HR9.out, HM9.out⟩
            · have hk0i : ¬ (k1 : Int) = 0 := by omega
              have hk0b : ((k1 : Int) == 0) = false := by rw [beq_eq_false_iff_ne]; exact hk0i
              have HO2 : Hid (outE (pSers n B x2) e3 = outE (pManyS (pSer n) (fun _ x => some x) B (k1 - 0) x3 (lastI []) []) e4) := listS_go HF8.out (Or.inr hk0)
              clear hk0
              go_wp2_with fail
              go_meet
              exact ⟨_, _, rfl, HO2.out, HR8.out, Mods.refl _ _⟩
          case rest =>
          obtain ⟨bb2, e5, rfl, HSe, HR9, HM9⟩ := hcut
          generalize wc = w9 at *
          have HDc9 := Lib.hid (HDc8.out.mods HM9.out (by have := HQ.out; omega))
          have HG9 := Lib.hid (HM9.out.blk HG8.out (by have := HS8.out; omega))
          have HS9 : Hid (w.heap.size ≤ g ∧ q < g ∧ g < w9.heap.size) := ⟨HS8.out.1, HS8.out.2.1, HG9.out.lt⟩
          clear HDc8 HR8 HG8 HS8 HM9 HF8 H08
          go_upto_block 2 with fail
          go_cut [15, 16, 17] from 25 to 117 (fun lv jv dv wx => ∃ (y e6 : Nat) (acc : List Int) (sp : Option Addr) (sc : Nat), Hid (outE (pSers n B x2) e3 = fin acc y e6) ∧ Hid (acc.length ≤ 100000000) ∧ Hid (Blk wx g [.string s1, .string s2, .slice sp acc.length sc]) ∧ Hid (wx.ownsRow (g + 1) 3 1 (.slice sp acc.length sc) acc.length (i64s acc)) ∧ Hid (QRd wx q (.slice pb B.length cb) B (.slice pt t.length ct) t y e6) ∧ Hid (Mods (fun k => k = q ∨ g ≤ k) w9 wx))
          case first =>
            go_wp2_with fail
            go_loopw [15, 16] (fun lv jv wr2 => ∃ (j y e6 lastv : Nat) (acc : List Int) (sp : Option Addr) (sc : Nat), j ≤ k1 ∧ jv = .int .i64 (j : Int) ∧ lv = .int .u64 (lastv : Int) ∧ Hid (acc.length = j) ∧ Hid (e6 = 0 → (lastv : Int) = (lastI acc).getD 0 ∧ lastv < 9223372036854775808) ∧ Hid (outE (pSers n B x2) e3 = outE (pManyS (pSer n) (fun _ x => some x) B (k1 - j) y (lastI acc) acc) e6) ∧ Hid (Blk wr2 g [.string s1, .string s2, .slice sp acc.length sc]) ∧ Hid (wr2.ownsRow (g + 1) 3 1 (.slice sp acc.length sc) acc.length (i64s acc)) ∧ Hid (QRd wr2 q (.slice pb B.length cb) B (.slice pt t.length ct) t y e6) ∧ Hid (Mods (fun k => k = q ∨ g ≤ k) w9 wr2)) (fun _ jv _ => k1 - (intOf jv).toNat)
            case atStart => exact ⟨0, x3, e5, 0, [], none, 0, Nat.zero_le _, rfl, rfl, rfl, fun _ => ⟨rfl, by decide⟩, HSe.out, HG9.out, World.ownsRow_nil _ _ _ _, HR9.out, Mods.refl _ _⟩
            case round =>
              obtain ⟨j, y, e6, lastv, acc, sp, sc, hj, rfl, rfl, HJl, HLv, HSt, HGr, HOw, HRr, HMr⟩ := hrel
              have hjm : (j : Int) ≤ 100000000 := by omega
              obtain ⟨c0, c1, c2, f1, f2⟩ := HRr.out.rr.cells
              by_cases hjk : j < k1
              · have hjk' : (j : Int) < (k1 : Int) := by omega
                by_cases he : e6 = 0
                · subst he
                  go_wp2_with fail
                  refine (rq_uint q _ B _ t y 0 wr HRr.out HBl.out).mono ?_
                  rintro en w10 ⟨hm10, d, y1, e7, rfl, hdn, hR10, hf10, h010⟩
                  have HDn := Lib.hid hdn; have HR10 := Lib.hid hR10; have HF10 := Lib.hid hf10; have H010 := Lib.hid h010
                  have HYb : Hid (y ≤ B.length) := HRr.out.at_ rfl
                  have HG10 := Lib.hid (hm10.blk HGr.out (by have := HS9.out; omega))
                  have HO10 := Lib.hid (hm10.owns HOw.out (fun k hk e => by have := (HOw.out.lt k hk).1; have := HS9.out; omega))
                  have HM10 : Hid (Mods (fun k => k = q ∨ g ≤ k) w9 w10) := HMr.out.trans hm10 (fun k _ e => Or.inl e)
                  clear hm10 hdn hR10 hf10 h010 HGr HOw HRr HMr c0 c1 c2 f1 f2
                  have HLw : Hid ((lastv : Int) = (lastI acc).getD 0 ∧ lastv < 9223372036854775808) := HLv.out trivial
                  have hwn : IntKind.u64.wrap n = n := by rw [IntKind.wrap_u64]; have := HNn.out; omega
                  obtain ⟨bad, hbad⟩ : ∃ bad, serBad n acc.length lastv d = bad := ⟨_, rfl⟩
                  have HBad := Lib.hid hbad
                  clear hbad HLv
                  go_upto_region 21 with fail
                  go_cut [101] from 68 to 113 (fun bv wx => bv = .bool bad ∧ Hid (wx = w10))
                  case first =>
                    by_cases hA : n ≤ (d : Int)
                    · have hb : bad = true := HBad.out.symm.trans (serBad_true (Or.inl hA))
                      subst hb
                      go_wp2_with fail
                      go_meet
                      exact ⟨rfl, rfl⟩
                    · obtain ⟨sm, hsm⟩ : ∃ sm, lastv + d = sm := ⟨_, rfl⟩
                      have HSm := Lib.hid hsm
                      have hA' : (d : Int) < n := by omega
                      have hwa : IntKind.u64.wrap ((lastv : Int) + (d : Int)) = (sm : Int) := by rw [IntKind.wrap_u64]; have := HLw.out; have := HNn.out; omega
                      clear hsm
                      by_cases hB : n ≤ (sm : Int)
                      · have hb : bad = true := HBad.out.symm.trans (serBad_true (Or.inr (Or.inl (by rw [HSm.out]; exact hB))))
                        subst hb
                        go_wp2_with fail
                        go_meet
                        exact ⟨rfl, rfl⟩
                      · have hB' : (sm : Int) < n := by omega
                        by_cases hj0 : 0 < j
                        · have hj0' : (0 : Int) < (j : Int) := by omega
                          by_cases hd0 : d = 0
                          · have hb : bad = true := HBad.out.symm.trans (serBad_true (Or.inr (Or.inr ⟨by rw [HJl.out]; exact hj0, hd0⟩)))
                            have hdb : ((d : Int) == 0) = true := by rw [beq_iff_eq]; omega
                            subst hb
                            clear hd0
                            go_wp2_with fail
                            go_meet
                            exact ⟨rfl, rfl⟩
                          · have hb : bad = false := HBad.out.symm.trans (serBad_false (fun h => by rcases h with h | h | h; exact hA h; rw [HSm.out] at h; exact hB h; exact hd0 h.2))
                            have hdb : ((d : Int) == 0) = false := by rw [beq_eq_false_iff_ne]; omega
                            subst hb
                            clear hd0
                            go_wp2_with fail
                            go_meet
                            exact ⟨rfl, rfl⟩
                        · have hj0' : ¬ (0 : Int) < (j : Int) := by omega
                          have hb : bad = false := HBad.out.symm.trans (serBad_false (fun h => by rcases h with h | h | h; exact hA h; rw [HSm.out] at h; exact hB h; rw [HJl.out] at h; exact hj0 h.1))
                          subst hb
                          go_wp2_with fail
                          go_meet
                          exact ⟨rfl, rfl⟩
                  case rest =>
                  obtain ⟨rfl, HWc⟩ := hcut
                  obtain rfl : wc = w10 := HWc.out
                  clear HWc hwn
                  go_upto_if 101 with fail
                  go_cut [101] from 68 to 113 (fun bv wx => ∃ (bb : Bool) (e8 : Nat), bv = .bool bb ∧ Hid (∀ z : Int, z = ((lastv + d : Nat) : Int) ∨ e8 ≠ 0 → outE (pSer n (lastI acc) B y) 0 = fin z y1 e8) ∧ Hid (e8 = 0 → lastv + d < 9223372036854775808) ∧ Hid (QRd wx q (.slice pb B.length cb) B (.slice pt t.length ct) t y1 e8) ∧ Hid (Mods (fun k => k = q) wc wx))
                  case first =>
                    cases bad with
                    | true =>
                      have HX : Hid (∀ z : Int, z = ((lastv + d : Nat) : Int) ∨ (if e7 = 0 then 22 else e7) ≠ 0 → outE (pSer n (lastI acc) B y) 0 = fin z y1 (if e7 = 0 then 22 else e7)) := fun z _ => ser_bad z HBl.out HYb.out HLw.out.1 HF10.out HBad.out
                      have HY2 : Hid ((if e7 = 0 then 22 else e7) = 0 → lastv + d < 9223372036854775808) := fun h => by split at h <;> omega
                      have HFl := Lib.hid (rq_fail q _ B _ t y1 e7 wc HR10.out 22 (by decide))
                      rw [show ((22 : Nat) : Int) = 22 from rfl] at HFl
                      go_wp2_with fail
                      refine HFl.out.mono ?_
                      rintro en w11 ⟨rfl, hR11, hm11⟩
                      have HR11 := Lib.hid hR11; have HM11 := Lib.hid hm11
                      clear HFl hR11 hm11
                      go_wp2_with fail
                      go_meet
                      exact ⟨_, _, rfl, HX.out, HY2.out, HR11.out, HM11.out⟩
                    | false =>
                      have HX : Hid (∀ z : Int, z = ((lastv + d : Nat) : Int) ∨ e7 ≠ 0 → outE (pSer n (lastI acc) B y) 0 = fin z y1 e7) := fun z hz => by
                        have h := ser_ok HBl.out HYb.out HLw.out.1 HF10.out HBad.out
                        rcases hz with rfl | hz
                        · exact h
                        · rw [h, fin, fin, if_neg hz, if_neg hz]
                      have HY2 : Hid (e7 = 0 → lastv + d < 9223372036854775808) := fun h => by
                        have hb := of_decide_eq_false HBad.out
                        have : ¬ n ≤ ((lastv + d : Nat) : Int) := fun h => hb (Or.inr (Or.inl h))
                        have := HNn.out
                        omega
                      go_wp2_with fail
                      go_meet
                      exact ⟨_, e7, rfl, HX.out, HY2.out, HR10.out, Mods.refl _ _⟩
                  case rest =>
                  obtain ⟨bb3, e8, rfl, HX, HY2, HR11, HM11⟩ := hcut
                  rename_i w10' _
                  generalize wc = w11 at *
                  have HG11 := Lib.hid (HM11.out.blk HG10.out (by have := HS9.out; omega))
                  have HO11 := Lib.hid (HM11.out.owns HO10.out (fun k hk e => by have := (HO10.out.lt k hk).1; have := HS9.out; omega))
                  have HM11' : Hid (Mods (fun k => k = q ∨ g ≤ k) w9 w11) := HM10.out.trans HM11.out (fun k _ e => Or.inl e)
                  obtain ⟨nv, hnv⟩ : ∃ nv : Nat, IntKind.u64.wrap ((lastv : Int) + (d : Int)) = (nv : Int) := ⟨(lastv + d) % 18446744073709551616, by rw [IntKind.wrap_u64]; omega⟩
                  obtain ⟨z, hzz⟩ : ∃ z, IntKind.i64.wrap (nv : Int) = z := ⟨_, rfl⟩
                  have HNv : Hid (e8 = 0 → nv = lastv + d ∧ z = (nv : Int)) := fun h => by
                    have h1 := HY2.out h
                    have h2 : nv = lastv + d := by rw [IntKind.wrap_u64] at hnv; omega
                    refine ⟨h2, ?_⟩
                    rw [← hzz, IntKind.wrap_i64]
                    omega
                  have HStp : Hid (outE (pSers n B x2) e3 = outE (pManyS (pSer n) (fun _ x => some x) B (k1 - (j + 1)) y1 (lastI (acc ++ [z])) (acc ++ [z])) e8) := by
                    show _ = _
                    have hx := HX.out z (by
                      by_cases h : e8 = 0
                      · obtain ⟨h1, h2⟩ := HNv.out h
                        left; rw [h2, h1]
                      · exact Or.inr h)
                    by_cases h : e8 = 0
                    · rw [lastI_push]
                      exact manyS_step hjk HSt.out hx h
                    · exact manyS_fail hjk HSt.out hx h
                  have HLz : Hid ((acc.length + 1) * 8 ≤ 140737488355328 ∧ acc.length + 1 ≤ maxLen) := by show _ ∧ _; have := HJl.out; unfold maxLen; omega
                  have HOz := Lib.hid (owns_rebase HO11.out (base' := 0) (fun _ _ => Nat.zero_le _))
                  obtain ⟨⟨x0, x1', x2'⟩, y0, y1', y2⟩ := HG11.out.three
                  clear HX HG10 HO10 HM10 HR10 HBad HF10 H010 HDn HSt
                  go_wp2_with (at_builtin; refine wpList_push elemInt15d _ #[.int .i64 z] _ _ _ HOz.out rfl (one_cell _ rfl) HLz.out rfl _ _ rfl rfl rfl ?_)
                  intro v12 w12 k12 m12 h12
                  have hof : ∀ k, (Value.slice sp acc.length sc).ownBlock = some k → g + 1 ≤ k := fun k hk => (HO11.out.lt k hk).1
                  have HO12 : Hid (w12.ownsRow (g + 1) 3 1 v12 (acc ++ [z]).length (i64s (acc ++ [z]))) := by
                    show World.ownsRow _ _ _ _ _ _ _
                    rw [List.length_append, i64s_append]
                    refine owns_rebase k12 (fun k hk => ?_)
                    rcases h12 k hk with e | e
                    · exact hof k e
                    · have := HG11.out.lt; omega
                  have HG12 := Lib.hid (m12.blk HG11.out (fun e => by have := hof g e; omega))
                  have HR12 : Hid (QRd w12 q (.slice pb B.length cb) B (.slice pt t.length ct) t y1 e8) := HR11.out.mods m12 (fun e => by have := hof q e; have := HS9.out; omega) (fun hne k hk e => by have := hof k e; have := HVl.out hne k hk; have := HS9.out; omega) (fun hne k hk e => by have := hof k e; have := HTl.out hne k hk; have := HS9.out; omega)
                  have HM12 : Hid (Mods (fun k => k = q ∨ g ≤ k) w9 w12) := HM11'.out.trans m12 (fun k _ e => by have := hof k e; exact Or.inr (by omega))
                  have HJ2 : Hid ((acc ++ [z]).length = j + 1) := by show _ = _; rw [List.length_append, HJl.out]; rfl
                  have HLv2 : Hid (e8 = 0 → (nv : Int) = (lastI (acc ++ [z])).getD 0 ∧ nv < 9223372036854775808) := fun h => by
                    obtain ⟨h1, h2⟩ := HNv.out h
                    have := HY2.out h
                    rw [lastI_push]
                    exact ⟨h2.symm, by omega⟩
                  obtain ⟨p12, c12, hv12⟩ := (Rd.of_owns HO12.out).shape
                  subst hv12
                  clear k12 m12 h12 hof HOz HLz HO11 HG11 HR11 HM11 HM11' x0 x1' x2' y0 y1' y2 HNv HY2
                  generalize acc ++ [z] = acc2 at *
                  obtain ⟨⟨x0, x1', x2'⟩, y0, y1', y2⟩ := HG12.out.three
                  have hset : Mods (fun k => k = g) w12 (w12.setCell ⟨g, 2, none⟩ (.slice p12 acc2.length c12)) := Mods.set _ _ _ _ (fun _ => rfl)
                  have HG13 : Hid (Blk (w12.setCell ⟨g, 2, none⟩ (.slice p12 acc2.length c12)) g [.string s1, .string s2, .slice p12 acc2.length c12]) := HG12.out.set 2 _
                  have HO13 := Lib.hid (hset.owns HO12.out (fun k hk e => by have := (HO12.out.lt k hk).1; omega))
                  have HR13 : Hid (QRd (w12.setCell ⟨g, 2, none⟩ (.slice p12 acc2.length c12)) q (.slice pb B.length cb) B (.slice pt t.length ct) t y1 e8) := HR12.out.mods hset (fun e => by have := HS9.out; omega) (fun hne k hk e => by have := HVl.out hne k hk; have := HS9.out; omega) (fun hne k hk e => by have := HTl.out hne k hk; have := HS9.out; omega)
                  have HM13 : Hid (Mods (fun k => k = q ∨ g ≤ k) w9 (w12.setCell ⟨g, 2, none⟩ (.slice p12 acc2.length c12))) := HM12.out.trans hset (fun k _ e => Or.inr (by omega))
                  clear hset HG12 HO12 HR12 HM12
                  go_wp2_with fail
                  go_round
                  case rel => exact ⟨j + 1, y1, e8, nv, acc2, p12, c12, by omega, by go_num, rfl, HJ2.out, HLv2.out, HStp.out, HG13.out, HO13.out, HR13.out, HM13.out⟩
                  case measure => simp [intOf]; omega
                · have heb : ((e6 : Int) == 0) = false := by rw [beq_eq_false_iff_ne]; omega
                  have HX := Lib.hid (manyS_stop he HSt.out acc y)
                  have HLe : Hid (acc.length ≤ 100000000) := by show _ ≤ _; have := HJl.out; omega
                  clear he HSt HLv
                  go_wp2_with fail
                  go_meet
                  exact ⟨y, e6, acc, sp, sc, HX.out, HLe.out, HGr.out, HOw.out, HRr.out, HMr.out⟩
              · have hjk' : ¬ (j : Int) < (k1 : Int) := by omega
                have HX := Lib.hid (manyS_end (by omega) HSt.out)
                have HLe : Hid (acc.length ≤ 100000000) := by show _ ≤ _; have := HJl.out; omega
                clear HSt HLv c0 c1 c2 f1 f2
                go_wp2_with fail
                go_meet
                exact ⟨y, e6, acc, sp, sc, HX.out, HLe.out, HGr.out, HOw.out, HRr.out, HMr.out⟩
          case rest =>
          obtain ⟨y, e6, acc, sp, sc, HFs, HLe, HGr, HOw, HRr, HMr⟩ := hcut
          generalize wc = w10 at *
          have HFe : Hid (outE (pEnt t n (lastE (M.map Prod.fst)) B x) 0 = fin (((s1, s2), acc) : Ent) y e6) := fin_pair HF3.out HFs.out
          have HDc10 := Lib.hid (HDc9.out.turn2 HMr.out (by have := HQ.out; omega) HS9.out.1 HMv.out HMs.out)
          have HQ10 : Hid (q < w10.heap.size) := HRr.out.rr.blk.lt
          have HOz := Lib.hid HDc10.out.nr.base0
          have HLz : Hid ((M.length + 1) * 56 ≤ 140737488355328 ∧ M.length + 1 ≤ maxLen) := by show _ ∧ _; have := HL.out; unfold maxLen; omega
          obtain ⟨⟨x0, x1', x2'⟩, y0, y1', y2⟩ := HGr.out.three
          clear HF3 HFs HDc9 HMr HSe HR9 HG9
          go_wp2_with (at_builtin; refine wpList_push elemEnt15d _ #[.string s1, .string s2, .slice sp acc.length sc] _ _ _ HOz.out rfl (by simp [Value.oneCell']) HLz.out rfl _ _ rfl rfl rfl ?_)
          intro v11 w11 k11 m11 h11
          have HD11 : Hid (DcE 67 w q w11 (M ++ [((((s1, s2), acc) : Ent), (.slice sp acc.length sc : Value))]) v11) := HDc10.out.pushed HQ10.out (p := ((((s1, s2), acc) : Ent), (.slice sp acc.length sc : Value))) (Rd.of_owns HOw.out) (fun _ k hk e => by have := (HOw.out.lt k hk).1; have := HS9.out; rcases e with e | e; have := HMv.out k e; omega; omega) k11 m11 h11
          have hof : ∀ k, (Value.slice pv M.length cv).ownBlock = some k → w.heap.size ≤ k ∧ k ≠ q := fun k hk => ⟨(HDc10.out.nr.row.lt k hk).1, HDc10.out.vq k hk⟩
          have HR11 : Hid (QRd w11 q (.slice pb B.length cb) B (.slice pt t.length ct) t y e6) := HRr.out.mods m11 (fun e => (hof q e).2 rfl) (fun hne k hk e => by have := (hof k e).1; have := HVl.out hne k hk; omega) (fun hne k hk e => by have := (hof k e).1; have := HTl.out hne k hk; omega)
          have HL11 : Hid ((M ++ [((((s1, s2), acc) : Ent), (.slice sp acc.length sc : Value))]).length = i + 1) := by show _ = _; rw [List.length_append, HL.out]; rfl
          have HS11 : Hid (T = outE (pManyS (pEnt t n) (fun _ e => some e.1) B (cnt - (i + 1)) y (lastE ((M ++ [((((s1, s2), acc) : Ent), (.slice sp acc.length sc : Value))]).map Prod.fst)) ((M ++ [((((s1, s2), acc) : Ent), (.slice sp acc.length sc : Value))]).map Prod.fst)) e6) := by
            show _ = _
            rw [List.map_append]
            show T = outE (pManyS _ _ _ _ _ (lastE (M.map Prod.fst ++ [((s1, s2), acc)])) (M.map Prod.fst ++ [((s1, s2), acc)])) _
            by_cases h : e6 = 0
            · rw [lastE_push]
              exact manyS_step hlt HS.out HFe.out h
            · exact manyS_fail hlt HS.out HFe.out h
          obtain ⟨p11, c11, hv11⟩ := HD11.out.nr.shape
          subst hv11
          clear k11 m11 h11 hof HOz HLz HDc10 HRr HFe HS HOw HGr x0 x1' x2' y0 y1' y2
          generalize M ++ [((((s1, s2), acc) : Ent), (.slice sp acc.length sc : Value))] = M2 at *
          go_wp2_with fail
          go_round
          case rel => exact ⟨i + 1, y, e6, M2, by omega, by go_num, HL11.out, HD11.out, HR11.out, HS11.out⟩
          case measure => simp [intOf]; omega
        · have heb : ((e : Int) == 0) = false := by rw [beq_eq_false_iff_ne]; omega
          have hei : ¬ (e : Int) = 0 := by omega
          have HX : Hid (decPo t n B = (e, [])) := by
            show _ = _
            rw [decPo_fin (show ¬ n < 0 by omega) (HTT.out.trans (manyS_stop he HS.out [] x)), if_neg he]
          have HEn := Lib.hid (fun W h => rr_end q (.slice pb B.length cb) B x (e : Int) W h)
          have hee : (if (e : Int) = 0 ∧ x < B.length then (4 : Int) else (e : Int)) = (e : Int) := by rw [if_neg (fun h => hei h.1)]
          rw [hee] at HEn
          clear hee he HS
          have hbd : ∀ (w : World) (k : Nat), Below w.heap.size w (w.drewN k) := fun w k => (Mods.drewN (fun _ => False) w k).below (Nat.le_refl _) (fun _ _ e => e)
          have HBd := Lib.hid hbd
          clear hbd
          go_wp2_with fail
          refine (HEn.out wr HR.out.rr).mono ?_
          rintro en w3 ⟨rfl, k, rfl⟩
          have HR3 := Lib.hid (HR.out.rr.drewN k)
          have HB3 : Hid (Below w.heap.size w (wr.drewN k)) := HDc.out.nr.bel.trans ((HBd.out wr k).mono HDc.out.nr.bel.size)
          clear c0 c1 c2 f1 f2 HR HDc
          generalize wr.drewN k = w4 at *
          go_wp2_with fail
          refine (HEn.out w4 HR3.out).mono ?_
          rintro en w5 ⟨rfl, k2, rfl⟩
          have HB5 : Hid (Below w.heap.size w (w4.drewN k2)) := HB3.out.trans ((HBd.out w4 k2).mono HB3.out.size)
          go_wp2_with fail
          go_ret2
          exact ⟨by rw [HX.out]; exact ⟨_, rfl, RdE.nil _⟩, HB5.out⟩
      · have hlt' : ¬ (i : Int) < (cnt : Int) := by omega
        have HTf := Lib.hid (HTT.out.trans (manyS_end (by omega) HS.out))
        have HEn := Lib.hid (fun W h => rr_end q (.slice pb B.length cb) B x (e : Int) W h)
        have hbd : ∀ (w : World) (k : Nat), Below w.heap.size w (w.drewN k) := fun w k => (Mods.drewN (fun _ => False) w k).below (Nat.le_refl _) (fun _ _ e => e)
        have HBd := Lib.hid hbd
        have HDp := Lib.hid (decPo_fin (show ¬ n < 0 by omega) HTf.out)
        clear hbd HS HTf c0 c1 c2 f1 f2
        go_wp2_with fail
        refine (HEn.out wr HR.out.rr).mono ?_
        rintro en w3 ⟨rfl, k, rfl⟩
        have HR3 := Lib.hid (HR.out.rr.drewN k)
        have HD3 := Lib.hid (HDc.out.below (HBd.out wr k))
        clear HR HDc
        generalize wr.drewN k = w4 at *
        by_cases hok : e = 0 ∧ ¬ x < B.length
        · obtain ⟨he, hxb⟩ := hok
          subst he
          have HX : Hid (decPo t n B = (0, M.map Prod.fst)) := by
            show _ = _
            rw [HDp.out, if_pos rfl, if_neg hxb]
          rw [if_neg (fun h => hxb h.2)]
          clear hxb HDp
          go_wp2_with fail
          go_ret2
          exact ⟨by rw [HX.out]; exact ⟨_, rfl, HD3.out.nr.rd⟩, HD3.out.nr.bel⟩
        · obtain ⟨e2, he2, hX⟩ : ∃ e2 : Nat, e2 ≠ 0 ∧ decPo t n B = (e2, []) ∧ (if (e : Int) = 0 ∧ x < B.length then (4 : Int) else (e : Int)) = (e2 : Int) := by
            by_cases he : e = 0
            · have hx : x < B.length := Decidable.byContradiction fun h => hok ⟨he, h⟩
              exact ⟨4, by decide, by rw [HDp.out, if_pos he, if_pos hx], by rw [if_pos ⟨by omega, hx⟩]; rfl⟩
            · exact ⟨e, he, by rw [HDp.out, if_neg he], by rw [if_neg (fun h => he (by omega))]⟩
          have HX := Lib.hid hX.1
          rw [hX.2] at HEn ⊢
          have hnz : ¬ (e2 : Int) = 0 := by omega
          have hnb : ((e2 : Int) == 0) = false := by rw [beq_eq_false_iff_ne]; exact hnz
          clear hok hX he2 HDp
          go_wp2_with fail
          refine (HEn.out w4 HR3.out).mono ?_
          rintro en w5 ⟨rfl, k2, rfl⟩
          have HD5 := Lib.hid (HD3.out.below (HBd.out w4 k2))
          go_wp2_with fail
          go_ret2
          exact ⟨by rw [HX.out]; exact ⟨_, rfl, RdE.nil _⟩, HD5.out.nr.bel⟩
end Go.Proofs.Ytpjfhakmffcolaa

end

section
/- Layer 15: the statements' table of all names and values. -/
set_option linter.unusedVariables false
set_option maxRecDepth 20000
namespace Go.Proofs.Ytpjfhakmffcolaa
open Go Go.RowKit

/-- All strings of label sets. -/
def strsP (m : List (List Lab)) : List ByteArray := m.flatMap stringsL
theorem strsP_step {m : List (List Lab)} {i : Nat} {x : List Lab} (h : m[i]? = some x) : strsP (m.take (i + 1)) = strsP (m.take i) ++ stringsL x := by
  rw [strsP, List.take_add_one, h, List.flatMap_append]; simp [strsP]
theorem strsP_len (m : List (List Lab)) : (strsP m).length = 2 * m.flatten.length := by
  induction m with
  | nil => rfl
  | cons x m ih =>
    have e : strsP (x :: m) = stringsL x ++ strsP m := rfl
    rw [e, List.length_append, ih, stringsL_len, List.flatten_cons, List.length_append]; omega
theorem strsP_take (m : List (List Lab)) (i : Nat) : (strsP (m.take i)).length ≤ (strsP m).length := by
  have e : strsP m = strsP (m.take i) ++ strsP (m.drop i) := by rw [strsP, strsP, strsP, ← List.flatMap_append, List.take_append_drop]
  rw [e, List.length_append]; omega

set_option maxHeartbeats 4000000 in
theorem table15 (mv : Value) (m : List (List Lab)) (w : World) (hm : RdBL w mv m) (hn : m.length ≤ 100000) (hf : m.flatten.length ≤ 100000) :
    Calls Try.prog 31 #[mv] w fun e w' => ∃ v, e = .returned v ∧ Own1 9 Value.string w w' (tabS (strsP m)) v := by
  have HM := Lib.hid hm; have HFl := Lib.hid hf
  obtain ⟨pl, cl, hv⟩ := hm.shape
  subst hv
  have hni : (m.length : Int) ≤ 100000 := by omega
  clear hm hn hf
  go_enter Try.func31, Try.ntmps31
  go_wp2_with fail
  go_loopw [3, 8] (fun vv iv wr => ∃ (i : Nat), i ≤ m.length ∧ iv = .int .i64 (i : Int) ∧ Hid (Own1 9 Value.string w wr (strsP (m.take i)) vv)) (fun _ iv _ => m.length - (intOf iv).toNat)
  case atStart => exact ⟨0, Nat.zero_le _, rfl, Own1.nil w⟩
  case round =>
    obtain ⟨i, hi, rfl, HN⟩ := hrel
    have him : (i : Int) ≤ 100000 := by omega
    have HLn : Hid ((strsP (m.take i)).length ≤ 200000) := by show _ ≤ _; have h1 := strsP_take m i; have h2 := strsP_len m; have := HFl.out; omega
    obtain ⟨pv, cv, hvv⟩ := HN.out.shape
    subst hvv
    by_cases hlt : i < m.length
    · have hlt' : (i : Int) < (m.length : Int) := by omega
      obtain ⟨x, hx⟩ : ∃ x, m[i]? = some x := ⟨_, List.getElem?_eq_getElem hlt⟩
      obtain ⟨ba, oa, p1, k1, e, hal⟩ := HM.out.always hx
      subst e
      obtain ⟨c0, hr⟩ := hal wr HN.out.bel
      have HSt := Lib.hid (strsP_step hx)
      have HXl : Hid (x.length ≤ 100000) := by
        show _ ≤ _
        have h1 := strsP_take m (i + 1)
        rw [strsP_step hx, List.length_append, stringsL_len] at h1
        have h2 := strsP_len m
        have := HFl.out
        omega
      have HSr := Lib.hid (ref_strings11 (.slice p1 x.length k1) x wr hr (by have := HXl.out; omega))
      have HSl : Hid ((stringsL x).length ≤ 200000) := by show _ ≤ _; rw [stringsL_len]; have := HXl.out; omega
      clear hx hal hr
      generalize strsP (m.take i) = D at *
      generalize stringsL x = E at *
      go_wp2_with fail
      refine HSr.out.mono ?_
      rintro en w2 ⟨r, rfl, hO⟩
      have HO2 := Lib.hid (HN.out.below hO.bel)
      have HE2 := Lib.hid hO.rd
      obtain ⟨pr, cr, hrv⟩ := hO.shape
      subst hrv
      have HOz := Lib.hid HO2.out.base0
      have HLb : Hid ((D.length + E.length) * 16 ≤ 140737488355328 ∧ D.length + E.length ≤ maxLen) := by show _ ∧ _; have := HLn.out; have := HSl.out; unfold maxLen; omega
      clear hO HSr c0 HN
      go_wp2_with (at_builtin; refine wpList_extend Try.elemStr _ _ _ _ _ _ _ HOz.out HE2.out (strs_one E) HLb.out rfl _ _ rfl rfl rfl ?_)
      intro v3 w3 k1 m1 f1
      have HO3 : Hid (Own1 9 Value.string w w3 (strsP (m.take (i + 1))) v3) := by
        show Own1 _ _ _ _ _ _
        rw [HSt.out]
        exact HO2.out.extended k1 m1 f1
      obtain ⟨p3, c3, hv3⟩ := HO3.out.shape
      subst hv3
      clear k1 m1 f1 HOz HLb HE2 HO2
      go_wp2_with fail
      go_round
      case rel => exact ⟨i + 1, by omega, by go_num, HO3.out⟩
      case measure => simp [intOf]; omega
    · have hlt' : ¬ (i : Int) < (m.length : Int) := by omega
      have hte : m.take i = m := List.take_of_length_le (by omega)
      rw [hte] at HN HLn ⊢
      have HT := Lib.hid (ref_table10 _ (strsP m) wr HN.out.rd (by have := HLn.out; omega))
      have HB := Lib.hid HN.out.bel
      have HZ : Hid (w.heap.size ≤ wr.heap.size) := HB.out.size
      obtain ⟨D, hD⟩ : ∃ D, strsP m = D := ⟨_, rfl⟩
      have HDe := Lib.hid hD
      rw [hD] at HN HT ⊢
      clear hte hD
      go_wp2_with fail
      refine HT.out.mono ?_
      rintro en w2 ⟨v, rfl, hO⟩
      have HO : Hid (Own1 9 Value.string w w2 (tabS D) v) := ⟨owns_rebase hO.row (fun k hk => by have := (hO.row.lt k hk).1; have := HZ.out; omega), HB.out.trans (hO.bel.mono HZ.out)⟩
      clear hO
      go_wp2_with fail
      go_ret
      exact ⟨_, rfl, by rw [HDe.out]; exact HO.out⟩
end Go.Proofs.Ytpjfhakmffcolaa

end
