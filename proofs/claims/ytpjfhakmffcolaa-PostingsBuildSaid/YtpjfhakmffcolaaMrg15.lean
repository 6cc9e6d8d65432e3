/- PbI, PbJ, PbK, PbM, PbN, in one text. -/
import Derived.Test.YtpjfhakmffcolaaMrg13
import Derived.Test.YtpjfhakmffcolaaMrg14
import Derived.StillTailTactics
import Derived.Deep.CutRange
import Derived.Deep.Cut
import Derived.Test.YtpjfhakmffcolaaMrg7

section
/- Layer 15, the program's own: its reader; number, Fail, symbol, label. (Written by gen15r.py out of layer 13's.) -/
set_option linter.unusedVariables false
set_option maxRecDepth 20000
namespace Go.Proofs.Ytpjfhakmffcolaa
open Go Go.RowKit
theorem strs_no15 {l : List ByteArray} (h : strs l ≠ []) : l ≠ [] := fun e => h (by subst e; rfl)
/-- The reader of postings at block g, over the reader at block q; N: the bound. -/
structure PoRd (w : World) (g q : Nat) (v : Value) (B : List Nat) (tv : Value) (t : List ByteArray) (N : Int) (a e : Nat) : Prop where
  blk : Blk w g [.pointer (some ⟨q, 0, none⟩), .int .i64 (B.length : Int), tv, .int .i64 N]
  rr : RRd w q v B a (e : Int)
  tb : Rd w 1 tv t.length (strs t)
  at_ : a ≤ B.length
  gq : g ≠ q
  tq : t ≠ [] → ∀ k, tv.ownBlock = some k → k ≠ q
theorem PoRd.cells {w : World} {g q : Nat} {v : Value} {B : List Nat} {tv : Value} {t : List ByteArray} {N : Int} {a e : Nat} (h : PoRd w g q v B tv t N a e) : w.cell? ⟨g, 0, none⟩ = some (.pointer (some ⟨q, 0, none⟩)) ∧ w.cell? ⟨g, 1, none⟩ = some (.int .i64 (B.length : Int)) ∧ w.cell? ⟨g, 2, none⟩ = some tv ∧ w.cell? ⟨g, 3, none⟩ = some (.int .i64 N) :=
  ⟨h.blk.cell 0, h.blk.cell 1, h.blk.cell 2, h.blk.cell 3⟩
/-- The reader below has gone on. -/
theorem PoRd.next {w w' : World} {g q : Nat} {v : Value} {B : List Nat} {tv : Value} {t : List ByteArray} {N : Int} {a e a' e' : Nat} (h : PoRd w g q v B tv t N a e) (hm : Mods (fun k => k = q) w w') (hr : RRd w' q v B a' (e' : Int)) (ha : a' ≤ B.length) : PoRd w' g q v B tv t N a' e' :=
  ⟨hm.blk h.blk h.gq, hr, h.tb.mods' hm (fun e => h.tq (strs_no15 e)), ha, h.gq, h.tq⟩
theorem PoRd.mods {S : Nat → Prop} {w w' : World} {g q : Nat} {v : Value} {B : List Nat} {tv : Value} {t : List ByteArray} {N : Int} {a e : Nat} (h : PoRd w g q v B tv t N a e) (hm : Mods S w w') (hg : ¬ S g) (hq : ¬ S q) (hv : B ≠ [] → ∀ k, v.ownBlock = some k → ¬ S k) (ht : t ≠ [] → ∀ k, tv.ownBlock = some k → ¬ S k) : PoRd w' g q v B tv t N a e :=
  ⟨hm.blk h.blk hg, h.rr.mods' hm hq hv, h.tb.mods' hm (fun e => ht (strs_no15 e)), h.at_, h.gq, h.tq⟩
theorem PoRd.below {w w' : World} {g q : Nat} {v : Value} {B : List Nat} {tv : Value} {t : List ByteArray} {N : Int} {a e : Nat} (h : PoRd w g q v B tv t N a e) (hb : Below w.heap.size w w') : PoRd w' g q v B tv t N a e :=
  h.mods (Mods.of_below hb (fun _ => False)) (fun h => h) (fun h => h) (fun _ _ _ h => h) (fun _ _ _ h => h)
/-- All that the reader leads to lies below M. -/
structure PoLow (M g q : Nat) (v : Value) (B : List Nat) (tv : Value) (t : List ByteArray) : Prop where
  g : g < M
  q : q < M
  v : B ≠ [] → ∀ k, v.ownBlock = some k → k < M
  t : t ≠ [] → ∀ k, tv.ownBlock = some k → k < M
theorem PoLow.mono {M M' g q : Nat} {v : Value} {B : List Nat} {tv : Value} {t : List ByteArray} (h : PoLow M g q v B tv t) (hM : M ≤ M') : PoLow M' g q v B tv t :=
  ⟨Nat.lt_of_lt_of_le h.g hM, Nat.lt_of_lt_of_le h.q hM, fun a k b => Nat.lt_of_lt_of_le (h.v a k b) hM, fun a k b => Nat.lt_of_lt_of_le (h.t a k b) hM⟩
theorem strs_ne15 {l : List ByteArray} (h : l ≠ []) : strs l ≠ [] := fun e => h (List.eq_nil_of_length_eq_zero (by have := congrArg List.length e; rw [strs_length] at this; exact this))
theorem u8s_ne15 {B : List Nat} (h : B ≠ []) : u8s B ≠ [] := fun e => h (List.eq_nil_of_length_eq_zero (by have := congrArg List.length e; rw [u8s_length] at this; exact this))
theorem PoRd.low {w : World} {g q : Nat} {v : Value} {B : List Nat} {tv : Value} {t : List ByteArray} {N : Int} {a e : Nat} (h : PoRd w g q v B tv t N a e) : PoLow w.heap.size g q v B tv t :=
  ⟨h.blk.lt, h.rr.blk.lt, fun hne => h.rr.rd.lt (u8s_ne15 hne), fun hne => h.tb.lt (strs_ne15 hne)⟩
/-- Blocks above all that the reader leads to may turn. -/
theorem PoRd.above {S : Nat → Prop} {w w' : World} {M g q : Nat} {v : Value} {B : List Nat} {tv : Value} {t : List ByteArray} {N : Int} {a e : Nat} (h : PoRd w g q v B tv t N a e) (hl : PoLow M g q v B tv t) (hm : Mods S w w') (hS : ∀ k, k < M → ¬ S k) : PoRd w' g q v B tv t N a e :=
  h.mods hm (hS _ hl.g) (hS _ hl.q) (fun hne k hk => hS k (hl.v hne k hk)) (fun hne k hk => hS k (hl.t hne k hk))

/-- A number, whatever stands there. -/
theorem po_number (g q : Nat) (v : Value) (B : List Nat) (tv : Value) (t : List ByteArray) (N : Int) (a e : Nat) (w : World) (h : PoRd w g q v B tv t N a e) (hB : ∀ c ∈ B, c < 256) (hz : B.length ≤ 100000000) :
    Calls Try.prog 96 #[.pointer (some ⟨g, 0, none⟩)] w fun en w' => Mods (fun k => k = q) w w' ∧ ∃ n a' e' : Nat, en = .returned (.int .u64 (n : Int)) ∧ n < 18446744073709551616 ∧ PoRd w' g q v B tv t N a' e' ∧ outE (outUint B a 18446744073709551615) e = fin n a' e' ∧ (e' ≠ 0 → n = 0) := by
  have H := Lib.hid h
  obtain ⟨g0, g1, g2, g3⟩ := h.cells
  have ha := h.at_
  have hrr := h.rr
  clear h
  by_cases he : e = 0
  · subst he
    have HU := Lib.hid (rd_uint q v B a 18446744073709551615 w hrr hB ha (by omega))
    rw [show ((18446744073709551615 : Nat) : Int) = 18446744073709551615 from rfl] at HU
    have hcs : (∃ k, k ≠ 0 ∧ outUint B a 18446744073709551615 = .bad k) ∨ ∃ n b, outUint B a 18446744073709551615 = .ok n b ∧ n < 18446744073709551616 ∧ b ≤ B.length := by
      rcases outCount_cases hB ha with ⟨k, hk, ho, _⟩ | ⟨n, b, ho, hn, _, hb, _⟩
      · exact Or.inl ⟨k, hk, ho⟩
      · exact Or.inr ⟨n, b, ho, hn, hb⟩
    clear hrr hB
    go_enter Try.func96, Try.ntmps96
    go_wp2_with fail
    refine HU.out.mono ?_
    rintro en w1 ⟨hm, hg⟩
    have HM := Lib.hid hm
    clear HU hm
    rcases hcs with ⟨k, hk, ho⟩ | ⟨n, b, ho, hn, hb⟩
    · rw [ho] at hg
      have HO := Lib.hid ho
      obtain ⟨rfl, hR⟩ := hg
      have HR := Lib.hid (H.out.next HM.out hR ha)
      clear hR ho
      go_wp2_with fail
      go_ret
      exact ⟨HM.out, 0, a, k, rfl, by decide, HR.out, by rw [HO.out, outE_zero, fin, if_neg hk], fun _ => rfl⟩
    · rw [ho] at hg
      have HO := Lib.hid ho
      obtain ⟨rfl, hR⟩ := hg
      have HR := Lib.hid (H.out.next (e' := 0) HM.out hR hb)
      clear hR ho
      go_wp2_with fail
      go_ret
      exact ⟨HM.out, n, b, 0, rfl, hn, HR.out, by rw [HO.out, outE_zero, fin, if_pos rfl], fun h => absurd rfl h⟩
  · have HU := Lib.hid (rd_uint_err q v B a 18446744073709551615 (e : Int) (by omega) w hrr)
    rw [show ((18446744073709551615 : Nat) : Int) = 18446744073709551615 from rfl] at HU
    clear hrr hB
    go_enter Try.func96, Try.ntmps96
    go_wp2_with fail
    refine HU.out.mono ?_
    rintro en w1 ⟨rfl, hb⟩
    have HR := Lib.hid (H.out.below hb)
    have HM : Hid (Mods (fun k => k = q) w w1) := Mods.of_below hb _
    clear HU hb
    go_wp2_with fail
    go_ret
    exact ⟨HM.out, 0, a, e, rfl, by decide, HR.out, by rw [outE_ne _ he, fin, if_neg he], fun _ => rfl⟩

/-- An error is noted, if none is. -/
theorem po_fail (g q : Nat) (v : Value) (B : List Nat) (tv : Value) (t : List ByteArray) (N : Int) (a e x : Nat) (w : World) (h : PoRd w g q v B tv t N a e) :
    Calls Try.prog 75 #[.pointer (some ⟨q, 0, none⟩), .int .i64 (x : Int)] w fun en w' => en = .returned (.tuple #[]) ∧ PoRd w' g q v B tv t N a (if e = 0 then x else e) ∧ Mods (fun k => k = q) w w' := by
  refine (rd_fail q v B a (e : Int) (x : Int) w h.rr).mono ?_
  rintro en w' ⟨rfl, hR, hm⟩
  refine ⟨rfl, h.next hm ?_ h.at_, hm⟩
  by_cases he : e = 0
  · rw [if_pos (by omega)] at hR
    rw [if_pos he]; exact hR
  · rw [if_neg (by omega)] at hR
    rw [if_neg he]; exact hR
set_option maxHeartbeats 4000000 in
theorem po_symbol (g q : Nat) (v : Value) (B : List Nat) (tv : Value) (t : List ByteArray) (N : Int) (a e : Nat) (w : World) (h : PoRd w g q v B tv t N a e) (hB : ∀ c ∈ B, c < 256) (hz : B.length ≤ 100000000) (hn : t.length ≤ 1000000) :
    Calls Try.prog 98 #[.pointer (some ⟨g, 0, none⟩)] w fun en w' => Mods (fun k => k = q) w w' ∧ ∃ (s : ByteArray) (a' e' : Nat), en = .returned (.string s) ∧ PoRd w' g q v B tv t N a' e' ∧ outE (pSym t B a) e = fin s a' e' := by
  have HU := Lib.hid (po_number g q v B tv t N a e w h hB hz)
  have HB := Lib.hid hB; have HA := Lib.hid h.at_
  obtain ⟨pt, ct, hv⟩ := h.tb.shape
  subst hv
  have hni : (t.length : Int) ≤ 1000000 := by omega
  have hw : IntKind.u64.wrap (t.length : Int) = (t.length : Int) := by rw [IntKind.wrap_u64]; omega
  clear h hB hz hn
  go_enter Try.func98, Try.ntmps98
  go_wp2_with fail
  refine HU.out.mono ?_
  rintro en w1 ⟨hm, n, a1, e1, rfl, hn, hR, hf, h0⟩
  have HM := Lib.hid hm; have HR := Lib.hid hR; have HF := Lib.hid hf
  obtain ⟨g0, g1, g2, g3⟩ := hR.cells
  clear HU hm hR hf h0 hn
  by_cases hlt : n < t.length
  · have hlt' : (n : Int) < (t.length : Int) := by omega
    obtain ⟨s, hs⟩ : ∃ s, t[n]? = some s := ⟨_, List.getElem?_eq_getElem hlt⟩
    obtain ⟨b, off, c', e', _, _, hcell⟩ := HR.out.tb.at (fun e => by have := congrArg List.length e; rw [strs_length] at this; rw [this] at hlt; simp at hlt)
    simp only [Value.slice.injEq] at e'
    obtain ⟨rfl, _, rfl⟩ := e'
    have d0 : w1.cell? ⟨b, off + n, none⟩ = some (.string s) := hcell n _ (by rw [strs, List.getElem?_map, hs]; rfl)
    have HX : Hid (outE (pSym t B a) e = fin s a1 e1) := by
      show _ = _
      by_cases he : e1 = 0
      · exact pnum_ok HB.out HA.out HF.out he hs
      · exact pnum_bad s HB.out HA.out HF.out he
    clear hs hcell hlt
    go_wp2_with fail
    go_ret
    exact ⟨HM.out, s, a1, e1, rfl, HR.out, HX.out⟩
  · have hlt' : ¬ (n : Int) < (t.length : Int) := by omega
    have hle' : (t.length : Int) ≤ (n : Int) := by omega
    have HX : Hid (outE (pSym t B a) e = fin ByteArray.empty a1 (if e1 = 0 then 14 else e1)) := by
      show _ = _
      by_cases he : e1 = 0
      · rw [if_pos he]; exact pnum_no _ (by decide) HB.out HA.out HF.out he (List.getElem?_eq_none (by omega))
      · rw [if_neg he]; exact pnum_bad _ HB.out HA.out HF.out he
    have HFl := Lib.hid (po_fail g q v B (.slice pt t.length ct) t N a1 e1 14 w1 HR.out)
    rw [show ((14 : Nat) : Int) = 14 from rfl] at HFl
    clear hlt
    go_wp2_with fail
    refine HFl.out.mono ?_
    rintro en w2 ⟨rfl, hR2, hm2⟩
    have HR2 := Lib.hid hR2
    have HM2 := Lib.hid (HM.out.trans hm2 (fun _ _ e => e))
    clear HFl hR2 hm2 g0 g1 g2 g3
    go_wp2_with fail
    go_ret
    exact ⟨HM2.out, _, _, _, rfl, HR2.out, HX.out⟩

theorem strLab15 : Str Try.prog 34 2 [.string ⟨#[]⟩, .string ⟨#[]⟩] := Str.mk' Try.underlying34 rfl (by kernel_rfl) rfl
set_option maxHeartbeats 4000000 in
theorem po_label (g q : Nat) (v : Value) (B : List Nat) (tv : Value) (t : List ByteArray) (N : Int) (a e : Nat) (w : World) (h : PoRd w g q v B tv t N a e) (hB : ∀ c ∈ B, c < 256) (hz : B.length ≤ 100000000) (hn : t.length ≤ 1000000) :
    Calls Try.prog 74 #[.pointer (some ⟨g, 0, none⟩)] w fun en w' => Mods (fun k => k = q) w w' ∧ ∃ (x : Lab) (a' e' : Nat), en = .returned (.agg #[.string x.1, .string x.2]) ∧ PoRd w' g q v B tv t N a' e' ∧ outE (pLab t B a) e = fin x a' e' := by
  have hb1 : Below w.heap.size w (w.alloc (.cells #[.string ⟨#[]⟩, .string ⟨#[]⟩] 34)) := (Below.refl _ w).alloc (Nat.le_refl _) _
  have HM1 : Hid (Mods (fun k => k = q) w (w.alloc (.cells #[.string ⟨#[]⟩, .string ⟨#[]⟩] 34))) := Mods.of_below hb1 _
  have HR1 := Lib.hid (h.below hb1)
  have HG : Hid (Blk (w.alloc (.cells #[.string ⟨#[]⟩, .string ⟨#[]⟩] 34)) w.heap.size [.string ⟨#[]⟩, .string ⟨#[]⟩]) := Blk.new _ _ _
  have HQ : Hid (w.heap.size ≠ q) := fun e => by have := h.rr.blk.lt; omega
  have HB := Lib.hid hB; have HZ := Lib.hid hz; have HN := Lib.hid hn
  have HLw := Lib.hid h.low
  clear h hB hz hn hb1
  go_enter Try.func74, Try.ntmps74
  go_wp2_with fail
  generalize w.alloc (.cells #[.string ⟨#[]⟩, .string ⟨#[]⟩] 34) = w1 at *
  obtain ⟨r, hr⟩ : ∃ r, w.heap.size = r := ⟨_, rfl⟩
  have HRw := Lib.hid hr
  rw [hr] at HG HQ ⊢
  clear hr
  refine (po_symbol g q v B tv t N a e w1 HR1.out HB.out HZ.out HN.out).mono ?_
  rintro en w2 ⟨hm2, s1, a1, e1, rfl, hR2, hf1⟩
  have HM2 := Lib.hid (HM1.out.trans hm2 (fun _ _ e => e)); have HR2 := Lib.hid hR2; have HF1 := Lib.hid hf1
  have HG2 := Lib.hid (hm2.blk HG.out HQ.out)
  clear hm2 hR2 hf1 HG HM1 HR1
  go_wp2_with fail
  refine (po_symbol g q v B tv t N a1 e1 w2 HR2.out HB.out HZ.out HN.out).mono ?_
  rintro en w3 ⟨hm3, s2, a2, e2, rfl, hR3, hf2⟩
  have HM3 := Lib.hid (HM2.out.trans hm3 (fun _ _ e => e)); have HR3 := Lib.hid hR3
  have HF : Hid (outE (pLab t B a) e = fin (s1, s2) a2 e2) := fin_pair HF1.out hf2
  have HG3 := Lib.hid (hm3.blk HG2.out HQ.out)
  have HG4 := Lib.hid (HG3.out.set2 (.string s1) (.string s2))
  obtain ⟨⟨c0, c1⟩, f0, f1⟩ := HG3.out.two
  have HM4 : Hid (Mods (fun k => k = q) w ((w3.setCell ⟨r, 0, none⟩ (.string s1)).setCell ⟨r, 1, none⟩ (.string s2))) := (HM3.out.trans (Mods.set (fun k => k = r) _ _ _ (fun _ => rfl)) (fun j hj e => by have := HRw.out; omega)).trans (Mods.set (fun k => k = r) _ _ _ (fun _ => rfl)) (fun j hj e => by have := HRw.out; omega)
  have HR4 : Hid (PoRd ((w3.setCell ⟨r, 0, none⟩ (.string s1)).setCell ⟨r, 1, none⟩ (.string s2)) g q v B tv t N a2 e2) := by
    have hm : Mods (fun k => k = r) w3 ((w3.setCell ⟨r, 0, none⟩ (.string s1)).setCell ⟨r, 1, none⟩ (.string s2)) := (Mods.set (fun k => k = r) _ _ _ (fun _ => rfl)).trans (Mods.set (fun k => k = r) _ _ _ (fun _ => rfl)) (fun _ _ e => e)
    have hl := HLw.out; have hr := HRw.out
    exact HR3.out.mods hm (fun e => by have := hl.g; omega) (fun e => by have := hl.q; omega) (fun hne k hk e => by have := hl.v hne k hk; omega) (fun hne k hk e => by have := hl.t hne k hk; omega)
  clear hm3 hR3 hf2 HG2 HM2 HR2 HF1
  go_wp2_with fail
  refine bodyPost_ret (resultsS (p := 2) strLab15 (by kernel_rfl) _ r rfl [.string s1, .string s2] HG4.out rfl) rfl ?_
  exact ⟨HM4.out, (s1, s2), a2, e2, rfl, HR4.out, HF.out⟩
end Go.Proofs.Ytpjfhakmffcolaa

end

section
/- Layer 15, the program's own: where the reading of a list with a state stands, also after an error: pure. -/
set_option linter.unusedVariables false
namespace Go.Proofs.Ytpjfhakmffcolaa
open Go Go.RowKit

section
variable {α σ : Type} {p : σ → List Nat → Nat → Out α} {nx : σ → α → σ} {B : List Nat} {a e n b e1 i x : Nat} {s s0 : σ} {acc : List α} {T : Out (List α)}
theorem lsU_start (hB : ∀ c ∈ B, c < 256) (ha : a ≤ B.length) (h : outE (outUint B a 18446744073709551615) e = fin n b e1) (hn : ¬ B.length - b < n) : outE (pListS p nx 0 s0 B a) e = outE (pManyS p nx B (n - 0) b s0 []) e1 := by
  rw [Nat.sub_zero]
  by_cases h0 : e1 = 0
  · obtain ⟨rfl, ho⟩ := fin_ok h h0
    subst h0
    rcases outCount_cases hB ha with ⟨k, _, hu, _⟩ | ⟨m, b', hu, _, _, _, hc⟩
    · rw [hu] at ho; cases ho
    · rw [hu] at ho; cases ho
      rw [outE_zero, outE_zero, listS_count, hc, if_neg hn]
      simp
  · rcases fin_bad h h0 with ⟨rfl, ho⟩ | ⟨k, rfl⟩
    · rcases outCount_cases hB ha with ⟨k, _, hu, hc⟩ | ⟨m, b', hu, _⟩
      · rw [hu] at ho; cases ho
        rw [outE_zero, outE_ne _ h0, listS_count, hc]
      · rw [hu] at ho; cases ho
    · rw [outE_ne _ k, outE_ne _ k]
theorem lsU_short (hB : ∀ c ∈ B, c < 256) (ha : a ≤ B.length) (h : outE (outUint B a 18446744073709551615) e = fin n b e1) (h1 : e1 ≠ 0 → n = 0) (hn : B.length - b < n) : e1 = 0 ∧ outE (pListS p nx 0 s0 B a) e = outE (pManyS p nx B (n - 0) b s0 []) 3 := by
  have h0 : e1 = 0 := Decidable.byContradiction fun h0 => by have := h1 h0; omega
  refine ⟨h0, ?_⟩
  obtain ⟨rfl, ho⟩ := fin_ok h h0
  rcases outCount_cases hB ha with ⟨k, _, hu, _⟩ | ⟨m, b', hu, _, _, _, hc⟩
  · rw [hu] at ho; cases ho
  · rw [hu] at ho; cases ho
    rw [outE_zero, outE_ne _ (by decide), listS_count, hc, if_pos hn]
theorem manyS_break {y : α} {x' e' : Nat} (hi : i < n) (h : T = outE (pManyS p nx B (n - i) x s acc) e) (hx : outE (p s B x) e = fin y x' e') (h0 : e' ≠ 0) : T = fin acc x' e' := by
  have := manyS_fail (m := 0) (x2 := 0) (s2 := s) (acc2 := acc) hi h hx h0
  rw [this, outE_ne _ h0, fin, if_neg h0]
end

/-- A list of series without the demand that there be one. -/
def pSers0 (n : Int) : List Nat → Nat → Out (List Int) := pListS (pSer n) (fun _ x => some x) 0 none
theorem pManyS_len {α σ : Type} (p : σ → List Nat → Nat → Out α) (nx : σ → α → σ) (B : List Nat) : ∀ (n b : Nat) (s : σ) (acc u : List α) (b' : Nat), pManyS p nx B n b s acc = .ok u b' → u.length = acc.length + n := by
  intro n
  induction n with
  | zero => intro b s acc u b' h; rw [pManyS] at h; cases h; rfl
  | succ n ih =>
    intro b s acc u b' h
    rw [pManyS] at h
    split at h
    · cases h
    · have := ih _ _ _ _ _ h
      rw [List.length_append] at this
      simp at this
      omega
theorem sers_fin {n : Int} {B : List Nat} {a e a2 e2 : Nat} {l : List Int} (h : outE (pSers0 n B a) e = fin l a2 e2) : outE (pSers n B a) e = fin l a2 (if l = [] then (if e2 = 0 then 22 else e2) else e2) := by
  have hp := listS_count (pSer n) (fun _ x => some x) 0 none B a
  have hp2 := listS_count (pSer n) (fun _ x => some x) 22 none B a
  have e0 : pSers0 n B a = pListS (pSer n) (fun _ x => some x) 0 none B a := rfl
  have e1 : pSers n B a = pListS (pSer n) (fun _ x => some x) 22 none B a := rfl
  by_cases h0 : e2 = 0
  · obtain ⟨rfl, ho⟩ := fin_ok h h0
    subst h0
    rw [e0, hp] at ho
    rw [outE_zero, e1, hp2]
    cases hc : outCount B a with
    | bad k => rw [hc] at ho; cases ho
    | ok m b =>
      rw [hc] at ho
      simp only [ne_eq, not_true_eq_false, false_and, if_false] at ho ⊢
      have hk := pManyS_len _ _ _ _ _ _ _ _ _ ho
      simp only [List.length_nil, Nat.zero_add] at hk
      by_cases hl : l = []
      · rw [if_pos ⟨by decide, by rw [← hk, hl]; rfl⟩, if_pos hl, fin]; simp
      · rw [if_neg (fun e => hl (List.eq_nil_of_length_eq_zero (hk.trans e.2))), if_neg hl, fin, if_pos rfl]
        exact ho
  · have hr : (if l = [] then (if e2 = 0 then 22 else e2) else e2) = e2 := by simp [h0]
    rw [hr]
    rcases fin_bad h h0 with ⟨rfl, ho⟩ | ⟨k, rfl⟩
    · rw [outE_zero, fin, if_neg h0, e1, hp2]
      rw [e0, hp] at ho
      cases hc : outCount B a with
      | bad k => rw [hc] at ho; cases ho; rfl
      | ok m b =>
        rw [hc] at ho
        simp only [ne_eq, not_true_eq_false, false_and, if_false] at ho ⊢
        by_cases hn : m = 0
        · subst hn; rw [pManyS] at ho; cases ho
        · rw [if_neg (fun e => hn e.2)]; exact ho
    · rw [outE_ne _ k, fin, if_neg k]
/-- A number of a series: taken, or refused. -/
theorem serE_ok {n : Int} {s : Option Int} {B : List Nat} {a e d a1 e1 : Nat} (hB : ∀ c ∈ B, c < 256) (ha : a ≤ B.length) (h : outE (outUint B a 18446744073709551615) e = fin d a1 e1) (h1 : 0 ≤ s.getD 0) (h2 : s.getD 0 + (d : Int) < n) (h3 : s = none ∨ d ≠ 0 ∨ e1 ≠ 0) : outE (pSer n s B a) e = fin (s.getD 0 + (d : Int)) a1 e1 := by
  by_cases he : e1 = 0
  · exact pnum_ok hB ha h he (by rw [if_pos ⟨h1, h2, by rcases h3 with k | k | k; exact Or.inl k; exact Or.inr k; exact absurd he k⟩])
  · exact pnum_bad _ hB ha h he
theorem serE_no {n : Int} {s : Option Int} {B : List Nat} {a e d a1 e1 : Nat} (y : Int) (hB : ∀ c ∈ B, c < 256) (ha : a ≤ B.length) (h : outE (outUint B a 18446744073709551615) e = fin d a1 e1) (hbad : ¬ (s.getD 0 + (d : Int) < n ∧ (s = none ∨ d ≠ 0))) : outE (pSer n s B a) e = fin y a1 (if e1 = 0 then 22 else e1) := by
  by_cases he : e1 = 0
  · rw [if_pos he]
    exact pnum_no _ (by decide) hB ha h he (by rw [if_neg (fun k => hbad ⟨k.2.1, k.2.2⟩)])
  · rw [if_neg he]
    exact pnum_bad _ hB ha h he
/-- Where a list of series stands: the number before, and the least difference. -/
def sLeast (s : Option Int) : Nat := match s with
  | none => 0
  | some _ => 1
theorem sLeast_le (s : Option Int) : sLeast s ≤ 1 := by cases s <;> simp [sLeast]
theorem sLeast_none {s : Option Int} {d : Nat} (h : ¬ d < sLeast s) : s = none ∨ d ≠ 0 := by
  cases s with
  | none => exact Or.inl rfl
  | some y => refine Or.inr (fun e => h ?_); rw [e]; simp [sLeast]
theorem sLeast_bad {s : Option Int} {d : Nat} (h : d < sLeast s) : ¬ (s = none ∨ d ≠ 0) := by
  cases s with
  | none => simp [sLeast] at h
  | some y => simp [sLeast] at h; simp [h]
end Go.Proofs.Ytpjfhakmffcolaa

end

section
/- Layer 15, the program's own: a number of a series, by a closure with a state. -/
set_option linter.unusedVariables false
set_option maxRecDepth 20000
namespace Go.Proofs.Ytpjfhakmffcolaa
open Go Go.RowKit

/-- The three variables of the closure. -/
structure SerSt (w : World) (y0 y1 y2 g : Nat) (s : Option Int) : Prop where
  r : Blk w y0 [.pointer (some ⟨g, 0, none⟩)]
  least : Blk w y1 [.int .u64 (sLeast s : Int)]
  before : Blk w y2 [.int .i64 (s.getD 0)]
theorem SerSt.mods {S : Nat → Prop} {w w' : World} {y0 y1 y2 g : Nat} {s : Option Int} (h : SerSt w y0 y1 y2 g s) (hm : Mods S w w') (h0 : ¬ S y0) (h1 : ¬ S y1) (h2 : ¬ S y2) : SerSt w' y0 y1 y2 g s := ⟨hm.blk h.r h0, hm.blk h.least h1, hm.blk h.before h2⟩
theorem SerSt.below {w w' : World} {y0 y1 y2 g : Nat} {s : Option Int} (h : SerSt w y0 y1 y2 g s) (hb : Below w.heap.size w w') : SerSt w' y0 y1 y2 g s := h.mods (Mods.of_below hb (fun _ => False)) (fun h => h) (fun h => h) (fun h => h)

set_option maxHeartbeats 8000000 in
theorem po_ser (y0 y1 y2 g q : Nat) (v : Value) (B : List Nat) (tv : Value) (t : List ByteArray) (N : Int) (a e : Nat) (s : Option Int) (w : World) (h : PoRd w g q v B tv t N a e) (hB : ∀ c ∈ B, c < 256) (hz : B.length ≤ 100000000) (hN : 0 ≤ N ∧ N ≤ 9223372036854775807)
    (hst : SerSt w y0 y1 y2 g s) (hlw : PoLow y0 g q v B tv t) (hy : y0 < y1 ∧ y1 < y2) (hs : 0 ≤ s.getD 0 ∧ (s.getD 0 = 0 ∨ s.getD 0 < N)) :
    Calls Try.prog 100 #[.pointer (some ⟨y0, 0, none⟩), .pointer (some ⟨y1, 0, none⟩), .pointer (some ⟨y2, 0, none⟩)] w fun en w' => Mods (fun k => k = q ∨ k = y1 ∨ k = y2) w w' ∧ ∃ (x : Int) (a' e' : Nat), en = .returned (.int .i64 x) ∧ PoRd w' g q v B tv t N a' e' ∧ outE (pSer N s B a) e = fin x a' e' ∧ (e' = 0 → SerSt w' y0 y1 y2 g (some x) ∧ 0 ≤ x ∧ x < N) := by
  have HU := Lib.hid (po_number g q v B tv t N a e w h hB hz)
  have HB := Lib.hid hB; have HA := Lib.hid h.at_
  have HLw := Lib.hid hlw; have HY := Lib.hid hy; have HSv := Lib.hid hs; have HN := Lib.hid hN
  have HSt := Lib.hid hst
  have z0 : w.cell? ⟨y0, 0, none⟩ = some (.pointer (some ⟨g, 0, none⟩)) := hst.r.cell 0
  clear h hB hz hst hlw hy hs hN
  go_enter Try.func100, Try.ntmps100
  go_wp2_with fail
  refine HU.out.mono ?_
  rintro en w1 ⟨hm, n, a1, e1, rfl, hn, hR, hf, h0⟩
  have HM := Lib.hid hm; have HR := Lib.hid hR; have HF := Lib.hid hf; have H0 := Lib.hid h0
  have HNn := Lib.hid hn
  have hst1 := HSt.out.mods hm (fun e => by have := HLw.out.q; omega) (fun e => by have := HLw.out.q; have := HY.out; omega) (fun e => by have := HLw.out.q; have := HY.out; omega)
  have HSt1 := Lib.hid hst1
  clear HU hm hR hf h0 hn hst1 z0
  obtain ⟨l, hl⟩ : ∃ l : Nat, sLeast s = l := ⟨_, rfl⟩
  have HL := Lib.hid hl
  have hl1 : l ≤ 1 := by rw [← hl]; exact sLeast_le s
  obtain ⟨b, hb⟩ : ∃ b, s.getD 0 = b := ⟨_, rfl⟩
  have HBf := Lib.hid hb
  have hb0 : 0 ≤ b := by have := HSv.out.1; rw [hb] at this; exact this
  obtain ⟨dd, hdd⟩ : ∃ dd : Nat, N - b = (dd : Int) := ⟨(N - b).toNat, by have h1 := HSv.out.2; have h2 := HN.out.1; rw [hb] at h1; rcases h1 with h1 | h1 <;> omega⟩
  have HDd := Lib.hid hdd
  have hbN : b ≤ N := by omega
  have hN2 : N ≤ 9223372036854775807 := HN.out.2
  have hwd : IntKind.u64.wrap (N - b) = (dd : Int) := by rw [hdd, IntKind.wrap_u64]; omega
  clear hl hb hdd
  -- the way on which the number is refused
  have hbad : ∀ (w2 : World), (¬ (s.getD 0 + (n : Int) < N ∧ (s = none ∨ n ≠ 0))) → Mods (fun k => k = q ∨ k = y1 ∨ k = y2) w w2 → PoRd w2 g q v B tv t N a1 (if e1 = 0 then 22 else e1) → Mods (fun k => k = q ∨ k = y1 ∨ k = y2) w w2 ∧ ∃ (x : Int) (a' e' : Nat), Ending.returned (.int .i64 0) = .returned (.int .i64 x) ∧ PoRd w2 g q v B tv t N a' e' ∧ outE (pSer N s B a) e = fin x a' e' ∧ (e' = 0 → SerSt w2 y0 y1 y2 g (some x) ∧ 0 ≤ x ∧ x < N) := fun w2 hb hm hr =>
    ⟨hm, 0, a1, _, rfl, hr, serE_no 0 HB.out HA.out HF.out hb, fun he => by split at he; cases he; exact absurd he (by assumption)⟩
  have HBad := Lib.hid hbad
  clear hbad
  have z0 : w1.cell? ⟨y0, 0, none⟩ = some (.pointer (some ⟨g, 0, none⟩)) := HSt1.out.r.cell 0
  have z1 : w1.cell? ⟨y1, 0, none⟩ = some (.int .u64 (l : Int)) := by rw [HSt1.out.least.cell, HL.out]; rfl
  have z2 : w1.cell? ⟨y2, 0, none⟩ = some (.int .i64 b) := by rw [HSt1.out.before.cell, HBf.out]; rfl
  obtain ⟨g0, g1, g2, g3⟩ := HR.out.cells
  have mixed : Try.prog.follows .mixedOrders = true := by kernel_rfl
  by_cases hA : n < l
  · have hAi : (n : Int) < (l : Int) := by omega
    have hd : decide ((n : Int) < (l : Int)) = true := decide_eq_true hAi
    have HX : Hid (¬ (s.getD 0 + (n : Int) < N ∧ (s = none ∨ n ≠ 0))) := fun k => sLeast_bad (by rw [HL.out]; exact hA) k.2
    clear hA
    go_wp2_with fail
    go_quiet (fail)
    have HR2 := Lib.hid (HR.out.below (below_drewN w1 nq))
    have HM2 : Hid (Mods (fun k => k = q ∨ k = y1 ∨ k = y2) w (w1.drewN nq)) := (HM.out.mono (fun _ _ e => Or.inl e)).trans (Mods.drewN _ _ _) (fun _ _ e => e)
    have HS2 := Lib.hid (HSt1.out.below (below_drewN w1 nq))
    clear HR HM HSt1 z0 z1 z2 g0 g1 g2 g3 hd hAi 
    show Exit.then _ _ _ _ (w1.drewN nq)
    generalize w1.drewN nq = w2 at *
    have z0 : w2.cell? ⟨y0, 0, none⟩ = some (.pointer (some ⟨g, 0, none⟩)) := HS2.out.r.cell 0
    obtain ⟨g0, g1, g2, g3⟩ := HR2.out.cells
    have HFl := Lib.hid (po_fail g q v B tv t N a1 e1 22 w2 HR2.out)
    rw [show ((22 : Nat) : Int) = 22 from rfl] at HFl
    go_wp2_with fail
    refine HFl.out.mono ?_
    rintro en w3 ⟨rfl, hR3, hm3⟩
    have HP := Lib.hid (HBad.out w3 HX.out (HM2.out.trans hm3 (fun _ _ e => Or.inl e)) hR3)
    clear hR3 hm3 HFl g0 g1 g2 g3 z0
    go_wp2_with fail
    go_ret
    exact HP.out
  · have hAi : ¬ (n : Int) < (l : Int) := by omega
    have hd : decide ((n : Int) < (l : Int)) = false := decide_eq_false hAi
    by_cases hC : dd ≤ n
    · have hCi : (dd : Int) ≤ (n : Int) := by omega
      have HX : Hid (¬ (s.getD 0 + (n : Int) < N ∧ (s = none ∨ n ≠ 0))) := fun k => by have h1 := k.1; rw [HBf.out] at h1; have h2 := HDd.out; omega
      go_wp2_with fail
      go_quiet (fail)
      clear hA hC
      have HR2 := Lib.hid (HR.out.below (below_drewN w1 nq))
      have HM2 : Hid (Mods (fun k => k = q ∨ k = y1 ∨ k = y2) w (w1.drewN nq)) := (HM.out.mono (fun _ _ e => Or.inl e)).trans (Mods.drewN _ _ _) (fun _ _ e => e)
      have HS2 := Lib.hid (HSt1.out.below (below_drewN w1 nq))
      clear HR HM HSt1 z0 z1 z2 g0 g1 g2 g3 hd hAi hCi
      show Exit.then _ _ _ _ (w1.drewN nq)
      generalize w1.drewN nq = w2 at *
      have z0 : w2.cell? ⟨y0, 0, none⟩ = some (.pointer (some ⟨g, 0, none⟩)) := HS2.out.r.cell 0
      obtain ⟨g0, g1, g2, g3⟩ := HR2.out.cells
      have HFl := Lib.hid (po_fail g q v B tv t N a1 e1 22 w2 HR2.out)
      rw [show ((22 : Nat) : Int) = 22 from rfl] at HFl
      go_wp2_with fail
      refine HFl.out.mono ?_
      rintro en w3 ⟨rfl, hR3, hm3⟩
      have HP := Lib.hid (HBad.out w3 HX.out (HM2.out.trans hm3 (fun _ _ e => Or.inl e)) hR3)
      clear hR3 hm3 HFl g0 g1 g2 g3 z0
      go_wp2_with fail
      go_ret
      exact HP.out
    · have hCi : ¬ (dd : Int) ≤ (n : Int) := by omega
      have hbn : b + (n : Int) < N := by have := HDd.out; omega
      have HOk : Hid (outE (pSer N s B a) e = fin (b + (n : Int)) a1 e1) := by
        show _ = _
        rw [← HBf.out]
        exact serE_ok HB.out HA.out HF.out (by rw [HBf.out]; exact hb0) (by rw [HBf.out]; exact hbn) (by
          rcases sLeast_none (s := s) (d := n) (by rw [HL.out]; exact hA) with k | k
          · exact Or.inl k
          · exact Or.inr (Or.inl k))
      have hnx : (n : Int) ≤ 9223372036854775807 := by omega
      have hwn : IntKind.i64.wrap (n : Int) = (n : Int) := by rw [IntKind.wrap_i64]; omega
      go_wp2_with fail
      go_quiet (fail)
      clear hA hC
      have HR2 := Lib.hid (HR.out.below (below_drewN w1 nq))
      have HM2 : Hid (Mods (fun k => k = q ∨ k = y1 ∨ k = y2) w (w1.drewN nq)) := (HM.out.mono (fun _ _ e => Or.inl e)).trans (Mods.drewN _ _ _) (fun _ _ e => e)
      have HS2 := Lib.hid (HSt1.out.below (below_drewN w1 nq))
      clear HR HM HSt1 z0 z1 z2 g0 g1 g2 g3 hd hAi hCi HBad
      show Exit.then _ _ _ _ (w1.drewN nq)
      generalize w1.drewN nq = w2 at *
      have z1 : w2.cell? ⟨y1, 0, none⟩ = some (.int .u64 (l : Int)) := by rw [HS2.out.least.cell, HL.out]; rfl
      have f1 : w2.frozen? ⟨y1, 0, none⟩ = false := HS2.out.least.free 0
      have hk1 : Blk (w2.setCell ⟨y1, 0, none⟩ (.int .u64 1)) y1 [.int .u64 1] := by simpa using HS2.out.least.set 0 (.int .u64 1)
      have hk2 : Blk (w2.setCell ⟨y1, 0, none⟩ (.int .u64 1)) y2 [.int .i64 b] := by
        have h := HS2.out.before.set_other (a := ⟨y1, 0, none⟩) (by have := HY.out; show y2 ≠ y1; omega) (.int .u64 1)
        rwa [HBf.out] at h
      have hk0 : Blk (w2.setCell ⟨y1, 0, none⟩ (.int .u64 1)) y0 [.pointer (some ⟨g, 0, none⟩)] := HS2.out.r.set_other (a := ⟨y1, 0, none⟩) (by have := HY.out; show y0 ≠ y1; omega) (.int .u64 1)
      have z2 : (w2.setCell ⟨y1, 0, none⟩ (.int .u64 1)).cell? ⟨y2, 0, none⟩ = some (.int .i64 b) := hk2.cell 0
      have f2 : (w2.setCell ⟨y1, 0, none⟩ (.int .u64 1)).frozen? ⟨y2, 0, none⟩ = false := hk2.free 0
      obtain ⟨w3, hw3⟩ : ∃ w3, w3 = w2.setCell ⟨y1, 0, none⟩ (.int .u64 1) := ⟨_, rfl⟩
      have HW3 : Hid (w2.setCell ⟨y1, 0, none⟩ (.int .u64 1) = w3) := hw3.symm
      have hm3 : Mods (fun k => k = y1 ∨ k = y2) w2 (w3.setCell ⟨y2, 0, none⟩ (.int .i64 (b + (n : Int)))) := by
        rw [hw3]
        exact (Mods.set (fun k => k = y1 ∨ k = y2) w2 ⟨y1, 0, none⟩ (.int .u64 1) (fun _ => Or.inl rfl)).trans (Mods.set (fun k => k = y1 ∨ k = y2) _ ⟨y2, 0, none⟩ _ (fun _ => Or.inr rfl)) (fun _ _ e => e)
      rw [← hw3] at hk0 hk1 hk2
      have HSt4 : Hid (SerSt (w3.setCell ⟨y2, 0, none⟩ (.int .i64 (b + (n : Int)))) y0 y1 y2 g (some (b + (n : Int)))) := by
        refine ⟨hk0.set_other (a := ⟨y2, 0, none⟩) (by have := HY.out; show y0 ≠ y2; omega) _, ?_, by simpa using hk2.set 0 (.int .i64 (b + (n : Int)))⟩
        have h := hk1.set_other (a := ⟨y2, 0, none⟩) (by have := HY.out; show y1 ≠ y2; omega) (.int .i64 (b + (n : Int)))
        simpa [sLeast] using h
      have HM4 : Hid (Mods (fun k => k = q ∨ k = y1 ∨ k = y2) w (w3.setCell ⟨y2, 0, none⟩ (.int .i64 (b + (n : Int))))) := HM2.out.trans hm3 (fun _ _ e => Or.inr e)
      have HR4 : Hid (PoRd (w3.setCell ⟨y2, 0, none⟩ (.int .i64 (b + (n : Int)))) g q v B tv t N a1 e1) := HR2.out.above HLw.out hm3 (fun k hk e => by have := HY.out; omega)
      have z4 : ((w2.setCell ⟨y1, 0, none⟩ (.int .u64 1)).setCell ⟨y2, 0, none⟩ (.int .i64 (b + (n : Int)))).cell? ⟨y2, 0, none⟩ = some (.int .i64 (b + (n : Int))) := by rw [HW3.out]; exact HSt4.out.before.cell 0
      have HLt : Hid (0 ≤ b + (n : Int) ∧ b + (n : Int) < N) := ⟨by omega, hbn⟩
      rw [← HW3.out] at HSt4 HM4 HR4
      clear hk0 hk1 hk2 hm3 hw3 HW3 HS2 HM2 HR2
      go_wp2_with fail
      go_ret
      exact ⟨HM4.out, _, a1, e1, rfl, HR4.out, HOk.out, fun _ => ⟨HSt4.out, HLt.out⟩⟩
end Go.Proofs.Ytpjfhakmffcolaa

end

section
/- Layer 15, the program's own: lists of numbers read by the closure; the series of an entry. -/
set_option linter.unusedVariables false
set_option maxRecDepth 20000
namespace Go.Proofs.Ytpjfhakmffcolaa
open Go Go.RowKit

set_option maxHeartbeats 16000000 in
theorem gl_ints (y0 y1 y2 g q : Nat) (v : Value) (B : List Nat) (tv : Value) (t : List ByteArray) (N : Int) (a e : Nat) (w : World) (h : PoRd w g q v B tv t N a e) (hB : ∀ c ∈ B, c < 256) (hz : B.length ≤ 100000000) (hN : 0 ≤ N ∧ N ≤ 9223372036854775807)
    (hst : SerSt w y0 y1 y2 g none) (hlw : PoLow y0 g q v B tv t) (hy : y0 < y1 ∧ y1 < y2) :
    Calls Try.prog 99 #[.pointer (some ⟨g, 0, none⟩), .func (.func 100) #[] #[.pointer (some ⟨y0, 0, none⟩), .pointer (some ⟨y1, 0, none⟩), .pointer (some ⟨y2, 0, none⟩)]] w fun en w' => Mods (fun k => k = q ∨ k = y1 ∨ k = y2) w w' ∧ ∃ (l : List Int) (r : Value) (a' e' : Nat), en = .returned r ∧ w'.ownsRow w.heap.size 3 1 r l.length (i64s l) ∧ PoRd w' g q v B tv t N a' e' ∧ outE (pSers0 N B a) e = fin l a' e' := by
  have HU := Lib.hid (po_number g q v B tv t N a e w h hB hz)
  have HB := Lib.hid hB; have HZ := Lib.hid hz; have HNn0 := Lib.hid hN; have HA := Lib.hid h.at_; have HLw := Lib.hid hlw; have HY := Lib.hid hy; have HSt := Lib.hid hst
  have HYs : Hid (y0 < w.heap.size ∧ y1 < w.heap.size ∧ y2 < w.heap.size) := ⟨hst.r.lt, hst.least.lt, hst.before.lt⟩
  have hbm : (B.length : Int) ≤ 100000000 := by omega
  obtain ⟨T, hT⟩ : ∃ T, outE (pSers0 N B a) e = T := ⟨_, rfl⟩
  have HT := Lib.hid hT
  rw [hT]
  clear h hB hz hN hT hst hlw hy
  go_enter Try.func99, Try.ntmps99
  go_wp2_with fail
  refine HU.out.mono ?_
  rintro en w1 ⟨hm, n, b, e1, rfl, hn, hR, hf, h0⟩
  have HM1 : Hid (Mods (fun k => k = q ∨ k = y1 ∨ k = y2) w w1) := hm.mono (fun _ _ e => Or.inl e)
  have HSt1 := Lib.hid (HSt.out.mods hm (fun e => by have := HLw.out.q; omega) (fun e => by have := HLw.out.q; have := HY.out; omega) (fun e => by have := HLw.out.q; have := HY.out; omega))
  have HR1 := Lib.hid hR; have HF := Lib.hid hf; have H0 := Lib.hid h0; have HNn := Lib.hid hn
  have hbl := hR.at_
  have hw : IntKind.u64.wrap ((B.length : Int) - (b : Int)) = ((B.length - b : Nat) : Int) := by rw [IntKind.wrap_u64]; omega
  obtain ⟨g0, g1, g2, g3⟩ := hR.cells
  have HAt := Lib.hid (fun k => rd_at q v B b (e1 : Int) (w1.drewN k) (HR1.out.rr.drewN k))
  obtain ⟨D, hD⟩ : ∃ D, B.length - b = D := ⟨_, rfl⟩
  have HD := Lib.hid hD
  rw [hD] at hw
  clear HU hm hR hf h0 hn hD HSt
  go_wp2_with fail
  go_quiet ((go_at_call 97; exact Calls.quiet_of_same (HAt.out _)))
  have HR2 := Lib.hid (HR1.out.below (below_drewN w1 nq))
  have HM2 : Hid (Mods (fun k => k = q ∨ k = y1 ∨ k = y2) w (w1.drewN nq)) := HM1.out.trans (Mods.drewN _ _ _) (fun _ _ e => e)
  have HSt2 := Lib.hid (HSt1.out.below (below_drewN w1 nq))
  clear HAt HM1 HR1 g0 g1 g2 g3 HSt1
  generalize w1.drewN nq = w2 at *
  obtain ⟨g0, g1, g2, g3⟩ := HR2.out.cells
  go_upto_if 22 with fail
  go_cut [22] from 10 to 28 (fun bv wx => ∃ (bb : Bool) (e2 : Nat), bv = .bool bb ∧ Hid (T = outE (pManyS (pSer N) (fun _ x => some x) B (n - 0) b none []) e2 ∧ (e2 = 0 → n ≤ 100000000)) ∧ Hid (PoRd wx g q v B tv t N b e2) ∧ Hid (Mods (fun k => k = q ∨ k = y1 ∨ k = y2) w wx) ∧ Hid (SerSt wx y0 y1 y2 g none))
  case first =>
    by_cases hlt : D < n
    · have hlt' : (D : Int) < (n : Int) := by omega
      obtain ⟨he1, hst⟩ := lsU_short (p := pSer N) (nx := fun _ x => some x) (s0 := none) HB.out HA.out HF.out H0.out (by have := HD.out; omega)
      subst he1
      have hfl := po_fail g q v B tv t N b 0 3 w2 HR2.out
      rw [if_pos rfl, show ((3 : Nat) : Int) = 3 from rfl] at hfl
      have HFl := Lib.hid hfl
      have HX : Hid (T = outE (pManyS (pSer N) (fun _ x => some x) B (n - 0) b none []) 3 ∧ ((3 : Nat) = 0 → n ≤ 100000000)) := ⟨HT.out.symm.trans hst, fun h => absurd h (by decide)⟩
      clear hst hlt hfl
      go_wp2_with fail
      refine HFl.out.mono ?_
      rintro en w3 ⟨rfl, hR3, hm3⟩
      have HR3 := Lib.hid hR3
      have HM3 := Lib.hid (HM2.out.trans hm3 (fun _ _ e => Or.inl e))
      have HSt3 := Lib.hid (HSt2.out.mods hm3 (fun e => by have := HLw.out.q; omega) (fun e => by have := HLw.out.q; have := HY.out; omega) (fun e => by have := HLw.out.q; have := HY.out; omega))
      clear HFl hR3 hm3 HSt2
      go_wp2_with fail
      go_meet
      exact ⟨_, 3, rfl, HX.out, HR3.out, HM3.out, HSt3.out⟩
    · have hlt' : ¬ (D : Int) < (n : Int) := by omega
      have HX : Hid (T = outE (pManyS (pSer N) (fun _ x => some x) B (n - 0) b none []) e1 ∧ (e1 = 0 → n ≤ 100000000)) := ⟨HT.out.symm.trans (lsU_start HB.out HA.out HF.out (by have := HD.out; omega)), fun _ => by have := HD.out; omega⟩
      go_wp2_with fail
      go_meet
      exact ⟨_, e1, rfl, HX.out, HR2.out, HM2.out, HSt2.out⟩
  case rest =>
  obtain ⟨bb, e2, rfl, HX, HR3, HM3, HSt3⟩ := hcut
  clear g0 g1 g2 g3 HR2 HM2 HD hw hbl HSt2
  go_wp2_with fail
  have HO0 : Hid (wc.ownsRow w.heap.size 3 1 (.slice none 0 0) ([] : List Int).length (i64s [])) := World.ownsRow_nil _ _ _ _
  have HS0 : Hid (0 ≤ (lastI []).getD 0 ∧ ((lastI []).getD 0 = 0 ∨ (lastI []).getD 0 < N)) := ⟨by decide, Or.inl rfl⟩
  go_loopw [6, 29] (fun vv iv wr => ∃ (i x e' : Nat) (acc : List Int), i ≤ n ∧ iv = .int .u64 (i : Int) ∧ Hid (acc.length = i ∧ (e' = 0 → n ≤ 100000000) ∧ T = outE (pManyS (pSer N) (fun _ x => some x) B (n - i) x (lastI acc) acc) e') ∧ Hid (wr.ownsRow w.heap.size 3 1 vv acc.length (i64s acc)) ∧ Hid (Mods (fun k => k = q ∨ k = y1 ∨ k = y2) w wr) ∧ Hid (PoRd wr g q v B tv t N x e') ∧ Hid (SerSt wr y0 y1 y2 g (lastI acc)) ∧ Hid (0 ≤ (lastI acc).getD 0 ∧ ((lastI acc).getD 0 = 0 ∨ (lastI acc).getD 0 < N))) (fun _ iv _ => n - (intOf iv).toNat)
  case atStart => exact ⟨0, b, e2, [], Nat.zero_le _, rfl, ⟨rfl, HX.out.2, HX.out.1⟩, HO0.out, HM3.out, HR3.out, HSt3.out, HS0.out⟩
  case round =>
    obtain ⟨i, x, e', acc, hi, rfl, HI, HO, HM, HR, HSr, HSv⟩ := hrel
    clear HX HR3 HM3 HO0 HSt3 HS0
    obtain ⟨pv, cv, hvv⟩ := (Rd.of_owns HO.out).shape
    subst hvv
    by_cases hlt : i < n
    · have hlt' : (i : Int) < (n : Int) := by omega
      have HGt := Lib.hid (po_ser y0 y1 y2 g q v B tv t N x e' (lastI acc) wr HR.out HB.out HZ.out HNn0.out HSr.out HLw.out HY.out HSv.out)
      go_wp2_with fail
      refine HGt.out.mono ?_
      rintro en w3 ⟨hm3, y, x3, e3, rfl, hR3, hf3, hst3⟩
      have HF3 := Lib.hid hf3; have HSt3 := Lib.hid hst3; have HR3 := Lib.hid hR3
      have HM3 := Lib.hid (HM.out.trans hm3 (fun _ _ e => e))
      have HO3 : Hid (w3.ownsRow w.heap.size 3 1 (.slice pv acc.length cv) acc.length (i64s acc)) := hm3.owns HO.out (fun k hk e => by have h1 := (HO.out.lt k hk).1; have h2 := HLw.out.q; have h3 := HYs.out; omega)
      obtain ⟨g0, g1, g2, g3⟩ := hR3.cells
      have HEr := Lib.hid (rd_err q v B x3 (e3 : Int) w3 HR3.out.rr)
      clear HGt hm3 hR3 hf3 HO HM HR HSr HSv hst3
      go_wp2_with fail
      refine HEr.out.mono ?_
      rintro en w5 ⟨rfl, rfl⟩
      clear HEr
      by_cases he : e3 = 0
      · subst he
        have HI2 : Hid ((acc ++ [y]).length = i + 1 ∧ ((0 : Nat) = 0 → n ≤ 100000000) ∧ T = outE (pManyS (pSer N) (fun _ x => some x) B (n - (i + 1)) x3 (lastI (acc ++ [y])) (acc ++ [y])) 0) := by
          obtain ⟨a1, a2, a3⟩ := HI.out
          have he' : e' = 0 := (fin_ok HF3.out rfl).1
          refine ⟨by rw [List.length_append, a1]; rfl, fun _ => a2 he', ?_⟩
          rw [lastI_push]
          exact manyS_step hlt a3 HF3.out rfl
        have HSv2 : Hid (SerSt w5 y0 y1 y2 g (lastI (acc ++ [y])) ∧ 0 ≤ (lastI (acc ++ [y])).getD 0 ∧ ((lastI (acc ++ [y])).getD 0 = 0 ∨ (lastI (acc ++ [y])).getD 0 < N)) := by
          obtain ⟨k1, k2, k3⟩ := HSt3.out rfl
          show _ ∧ _
          rw [lastI_push]
          exact ⟨k1, k2, Or.inr k3⟩
        have hnm : (n : Int) ≤ 100000000 := by have := HI2.out.2.1 rfl; omega
        have HLb : Hid ((acc.length + 1) * 8 ≤ 140737488355328 ∧ acc.length + 1 ≤ maxLen) := by show _ ∧ _; have := HI.out.1; unfold maxLen; omega
        have HOz : Hid (w5.ownsRow 0 3 1 (.slice pv acc.length cv) acc.length (i64s acc)) := owns_rebase HO3.out (fun _ _ => Nat.zero_le _)
        clear HF3 HI hlt HSt3
        go_wp2_with (at_builtin; refine wpList_push elemInt14 _ #[.int .i64 y] _ _ _ HOz.out rfl (by simp [Value.oneCell']) HLb.out rfl _ _ rfl rfl rfl ?_)
        intro v6 w6 k1 m1 h1
        have hof : ∀ k, (Value.slice pv acc.length cv).ownBlock = some k → w.heap.size ≤ k := fun k hk => (HO3.out.lt k hk).1
        have HO6 : Hid (w6.ownsRow w.heap.size 3 1 v6 (acc ++ [y]).length (i64s (acc ++ [y]))) := by
          show World.ownsRow _ _ _ _ _ _ _
          have e : i64s (acc ++ [y]) = i64s acc ++ [.int .i64 y] := by simp [i64s]
          rw [List.length_append, e]
          refine owns_rebase k1 (fun k hk => ?_)
          rcases h1 k hk with e | e
          · exact hof k e
          · have := HM3.out.size; omega
        have HM6 : Hid (Mods (fun k => k = q ∨ k = y1 ∨ k = y2) w w6) := HM3.out.trans m1 (fun j hj e => by have := hof j e; omega)
        have HR6 : Hid (PoRd w6 g q v B tv t N x3 0) := HR3.out.above (HLw.out.mono (Nat.le_of_lt HYs.out.1)) m1 (fun k hk e => by have := hof k e; omega)
        have HSr6 := Lib.hid (HSv2.out.1.mods m1 (fun e => by have h1 := hof y0 e; have h2 := HYs.out; omega) (fun e => by have h1 := hof y1 e; have h2 := HYs.out; omega) (fun e => by have h1 := hof y2 e; have h2 := HYs.out; omega))
        have HSv6 := Lib.hid HSv2.out.2
        obtain ⟨p6, c6, hv6⟩ := (Rd.of_owns HO6.out).shape
        subst hv6
        clear k1 m1 h1 hof HOz HO3 HM3 HR3 g0 g1 g2 g3 HSv2
        generalize acc ++ [y] = acc2 at *
        go_wp2_with fail
        go_round
        case rel => exact ⟨i + 1, x3, 0, acc2, by omega, by go_num, ⟨HI2.out.1, fun _ => HI2.out.2.1 trivial, HI2.out.2.2⟩, HO6.out, HM6.out, HR6.out, HSr6.out, HSv6.out⟩
        case measure => simp [intOf]; omega
      · have heb : ((e3 : Int) == 0) = false := by rw [beq_eq_false_iff_ne]; omega
        have HX : Hid (T = fin acc x3 e3) := manyS_break hlt HI.out.2.2 HF3.out he
        clear HI HF3 he g0 g1 g2 g3 HSt3
        go_wp2_with fail
        go_ret
        first
          | exact ⟨HM3.out, acc, _, x3, e3, rfl, HO3.out, HR3.out, HX.out⟩
          | exact ⟨HM3.out, acc, _, rfl, HO3.out, x3, e3, HR3.out, HX.out⟩
    · have hlt' : ¬ (i : Int) < (n : Int) := by omega
      have HX : Hid (T = fin acc x e') := manyS_end (by omega) HI.out.2.2
      go_wp2_with fail
      go_ret
      first
        | exact ⟨HM.out, acc, _, x, e', rfl, HO.out, HR.out, HX.out⟩
        | exact ⟨HM.out, acc, _, rfl, HO.out, x, e', HR.out, HX.out⟩
end Go.Proofs.Ytpjfhakmffcolaa

end

section
/- Layer 15, the program's own: the series of an entry. -/
set_option linter.unusedVariables false
set_option maxRecDepth 20000
namespace Go.Proofs.Ytpjfhakmffcolaa
open Go Go.RowKit

set_option maxHeartbeats 8000000 in
theorem po_series (g q : Nat) (v : Value) (B : List Nat) (tv : Value) (t : List ByteArray) (N : Int) (a e : Nat) (w : World) (h : PoRd w g q v B tv t N a e) (hB : ∀ c ∈ B, c < 256) (hz : B.length ≤ 100000000) (hN : 0 ≤ N ∧ N ≤ 9223372036854775807) :
    Calls Try.prog 76 #[.pointer (some ⟨g, 0, none⟩)] w fun en w' => Mods (fun k => k = q) w w' ∧ ∃ (l : List Int) (r : Value) (a' e' : Nat), en = .returned r ∧ w'.ownsRow w.heap.size 3 1 r l.length (i64s l) ∧ PoRd w' g q v B tv t N a' e' ∧ outE (pSers N B a) e = fin l a' e' := by
  have HB := Lib.hid hB; have HZ := Lib.hid hz; have HN := Lib.hid hN
  obtain ⟨w1, hw1⟩ : ∃ w1, w1 = w.alloc (.cells #[.pointer (some ⟨g, 0, none⟩)] 87) := ⟨_, rfl⟩
  obtain ⟨w2, hw2⟩ : ∃ w2, w2 = w1.alloc (.cells #[.int .u64 0] 81) := ⟨_, rfl⟩
  obtain ⟨w3, hw3⟩ : ∃ w3, w3 = w2.alloc (.cells #[.int .i64 0] 3) := ⟨_, rfl⟩
  have HW : Hid (((w.alloc (.cells #[.pointer (some ⟨g, 0, none⟩)] 87)).alloc (.cells #[.int .u64 0] 81)).alloc (.cells #[.int .i64 0] 3) = w3) := by show _ = _; rw [hw3, hw2, hw1]
  have hs1 : w1.heap.size = w.heap.size + 1 := by rw [hw1]; simp
  have hs2 : w2.heap.size = w.heap.size + 1 + 1 := by rw [hw2]; simp [hs1]
  have hb3 : Below w.heap.size w w3 := by
    rw [hw3, hw2, hw1]
    exact (((Below.refl _ w).alloc (Nat.le_refl _) _).alloc (by simp) _).alloc (by simp; omega) _
  have hk0 : Blk w3 w.heap.size [.pointer (some ⟨g, 0, none⟩)] := by rw [hw3, hw2, hw1]; exact ((Blk.new w _ _).alloc _).alloc _
  have hk1 : Blk w3 (w.heap.size + 1) [.int .u64 0] := by rw [← hs1, hw3, hw2]; exact (Blk.new w1 _ _).alloc _
  have hk2 : Blk w3 (w.heap.size + 1 + 1) [.int .i64 0] := by rw [← hs2, hw3]; exact Blk.new w2 _ _
  have HSt : Hid (SerSt w3 w.heap.size (w.heap.size + 1) (w.heap.size + 1 + 1) g none) := ⟨hk0, hk1, hk2⟩
  have HK0 := Lib.hid hk0
  have HR := Lib.hid (h.below hb3)
  have HLw := Lib.hid h.low
  have HM : Hid (Mods (fun k => k = q) w w3) := Mods.of_below hb3 _
  have HGl := Lib.hid (gl_ints w.heap.size (w.heap.size + 1) (w.heap.size + 1 + 1) g q v B tv t N a e w3 HR.out HB.out HZ.out HN.out HSt.out HLw.out ⟨by omega, by omega⟩)
  have HS3 : Hid (w.heap.size ≤ w3.heap.size) := hb3.size
  clear h hB hz hN hw1 hw2 hw3 hs1 hs2 hb3 hk1 hk2 HSt HR hk0
  go_enter Try.func76, Try.ntmps76
  go_wp2_with fail
  rw [HW.out]
  clear HW
  refine HGl.out.mono ?_
  rintro en w4 ⟨hm4, l, r, a4, e4, rfl, hO, hR4, hf⟩
  have HM4 : Hid (Mods (fun k => k = q) w w4) := HM.out.trans hm4 (fun j hj e => by rcases e with e | e | e <;> first | exact e | omega)
  have HO4 : Hid (w4.ownsRow w.heap.size 3 1 r l.length (i64s l)) := owns_rebase hO (fun k hk => by have h1 := (hO.lt k hk).1; have h2 := HS3.out; omega)
  have HR4 := Lib.hid hR4
  have HF := Lib.hid (sers_fin hf)
  have z0 : w4.cell? ⟨w.heap.size, 0, none⟩ = some (.pointer (some ⟨g, 0, none⟩)) := (hm4.blk HK0.out (fun e => by have := HLw.out.q; omega)).cell 0
  obtain ⟨p4, c4, hv4⟩ := (Rd.of_owns hO).shape
  subst hv4
  obtain ⟨g0, g1, g2, g3⟩ := hR4.cells
  clear hm4 hO hR4 hf HGl HM
  by_cases h0 : l.length = 0
  · have h0i : (l.length : Int) = 0 := by omega
    have hl : l = [] := List.eq_nil_of_length_eq_zero h0
    rw [if_pos hl] at HF
    have HFl := Lib.hid (po_fail g q v B tv t N a4 e4 22 w4 HR4.out)
    rw [show ((22 : Nat) : Int) = 22 from rfl] at HFl
    clear h0 hl
    go_wp2_with fail
    refine HFl.out.mono ?_
    rintro en w5 ⟨rfl, hR5, hm5⟩
    have HR5 := Lib.hid hR5
    have HM5 := Lib.hid (HM4.out.trans hm5 (fun _ _ e => e))
    have HO5 := Lib.hid (hm5.owns HO4.out (fun k hk e => by have h1 := (HO4.out.lt k hk).1; have h2 := HLw.out.q; omega))
    clear hR5 hm5 HFl g0 g1 g2 g3 z0
    go_wp2_with fail
    go_ret
    first
      | exact ⟨HM5.out, l, _, a4, _, rfl, HO5.out, HR5.out, HF.out⟩
      | exact ⟨HM5.out, l, _, rfl, HO5.out, a4, _, HR5.out, HF.out⟩
  · have h0i : ¬ (l.length : Int) = 0 := by omega
    have hcb : ((l.length : Int) == 0) = false := by rw [beq_eq_false_iff_ne]; exact h0i
    rw [if_neg (fun e => h0 (by rw [e]; rfl))] at HF
    clear h0
    go_wp2_with fail
    go_ret
    first
      | exact ⟨HM4.out, l, _, a4, e4, rfl, HO4.out, HR4.out, HF.out⟩
      | exact ⟨HM4.out, l, _, rfl, HO4.out, a4, e4, HR4.out, HF.out⟩
end Go.Proofs.Ytpjfhakmffcolaa

end
