/- Ref13H, Large13, SymP, TabS, RecE, Bytes, Ref02, Ref04R, Ref04U, in one text. -/
import Derived.Test.YtmnagmbokajfpaaMrg4
import Derived.Test.YtmnagmbokajfpaaMrg3
import Derived.Test.YtmnagmbokajfpaaMrg1
import Derived.WalkSpells
import Derived.WalkLawsBesides
import Derived.Outline
import Derived.Lib.Hide
import Derived.Deep.QuietTactic
import Derived.BigQuiet
import Derived.StillTailTactics
import Derived.Laws.IdiomStrings
import Derived.Lib.SlBytesConst
import Derived.Test.YtmnagmbokajfpaaMrg2

section
/- Layer 13: the reference's Same. -/
set_option linter.unusedVariables false
set_option maxRecDepth 20000
namespace Go.Proofs.Ytmnagmbokajfpaa
open Go Go.RowKit

theorem below_drewR (w : World) (n : Nat) : Below w.heap.size w (w.drewN n) := (Mods.drewN (fun _ => False) w n).below (Nat.le_refl _) (fun _ _ e => e)
/-- Records within the bounds of a machine. -/
structure SmallR (l : List Rec) : Prop where
  len : l.length ≤ 100000
  lab : ∀ r ∈ l, r.1.length ≤ 100000
  chs : ∀ r ∈ l, r.2.length ≤ 100000

set_option maxHeartbeats 8000000 in
theorem ref_same13 (av bv : Value) (a b : List Rec) (w : World) (ha : RdR w av a) (hb : RdR w bv b) (sa : SmallR a) (sb : SmallR b) :
    Calls Try.prog 20 #[av, bv] w fun e w' => e = .returned (.bool (decide (a = b))) ∧ Below w.heap.size w w' := by
  have HA := Lib.hid ha; have HB0 := Lib.hid hb; have SA := Lib.hid sa; have SB := Lib.hid sb
  obtain ⟨pa, ca, hv⟩ := ha.shape
  subst hv
  obtain ⟨pb, cb, hv⟩ := hb.shape
  subst hv
  have hma : (a.length : Int) ≤ 100000 := by have := sa.len; omega
  have hmb : (b.length : Int) ≤ 100000 := by have := sb.len; omega
  clear ha hb sa sb
  by_cases hl : a.length = b.length
  · have HL := Lib.hid hl
    rw [← hl] at HB0 ⊢
    clear hl hmb
    go_enter Try.func20, Try.ntmps20
    go_wp2_with fail
    go_loopw [5] (fun iv wr => ∃ (i : Nat), i ≤ a.length ∧ iv = .int .i64 (i : Int) ∧ Hid (a.take i = b.take i) ∧ Hid (Below w.heap.size w wr)) (fun iv _ => a.length - (intOf iv).toNat)
    case atStart => exact ⟨0, Nat.zero_le _, rfl, rfl, Below.refl _ _⟩
    case round =>
      obtain ⟨i, hi, rfl, HT, HB⟩ := hrel
      have him : (i : Int) ≤ 100000 := by omega
      by_cases hlt : i < a.length
      · have hlt' : (i : Int) < (a.length : Int) := by omega
        obtain ⟨⟨x1, x2⟩, hx⟩ : ∃ x, a[i]? = some x := ⟨_, List.getElem?_eq_getElem hlt⟩
        obtain ⟨⟨y1, y2⟩, hy⟩ : ∃ y, b[i]? = some y := ⟨_, List.getElem?_eq_getElem (by rw [← HL.out]; exact hlt)⟩
        obtain ⟨ba, oa, h1, h2, e, ⟨p1, k1, e1⟩, ⟨p2, k2, e2⟩, hal⟩ := HA.out.always hx
        subst e
        simp only at e1 e2
        subst e1
        subst e2
        obtain ⟨bb, ob, g1, g2, e, ⟨p3, k3, e3⟩, ⟨p4, k4, e4⟩, hbl⟩ := HB0.out.always hy
        subst e
        simp only at e3 e4
        subst e3
        subst e4
        have HAl := Lib.hid hal; have HBl := Lib.hid hbl
        have hmx := List.mem_of_getElem? hx
        have hmy := List.mem_of_getElem? hy
        have HLs : Hid (x1.length ≤ 100000 ∧ x2.length ≤ 100000 ∧ y1.length ≤ 100000 ∧ y2.length ≤ 100000) := ⟨SA.out.lab _ hmx, SA.out.chs _ hmx, SB.out.lab _ hmy, SB.out.chs _ hmy⟩
        have hxm : (x2.length : Int) ≤ 100000 := by have := HLs.out; omega
        have hym : (y2.length : Int) ≤ 100000 := by have := HLs.out; omega
        have hne : Hid (¬ (x1 = y1 ∧ x2 = y2) → decide (a = b) = false) := fun h => decide_eq_false fun e => by
          rw [e, hy] at hx
          cases hx
          exact h ⟨rfl, rfl⟩
        have HT2 : Hid (x1 = y1 → x2 = y2 → a.take (i + 1) = b.take (i + 1)) := fun e1 e2 => by rw [List.take_add_one, List.take_add_one, HT.out, hx, hy, e1, e2]
        obtain ⟨cA, cA2, hr1⟩ := hal wr HB.out
        clear hr1
        obtain ⟨cB, cB2, hr2⟩ := hbl wr HB.out
        clear hr2
        clear hx hy hal hbl hmx hmy
        have HCm : Hid (∀ n, Calls Try.prog 39 #[.slice p1 x1.length k1, .slice p3 y1.length k3] (wr.drewN n) fun e w' => e = .returned (.int .i64 (cmpLabs x1 y1)) ∧ ∃ m, w' = (wr.drewN n).drewN m) := fun n =>
          have hb : Below w.heap.size w (wr.drewN n) := HB.out.trans ((below_drewR wr n).mono HB.out.size)
          ref_compareD _ _ x1 y1 _ (HAl.out _ hb).2.2.1 (HBl.out _ hb).2.2.1 (by have := HLs.out; omega) (by have := HLs.out; omega)
        have hdom := cmpLabs_ok.dom x1 y1
        have HXY : Hid (cmpLabs x1 y1 = 0 ↔ x1 = y1) := cmpLabs_ok.eq x1 y1
        generalize cmpLabs x1 y1 = cv at *
        have hno : cv ≠ 0 → a ≠ b := fun h e => by
          have := hne.out (fun h2 => h (HXY.out.2 h2.1))
          rw [decide_eq_false_iff_not] at this
          exact this e
        by_cases hcv : cv = 0
        · subst hcv
          have HXe : Hid (x1 = y1) := HXY.out.1 rfl
          by_cases hll : x2.length = y2.length
          · have HLl := Lib.hid hll
            clear HXY hno hym
            rw [← hll] at cB2 HBl
            clear hll
            go_wp2_with fail
            go_quiet ((go_at_call 39; exact Calls.quiet_of (HCm.out _)))
            have HB6 : Hid (Below w.heap.size w (wr.drewN nq)) := HB.out.trans ((below_drewR wr nq).mono HB.out.size)
            clear cA cB cA2 cB2 HB
            generalize wr.drewN nq = w6 at *
            go_wp2_with fail
            go_loopw [6] (fun kv wr2 => ∃ (k : Nat), k ≤ x2.length ∧ kv = .int .i64 (k : Int) ∧ Hid (x2.take k = y2.take k) ∧ Hid (Below w.heap.size w wr2)) (fun kv _ => x2.length - (intOf kv).toNat)
            case atStart => exact ⟨0, Nat.zero_le _, rfl, rfl, HB6.out⟩
            case round =>
              obtain ⟨k, hk, rfl, HTk, HBk⟩ := hrel
              have hkm : (k : Int) ≤ 100000 := by omega
              obtain ⟨cA, cA2, _, rA⟩ := HAl.out wr HBk.out
              obtain ⟨cB, cB2, _, rB⟩ := HBl.out wr HBk.out
              by_cases hkl : k < x2.length
              · have hkl' : (k : Int) < (x2.length : Int) := by omega
                obtain ⟨n, hn⟩ : ∃ n, x2[k]? = some n := ⟨_, List.getElem?_eq_getElem hkl⟩
                obtain ⟨m, hm⟩ : ∃ m, y2[k]? = some m := ⟨_, List.getElem?_eq_getElem (by rw [← HLl.out]; exact hkl)⟩
                obtain ⟨gc, oc, cc', e, _, _, hcell⟩ := rA.at (fun e => by have := congrArg List.length e; rw [i64s_length] at this; rw [this] at hkl; simp at hkl)
                simp only [Value.slice.injEq] at e
                obtain ⟨rfl, _, rfl⟩ := e
                have rB' : Rd wr 1 (.slice p4 x2.length k4) y2.length (i64s y2) := rB
                obtain ⟨gd, od, cd', e, _, _, hcell2⟩ := rB'.at (fun e => by have := congrArg List.length e; rw [i64s_length] at this; have h2 := HLl.out; rw [this] at h2; simp at h2; rw [h2] at hkl; simp at hkl)
                simp only [Value.slice.injEq] at e
                obtain ⟨rfl, hEl, rfl⟩ := e
                clear hEl
                have n0 : wr.cell? ⟨gc, oc + k, none⟩ = some (.int .i64 n) := hcell k _ (by rw [i64s, List.getElem?_map, hn]; rfl)
                have m0 : wr.cell? ⟨gd, od + k, none⟩ = some (.int .i64 m) := hcell2 k _ (by rw [i64s, List.getElem?_map, hm]; rfl)
                have HNm : Hid (n = m → x2.take (k + 1) = y2.take (k + 1)) := fun e => by rw [List.take_add_one, List.take_add_one, HTk.out, hn, hm, e]
                have HNo : Hid (n ≠ m → a ≠ b) := fun h e => by
                  have := hne.out (fun h2 => h (by have h3 := h2.2; rw [h3, hm] at hn; cases hn; rfl))
                  rw [decide_eq_false_iff_not] at this
                  exact this e
                clear hn hm hcell hcell2 rA rB rB'
                by_cases hnm : n = m
                · have HT3 := Lib.hid (HNm.out hnm)
                  subst hnm
                  clear HNm HNo
                  go_wp2_with fail
                  go_quiet (fail)
                  have HB7 : Hid (Below w.heap.size w (wr.drewN nq)) := HBk.out.trans ((below_drewR wr nq).mono HBk.out.size)
                  clear cA cB cA2 cB2 n0 m0
                  generalize wr.drewN nq = w7 at *
                  go_wp2_with fail
                  go_round
                  case rel => exact ⟨k + 1, by omega, by go_num, HT3.out, HB7.out⟩
                  case measure => simp [intOf]; omega
                · have HR := Lib.hid (HNo.out hnm)
                  have hnb : (n == m) = false := by rw [beq_eq_false_iff_ne]; exact hnm
                  clear HNm HNo
                  go_wp2_with fail
                  go_quiet (fail)
                  have HB7 : Hid (Below w.heap.size w (wr.drewN nq)) := HBk.out.trans ((below_drewR wr nq).mono HBk.out.size)
                  clear cA cB cA2 cB2 n0 m0
                  generalize wr.drewN nq = w7 at *
                  go_wp2_with fail
                  go_ret
                  exact ⟨by rw [decide_eq_false HR.out]; rfl, HB7.out⟩
              · have hkl' : ¬ (k : Int) < (x2.length : Int) := by omega
                have HT3 := Lib.hid (HT2.out HXe.out (by have := HTk.out; rwa [List.take_of_length_le (by omega), List.take_of_length_le (by have := HLl.out; omega)] at this))
                clear rA rB
                go_wp2_with fail
                go_round
                case rel => exact ⟨i + 1, by omega, by go_num, HT3.out, HBk.out⟩
                case measure => simp [intOf]; omega
          · have HR : Hid (a ≠ b) := fun e => by
              have := hne.out (fun h2 => hll (by rw [h2.2]))
              rw [decide_eq_false_iff_not] at this
              exact this e
            have hlb : ((x2.length : Int) == (y2.length : Int)) = false := by rw [beq_eq_false_iff_ne]; omega
            clear HXY hno hll
            go_wp2_with fail
            go_quiet ((go_at_call 39; exact Calls.quiet_of (HCm.out _)))
            have HB6 : Hid (Below w.heap.size w (wr.drewN nq)) := HB.out.trans ((below_drewR wr nq).mono HB.out.size)
            clear cA cB cA2 cB2
            generalize wr.drewN nq = w6 at *
            go_wp2_with fail
            go_ret
            exact ⟨by rw [decide_eq_false HR.out]; rfl, HB6.out⟩
        · have HR := Lib.hid (hno hcv)
          rcases hdom with rfl | rfl | rfl
          · clear hne HT2 HXY hno hcv
            go_wp2_with fail
            go_quiet ((go_at_call 39; exact Calls.quiet_of (HCm.out _)))
            have HB6 : Hid (Below w.heap.size w (wr.drewN nq)) := HB.out.trans ((below_drewR wr nq).mono HB.out.size)
            clear cA cB cA2 cB2
            generalize wr.drewN nq = w6 at *
            go_wp2_with fail
            go_ret
            exact ⟨by rw [decide_eq_false HR.out]; rfl, HB6.out⟩
          · exact absurd rfl hcv
          · clear hne HT2 HXY hno hcv
            go_wp2_with fail
            go_quiet ((go_at_call 39; exact Calls.quiet_of (HCm.out _)))
            have HB6 : Hid (Below w.heap.size w (wr.drewN nq)) := HB.out.trans ((below_drewR wr nq).mono HB.out.size)
            clear cA cB cA2 cB2
            generalize wr.drewN nq = w6 at *
            go_wp2_with fail
            go_ret
            exact ⟨by rw [decide_eq_false HR.out]; rfl, HB6.out⟩
      · have hlt' : ¬ (i : Int) < (a.length : Int) := by omega
        have HE : Hid (decide (a = b) = true) := decide_eq_true (by have := HT.out; rw [List.take_of_length_le (by omega), List.take_of_length_le (by rw [← HL.out]; omega)] at this; exact this)
        go_wp2_with fail
        go_ret
        exact ⟨by rw [HE.out]; rfl, HB.out⟩
  · have hlb : ((a.length : Int) == (b.length : Int)) = false := by rw [beq_eq_false_iff_ne]; omega
    have HR : Hid (decide (a = b) = false) := decide_eq_false fun e => hl (by rw [e])
    clear hl
    go_enter Try.func20, Try.ntmps20
    go_wp2_with fail
    go_ret
    exact ⟨by rw [HR.out]; rfl, Below.refl _ _⟩
end Go.Proofs.Ytmnagmbokajfpaa

end

section
/- Layer 13: the statements' own bound. -/
set_option linter.unusedVariables false
set_option maxRecDepth 20000
namespace Go.Proofs.Ytmnagmbokajfpaa
open Go Go.RowKit

/-- Strings that a machine can hold, numbers that an int can. -/
def SizedR (b : List Rec) : Prop := ∀ s ∈ b, (∀ x ∈ s.1, x.1.size ≤ 9223372036854775807 ∧ x.2.size ≤ 9223372036854775807) ∧ ∀ n ∈ s.2, -9223372036854775808 ≤ n ∧ n < 9223372036854775808
def chunksR (b : List Rec) : Nat := (b.map fun s => s.2.length).sum
theorem chunksR_cons (s : Rec) (b : List Rec) : chunksR (s :: b) = s.2.length + chunksR b := by simp [chunksR]
theorem chunksR_mem {b : List Rec} {s : Rec} (h : s ∈ b) : s.2.length ≤ chunksR b := by
  induction b with
  | nil => cases h
  | cons x b ih =>
    rw [chunksR_cons]
    rcases List.mem_cons.1 h with rfl | h
    · omega
    · have := ih h; omega
/-- Within the statements' bounds. -/
structure SmallL (b : List Rec) : Prop where
  len : b.length ≤ 300
  sam : chunksR b ≤ 3000
  lab : ∀ s ∈ b, s.1.length ≤ 200
theorem SmallL.chs {b : List Rec} (h : SmallL b) {s : Rec} (hs : s ∈ b) : s.2.length ≤ 3000 := Nat.le_trans (chunksR_mem hs) h.sam
theorem SmallL.small {b : List Rec} (h : SmallL b) : SmallR b := ⟨by have := h.len; omega, fun s hs => by have := h.lab s hs; omega, fun s hs => by have := h.chs hs; omega⟩

/-- All labels in a row; what Large counts. -/
def flatLR (b : List Rec) : List Lab := b.flatMap fun s => s.1
def cntR (b : List Rec) : Nat := (b.map fun s => 1 + min s.2.length 3000).sum
theorem flatLR_step {b : List Rec} {i : Nat} {s : Rec} (h : b[i]? = some s) : flatLR (b.take (i + 1)) = flatLR (b.take i) ++ s.1 := by
  rw [flatLR, List.take_add_one, h, List.flatMap_append]; simp [flatLR]
theorem cntR_step {b : List Rec} {i : Nat} {s : Rec} (h : b[i]? = some s) : cntR (b.take (i + 1)) = cntR (b.take i) + (1 + min s.2.length 3000) := by
  rw [cntR, List.take_add_one, h, List.map_append, List.sum_append]; simp [cntR]
theorem chunks_of_cnt {b : List Rec} (h : cntR b ≤ 3000) : chunksR b ≤ 3000 := by
  have key : ∀ b : List Rec, cntR b ≤ 3000 → chunksR b ≤ cntR b := by
    intro b
    induction b with
    | nil => intro _; simp [chunksR, cntR]
    | cons s b ih =>
      intro h
      have e : cntR (s :: b) = 1 + min s.2.length 3000 + cntR b := by simp [cntR]
      rw [e] at h ⊢
      have := ih (by omega)
      rw [chunksR_cons]
      omega
  exact Nat.le_trans (key b h) h
theorem flatLR_mem {b : List Rec} {s : Rec} {x : Lab} (hs : s ∈ b) (hx : x ∈ s.1) : x ∈ flatLR b := List.mem_flatMap.2 ⟨s, hs, hx⟩
set_option maxHeartbeats 2000000 in
theorem large13 (bv : Value) (b : List Rec) (w : World) (hb : RdR w bv b) (hz : SizedR b) :
    Calls Try.prog 10 #[bv] w fun e w' => (e = .returned (.int .i64 1) ∨ (e = .returned (.int .i64 0) ∧ SmallL b ∧ ∀ s ∈ b, ∀ x ∈ stringsL s.1, x.size ≤ 200000)) ∧ Below w.heap.size w w' := by
  have H := Lib.hid hb; have HZ := Lib.hid hz
  obtain ⟨p, c, hv⟩ := hb.shape
  subst hv
  have hmx0 := hb.le
  clear hb hz
  go_enter Try.func10, Try.ntmps10
  go_wp2_with fail
  go_loopw [3, 4, 9] (fun nv vv iv wr => ∃ (j N : Nat), j ≤ b.length ∧ N ≤ 3000 ∧ nv = .int .i64 (N : Int) ∧ iv = .int .i64 (j : Int) ∧ Hid ((j = 0 ∨ b.length ≤ 300) ∧ (∀ s ∈ b.take j, s.1.length ≤ 200) ∧ cntR (b.take j) = N ∧ (flatLR (b.take j)).length ≤ 200 * j) ∧ Hid (OwnL w wr (flatLR (b.take j)) vv)) (fun _ _ iv _ => b.length - (intOf iv).toNat)
  case atStart => exact ⟨0, 0, Nat.zero_le _, Nat.zero_le _, rfl, rfl, ⟨Or.inl rfl, (by intro s hs; simp at hs), rfl, Nat.zero_le _⟩, Own2.nil w⟩
  case round =>
    obtain ⟨j, N, hj, hN, rfl, rfl, HF, HO⟩ := hrel
    have hNi : (N : Int) ≤ 3000 := by omega
    obtain ⟨pv, cv, hvv⟩ := HO.out.shape
    subst hvv
    by_cases hlt : j < b.length
    · have hlt' : (j : Int) < (b.length : Int) := by omega
      obtain ⟨⟨ls, ss⟩, hx⟩ : ∃ s, b[j]? = some s := ⟨_, List.getElem?_eq_getElem hlt⟩
      obtain ⟨blk, off, h1, h2, e, ⟨p1, k1, e1⟩, ⟨p2, k2, e2⟩, hal⟩ := H.out.always hx
      subst e
      simp only at e1 e2
      subst e1
      subst e2
      obtain ⟨cl, cs, hsr⟩ := hal wr HO.out.bel
      have HSr : Hid (Rd wr 2 (.slice p1 ls.length k1) ls.length (labCells ls)) := hsr.1
      have HSt := Lib.hid (flatLR_step hx)
      have HCt := Lib.hid (cntR_step hx)
      have HX := Lib.hid hx
      have hlm : (ls.length : Int) ≤ 9223372036854775807 := by have := hsr.1.le; simp only at this; unfold maxLen at this; omega
      have hsm : (ss.length : Int) ≤ 9223372036854775807 := by have := hsr.2.le; simp only at this; unfold maxLen at this; omega
      clear hx hal hsr
      by_cases hz : (ss.length : Int) ≤ 3000
      · by_cases hS : N + (1 + ss.length) ≤ 3000
        · have hS' : ¬ (3000 : Int) < (N : Int) + (1 + (ss.length : Int)) := by omega
          by_cases h5 : b.length ≤ 300
          · have h5' : ¬ (300 : Int) < (b.length : Int) := by omega
            by_cases h6 : ls.length ≤ 200
            · have h6' : ¬ (200 : Int) < (ls.length : Int) := by omega
              have HF2 : Hid ((j + 1 = 0 ∨ b.length ≤ 300) ∧ (∀ s ∈ b.take (j + 1), s.1.length ≤ 200) ∧ cntR (b.take (j + 1)) = N + (1 + ss.length) ∧ (flatLR (b.take (j + 1))).length ≤ 200 * (j + 1)) := by
                refine ⟨Or.inr h5, fun s hs => ?_, ?_, ?_⟩
                · rw [List.take_add_one, HX.out] at hs
                  rcases List.mem_append.1 hs with e | e
                  · exact HF.out.2.1 s e
                  · simp at e; subst e; exact h6
                · rw [HCt.out, HF.out.2.2.1]; simp only; omega
                · rw [HSt.out, List.length_append]; have := HF.out.2.2.2; simp only; omega
              have HDn : Hid ((flatLR (b.take j)).length ≤ 60000) := by show _ ≤ _; have := HF.out.2.2.2; omega
              have H6 : Hid (ls.length ≤ 200) := h6
              have hcs : ((N + (1 + ss.length) : Nat) : Int) = (N : Int) + (1 + (ss.length : Int)) := by omega
              have HCs := Lib.hid hcs
              have HH : Hid (N + (1 + ss.length) ≤ 3000) := hS
              have hSm : (N : Int) + (1 + (ss.length : Int)) ≤ 3000 := by omega
              clear h5 hS hcs h6 HCt HX HF
              generalize flatLR (b.take j) = D at *
              obtain ⟨dl, hdl⟩ : ∃ dl, D.length = dl := ⟨_, rfl⟩
              have HDl := Lib.hid hdl
              rw [hdl] at HO HDn ⊢
              clear hdl
              have hbA : Below wr.heap.size wr (wr.alloc (.cells #[.slice p1 ls.length k1, .slice p2 ss.length k2] 49)) := (Mods.alloc (fun _ => False) wr _).below (Nat.le_refl _) (fun _ _ e => e)
              have HOa := Lib.hid (HO.out.below hbA)
              have HSa := Lib.hid (HSr.out.below hbA)
              have HOv : Hid ((wr.alloc (.cells #[.slice p1 ls.length k1, .slice p2 ss.length k2] 49)).ownsRow 0 54 2 (.slice pv dl cv) dl (labCells D)) := by
                have h := HOa.out.base0
                rw [HDl.out] at h
                exact h
              have HLb : Hid ((dl + ls.length) * 32 ≤ 140737488355328 ∧ dl + ls.length ≤ maxLen) := by show _ ∧ _; have := HDn.out; have := H6.out; unfold maxLen; omega
              have HSz : Hid ((wr.alloc (.cells #[.slice p1 ls.length k1, .slice p2 ss.length k2] 49)).heap.size = wr.heap.size + 1) := by show _ = _; simp
              clear hbA HO HSr
              go_wp2_with (at_builtin; refine wpList_extend elemLab _ _ _ _ _ _ _ HOv.out HSa.out (labCells_one ls) HLb.out rfl _ _ rfl rfl rfl ?_)
              intro v3 w3 m0 m1 f1
              rw [← HSz.out] at f1
              have HO3 : Hid (OwnL w w3 (flatLR (b.take (j + 1))) v3) := by
                show OwnL _ _ _ _
                rw [HSt.out]
                exact HOa.out.extended (by rw [HDl.out]; exact m0) m1 f1
              obtain ⟨p3, c3, hv3⟩ := (Rd.of_owns m0).shape
              subst hv3
              clear m0 m1 f1 HOa HOv HSa
              go_wp2_with fail
              go_round
              case rel => exact ⟨j + 1, N + (1 + ss.length), by omega, HH.out, by rw [HCs.out], by go_num, HF2.out, HO3.out⟩
              case measure => simp [intOf]; omega
            · have h6' : (200 : Int) < (ls.length : Int) := by omega
              have HB1 : Hid (Below w.heap.size w (wr.alloc (.cells #[.slice p1 ls.length k1, .slice p2 ss.length k2] 49))) := HO.out.bel.trans (((Mods.alloc (fun _ => False) wr _).below (Nat.le_refl _) (fun _ _ e => e)).mono HO.out.bel.size)
              have hSm : (N : Int) + (1 + (ss.length : Int)) ≤ 3000 := by omega
              clear h5 hS h6
              go_wp2_with fail
              go_ret
              exact ⟨Or.inl rfl, HB1.out⟩
          · have h5' : (300 : Int) < (b.length : Int) := by omega
            have HB1 : Hid (Below w.heap.size w (wr.alloc (.cells #[.slice p1 ls.length k1, .slice p2 ss.length k2] 49))) := HO.out.bel.trans (((Mods.alloc (fun _ => False) wr _).below (Nat.le_refl _) (fun _ _ e => e)).mono HO.out.bel.size)
            have hSm : (N : Int) + (1 + (ss.length : Int)) ≤ 3000 := by omega
            clear h5 hS
            go_wp2_with fail
            go_ret
            exact ⟨Or.inl rfl, HB1.out⟩
        · have hS' : (3000 : Int) < (N : Int) + (1 + (ss.length : Int)) := by omega
          have HB1 : Hid (Below w.heap.size w (wr.alloc (.cells #[.slice p1 ls.length k1, .slice p2 ss.length k2] 49))) := HO.out.bel.trans (((Mods.alloc (fun _ => False) wr _).below (Nat.le_refl _) (fun _ _ e => e)).mono HO.out.bel.size)
          clear hS
          go_wp2_with fail
          go_ret
          exact ⟨Or.inl rfl, HB1.out⟩
      · have hz' : (3000 : Int) ≤ (ss.length : Int) := by omega
        have hS' : (3000 : Int) < (N : Int) + 3001 := by omega
        have HB1 : Hid (Below w.heap.size w (wr.alloc (.cells #[.slice p1 ls.length k1, .slice p2 ss.length k2] 49))) := HO.out.bel.trans (((Mods.alloc (fun _ => False) wr _).below (Nat.le_refl _) (fun _ _ e => e)).mono HO.out.bel.size)
        go_wp2_with fail
        go_ret
        exact ⟨Or.inl rfl, HB1.out⟩
    · have hlt' : ¬ (j : Int) < (b.length : Int) := by omega
      have HD : Hid (SmallL b) := by
        obtain ⟨f1, f2, f3, _⟩ := HF.out
        rw [List.take_of_length_le (by omega)] at f2 f3
        exact ⟨by rcases f1 with e | e <;> omega, chunks_of_cnt (by omega), f2⟩
      have hE : b.take j = b := List.take_of_length_le (by omega)
      rw [hE] at HO ⊢
      have HLz : Hid (LabSized (flatLR b)) := fun x hx => by
        obtain ⟨s, hs, hxs⟩ := List.mem_flatMap.1 hx
        exact (HZ.out s hs).1 x hxs
      have HLg := Lib.hid (large11 _ (flatLR b) wr HO.out.rd HLz.out)
      have HMem : Hid (∀ s ∈ b, ∀ x ∈ stringsL s.1, x ∈ stringsL (flatLR b)) := fun s hs x hx => by
        obtain ⟨y, hy, hxy⟩ := List.mem_flatMap.1 hx
        exact List.mem_flatMap.2 ⟨y, flatLR_mem hs hy, hxy⟩
      have HB := Lib.hid HO.out.bel
      clear HF HO hE
      generalize flatLR b = D at *
      go_wp2_with fail
      refine HLg.out.mono ?_
      rintro e w2 ⟨he, hB⟩
      have HB2 := Lib.hid (HB.out.trans (hB.mono HB.out.size))
      clear hB
      rcases he with rfl | ⟨rfl, _, h6⟩
      · go_wp2_with fail
        go_ret
        exact ⟨Or.inl rfl, HB2.out⟩
      · have H6 : Hid (∀ s ∈ b, ∀ x ∈ stringsL s.1, x.size ≤ 200000) := fun s hs x hx => h6 x (HMem.out s hs x hx)
        clear h6
        go_wp2_with fail
        go_ret
        exact ⟨Or.inr ⟨rfl, HD.out, H6.out⟩, HB2.out⟩
end Go.Proofs.Ytmnagmbokajfpaa

end

section
/- Layer 10: tables of strings, their encoding and its reading, as functions on lists. No program in sight. -/
set_option linter.unusedVariables false
namespace Go.Proofs.Ytmnagmbokajfpaa
open Go Go.RowKit

instance {α : Type} (lt : α → α → Bool) (l : List α) : Decidable (AscB lt l) := inferInstanceAs (Decidable (List.Pairwise _ _))
def tabS (l : List ByteArray) : List ByteArray := tabB ltS l
def Fits (t : List ByteArray) : Prop := ∀ s ∈ t, s.size ≤ 65535
instance (t : List ByteArray) : Decidable (Fits t) := inferInstanceAs (Decidable (∀ s ∈ t, _))
def encSy (t : List ByteArray) : List Nat := groups t.length ++ t.flatMap fun s => bytesOf (numsOf s)
/-- What Encode gives. -/
def encSyR (t : List ByteArray) : Nat × List Nat := if ¬ Fits t then (7, []) else if ¬ AscB ltS t then (16, []) else (0, encSy t)
def lastLt (acc : List ByteArray) (x : ByteArray) : Bool := match acc.getLast? with
  | none => true
  | some y => ltS y x
def decSyF (b : List Nat) : Nat → Nat → List ByteArray → Nat × List ByteArray
  | 0, a, acc => if a < b.length then (4, []) else (0, acc)
  | k + 1, a, acc => match outString b a 65535 with
    | .bad e => (e, [])
    | .ok s to => if lastLt acc (strOf s) then decSyF b k to (acc ++ [strOf s]) else (16, [])
/-- What Decode gives. -/
def decSy (b : List Nat) : Nat × List ByteArray := match readAt b 0 with
  | (n, a, 0) => if b.length - a.toNat < n then (3, []) else decSyF b n a.toNat []
  | (_, _, e + 1) => (e + 1, [])

theorem outString_inv {B : List Nat} (hB : ∀ c ∈ B, c < 256) {a : Nat} (ha : a ≤ B.length) {most : Int} {s : List Nat} {to : Nat} (h : outString B a most = .ok s to) :
    B.drop a = bytesOf s ++ B.drop to ∧ (s.length : Int) ≤ most ∧ to ≤ B.length ∧ (∀ c ∈ s, c < 256) ∧ a < to := by
  rcases outString_cases hB ha most with ⟨e, _, _, hr⟩ | ⟨x, t, hr, hat, htl, hx, ho⟩
  · rw [hr] at h; cases h
  · rw [ho] at h
    split at h
    · cases h
    · next h1 =>
      split at h
      · cases h
      · next h2 =>
        cases h
        rcases readAt_cases hB ha with ⟨e, he, hr'⟩ | ⟨y, n, hr', hn, hin, hg, hy⟩
        · rw [hr] at hr'; simp only [Prod.mk.injEq] at hr'; omega
        · rw [hr] at hr'
          simp only [Prod.mk.injEq] at hr'
          obtain ⟨rfl, e2, _⟩ := hr'
          obtain rfl : t = a + n := by omega
          have hlen : ((B.drop (a + n)).take x).length = x := by rw [List.length_take, List.length_drop]; omega
          refine ⟨?_, by rw [hlen]; omega, by omega, fun c hc => hB c (List.mem_of_mem_drop (List.mem_of_mem_take hc)), by omega⟩
          rw [bytesOf, hlen, List.append_assoc, ← hg]
          have e3 : List.take x (B.drop (a + n)) ++ B.drop (a + n + x) = B.drop (a + n) := by
            rw [show B.drop (a + n + x) = (B.drop (a + n)).drop x from by rw [List.drop_drop]]; exact List.take_append_drop _ _
          have e4 : (B.take (a + n)).drop a ++ B.drop (a + n) = B.drop a := by
            have : B.drop a = (B.take (a + n) ++ B.drop (a + n)).drop a := by rw [List.take_append_drop]
            rw [this, List.drop_append_of_le_length (by rw [List.length_take]; omega)]
          rw [e3, e4]
theorem strOf_size' (l : List Nat) : (strOf l).size = l.length := by simp [strOf, strOfNums, ByteArray.size]

theorem bytesOf_pos (s : List Nat) : 1 ≤ (bytesOf s).length := by rw [bytesOf_length]; have := groups_pos s.length; omega
theorem flat_pos (t : List ByteArray) : t.length ≤ (t.flatMap fun s => bytesOf (numsOf s)).length := by
  induction t with
  | nil => exact Nat.le_refl _
  | cons s t ih => rw [List.flatMap_cons, List.length_append, List.length_cons]; have := bytesOf_pos (numsOf s); omega
theorem lastLt_of {acc : List ByteArray} {x : ByteArray} {t : List ByteArray} (h : AscB ltS (acc ++ x :: t)) : lastLt acc x = true := by
  unfold lastLt
  split
  · rfl
  · next y hy => exact (List.pairwise_append.1 h).2.2 y (List.mem_of_getLast? hy) x (by simp)
theorem ascB_push {acc : List ByteArray} {x : ByteArray} (h : AscB ltS acc) (hl : lastLt acc x = true) : AscB ltS (acc ++ [x]) := by
  refine (ascB_snoc ltS_ok.toLtPre).2 ⟨h, fun y hy => ?_⟩
  unfold lastLt at hl
  rw [hy] at hl
  exact hl

theorem decSyF_back (t : List ByteArray) : ∀ (pre : List Nat) (acc : List ByteArray), AscB ltS (acc ++ t) → Fits t →
    decSyF (pre ++ t.flatMap fun s => bytesOf (numsOf s)) t.length pre.length acc = (0, acc ++ t) := by
  induction t with
  | nil => intro pre acc _ _; simp [decSyF]
  | cons x t ih =>
    intro pre acc ha hf
    have hx : x.size ≤ 65535 := hf x (by simp)
    rw [List.length_cons, decSyF, List.flatMap_cons, ← List.append_assoc]
    rw [outString_back pre (numsOf x) _ (by rw [numsOf_length]; omega) 65535 (by rw [numsOf_length]; omega)]
    simp only [strOf_numsOf]
    rw [if_pos (lastLt_of ha), ← List.length_append]
    have := ih (pre ++ bytesOf (numsOf x)) (acc ++ [x]) (by simpa using ha) (fun s hs => hf s (by simp [hs]))
    rw [this]; simp
theorem decSy_back (t : List ByteArray) (ha : AscB ltS t) (hf : Fits t) (hn : t.length < 18446744073709551616) : decSy (encSy t) = (0, t) := by
  have hr : readAt (encSy t) 0 = (t.length, (((groups t.length).length : Nat) : Int), 0) := by
    have := readAt_groups [] (t.flatMap fun s => bytesOf (numsOf s)) hn
    simpa [encSy] using this
  rw [decSy, hr]
  simp only [Int.toNat_natCast]
  rw [if_neg, encSy, decSyF_back t (groups t.length) [] (by simpa using ha) hf]
  · simp
  · rw [encSy, List.length_append]; have := flat_pos t; omega

theorem decSyF_err (b : List Nat) : ∀ (k a : Nat) (acc : List ByteArray), (decSyF b k a acc).1 ≠ 0 → (decSyF b k a acc).2 = [] := by
  intro k
  induction k with
  | zero => intro a acc h; rw [decSyF] at h ⊢; split at h <;> simp_all
  | succ k ih =>
    intro a acc h
    rw [decSyF] at h ⊢
    split
    · rfl
    · next s to ho =>
      simp only [ho] at h
      split
      · next hl => rw [if_pos hl] at h; exact ih _ _ h
      · rfl
theorem decSy_err (b : List Nat) (h : (decSy b).1 ≠ 0) : (decSy b).2 = [] := by
  rw [decSy] at h ⊢
  split
  · next n a hr =>
    simp only [hr] at h
    split
    · rfl
    · next hl => rw [if_neg hl] at h; exact decSyF_err _ _ _ _ h
  · rfl
theorem decSyF_inv {b : List Nat} (hb : ∀ c ∈ b, c < 256) : ∀ (k a : Nat) (acc u : List ByteArray), a ≤ b.length → decSyF b k a acc = (0, u) →
    ∃ t, u = acc ++ t ∧ b.drop a = (t.flatMap fun s => bytesOf (numsOf s)) ∧ t.length = k ∧ Fits t ∧ (AscB ltS acc → AscB ltS u) := by
  intro k
  induction k with
  | zero =>
    intro a acc u ha h
    rw [decSyF] at h
    split at h
    · cases h
    · next hn =>
      cases h
      exact ⟨[], by simp, by rw [List.drop_eq_nil_of_le (by omega)]; rfl, rfl, (fun _ h => by cases h), fun h => h⟩
  | succ k ih =>
    intro a acc u ha h
    rw [decSyF] at h
    split at h
    · next e ho =>
      obtain ⟨rfl, _⟩ := Prod.mk.inj h
      rcases outString_cases hb ha 65535 with ⟨e, he, _, hr⟩ | ⟨x, t, _, _, _, _, hr⟩
      · rw [hr] at ho; cases ho; exact absurd rfl he
      · rw [hr] at ho
        split at ho
        · cases ho
        · split at ho <;> cases ho
    · next s to ho =>
      obtain ⟨h1, h2, h3, h4, _⟩ := outString_inv hb ha ho
      split at h
      · next hl =>
        obtain ⟨t, e1, e2, e3, e4, e5⟩ := ih to _ u h3 h
        have hn : numsOf (strOf s) = s := numsOf_strOf h4
        refine ⟨strOf s :: t, by rw [e1]; simp, ?_, by rw [List.length_cons, e3], ?_, fun hacc => e5 (ascB_push hacc hl)⟩
        · rw [h1, e2, List.flatMap_cons, hn]
        · intro x hx
          rcases List.mem_cons.1 hx with rfl | hx
          · rw [strOf_size']; omega
          · exact e4 x hx
      · cases h
theorem decSy_inv {b : List Nat} (hb : ∀ c ∈ b, c < 256) {u : List ByteArray} (h : decSy b = (0, u)) : b = encSy u ∧ AscB ltS u ∧ Fits u := by
  rw [decSy] at h
  rcases readAt_cases hb (Nat.zero_le _) with ⟨e, he, hr⟩ | ⟨n, m, hr, hm, hin, hg, hn⟩
  · have hr0 : readAt b 0 = (0, 0, e) := hr
    obtain ⟨k, rfl⟩ : ∃ k, e = k + 1 := ⟨e - 1, by omega⟩
    rw [hr0] at h
    simp at h
  · have hr0 : readAt b 0 = (n, ((0 + m : Nat) : Int), 0) := hr
    rw [hr0] at h
    simp only [Int.toNat_natCast, Nat.zero_add] at h hin hg
    split at h
    · cases h
    · obtain ⟨t, e1, e2, e3, e4, e5⟩ := decSyF_inv hb n m [] u hin h
      rw [List.nil_append] at e1
      subst e1
      refine ⟨?_, e5 List.Pairwise.nil, e4⟩
      rw [encSy, e3, ← e2, ← hg]
      simp
theorem encSyR_ok {t : List ByteArray} (h : (encSyR t).1 = 0) : encSyR t = (0, encSy t) ∧ Fits t ∧ AscB ltS t := by
  unfold encSyR at h ⊢
  split at h
  · cases h
  · next h1 =>
    split at h
    · cases h
    · next h2 =>
      rw [if_neg h1, if_neg h2]
      exact ⟨rfl, Decidable.not_not.1 h1, Decidable.not_not.1 h2⟩
theorem encSyR_of {t : List ByteArray} (h1 : Fits t) (h2 : AscB ltS t) : encSyR t = (0, encSy t) := by
  unfold encSyR
  rw [if_neg (not_not_intro h1), if_neg (not_not_intro h2)]
theorem encSyR_err {t : List ByteArray} (h : (encSyR t).1 ≠ 0) : (encSyR t).2 = [] := by
  unfold encSyR at h ⊢
  split
  · rfl
  · next h1 =>
    split
    · rfl
    · next h2 => rw [if_neg h1, if_neg h2] at h; exact absurd rfl h
theorem encSy_lt (t : List ByteArray) : ∀ c ∈ encSy t, c < 256 := fun c hc => by
  rcases List.mem_append.1 hc with h | h
  · exact groups_lt _ c h
  · obtain ⟨s, _, h⟩ := List.mem_flatMap.1 h
    exact bytesOf_lt (numsOf_lt s) c h
end Go.Proofs.Ytmnagmbokajfpaa

end

section
/- A table made of strings: its order, its length, its strings. -/
set_option linter.unusedVariables false
set_option maxRecDepth 20000
namespace Go.Proofs.Ytmnagmbokajfpaa
open Go Go.RowKit

theorem tabS_asc (l : List ByteArray) : AscB ltS (tabS l) := tabB_asc ltS_ok l

theorem tabS_mem (l : List ByteArray) (s : ByteArray) : s ∈ tabS l ↔ s ∈ l := tabB_mem ltS_ok l s
theorem tabS_fits {l : List ByteArray} (h : ∀ s ∈ l, s.size ≤ 65535) : Fits (tabS l) := fun s hs => h s ((tabS_mem l s).1 hs)

theorem tabS_len (l : List ByteArray) : (tabS l).length ≤ l.length := tabB_len l
end Go.Proofs.Ytmnagmbokajfpaa

end

section
/- Layer 13: bounds of the answers. No program in sight. -/
set_option linter.unusedVariables false
set_option maxRecDepth 20000
namespace Go.Proofs.Ytmnagmbokajfpaa
open Go Go.RowKit

theorem flat_bound {α β : Type} (f : α → List β) (k : Nat) (l : List α) (h : ∀ x ∈ l, (f x).length ≤ k) : (l.flatMap f).length ≤ l.length * k := by
  induction l with
  | nil => simp
  | cons x l ih =>
    rw [List.flatMap_cons, List.length_append, List.length_cons, Nat.add_mul, Nat.one_mul]
    have := h x (by simp)
    have := ih (fun y hy => h y (by simp [hy]))
    omega
theorem idxT_lt (t : List ByteArray) (s : ByteArray) : idxT t s ≤ t.length := by
  rw [idxT]
  by_cases h : s ∈ t
  · obtain ⟨j, h1, h2⟩ := findS_in h
    have := (List.getElem?_eq_some_iff.1 h2).1
    rw [h1]; simp; omega
  · rw [findS_out h]; simp
theorem encRc_len {t : List ByteArray} {l : List Rec} (ht : t.length ≤ 1000000) (hl : SmallL l) (hz : SizedR l) : (encRc t l).length ≤ 100000000 := by
  have h0 := groups_ten (x := l.length) (by have := hl.len; omega)
  have h1 : ∀ r ∈ l, (recBytes t r).length ≤ 34020 := by
    intro r hr
    have a1 := hl.lab r hr
    have a2 := hl.chs hr
    have b1 := groups_ten (x := r.1.length) (by omega)
    have b2 := groups_ten (x := r.2.length) (by omega)
    have c1 := flat_bound (labBytes t) 20 r.1 (fun x _ => by
      rw [labBytes, List.length_append]
      have := groups_ten (x := idxT t x.1) (by have := idxT_lt t x.1; omega)
      have := groups_ten (x := idxT t x.2) (by have := idxT_lt t x.2; omega)
      omega)
    have c2 := flat_bound (fun n : Int => groups n.toNat) 10 r.2 (fun n hn => groups_ten (by have := (hz r hr).2 n hn; omega))
    rw [recBytes, labsBytes, lensBytes, List.length_append, List.length_append, List.length_append]
    omega
  have h2 := flat_bound (recBytes t) 34020 l h1
  have h3 := hl.len
  rw [encRc, List.length_append]
  have : l.length * 34020 ≤ 300 * 34020 := Nat.mul_le_mul_right _ h3
  omega
theorem lens_of_small {l : List Rec} (h : SmallR l) : recLens l := ⟨by have := h.len; omega, fun r hr => ⟨by have := h.lab r hr; omega, by have := h.chs r hr; omega⟩⟩
theorem flat_mem_le {α β : Type} (f : α → List β) (l : List α) {x : α} (h : x ∈ l) : (f x).length ≤ (l.flatMap f).length := by
  induction l with
  | nil => cases h
  | cons y l ih =>
    rw [List.flatMap_cons, List.length_append]
    rcases List.mem_cons.1 h with rfl | h
    · omega
    · have := ih h; omega
/-- Records that were read of few bytes are few. -/
theorem small_of_enc {t : List ByteArray} (ht : AscB ltS t) (hn : t.length ≤ 1000000) {l : List Rec} (h : okRecs t l) (hb : (encRc t l).length ≤ 90000) : SmallR l := by
  have hr := reads_rec (asc_nodup ht) (by omega)
  have h1 := flat_le hr l h.1
  rw [encRc, List.length_append] at hb
  refine ⟨by omega, fun r hm => ?_, fun r hm => ?_⟩
  · have h2 := flat_mem_le (recBytes t) l hm
    have h3 := flat_le (reads_lab (asc_nodup ht) (by omega)) r.1 (h.1 r hm).1.1
    rw [recBytes, labsBytes, List.length_append, List.length_append] at h2
    omega
  · have h2 := flat_mem_le (recBytes t) l hm
    have h3 := flat_le reads_len r.2 (h.1 r hm).2.1
    rw [recBytes, lensBytes, List.length_append, List.length_append] at h2
    omega
theorem sized_of_ok {t : List ByteArray} (hf : Fits t) {l : List Rec} (h : okRecs t l) : SizedR l := fun r hr =>
  ⟨fun x hx => by have h1 := (h.1 r hr).1.1 x hx; have := hf _ h1.1; have := hf _ h1.2; omega, fun n hn => by have h1 := (h.1 r hr).2.1 n hn; exact ⟨by have := h1.1; omega, by have := h1.2; omega⟩⟩
/-- What Decode gives, with all that is needed of it. -/
theorem decRc_all {t : List ByteArray} (ht : AscB ltS t) (hn : t.length ≤ 1000000) (hf : Fits t) {B : List Nat} (hB : ∀ c ∈ B, c < 256) (hb : B.length ≤ 90000) :
    SmallR (decRc t B).2 ∧ SizedR (decRc t B).2 ∧ ((decRc t B).1 = 0 → encRcR t (decRc t B).2 = (0, B) ∧ encRc t (decRc t B).2 = B) ∧ ((decRc t B).1 ≠ 0 → (decRc t B).2 = []) := by
  by_cases h : (decRc t B).1 = 0
  · have h1 := decRc_inv ht (by omega) hB h
    have h2 := decRc_ok ht (by omega) hB h
    have h3 : encRc t (decRc t B).2 = B := by rw [encRcR, if_pos (okRecs_err h2)] at h1; exact (Prod.mk.inj h1).2
    exact ⟨small_of_enc ht hn h2 (by rw [h3]; exact hb), sized_of_ok hf h2, fun _ => ⟨h1, h3⟩, fun h' => absurd h h'⟩
  · have h1 := decRc_err h
    rw [h1]
    exact ⟨⟨by simp, fun r hr => (by cases hr), fun r hr => (by cases hr)⟩, fun r hr => (by cases hr), fun h' => absurd h' h, fun _ => rfl⟩
theorem encRcR_lt {t : List ByteArray} (ht : AscB ltS t) (hn : t.length ≤ 1000000) {l : List Rec} (hl : SmallR l) : ∀ c ∈ (encRcR t l).2, c < 256 := by
  unfold encRcR
  split
  · next h => exact encRc_lt ht (by omega) h (lens_of_small hl)
  · intro c hc; cases hc
end Go.Proofs.Ytmnagmbokajfpaa

end

section
/- Slices of bytes: what a call makes; bytes.Equal. -/
namespace Go.Proofs.Ytmnagmbokajfpaa
open Go Go.RowKit

theorem Try.infoU8 : (Try.prog.info? 5).map (fun i => (i.zero, i.size, i.bytes)) = some (some (.int .u8 0), 1, 1) := by kernel_rfl

theorem Try.elemU8 : Elem Try.prog 30 5 1 1 := Elem.mk' Try.underlying30 Try.infoU8 rfl (by decide)

/-- A literal slice of bytes, built in a block of its own. -/
theorem lit_rd (w : World) (cs : Array Value) (l : List Nat) (h : cs.toList = u8s l) (hn : l.length ≤ maxLen) : Rd (w.alloc (.cells cs 5)) 1 (.slice (some ⟨w.heap.size, 0, none⟩) l.length l.length) l.length (u8s l) := by
  have hs : cs.size = l.length * 1 := by rw [← Array.length_toList, h, u8s_length, Nat.mul_one]
  have := Rd.of_owns (World.ownsRow_lit (base := 0) (e := 5) w cs l.length (Nat.zero_le _) (by simpa using hn) hs)
  rwa [h] at this

/-- '[]byte("..")' of a constant: its block bears a mark. -/
theorem lit_rd_mark (w : World) (cs : Array Value) (fr : Nat × Nat) (l : List Nat) (n : Nat) (h : cs.toList = u8s l) (hl : l.length = n) (hn : n ≤ maxLen) : Rd (w.alloc (.cells cs 5 fr)) 1 (.slice (some ⟨w.heap.size, 0, none⟩) n n) l.length (u8s l) := by
  subst hl
  refine ⟨_, _, rfl, by simp [u8s_length], Nat.le_refl _, hn, (fun e => by cases e), fun ad e j u hu => ?_⟩
  cases e
  have e1 : (⟨w.heap.size, 0, none⟩ : Addr).add j = ⟨w.heap.size, j, none⟩ := by unfold Addr.add; split <;> simp_all
  rw [e1, World.cell?_alloc_mark, ← Array.getElem?_toList, h]
  exact hu

/-- bytes.Equal of two slices of bytes. -/
theorem equal_any (a b : Value) (n m : Nat) (l k : List Nat) (w : World) (ha : Rd w 1 a n (u8s l)) (hb : Rd w 1 b m (u8s k)) (hl : ∀ x ∈ l, x < 256) (hk : ∀ x ∈ k, x < 256) :
    Calls Try.prog 17 #[a, b] w fun e w' => e = .returned (.bool (decide (l = k))) ∧ w = w' := by
  have e1 := ha.conv (P := Try.prog) 30 5 9 Try.underlying30 Try.underlying5 Try.underlying9
  have e2 := hb.conv (P := Try.prog) 30 5 9 Try.underlying30 Try.underlying5 Try.underlying9
  have e3 := strOf_inj hl hk
  have E3 := Lib.hid e3
  clear ha hb hl hk e3
  generalize strOf l = sl at *
  generalize strOf k = sk at *
  go_enter Try.func17, Try.ntmps17
  go_wp2
  go_ret
  exact ⟨congrArg (fun b => Ending.returned (.bool b)) E3.out, rfl⟩

theorem calls_flip {P : Program} {f : FuncId} {args : Array Value} {w : World} {r : Ending} (h : Calls P f args w fun e w' => e = r ∧ w = w') : Calls P f args w fun e w' => e = r ∧ w' = w := h.mono fun _ _ h => ⟨h.1, h.2.symm⟩
end Go.Proofs.Ytmnagmbokajfpaa

end

section
/- Layer 2: the reference's functions. -/
set_option linter.unusedVariables false
namespace Go.Proofs.Ytmnagmbokajfpaa
open Go Go.RowKit

set_option maxHeartbeats 400000 in
theorem ref_encode (x : Nat) (hx : x < 18446744073709551616) (w : World) :
    Calls Try.prog 45 #[.int .u64 (x : Int)] w fun e w' => ∃ r, e = .returned r ∧ Made w w' 5 1 r (groups x).length (u8s (groups x)) := by
  induction x using Nat.strongRecOn generalizing w with
  | _ x ih =>
    by_cases h : x < 128
    · have hlt : (x : Int) < 128 := by omega
      rw [groups_small h]
      clear ih
      go_enter Try.func45, Try.ntmps45
      go_wp2
      go_ret
      exact ⟨_, rfl, World.ownsRow_lit (base := w.heap.size) w #[.int .u8 (x : Int)] 1 (Nat.le_refl _) (by simp [maxLen]) (by simp), (Below.refl _ _).alloc (Nat.le_refl _) _⟩
    · have hlt : ¬ (x : Int) < 128 := by omega
      have HI := Lib.hid (ih (x / 128) (by omega) (by omega))
      have hlen := groups_len 8 (x / 128) (by omega)
      have hd : ((x / 128 : Nat) : Int) = (x : Int) / 128 := by omega
      have HD := Lib.hid hd
      clear ih hd
      go_enter Try.func45, Try.ntmps45
      go_wp2_with fail
      rw [← HD.out]
      refine (HI.out _).mono ?_
      rintro e w' ⟨r, rfl, hM⟩
      obtain ⟨rp, rc, hr⟩ := (Rd.of_owns hM.1).shape
      subst hr
      have HR := Lib.hid (Rd.of_owns hM.1)
      have hB : Below w.heap.size w w' := ((Below.refl _ w).alloc (Nat.le_refl _) _).trans (hM.2.mono (by simp))
      have HB := Lib.hid hB
      have HO : Hid (w'.ownsRow 0 5 1 (.slice (some ⟨w.heap.size, 0, none⟩) 1 1) 1 [.int .u8 ((x : Int) % 128 + 128)]) :=
        (Mods.of_below hM.2 (fun _ => False)).owns (World.ownsRow_lit (base := 0) w #[.int .u8 ((x : Int) % 128 + 128)] 1 (Nat.zero_le _) (by simp [maxLen]) (by simp)) (fun _ _ e => e)
      have HL : Hid ((1 + (groups (x / 128)).length) * 1 ≤ 140737488355328 ∧ 1 + (groups (x / 128)).length ≤ maxLen) := by show _ ∧ _; unfold maxLen; omega
      clear hM hB
      go_wp2_with (at_builtin; refine wpList_extend Try.elemU8 _ _ _ _ _ _ _ HO.out HR.out (u8s_oneCell _) HL.out rfl _ _ rfl rfl rfl ?_)
      intro v' w2 hown hmods hfr
      have HM : Hid (Made w w2 5 1 v' (groups x).length (u8s (groups x))) := by
        refine ⟨?_, HB.out.trans (hmods.below HB.out.size (fun k hk e => by simp [Value.ownBlock] at e; omega))⟩
        have h2 := owns_rebase hown (base' := w.heap.size) (fun k hk => by
          rcases hfr k hk with e | e
          · simp [Value.ownBlock] at e; omega
          · have := HB.out.size; omega)
        rw [groups_big h, List.length_cons, Nat.add_comm]
        simpa [u8s] using h2
      clear hown hmods hfr
      go_wp2
      go_ret
      exact ⟨_, rfl, HM.out⟩

set_option maxHeartbeats 400000 in
theorem ref_get_arg (v : Value) (l : List Nat) (o : Int) (w : World) (h : Rd w 1 v l.length (u8s l)) (ho : o < 0 ∨ (l.length : Int) < o) :
    Calls Try.prog 56 #[v, .int .i64 o] w fun e w' => e = .returned (.tuple #[.int .u64 0, .int .i64 0, .int .i64 2]) ∧ w = w' := by
  obtain ⟨p, c, hv⟩ := h.shape
  subst hv
  clear h
  by_cases hneg : o < 0
  · clear ho
    go_enter Try.func56, Try.ntmps56
    go_wp2_with fail
    go_ret3
    exact ⟨rfl, rfl⟩
  · have ho' : (l.length : Int) < o := by omega
    clear ho
    go_enter Try.func56, Try.ntmps56
    go_wp2_with fail
    go_ret3
    exact ⟨rfl, rfl⟩

set_option maxHeartbeats 400000 in
theorem ref_get_in (v : Value) (l : List Nat) (o : Nat) (w : World) (h : Rd w 1 v l.length (u8s l)) (ho : o ≤ l.length) (hl : ∀ c ∈ l, c < 256) :
    Calls Try.prog 56 #[v, .int .i64 (o : Int)] w fun e w' => e = .returned (.tuple #[.int .u64 ((readAt l o).1 : Int), .int .i64 (readAt l o).2.1, .int .i64 ((readAt l o).2.2 : Int)]) ∧ w = w' := by
  have hmax : (l.length : Int) ≤ 9223372036854775807 := by have := h.le; unfold maxLen at this; omega
  obtain ⟨p, c, hv⟩ := h.shape
  subst hv
  have hle : ¬ (l.length : Int) < (o : Int) := by omega
  have H2 := Lib.hid h; clear h
  have HM := Lib.hid hl; clear hl
  have HR : Hid (∀ a n e, readFrom (l.drop o) 0 0 = (a, n, e) → readAt l o = (a, (if e = 0 then (o : Int) + n else 0), e)) := fun a n e h => readAt_in ho h
  go_enter Try.func56, Try.ntmps56
  go_wp2_with fail
  go_loop [7, 8, 9] (fun x n i => ∃ (k y U : Nat), i = .int .i64 (k : Int) ∧ x = .int .u64 (y : Int) ∧ n = .int .u64 (U : Int) ∧ o + k ≤ l.length ∧ k ≤ 9 ∧ y < U ∧ Hid (U = 2 ^ (7 * k)) ∧ U ≤ 9223372036854775808 ∧ Hid (readFrom (l.drop o) 0 0 = readFrom (l.drop (o + k)) k y)) (fun _ _ i => l.length - o - (intOf i).toNat)
  case atStart => exact ⟨0, 0, 1, rfl, rfl, rfl, by omega, by omega, by omega, rfl, by omega, rfl⟩
  case round =>
    obtain ⟨k, y, U, rfl, rfl, rfl, hk, hk9, hy, hU, hU2, hrf⟩ := hrel
    have hok : (o : Int) + (k : Int) ≤ (l.length : Int) := by omega
    by_cases hlt : o + k < l.length
    · have hlt' : ¬ (l.length : Int) ≤ (o : Int) + (k : Int) := by omega
      obtain ⟨b, off, c', e, _, _, hc⟩ := H2.out.at (fun e => by have := congrArg List.length e; rw [u8s_length] at this; simp at this; subst this; simp at hlt)
      simp only [Value.slice.injEq] at e
      obtain ⟨rfl, _, rfl⟩ := e
      obtain ⟨u, hu⟩ : ∃ u, l[o + k] = u := ⟨_, rfl⟩
      have hcell : w.cell? ⟨b, off + (o + k), none⟩ = some (.int .u8 (u : Int)) := by rw [← hu]; exact hc (o + k) _ (u8s_get _ _ hlt)
      have hu256 : u < 256 := hu ▸ HM.out _ (List.getElem_mem hlt)
      have hdrop : l.drop (o + k) = u :: l.drop (o + (k + 1)) := by rw [← hu]; exact List.drop_eq_getElem_cons hlt
      have HF : Hid (readFrom (l.drop o) 0 0 = readFrom (u :: l.drop (o + (k + 1))) k y) := by show _ = _; rw [← hdrop]; exact hrf.out
      clear hc hdrop hrf hu
      by_cases h9 : k = 9 ∧ 1 < u
      · obtain ⟨rfl, h1⟩ := h9
        have h1' : (1 : Int) < (u : Int) := by omega
        have HA := Lib.hid (HR.out 0 0 6 (by rw [HF.out, readFrom, if_pos ⟨rfl, h1⟩]))
        go_wp2
        go_ret3
        exact ⟨by rw [HA.out]; rfl, rfl⟩
      · by_cases hk9' : k = 9
        · subst hk9'
          have h1 : ¬ (1 : Int) < (u : Int) := by omega
          have hUe : U = 9223372036854775808 := hU.out
          subst hUe
          by_cases hu0 : u = 0
          · subst hu0
            have HA := Lib.hid (HR.out 0 0 5 (by rw [HF.out, readFrom, if_neg (by omega), if_neg (by omega), if_pos (by omega)]))
            go_wp2
            go_ret3
            exact ⟨by rw [HA.out]; rfl, rfl⟩
          · obtain rfl : u = 1 := by omega
            have HA := Lib.hid (HR.out (y + 9223372036854775808) 10 0 (by rw [HF.out, readFrom, if_neg (by omega), if_neg (by omega), if_neg (by omega), Nat.one_mul]))
            clear HF HR
            go_wp2
            go_ret3
            exact ⟨by rw [HA.out, if_pos trivial]; rfl, rfl⟩
        · have hk9i : ¬ (k : Int) = 9 := by omega
          have hU3 : U ≤ 72057594037927936 := by rw [hU.out]; exact pow_seven (by omega)
          obtain ⟨hp, hp2⟩ := add_group y u U hy hU3
          have HP := Lib.hid hp; have HP2 := Lib.hid hp2
          have HE : Hid (∀ c : Nat, y + c * U = y + c * 2 ^ (7 * k)) := fun c => by rw [← hU.out]
          have HU1 : Hid (U * 128 = 2 ^ (7 * (k + 1))) := by show _ = _; rw [hU.out, show 7 * (k + 1) = 7 * k + 7 from by omega, Nat.pow_add]
          clear h9 hp hp2
          by_cases hbig : 128 ≤ u
          · have hbig' : ¬ (u : Int) < 128 := by omega
            have HD : Hid (readFrom (l.drop o) 0 0 = readFrom (l.drop (o + (k + 1))) (k + 1) (y + u % 128 * U)) := by show _ = _; rw [HF.out, readFrom, if_neg (by omega), if_pos hbig, HE.out]
            go_wp2
            go_round
            case rel => exact ⟨k + 1, _, U * 128, by go_num, by rw [HP.out], by go_num, by omega, by omega, HP2.out, HU1.out, by omega, HD.out⟩
            case measure => simp [intOf]; omega
          · have hbig' : (u : Int) < 128 := by omega
            clear hU2
            by_cases h0 : u = 0 ∧ 0 < k
            · obtain ⟨rfl, hk0⟩ := h0
              have hk0' : (0 : Int) < (k : Int) := by omega
              have HA := Lib.hid (HR.out 0 0 5 (by rw [HF.out, readFrom, if_neg (by omega), if_neg (by omega), if_pos ⟨rfl, hk0⟩]))
              go_wp2
              go_ret3
              exact ⟨by rw [HA.out]; rfl, rfl⟩
            · have HA := Lib.hid (HR.out (y + u * U) (k + 1) 0 (by rw [HF.out, readFrom, if_neg (by omega), if_neg hbig, if_neg h0, HE.out]))
              have HU : Hid (u % 128 = u) := by show _ = _; omega
              by_cases hu0 : u = 0
              · subst hu0
                obtain rfl : k = 0 := by omega
                obtain rfl : U = 1 := by simpa using hU.out
                obtain rfl : y = 0 := by omega
                rw [Nat.add_zero] at hcell
                clear HP HP2 HE HU1
                go_wp2
                go_ret3
                exact ⟨by rw [HA.out]; simp, rfl⟩
              · have hu0' : ¬ (u : Int) = 0 := by omega
                go_wp2
                go_ret3
                exact ⟨by rw [HA.out, HP.out, HU.out]; simp; omega, rfl⟩
    · have hlt' : (l.length : Int) ≤ (o : Int) + (k : Int) := by omega
      have HA := Lib.hid (HR.out 0 0 3 (by rw [hrf.out, List.drop_eq_nil_of_le (by omega), readFrom]))
      go_wp2
      go_ret3
      exact ⟨by rw [HA.out]; rfl, rfl⟩

theorem ref_get (v : Value) (l : List Nat) (o : Int) (w : World) (h : Rd w 1 v l.length (u8s l)) (hl : ∀ c ∈ l, c < 256) :
    Calls Try.prog 56 #[v, .int .i64 o] w fun e w' => e = .returned (.tuple #[.int .u64 ((readAt l o).1 : Int), .int .i64 (readAt l o).2.1, .int .i64 ((readAt l o).2.2 : Int)]) ∧ w = w' := by
  by_cases ho : o < 0 ∨ (l.length : Int) < o
  · rw [show readAt l o = (0, 0, 2) by rw [readAt, if_pos ho]]
    exact ref_get_arg v l o w h ho
  · obtain ⟨k, rfl⟩ : ∃ k : Nat, o = k := ⟨o.toNat, by omega⟩
    exact ref_get_in v l k w h (by omega) hl
end Go.Proofs.Ytmnagmbokajfpaa

end

section
/- Layer 4: the reference's reader: Fail, End. -/
set_option linter.unusedVariables false
namespace Go.Proofs.Ytmnagmbokajfpaa
open Go Go.RowKit

/-- The reference's reader at block q: its bytes, its offset, its error. -/
structure RRd (w : World) (q : Nat) (v : Value) (B : List Nat) (a : Nat) (e : Int) : Prop where
  blk : Blk w q [v, .int .i64 (a : Int), .int .i64 e]
  rd : Rd w 1 v B.length (u8s B)
  ne : B ≠ [] → ∀ k, v.ownBlock = some k → k ≠ q
theorem u8s_ne {B : List Nat} (h : u8s B ≠ []) : B ≠ [] := fun e => h (by subst e; rfl)
theorem RRd.mods' {S : Nat → Prop} {w w' : World} {q : Nat} {v : Value} {B : List Nat} {a : Nat} {e : Int} (h : RRd w q v B a e) (hm : Mods S w w') (hq : ¬ S q) (hv : B ≠ [] → ∀ k, v.ownBlock = some k → ¬ S k) : RRd w' q v B a e := ⟨hm.blk h.blk hq, h.rd.mods' hm (fun e => hv (u8s_ne e)), h.ne⟩
theorem RRd.mods {S : Nat → Prop} {w w' : World} {q : Nat} {v : Value} {B : List Nat} {a : Nat} {e : Int} (h : RRd w q v B a e) (hm : Mods S w w') (hq : ¬ S q) (hv : ∀ k, v.ownBlock = some k → ¬ S k) : RRd w' q v B a e := h.mods' hm hq (fun _ => hv)
theorem RRd.below {w w' : World} {q : Nat} {v : Value} {B : List Nat} {a : Nat} {e : Int} (h : RRd w q v B a e) (hb : Below w.heap.size w w') : RRd w' q v B a e := h.mods (Mods.of_below hb (fun _ => False)) (fun h => h) (fun _ _ h => h)
theorem RRd.drew {w : World} {q : Nat} {v : Value} {B : List Nat} {a : Nat} {e : Int} (h : RRd w q v B a e) : RRd w.drew q v B a e := h.mods (Mods.drew (fun _ => False) w) (fun h => h) (fun _ _ h => h)
theorem RRd.drewN {w : World} {q : Nat} {v : Value} {B : List Nat} {a : Nat} {e : Int} (h : RRd w q v B a e) (n : Nat) : RRd (w.drewN n) q v B a e := h.mods (Mods.drewN (fun _ => False) w n) (fun h => h) (fun _ _ h => h)
theorem RRd.cells {w : World} {q : Nat} {v : Value} {B : List Nat} {a : Nat} {e : Int} (h : RRd w q v B a e) : w.cell? ⟨q, 0, none⟩ = some v ∧ w.cell? ⟨q, 1, none⟩ = some (.int .i64 (a : Int)) ∧ w.cell? ⟨q, 2, none⟩ = some (.int .i64 e) ∧ w.frozen? ⟨q, 1, none⟩ = false ∧ w.frozen? ⟨q, 2, none⟩ = false :=
  ⟨by rw [h.blk.cell]; rfl, by rw [h.blk.cell]; rfl, by rw [h.blk.cell]; rfl, h.blk.free 1, h.blk.free 2⟩
theorem RRd.setErr {w : World} {q : Nat} {v : Value} {B : List Nat} {a : Nat} {e : Int} (h : RRd w q v B a e) (x : Int) : RRd (w.setCell ⟨q, 2, none⟩ (.int .i64 x)) q v B a x :=
  ⟨h.blk.set 2 _, h.rd.mods' (Mods.set (fun j => j = q) _ _ _ (fun _ => rfl)) (fun e => h.ne (u8s_ne e)), h.ne⟩
theorem RRd.setAt {w : World} {q : Nat} {v : Value} {B : List Nat} {a : Nat} {e : Int} (h : RRd w q v B a e) (b : Nat) : RRd (w.setCell ⟨q, 1, none⟩ (.int .i64 (b : Int))) q v B b e :=
  ⟨h.blk.set 1 _, h.rd.mods' (Mods.set (fun j => j = q) _ _ _ (fun _ => rfl)) (fun e => h.ne (u8s_ne e)), h.ne⟩
theorem mods_set (w : World) (q i : Nat) (u : Value) : Mods (fun k => k = q) w (w.setCell ⟨q, i, none⟩ u) := Mods.set _ _ _ _ (fun _ => rfl)

/-- What a read leaves: its value and the new offset, or zero and the error. -/
def Got {α : Type} (o : Out α) (val : α → Value) (z : Value) (inv : Nat → Int → Prop) (a : Nat) (en : Ending) : Prop := match o with
  | .ok x b => en = .returned (val x) ∧ inv b 0
  | .bad e => en = .returned z ∧ inv a (e : Int)

theorem rr_fail (q : Nat) (v : Value) (B : List Nat) (a : Nat) (e x : Int) (w : World) (h : RRd w q v B a e) :
    Calls Try.prog 36 #[.pointer (some ⟨q, 0, none⟩), .int .i64 x] w fun en w' => en = .returned (.tuple #[]) ∧ RRd w' q v B a (if e = 0 then x else e) ∧ Mods (fun k => k = q) w w' := by
  obtain ⟨c0, c1, c2, f1, f2⟩ := h.cells
  have H := Lib.hid h
  clear h
  by_cases he : e = 0
  · subst he
    go_enter Try.func36, Try.ntmps36
    go_wp2
    go_end0
    exact ⟨rfl, by simpa using H.out.setErr x, mods_set _ _ _ _⟩
  · go_enter Try.func36, Try.ntmps36
    go_wp2
    go_end0
    exact ⟨rfl, by simpa [he] using H.out, Mods.refl _ _⟩

set_option maxHeartbeats 400000 in
theorem rr_end (q : Nat) (v : Value) (B : List Nat) (a : Nat) (e : Int) (w : World) (h : RRd w q v B a e) :
    Calls Try.prog 38 #[.pointer (some ⟨q, 0, none⟩)] w fun en w' => en = .returned (.int .i64 (if e = 0 ∧ a < B.length then 4 else e)) ∧ ∃ n, w' = w.drewN n := by
  obtain ⟨c0, c1, c2, f1, f2⟩ := h.cells
  obtain ⟨p, c, hv⟩ := h.rd.shape
  subst hv
  clear h
  by_cases he : e = 0
  · subst he
    by_cases hlt : a < B.length
    · have hlt2 : (a : Int) < (B.length : Int) := by omega
      have HE : Hid ((if (0 : Int) = 0 ∧ a < B.length then (4 : Int) else 0) = 4) := if_pos ⟨rfl, hlt⟩
      rw [HE.out]
      go_enter Try.func38, Try.ntmps38
      go_wp2_with fail
      go_quiet (fail)
      go_wp2_with fail
      go_ret
      exact ⟨rfl, _, rfl⟩
    · have hlt2 : ¬ (a : Int) < (B.length : Int) := by omega
      have HE : Hid ((if (0 : Int) = 0 ∧ a < B.length then (4 : Int) else 0) = 0) := if_neg (fun h => hlt h.2)
      rw [HE.out]
      go_enter Try.func38, Try.ntmps38
      go_wp2_with fail
      go_quiet (fail)
      go_wp2_with fail
      go_ret
      exact ⟨rfl, _, rfl⟩
  · have HE : Hid ((if e = 0 ∧ a < B.length then (4 : Int) else e) = e) := if_neg (fun h => he h.1)
    rw [HE.out]
    have heb : (e == 0) = false := by rw [beq_eq_false_iff_ne]; exact he
    go_enter Try.func38, Try.ntmps38
    go_wp2_with fail
    go_quiet (fail)
    go_wp2_with fail
    go_ret
    exact ⟨rfl, _, rfl⟩
end Go.Proofs.Ytmnagmbokajfpaa

end

section
/- Layer 4: the reference's reader: Uint. -/
set_option linter.unusedVariables false
namespace Go.Proofs.Ytmnagmbokajfpaa
open Go Go.RowKit


set_option maxHeartbeats 1000000 in
theorem rr_uint (q : Nat) (v : Value) (B : List Nat) (a most : Nat) (w : World) (h : RRd w q v B a 0) (hB : ∀ c ∈ B, c < 256) (ha : a ≤ B.length) (hm : most < 18446744073709551616) :
    Calls Try.prog 37 #[.pointer (some ⟨q, 0, none⟩), .int .u64 (most : Int)] w fun en w' => Mods (fun k => k = q) w w' ∧ Got (outUint B a most) (fun c => .int .u64 (c : Int)) (.int .u64 0) (fun b e => RRd w' q v B b e) a en := by
  obtain ⟨c0, c1, c2, f1, f2⟩ := h.cells
  have H := Lib.hid h
  have HB := Lib.hid hB
  obtain ⟨p, c, hv⟩ := h.rd.shape
  subst hv
  have hcs := outUint_cases hB ha most
  have HG := Lib.hid (fun n => calls_flip (ref_get (.slice p B.length c) B (a : Int) (w.drewN n) (h.drewN n).rd hB))
  clear h hB
  go_enter Try.func37, Try.ntmps37
  go_wp2_with fail
  go_quiet ((go_at_call 56; exact Calls.quiet_of_same (HG.out _)))
  have H1 := Lib.hid (H.out.drewN nq)
  obtain ⟨c0, c1, c2, f1, f2⟩ := H1.out.cells
  have HM1 : Hid (Mods (fun k => k = q) w (w.drewN nq)) := Mods.drewN _ _ _
  generalize w.drewN nq = w1 at *
  clear HG H
  rcases hcs with ⟨e, he, hr, ho⟩ | ⟨x, to, hr, hto, htl, hx, ho⟩
  · rw [hr]
    have HO := Lib.hid ho
    have heb : ((e : Int) == 0) = false := by rw [beq_eq_false_iff_ne]; omega
    clear hr ho
    go_wp2_with fail
    refine (rr_fail q _ B a 0 (e : Int) _ H1.out).mono ?_
    rintro en w2 ⟨rfl, hR, hm⟩
    rw [if_pos rfl] at hR
    have HM := Lib.hid (HM1.out.trans hm (fun _ _ e => e))
    have HR := Lib.hid hR
    clear hR hm
    go_wp2_with fail
    go_ret
    exact ⟨HM.out, by rw [HO.out]; exact ⟨rfl, HR.out⟩⟩
  · rw [hr]
    have HO := Lib.hid ho
    clear hr ho
    by_cases hlt : most < x
    · have hlt' : (most : Int) < (x : Int) := by omega
      rw [if_pos hlt] at HO
      go_wp2_with fail
      refine (rr_fail q _ B a 0 7 _ H1.out).mono ?_
      rintro en w2 ⟨rfl, hR, hm⟩
      rw [if_pos rfl] at hR
      have HM := Lib.hid (HM1.out.trans hm (fun _ _ e => e))
      have HR := Lib.hid hR
      clear hR hm
      go_wp2_with fail
      go_ret
      exact ⟨HM.out, by rw [HO.out]; exact ⟨rfl, HR.out⟩⟩
    · have hlt' : ¬ (most : Int) < (x : Int) := by omega
      rw [if_neg hlt] at HO
      go_wp2_with fail
      go_ret
      exact ⟨HM1.out.trans (mods_set _ q 1 _) (fun _ _ e => e), by rw [HO.out]; exact ⟨rfl, H1.out.setAt to⟩⟩
end Go.Proofs.Ytmnagmbokajfpaa

end
