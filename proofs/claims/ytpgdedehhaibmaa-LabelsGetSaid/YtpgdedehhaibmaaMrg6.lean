/- LbF, Iface11, EqualStr, ConcatLab, RevLab, in one text. -/
import Derived.Test.YtpgdedehhaibmaaMrg5
import Derived.Test.YtpgdedehhaibmaaMrg3
import Derived.Test.YtpgdedehhaibmaaMrg2
import Derived.Test.YtpgdedehhaibmaaMrg4
import Derived.Shelf.Spec.SlicesGrow
import Derived.OwnWalk

section
/- Layer 11, the program's own: slices.CompareFunc at labels, Compare. -/
set_option linter.unusedVariables false
set_option maxRecDepth 20000
namespace Go.Proofs.Ytpgdedehhaibmaa
open Go Go.RowKit

set_option maxHeartbeats 4000000 in
theorem compareFunc_any (av bv : Value) (a b : List Lab) (w : World) (ha : Rd w 2 av a.length (labCells a)) (hb : Rd w 2 bv b.length (labCells b)) (hna : a.length ≤ 1000000) (hnb : b.length ≤ 1000000) :
    Calls Try.prog 31 #[av, bv, .func (.func 32) #[] #[]] w fun e w' => e = .returned (.int .i64 (cmpLabs a b)) ∧ Grw w w' := by
  have HLa := Lib.hid ha; have HLb := Lib.hid hb
  obtain ⟨pa, ca, hv⟩ := ha.shape
  subst hv
  obtain ⟨pb, cb, hv⟩ := hb.shape
  subst hv
  have hma : (a.length : Int) ≤ 1000000 := by omega
  have hmb : (b.length : Int) ≤ 1000000 := by omega
  clear ha hb hna hnb
  go_enter Try.func31, Try.ntmps31
  go_wp2_with fail
  go_loopw [13] (fun iv wr => ∃ (i : Nat), i ≤ a.length ∧ i ≤ b.length ∧ iv = .int .i64 (i : Int) ∧ Hid (cmpLabs a b = cmpLabs (a.drop i) (b.drop i)) ∧ Hid (Grw w wr)) (fun iv _ => a.length - (intOf iv).toNat)
  case atStart => exact ⟨0, Nat.zero_le _, Nat.zero_le _, rfl, rfl, Grw.refl _⟩
  case round =>
    obtain ⟨i, hia, hib, rfl, HC, HB⟩ := hrel
    have him : (i : Int) ≤ 1000000 := by omega
    by_cases h1 : i < a.length
    · have h1' : (i : Int) < (a.length : Int) := by omega
      obtain ⟨⟨xn, xv⟩, hx⟩ : ∃ x, a[i]? = some x := ⟨_, List.getElem?_eq_getElem h1⟩
      obtain ⟨ba, oa, e⟩ := rd2_at HLa.out hx
      subst e
      obtain ⟨c0, c1⟩ := rd2_cell (HLa.out.below HB.out.below) hx
      by_cases h2 : i < b.length
      · have h2' : (i : Int) < (b.length : Int) := by omega
        obtain ⟨⟨yn, yv⟩, hy⟩ : ∃ y, b[i]? = some y := ⟨_, List.getElem?_eq_getElem h2⟩
        obtain ⟨bb, ob, e⟩ := rd2_at HLb.out hy
        subst e
        have hne : ∀ o : Obj, (wr.alloc o).cell? ⟨bb, ob + i * 2, none⟩ = some (.string yn) ∧ (wr.alloc o).cell? ⟨bb, ob + i * 2 + 1, none⟩ = some (.string yv) := fun o => rd2_cell (HLb.out.below (HB.out.alloc o).below) hy
        obtain ⟨d0, d1⟩ := hne (.cells #[.string xn, .string xv] 30)
        have HSt := Lib.hid (cmp_step hx hy HC.out)
        have HG3 : Hid (Grw w ((wr.alloc (.cells #[.string xn, .string xv] 30)).alloc (.cells #[.string yn, .string yv] 30))) := (HB.out.alloc _).alloc _
        have HCm := Lib.hid (compareLabels_any (xn, xv) (yn, yv))
        clear hx hy HC hne
        generalize cmpLab (xn, xv) (yn, yv) = o at *
        go_wp2_with fail
        refine (HCm.out _).mono ?_
        rintro e w4 ⟨rfl, hG⟩
        have HG4 := Lib.hid (HG3.out.trans hG)
        clear hG HCm HG3 c0 c1 d0 d1
        by_cases ho : o = 0
        · subst ho
          rw [if_pos rfl] at HSt
          go_wp2_with fail
          go_round
          case rel => exact ⟨i + 1, by omega, by omega, by go_num, HSt.out, HG4.out⟩
          case measure => simp [intOf]; omega
        · have hob : (o == 0) = false := by rw [beq_eq_false_iff_ne]; exact ho
          rw [if_neg ho] at HSt
          go_wp2_with fail
          go_ret
          exact ⟨by rw [HSt.out]; rfl, HG4.out⟩
      · have h2' : ¬ (i : Int) < (b.length : Int) := by omega
        have h2g : (b.length : Int) ≤ (i : Int) := by omega
        have HE : Hid (cmpLabs a b = 1) := by
          show _ = _
          rw [cmp_end ⟨hia, hib⟩ (fun h => h2 h.2) HC.out, if_neg (by omega), if_pos (by omega)]
        have HG3 : Hid (Grw w (wr.alloc (.cells #[.string xn, .string xv] 30))) := HB.out.alloc _
        clear hx HC
        go_wp2_with fail
        go_ret
        exact ⟨by rw [HE.out]; rfl, HG3.out⟩
    · have h1' : ¬ (i : Int) < (a.length : Int) := by omega
      by_cases h3 : a.length < b.length
      · have h3' : (a.length : Int) < (b.length : Int) := by omega
        have HE : Hid (cmpLabs a b = -1) := by
          show _ = _
          rw [cmp_end ⟨hia, hib⟩ (fun h => h1 h.1) HC.out, if_pos h3]
        clear HC
        go_wp2_with fail
        go_ret
        exact ⟨by rw [HE.out]; rfl, HB.out⟩
      · have h3' : ¬ (a.length : Int) < (b.length : Int) := by omega
        have HE : Hid (cmpLabs a b = 0) := by
          show _ = _
          rw [cmp_end ⟨hia, hib⟩ (fun h => h1 h.1) HC.out, if_neg h3, if_neg (by omega)]
        clear HC
        go_wp2_with fail
        go_ret
        exact ⟨by rw [HE.out]; rfl, HB.out⟩

theorem labCompare_any (av bv : Value) (a b : List Lab) (w : World) (ha : Rd w 2 av a.length (labCells a)) (hb : Rd w 2 bv b.length (labCells b)) (hna : a.length ≤ 1000000) (hnb : b.length ≤ 1000000) :
    Calls Try.prog 17 #[av, bv] w fun e w' => e = .returned (.int .i64 (cmpLabs a b)) ∧ Grw w w' := by
  have HC := Lib.hid (compareFunc_any av bv a b w ha hb hna hnb)
  obtain ⟨pa, ca, hv⟩ := ha.shape
  subst hv
  obtain ⟨pb, cb, hv⟩ := hb.shape
  subst hv
  clear ha hb hna hnb
  generalize cmpLabs a b = o at *
  go_enter Try.func17, Try.ntmps17
  go_wp2_with fail
  refine HC.out.mono ?_
  rintro e w4 ⟨rfl, hG⟩
  have HG := Lib.hid hG
  clear hG HC
  go_wp2_with fail
  go_ret
  exact ⟨rfl, HG.out⟩
end Go.Proofs.Ytpgdedehhaibmaa

end

section
/- Layer 11: the program's labels are as the walks ask. -/
set_option linter.unusedVariables false
namespace Go.Proofs.Ytpgdedehhaibmaa
open Go Go.RowKit

theorem labels : LaIf 0 (fun _ => True) where
  keeps := fun _ _ _ => trivial
  low := fun _ => Nat.zero_le _
  check := fun lv l w _ hl hs hn => labCheck_any lv l w hl hs (by omega)
  norm := fun lv l w _ hl hs hn => labNorm_any lv l w hl hs hn
  compare := fun av bv a b w _ ha hb _ _ hna hnb => (labCompare_any av bv a b w ha hb (by omega) (by omega)).mono fun _ _ ⟨h1, h2⟩ => ⟨h1, h2.below⟩
  get := fun lv l n w _ hl _ hn => labGet_any lv l n w hl (by omega)
  strings := fun lv l w _ hl _ hn => (labStrings_any lv l w hl (by omega)).mono fun _ _ ⟨r, h1, h2⟩ => ⟨r, h1, h2.got⟩
end Go.Proofs.Ytpgdedehhaibmaa

end

section
/- slices.Equal of strings. -/
set_option linter.unusedVariables false
namespace Go.Proofs.Ytpgdedehhaibmaa
open Go Go.RowKit

set_option maxHeartbeats 1000000 in
/-- slices.Equal. -/
theorem equal_str (a b : Value) (l k : List ByteArray) (w : World) (ha : Rd w 1 a l.length (strs l)) (hb : Rd w 1 b k.length (strs k)) :
    Calls Try.prog 21 #[a, b] w fun e w' => e = .returned (.bool (decide (l = k))) ∧ Below w.heap.size w w' := by
  have HA := Lib.hid ha; have HB := Lib.hid hb
  obtain ⟨pa, ca, hv⟩ := ha.shape
  subst hv
  obtain ⟨pb, cb, hv⟩ := hb.shape
  subst hv
  clear ha hb
  by_cases hlen : l.length = k.length
  · have hlb : ((l.length : Int) == (k.length : Int)) = true := by rw [hlen]; simp
    have hli : (l.length : Int) = (k.length : Int) := by omega
    have HLen := Lib.hid hlen
    have HMax : Hid ((l.length : Int) ≤ 9223372036854775807) := by show _ ≤ _; have := HA.out.le; unfold maxLen at this; omega
    rw [← hlen] at HB ⊢
    clear hlen hlb hli
    go_enter Try.func21, Try.ntmps21
    go_wp2_with fail
    go_loopw [13] (fun i wr => ∃ j : Nat, j ≤ l.length ∧ i = .int .i64 (j : Int) ∧ Hid (Below w.heap.size w wr) ∧ Hid (l.take j = k.take j)) (fun i _ => l.length - (intOf i).toNat)
    case atStart => exact ⟨0, by omega, rfl, Below.refl _ _, rfl⟩
    case round =>
      obtain ⟨j, hj, rfl, HBw, HT⟩ := hrel
      by_cases hlt : j < l.length
      · have hlt' : (j : Int) < (l.length : Int) := by omega
        have hmx := HMax.out
        have hltk : j < k.length := by have := HLen.out; omega
        have hca := (HA.out.below HBw.out)
        have hcb := (HB.out.below HBw.out)
        obtain ⟨b1, o1, c1, e, m1, m2, hc1⟩ := hca.at (fun e => by have := congrArg List.length e; rw [strs_length] at this; simp at this; subst this; simp at hlt)
        simp only [Value.slice.injEq] at e
        obtain ⟨rfl, _, rfl⟩ := e
        obtain ⟨b2, o2, c2, e, m3, m4, hc2⟩ := hcb.at (fun e => by have := congrArg List.length e; rw [strs_length] at this; simp at this; subst this; simp at hltk)
        simp only [Value.slice.injEq] at e
        obtain ⟨rfl, _, rfl⟩ := e
        have h1 := hc1 j _ (strs_get l j hlt)
        have h2 := hc2 j _ (strs_get k j hltk)
        have HS : Hid (l[j] = k[j] → l.take (j + 1) = k.take (j + 1)) := fun e => by rw [List.take_add_one, List.take_add_one, List.getElem?_eq_getElem hlt, List.getElem?_eq_getElem hltk, e, HT.out]
        have HN : Hid (l[j] ≠ k[j] → decide (l = k) = false) := fun e => by
          rw [decide_eq_false_iff_not]
          intro h
          apply e
          have h3 : l[j]? = k[j]? := by rw [h]
          rw [List.getElem?_eq_getElem hlt, List.getElem?_eq_getElem hltk] at h3
          exact Option.some.inj h3
        clear hc1 hc2 hca hcb m1 m2 m3 m4
        generalize l[j] = x at *
        generalize k[j] = y at *
        clear hltk
        by_cases hxy : x = y
        · subst hxy
          have HS2 := Lib.hid (HS.out rfl)
          clear HS HN
          go_wp2_with fail
          go_quiet (fail)
          have HB2 : Hid (Below w.heap.size w (wr.drewN nq)) := HBw.out.trans ⟨rfl, rfl, rfl, Nat.le_refl _, fun _ _ => rfl⟩
          clear h1 h2
          generalize wr.drewN nq = w2 at *
          go_wp2_with fail
          go_round
          case rel => exact ⟨j + 1, by omega, by go_num, HB2.out, HS2.out⟩
          case measure => simp [intOf]; omega
        · have HN2 := Lib.hid (HN.out hxy)
          have hxb : (x.toList == y.toList) = false := by rw [eqS]; simpa using hxy
          clear HS HN hxy
          go_wp2_with fail
          go_quiet (fail)
          have HB2 : Hid (Below w.heap.size w (wr.drewN nq)) := HBw.out.trans ⟨rfl, rfl, rfl, Nat.le_refl _, fun _ _ => rfl⟩
          clear h1 h2
          generalize wr.drewN nq = w2 at *
          go_wp2_with fail
          go_ret
          exact ⟨by rw [HN2.out]; rfl, HB2.out⟩
      · obtain rfl : j = l.length := by omega
        have hnl : ¬ (l.length : Int) < (l.length : Int) := by omega
        have HE : Hid (decide (l = k) = true) := by
          show _ = _
          rw [decide_eq_true_iff]
          have h := HT.out
          rw [List.take_length, List.take_of_length_le (by have := HLen.out; omega)] at h
          exact h
        go_wp2_with fail
        go_ret
        exact ⟨by rw [HE.out]; rfl, HBw.out⟩
  · have hlb : ((l.length : Int) == (k.length : Int)) = false := by rw [beq_eq_false_iff_ne]; omega
    have hli : ¬ (l.length : Int) = (k.length : Int) := by omega
    have HE : Hid (decide (l = k) = false) := by
      show _ = _
      rw [decide_eq_false_iff_not]
      intro h; exact hlen (by rw [h])
    clear hlen
    go_enter Try.func21, Try.ntmps21
    go_wp2_with fail
    go_ret
    exact ⟨by rw [HE.out]; rfl, Below.refl _ _⟩

end Go.Proofs.Ytpgdedehhaibmaa

end

section
/- Layer 11: slices.Grow of nil and slices.Concat of lists of labels. -/
set_option linter.unusedVariables false
set_option maxRecDepth 20000
namespace Go.Proofs.Ytpgdedehhaibmaa
open Go Go.RowKit

def PartsAtL (w : World) (vs : List Value) (ps : List (List Lab)) : Prop := vs.length = ps.length ∧ ∀ (i : Nat) (v : Value) (p : List Lab), vs[i]? = some v → ps[i]? = some p → Rd w 2 v p.length (labCells p)
def renL : Go.Shelf.Ren := ⟨fun | 4 => 34 | n => n, fun | 0 => 0 | 3 => 3 | 4 => 4 | 9 => 9 | 20 => 20 | 22 => 22 | 25 => 30 | n => n, fun n => n⟩
theorem laysL : Go.Proofs.Lays8.n4 Try.prog renL := { mixed := by kernel_rfl, f4 := ⟨"slices.Grow[[]tsblock/api.Label,tsblock/api.Label]", by decide, Try.func34.trans (congrArg some (by kernel_rfl))⟩, t0 := Try.underlying0, a0 := Try.isAgg0, z0 := Try.sizeOf0, v0 := Try.zeroValue0, t3 := Try.underlying3, a3 := Try.isAgg3, z3 := Try.sizeOf3, v3 := Try.zeroValue3, t4 := Try.underlying4, a4 := Try.isAgg4, z4 := Try.sizeOf4, v4 := Try.zeroValue4, t9 := Try.underlying9, a9 := Try.isAgg9, z9 := Try.sizeOf9, v9 := Try.zeroValue9, t20 := Try.underlying20, a20 := Try.isAgg20, z20 := Try.sizeOf20, v20 := Try.zeroValue20, t22 := Try.underlying22, a22 := Try.isAgg22, z22 := Try.sizeOf22, v22 := Try.zeroValue22 }
theorem infoLab : (Try.prog.info? 30).map (fun i => (i.zero, i.size, i.bytes)) = some (some (.agg #[.string ⟨#[]⟩, .string ⟨#[]⟩]), 2, 32) := by kernel_rfl

theorem grow_lab (n : Nat) (hn : n ≤ 1000000) (w : World) :
    Calls Try.prog 34 #[.slice none 0 0, .int .i64 (n : Int)] w fun e w' => ∃ r, e = .returned r ∧ Made w w' 30 2 r 0 [] := by
  by_cases h0 : n = 0
  · subst h0
    refine (Any8.slices_Grow_room laysL none 0 0 0 w (Nat.le_refl _) (by omega) (by omega) (by omega)).mono ?_
    rintro e w' ⟨rfl, rfl⟩
    exact ⟨_, rfl, World.ownsRow_nil _ _ _ _, Below.refl _ _⟩
  · obtain ⟨i0, hi, hz0, hz1, hz2⟩ := info_parts infoLab
    refine (Any8.slices_Grow_grow laysL i0 (.agg #[.string ⟨#[]⟩, .string ⟨#[]⟩]) hi hz0 (by omega) none 0 0 n [] w (Nat.le_refl _) (by omega) (by rw [hz2]; omega) (by omega) (by simp) (fun _ => rfl) (fun a e => by cases e)).mono ?_
    rintro e w' ⟨rfl, rfl⟩
    have hge := grownCap_ge w (0 + n) 0 30
    refine ⟨_, rfl, ⟨rfl, Or.inr ⟨w.heap.size, _, _, rfl, Nat.le_refl _, heap_alloc_new w.drew _, Nat.zero_le _, grownCap_le_maxLen w (0 + n) 0 _ (by unfold maxLen; omega), ?_, by simp⟩⟩, ?_⟩
    · have h1 : (Value.agg #[.string ⟨#[]⟩, .string ⟨#[]⟩]).cells.size = 2 := rfl
      simp only [Array.size_append, size_zeroCells, h1, List.size_toArray, List.length_nil]
      show 0 + (0 + n - 0) * 2 + (grownCap w (0 + n) 0 30 - (0 + n)) * 2 = grownCap w (0 + n) 0 30 * 2
      omega
    · exact (Below.drew (Below.refl _ w)).alloc (Nat.le_refl _) _

/-- The first i parts in a row; all of them. -/
def flatToL (ps : List (List Lab)) (i : Nat) : List Lab := (ps.take i).flatten
def flatAllL (ps : List (List Lab)) : List Lab := ps.flatten
theorem flat_zeroL (ps : List (List Lab)) : flatToL ps 0 = [] := rfl
theorem flat_allL (ps : List (List Lab)) (n : Nat) (h : n = ps.length) : flatToL ps n = flatAllL ps := by subst h; rw [flatToL, flatAllL, List.take_of_length_le (Nat.le_refl _)]
theorem flat_take_lengthL (ps : List (List Lab)) (i : Nat) : (flatToL ps i).length ≤ (flatAllL ps).length := by
  rw [flatToL, flatAllL]
  conv => rhs; rw [← List.take_append_drop i ps]
  rw [List.flatten_append, List.length_append]; omega
theorem flat_take_succL (ps : List (List Lab)) (i : Nat) (p : List Lab) (h : ps[i]? = some p) : flatToL ps (i + 1) = flatToL ps i ++ p := by
  rw [flatToL, flatToL, List.take_add_one, h, List.flatten_append]; simp
theorem PartsAtL.below {w w' : World} {vs : List Value} {ps : List (List Lab)} (h : PartsAtL w vs ps) (hb : Below w.heap.size w w') : PartsAtL w' vs ps := ⟨h.1, fun i v p h1 h2 => (h.2 i v p h1 h2).below hb⟩

set_option maxHeartbeats 2000000 in
theorem concat_lab (rv : Value) (vs : List Value) (ps : List (List Lab)) (w : World) (hr : Rd w 1 rv vs.length vs) (hp : PartsAtL w vs ps) (hn : (flatAllL ps).length ≤ 1000000) (hc : vs.length ≤ 1000000) :
    Calls Try.prog 24 #[rv] w fun e w' => ∃ r, e = .returned r ∧ Made w w' 30 2 r (flatAllL ps).length (labCells (flatAllL ps)) := by
  have HR := Lib.hid hr; have HP := Lib.hid hp; have HN := Lib.hid hn
  obtain ⟨pl, cl, hv⟩ := hr.shape
  subst hv
  have hci : (vs.length : Int) ≤ 1000000 := by omega
  clear hr hp hn hc
  go_enter Try.func24, Try.ntmps24
  go_wp2_with fail
  go_loop [3, 11] (fun sv iv => ∃ i : Nat, i ≤ vs.length ∧ iv = .int .i64 (i : Int) ∧ sv = .int .i64 (((flatToL ps i).length : Nat) : Int)) (fun _ iv => vs.length - (intOf iv).toNat)
  case atStart => exact ⟨0, Nat.zero_le _, rfl, rfl⟩
  case round =>
    obtain ⟨i, hi, rfl, rfl⟩ := hrel
    have hib : (i : Int) ≤ 1000000 := by omega
    by_cases hlt : i < vs.length
    · have hlt' : (i : Int) < (vs.length : Int) := by omega
      obtain ⟨v, hv⟩ : ∃ v, vs[i]? = some v := ⟨_, List.getElem?_eq_getElem hlt⟩
      obtain ⟨p, hpi⟩ : ∃ p, ps[i]? = some p := ⟨_, List.getElem?_eq_getElem (by rw [← HP.out.1]; exact hlt)⟩
      have hRv := HP.out.2 i v p hv hpi
      obtain ⟨pp, cp, he⟩ := hRv.shape
      subst he
      obtain ⟨b, off, c', e, hnc, hncm, hcell⟩ := HR.out.at (fun e => by rw [e] at hlt; cases hlt)
      simp only [Value.slice.injEq] at e
      obtain ⟨rfl, _, rfl⟩ := e
      have hct : w.cell? ⟨b, off + i, none⟩ = some (.slice pp p.length cp) := hcell i _ hv
      have HS := Lib.hid (flat_take_succL ps i p hpi)
      have hl1 := flat_take_lengthL ps i
      have hl2 := flat_take_lengthL ps (i + 1)
      rw [HS.out, List.length_append] at hl2
      have hx := HN.out
      have HL : Hid ((flatToL ps (i + 1)).length = (flatToL ps i).length + p.length) := by show _ = _; rw [HS.out, List.length_append]
      generalize (flatToL ps i).length = S at *
      have hs : (S : Int) ≤ 1000000 := by omega
      have hp1 : (p.length : Int) ≤ 1000000 := by omega
      clear hcell hnc hncm hv hpi hRv hl1 hl2 hx
      go_wp2_with fail
      go_round
      case rel => exact ⟨i + 1, by omega, by go_num, by rw [HL.out]; go_num⟩
      case measure => simp [intOf]; omega
    · have hlt' : ¬ (i : Int) < (vs.length : Int) := by omega
      obtain rfl : i = vs.length := by omega
      have hall : flatToL ps vs.length = flatAllL ps := flat_allL ps _ HP.out.1
      rw [hall]
      have HGr := Lib.hid (grow_lab (flatAllL ps).length HN.out w)
      clear hall hlt hi
      go_wp2_with fail
      refine HGr.out.mono ?_
      rintro e w1 ⟨r1, rfl, hM⟩
      have HO1 := Lib.hid hM.1
      have HB1 := Lib.hid hM.2
      obtain ⟨p0, k0, hv⟩ := (Rd.of_owns hM.1).shape
      subst hv
      clear hM HGr
      go_wp2_with fail
      go_loopw [6, 27] (fun rv iv wr => ∃ i : Nat, i ≤ vs.length ∧ iv = .int .i64 (i : Int) ∧ Hid (wr.ownsRow w.heap.size 30 2 rv (flatToL ps i).length (labCells (flatToL ps i))) ∧ Hid (Below w.heap.size w wr)) (fun _ iv _ => vs.length - (intOf iv).toNat)
      case atStart => exact ⟨0, Nat.zero_le _, rfl, HO1.out, HB1.out⟩
      case round =>
        obtain ⟨i, hi, rfl, HX, HBw⟩ := hrel
        have hib : (i : Int) ≤ 1000000 := by omega
        obtain ⟨p9, k9, hv9⟩ := (Rd.of_owns HX.out).shape
        subst hv9
        by_cases hlt : i < vs.length
        · have hlt' : (i : Int) < (vs.length : Int) := by omega
          obtain ⟨v, hv⟩ : ∃ v, vs[i]? = some v := ⟨_, List.getElem?_eq_getElem hlt⟩
          obtain ⟨p, hpi⟩ : ∃ p, ps[i]? = some p := ⟨_, List.getElem?_eq_getElem (by rw [← HP.out.1]; exact hlt)⟩
          have HRv := Lib.hid ((HP.out.2 i v p hv hpi).below HBw.out)
          obtain ⟨pp, cp, he⟩ := HRv.out.shape
          subst he
          obtain ⟨b, off, c', e, hnc, hncm, hcell⟩ := (HR.out.below HBw.out).at (fun e => by rw [e] at hlt; cases hlt)
          simp only [Value.slice.injEq] at e
          obtain ⟨rfl, _, rfl⟩ := e
          have hct : wr.cell? ⟨b, off + i, none⟩ = some (.slice pp p.length cp) := hcell i _ hv
          have HS := Lib.hid (flat_take_succL ps i p hpi)
          have HLb : Hid (((flatToL ps i).length + p.length) * 32 ≤ 140737488355328 ∧ (flatToL ps i).length + p.length ≤ maxLen) := by
            show _ ∧ _
            have hl2 := flat_take_lengthL ps (i + 1)
            rw [HS.out, List.length_append] at hl2
            have := HN.out
            unfold maxLen; omega
          have HOw := Lib.hid (owns_rebase HX.out (base' := 0) (fun _ _ => Nat.zero_le _))
          clear hcell hnc hncm hv hpi
          generalize hA : (flatToL ps i) = A at *
          have HA := Lib.hid hA
          clear hA
          go_wp2_with (at_builtin; refine wpList_extend elemLab _ _ _ _ _ _ _ HOw.out HRv.out (labCells_one _) HLb.out rfl _ _ rfl rfl rfl ?_)
          intro v8 w8 hown hmods hfr
          have HX8 : Hid (w8.ownsRow w.heap.size 30 2 v8 (flatToL ps (i + 1)).length (labCells (flatToL ps (i + 1)))) := by
            show World.ownsRow _ _ _ _ _ _ _
            rw [HS.out, List.length_append, labCells_append]
            refine owns_rebase hown (fun k hk => ?_)
            rcases hfr k hk with e | e
            · exact (HX.out.lt k e).1
            · have := HBw.out.size; omega
          have HB8 : Hid (Below w.heap.size w w8) := HBw.out.trans (hmods.below HBw.out.size (fun k hk e => by have := (HX.out.lt k e).1; omega))
          obtain ⟨p8, k8, hv8⟩ := (Rd.of_owns hown).shape
          subst hv8
          clear hown hmods hfr HOw HRv hct
          go_wp2_with fail
          go_round
          case rel => exact ⟨i + 1, by omega, by go_num, HX8.out, HB8.out⟩
          case measure => simp [intOf]; omega
        · have hlt' : ¬ (i : Int) < (vs.length : Int) := by omega
          obtain rfl : i = vs.length := by omega
          have hall : flatToL ps vs.length = flatAllL ps := flat_allL ps _ HP.out.1
          rw [hall] at HX ⊢
          clear hall hlt hi
          go_wp2_with fail
          go_ret
          exact ⟨_, rfl, HX.out, HBw.out⟩
end Go.Proofs.Ytpgdedehhaibmaa

end

section
/- Layer 11: slices.Reverse of labels. -/
set_option linter.unusedVariables false
set_option maxRecDepth 20000
namespace Go.Proofs.Ytpgdedehhaibmaa
open Go Go.RowKit

theorem labCells_set (d : List Lab) (i : Nat) (y : Lab) : ((labCells d).set (i * 2) (.string y.1)).set (i * 2 + 1) (.string y.2) = labCells (d.set i y) := two_set d i y
def labZ : Lab := (⟨#[]⟩, ⟨#[]⟩)
/-- The list when i pairs have been exchanged. -/
def revLb (l : List Lab) (i : Nat) : List Lab := (List.range l.length).map fun k => if k < i ∨ l.length ≤ k + i then l.getD (l.length - 1 - k) labZ else l.getD k labZ
theorem revLb_length (l : List Lab) (i : Nat) : (revLb l i).length = l.length := by simp [revLb]
theorem revLb_get (l : List Lab) (i k : Nat) (h : k < l.length) : (revLb l i)[k]? = some (if k < i ∨ l.length ≤ k + i then l.getD (l.length - 1 - k) labZ else l.getD k labZ) := by simp [revLb, h]
theorem revLb_zero (l : List Lab) : revLb l 0 = l := by
  apply List.ext_getElem?
  intro k
  by_cases h : k < l.length
  · rw [revLb_get l 0 k h, if_neg (by omega), List.getD_eq_getElem?_getD, List.getElem?_eq_getElem h]; rfl
  · rw [List.getElem?_eq_none (by rw [revLb_length]; omega), List.getElem?_eq_none (by omega)]
theorem revLb_done (l : List Lab) (i : Nat) (h : l.length ≤ 2 * i + 1) : revLb l i = l.reverse := by
  apply List.ext_getElem?
  intro k
  by_cases hk : k < l.length
  · rw [revLb_get l i k hk, List.getElem?_reverse hk]
    have h1 : l.length - 1 - k < l.length := by omega
    split
    · rw [List.getElem?_eq_getElem h1, List.getD_eq_getElem?_getD, List.getElem?_eq_getElem h1]; rfl
    · next hn =>
      have e : l.length - 1 - k = k := by omega
      rw [e, List.getElem?_eq_getElem hk, List.getD_eq_getElem?_getD, List.getElem?_eq_getElem hk]; rfl
  · rw [List.getElem?_eq_none (by rw [revLb_length]; omega), List.getElem?_eq_none (by rw [List.length_reverse]; omega)]
theorem revLb_step (l : List Lab) (i j : Nat) (hj : i + j + 1 = l.length) (h : i < j) : ((revLb l i).set i (l.getD j labZ)).set j (l.getD i labZ) = revLb l (i + 1) := by
  apply List.ext_getElem?
  intro k
  by_cases hk : k < l.length
  · rw [revLb_get l (i + 1) k hk]
    by_cases e1 : k = j
    · subst e1
      rw [List.getElem?_set_self (by rw [List.length_set, revLb_length]; omega), if_pos (by omega), show l.length - 1 - k = i by omega]
    · rw [List.getElem?_set_ne (fun e => e1 e.symm)]
      by_cases e2 : k = i
      · subst e2
        rw [List.getElem?_set_self (by rw [revLb_length]; omega), if_pos (by omega), show l.length - 1 - k = j by omega]
      · rw [List.getElem?_set_ne (fun e => e2 e.symm), revLb_get l i k hk]
        congr 1
        by_cases e3 : k < i ∨ l.length ≤ k + i
        · rw [if_pos e3, if_pos (by omega)]
        · rw [if_neg e3, if_neg (by omega)]
  · rw [List.getElem?_eq_none (by rw [List.length_set, List.length_set, revLb_length]; omega), List.getElem?_eq_none (by rw [revLb_length]; omega)]


set_option maxHeartbeats 4000000 in
theorem reverse_lab (base : Nat) (lv : Value) (l : List Lab) (w : World) (hl : w.ownsRow base 30 2 lv l.length (labCells l)) (hn : l.length ≤ 1000000000000) :
    Calls Try.prog 25 #[lv] w fun e w' => e = .returned (.tuple #[]) ∧ w'.ownsRow base 30 2 lv l.length (labCells l.reverse) ∧ Mods (fun k => lv.ownBlock = some k) w w' := by
  have HL := Lib.hid hl
  have hni : (l.length : Int) ≤ 1000000000000 := by omega
  obtain ⟨pl, cl, hv⟩ := (Rd.of_owns hl).shape
  subst hv
  clear hl hn
  go_enter Try.func25, Try.ntmps25
  go_wp2_with fail
  go_loopw [2, 3] (fun iv jv wr => ∃ (i : Nat) (j : Int), iv = .int .i64 (i : Int) ∧ jv = .int .i64 j ∧ (i : Int) + j + 1 = (l.length : Int) ∧ (i : Int) ≤ j + 2 ∧ Hid (wr.ownsRow base 30 2 (.slice pl l.length cl) l.length (labCells (revLb l i))) ∧ Hid (Mods (fun k => (Value.slice pl l.length cl).ownBlock = some k) w wr)) (fun iv _ _ => l.length - (intOf iv).toNat)
  case atStart => exact ⟨0, (l.length : Int) - 1, rfl, by go_num, by omega, by omega, by show World.ownsRow _ _ _ _ _ _ _; rw [revLb_zero]; exact HL.out, Mods.refl _ _⟩
  case round =>
    obtain ⟨i, j, rfl, rfl, hij, hi2, HR, HM⟩ := hrel
    by_cases hlt : (i : Int) < j
    · obtain ⟨j, rfl⟩ : ∃ m : Nat, j = (m : Int) := ⟨j.toNat, by omega⟩
      have hij2 : i + j + 1 = l.length := by omega
      have hltn : i < j := by omega
      have hil : (i : Int) < (l.length : Int) := by omega
      have hjl : (j : Int) < (l.length : Int) := by omega
      have hj0 : (0 : Int) ≤ (j : Int) := by omega
      obtain ⟨g, cap, hvv⟩ : ∃ g cap, (Value.slice pl l.length cl) = .slice (some ⟨g, 0, none⟩) l.length cap := by
        rcases owns_cases HR.out with ⟨_, h0, _⟩ | ⟨g, cap, hv, _⟩
        · omega
        · exact ⟨g, cap, hv⟩
      simp only [Value.slice.injEq] at hvv
      obtain ⟨rfl, _, rfl⟩ := hvv
      have hln := labCells_length (revLb l i)
      rw [revLb_length] at hln
      have hgi : (revLb l i)[i]? = some (l.getD i labZ) := by rw [revLb_get l i i (by omega), if_neg (by omega)]
      have hgj : (revLb l i)[j]? = some (l.getD j labZ) := by rw [revLb_get l i j (by omega), if_neg (by omega)]
      have HSt := Lib.hid (revLb_step l i j hij2 hltn)
      have HIJ : Hid (i ≠ j ∧ i < l.length ∧ j < l.length) := by show _ ∧ _ ∧ _; omega
      generalize l.getD i labZ = x at *
      generalize l.getD j labZ = y at *
      obtain ⟨x1, x2⟩ := x
      obtain ⟨y1, y2⟩ := y
      have hci1 : wr.cell? ⟨g, i * 2, none⟩ = some (.string x1) := by rw [HR.out.cellAt (i * 2) (by omega)]; exact (labCells_get _ i _ _ hgi).1
      have hci2 : wr.cell? ⟨g, i * 2 + 1, none⟩ = some (.string x2) := by rw [HR.out.cellAt (i * 2 + 1) (by omega)]; exact (labCells_get _ i _ _ hgi).2
      have hcj1 : wr.cell? ⟨g, j * 2, none⟩ = some (.string y1) := by rw [HR.out.cellAt (j * 2) (by omega)]; exact (labCells_get _ j _ _ hgj).1
      have hcj2 : wr.cell? ⟨g, j * 2 + 1, none⟩ = some (.string y2) := by rw [HR.out.cellAt (j * 2 + 1) (by omega)]; exact (labCells_get _ j _ _ hgj).2
      have hfi1 := HR.out.frozenAt (i * 2)
      have hfi2 := HR.out.frozenAt (i * 2 + 1)
      have hfj1 := HR.out.frozenAt (j * 2)
      have hfj2 := HR.out.frozenAt (j * 2 + 1)
      clear hij2 hltn hgi hgj hln
      go_wp2_with fail
      go_big_region
      go_wp2_with fail
      have HF : Hid (∀ wz, wz = ((((wr.setCell ⟨g, i * 2, none⟩ (.string y1)).setCell ⟨g, i * 2 + 1, none⟩ (.string y2)).setCell ⟨g, j * 2, none⟩ (.string x1)).setCell ⟨g, j * 2 + 1, none⟩ (.string x2)).drew → wz.ownsRow base 30 2 (.slice (some ⟨g, 0, none⟩) l.length cl) l.length (labCells (revLb l (i + 1))) ∧ Mods (fun k => (Value.slice (some ⟨g, 0, none⟩) l.length cl).ownBlock = some k) w wz) := by
        rintro wz rfl
        have h1 := (HR.out.stored (i * 2) (.string y1)).1
        have h2 := (h1.stored (i * 2 + 1) (.string y2)).1
        have h3 := (h2.stored (j * 2) (.string x1)).1
        have h4 := (h3.stored (j * 2 + 1) (.string x2)).1
        have e1 : ((labCells (revLb l i)).set (i * 2) (.string y1)).set (i * 2 + 1) (.string y2) = labCells ((revLb l i).set i (y1, y2)) := labCells_set (revLb l i) i (y1, y2)
        have e2 : ((labCells ((revLb l i).set i (y1, y2))).set (j * 2) (.string x1)).set (j * 2 + 1) (.string x2) = labCells (((revLb l i).set i (y1, y2)).set j (x1, x2)) := labCells_set ((revLb l i).set i (y1, y2)) j (x1, x2)
        rw [e1, e2, HSt.out] at h4
        have hS : ∀ (wy : World) (o : Nat) (v : Value), Mods (fun k => (Value.slice (some ⟨g, 0, none⟩) l.length cl).ownBlock = some k) wy (wy.setCell ⟨g, o, none⟩ v) := fun wy o v => Mods.set _ _ _ _ (fun _ => rfl)
        refine ⟨(Mods.drew (fun _ => False) _).owns h4 (fun _ _ e => e), ?_⟩
        exact ((((HM.out.trans (hS _ _ _) (fun _ _ e => e)).trans (hS _ _ _) (fun _ _ e => e)).trans (hS _ _ _) (fun _ _ e => e)).trans (hS _ _ _) (fun _ _ e => e)).trans (Mods.drew _ _) (fun _ _ e => e)
      go_round
      case rel => exact ⟨i + 1, (j : Int) - 1, by go_num, by go_num, by omega, by omega, (HF.out _ rfl).1, (HF.out _ rfl).2⟩
      case measure => simp [intOf]; omega
    · have hd := revLb_done l i (by omega)
      have HD := Lib.hid hd
      clear hd
      go_wp2_with fail
      go_end0
      refine ⟨rfl, ?_, HM.out⟩
      rw [← HD.out]
      exact HR.out
end Go.Proofs.Ytpgdedehhaibmaa

end
