/- ConcatHd, RevSam, CloneSam, in one text. -/
import Derived.Test.YtkodhbkmpnokjaaGreatMrg13
import Derived.Test.YtkodhbkmpnokjaaGreatMrg3
import Derived.Shelf.Spec.SlicesGrow
import Derived.OwnWalk
import Derived.Test.YtkodhbkmpnokjaaGreatMrg2

section
/- Layer 12: slices.Grow of nil and slices.Concat of lists of series: of their two heads. -/
set_option linter.unusedVariables false
set_option maxRecDepth 20000
namespace Go.Proofs.YtkodhbkmpnokjaaGreat
open Go Go.RowKit

theorem hdCells_one (l : List HdS) : ∀ u ∈ hdCells l, u.oneCell' = true := by
  intro u hu
  simp only [hdCells, two, List.mem_flatMap] at hu
  obtain ⟨x, _, hx⟩ := hu
  simp only [List.mem_cons, List.not_mem_nil, or_false] at hx
  rcases hx with rfl | rfl <;> rfl
theorem hdCells_append (a b : List HdS) : hdCells (a ++ b) = hdCells a ++ hdCells b := two_append a b
def PartsAtH (w : World) (vs : List Value) (ps : List (List HdS)) : Prop := vs.length = ps.length ∧ ∀ (i : Nat) (v : Value) (p : List HdS), vs[i]? = some v → ps[i]? = some p → Rd w 2 v p.length (hdCells p)
def renH : Go.Shelf.Ren := ⟨fun | 4 => 50 | n => n, fun | 0 => 0 | 3 => 3 | 4 => 4 | 9 => 9 | 20 => 20 | 22 => 22 | 25 => 37 | n => n, fun n => n⟩
theorem laysH : Go.Proofs.Lays8.n4 Tryz.prog renH := { mixed := by kernel_rfl, f4 := ⟨"slices.Grow[[]tsblock/api.Series,tsblock/api.Series]", by decide, Tryz.func50.trans (congrArg some (by kernel_rfl))⟩, t0 := Tryz.underlying0, a0 := Tryz.isAgg0, z0 := Tryz.sizeOf0, v0 := Tryz.zeroValue0, t3 := Tryz.underlying3, a3 := Tryz.isAgg3, z3 := Tryz.sizeOf3, v3 := Tryz.zeroValue3, t4 := Tryz.underlying4, a4 := Tryz.isAgg4, z4 := Tryz.sizeOf4, v4 := Tryz.zeroValue4, t9 := Tryz.underlying9, a9 := Tryz.isAgg9, z9 := Tryz.sizeOf9, v9 := Tryz.zeroValue9, t20 := Tryz.underlying20, a20 := Tryz.isAgg20, z20 := Tryz.sizeOf20, v20 := Tryz.zeroValue20, t22 := Tryz.underlying22, a22 := Tryz.isAgg22, z22 := Tryz.sizeOf22, v22 := Tryz.zeroValue22 }
theorem infoSer : (Tryz.prog.info? 37).map (fun i => (i.zero, i.size, i.bytes)) = some (some (.agg #[.slice none 0 0, .slice none 0 0]), 2, 48) := by kernel_rfl

theorem grow_hd (n : Nat) (hn : n ≤ 1000000) (w : World) :
    Calls Tryz.prog 50 #[.slice none 0 0, .int .i64 (n : Int)] w fun e w' => ∃ r, e = .returned r ∧ Made w w' 37 2 r 0 [] := by
  by_cases h0 : n = 0
  · subst h0
    refine (Any8.slices_Grow_room laysH none 0 0 0 w (Nat.le_refl _) (by omega) (by omega) (by omega)).mono ?_
    rintro e w' ⟨rfl, rfl⟩
    exact ⟨_, rfl, World.ownsRow_nil _ _ _ _, Below.refl _ _⟩
  · obtain ⟨i0, hi, hz0, hz1, hz2⟩ := info_parts infoSer
    refine (Any8.slices_Grow_grow laysH i0 (.agg #[.slice none 0 0, .slice none 0 0]) hi hz0 (by omega) none 0 0 n [] w (Nat.le_refl _) (by omega) (by rw [hz2]; omega) (by omega) (by simp) (fun _ => rfl) (fun a e => by cases e)).mono ?_
    rintro e w' ⟨rfl, rfl⟩
    have hge := grownCap_ge w (0 + n) 0 37
    refine ⟨_, rfl, ⟨rfl, Or.inr ⟨w.heap.size, _, _, rfl, Nat.le_refl _, heap_alloc_new w.drew _, Nat.zero_le _, grownCap_le_maxLen w (0 + n) 0 _ (by unfold maxLen; omega), ?_, by simp⟩⟩, ?_⟩
    · have h1 : (Value.agg #[.slice none 0 0, .slice none 0 0]).cells.size = 2 := rfl
      simp only [Array.size_append, size_zeroCells, h1, List.size_toArray, List.length_nil]
      show 0 + (0 + n - 0) * 2 + (grownCap w (0 + n) 0 37 - (0 + n)) * 2 = grownCap w (0 + n) 0 37 * 2
      omega
    · exact (Below.drew (Below.refl _ w)).alloc (Nat.le_refl _) _

/-- The first i parts in a row; all of them. -/
def flatToH (ps : List (List HdS)) (i : Nat) : List HdS := (ps.take i).flatten
def flatAllH (ps : List (List HdS)) : List HdS := ps.flatten
theorem flat_zeroH (ps : List (List HdS)) : flatToH ps 0 = [] := rfl
theorem flat_allH (ps : List (List HdS)) (n : Nat) (h : n = ps.length) : flatToH ps n = flatAllH ps := by subst h; rw [flatToH, flatAllH, List.take_of_length_le (Nat.le_refl _)]
theorem flat_take_lengthH (ps : List (List HdS)) (i : Nat) : (flatToH ps i).length ≤ (flatAllH ps).length := by
  rw [flatToH, flatAllH]
  conv => rhs; rw [← List.take_append_drop i ps]
  rw [List.flatten_append, List.length_append]; omega
theorem flat_take_succH (ps : List (List HdS)) (i : Nat) (p : List HdS) (h : ps[i]? = some p) : flatToH ps (i + 1) = flatToH ps i ++ p := by
  rw [flatToH, flatToH, List.take_add_one, h, List.flatten_append]; simp
theorem PartsAtH.below {w w' : World} {vs : List Value} {ps : List (List HdS)} (h : PartsAtH w vs ps) (hb : Below w.heap.size w w') : PartsAtH w' vs ps := ⟨h.1, fun i v p h1 h2 => (h.2 i v p h1 h2).below hb⟩

set_option maxHeartbeats 2000000 in
theorem concat_hd (rv : Value) (vs : List Value) (ps : List (List HdS)) (w : World) (hr : Rd w 1 rv vs.length vs) (hp : PartsAtH w vs ps) (hn : (flatAllH ps).length ≤ 1000000) (hc : vs.length ≤ 1000000) :
    Calls Tryz.prog 23 #[rv] w fun e w' => ∃ r, e = .returned r ∧ Made w w' 37 2 r (flatAllH ps).length (hdCells (flatAllH ps)) := by
  have HR := Lib.hid hr; have HP := Lib.hid hp; have HN := Lib.hid hn
  obtain ⟨pl, cl, hv⟩ := hr.shape
  subst hv
  have hci : (vs.length : Int) ≤ 1000000 := by omega
  clear hr hp hn hc
  go_enter Tryz.func23, Tryz.ntmps23
  go_wp2_with fail
  go_loop [3, 11] (fun sv iv => ∃ i : Nat, i ≤ vs.length ∧ iv = .int .i64 (i : Int) ∧ sv = .int .i64 (((flatToH ps i).length : Nat) : Int)) (fun _ iv => vs.length - (intOf iv).toNat)
  case atStart => exact ⟨0, Nat.zero_le _, rfl, rfl⟩
  case round =>
    obtain ⟨i, hi, rfl, rfl⟩ := hrel
    have hib : (i : Int) ≤ 1000000 := by omega
    by_cases hlt : i < vs.length
    · have hlt' : (i : Int) < (vs.length : Int) := by omega
      obtain ⟨v, hv⟩ : ∃ v, vs[i]? = some v := ⟨_, List.getElem?_eq_getElem hlt⟩
      obtain ⟨p, hpi⟩ : ∃ p, ps[i]? = some p := ⟨_, List.getElem?_eq_getElem (by rw [← HP.out.1]; exact hlt)⟩
      have hRv := HP.out.2 i v p hv hpi
      obtain ⟨pp, cp, he⟩ := hRv.shape
      subst he
      obtain ⟨b, off, c', e, hnc, hncm, hcell⟩ := HR.out.at (fun e => by rw [e] at hlt; cases hlt)
      simp only [Value.slice.injEq] at e
      obtain ⟨rfl, _, rfl⟩ := e
      have hct : w.cell? ⟨b, off + i, none⟩ = some (.slice pp p.length cp) := hcell i _ hv
      have HS := Lib.hid (flat_take_succH ps i p hpi)
      have hl1 := flat_take_lengthH ps i
      have hl2 := flat_take_lengthH ps (i + 1)
      rw [HS.out, List.length_append] at hl2
      have hx := HN.out
      have HL : Hid ((flatToH ps (i + 1)).length = (flatToH ps i).length + p.length) := by show _ = _; rw [HS.out, List.length_append]
      generalize (flatToH ps i).length = S at *
      have hs : (S : Int) ≤ 1000000 := by omega
      have hp1 : (p.length : Int) ≤ 1000000 := by omega
      clear hcell hnc hncm hv hpi hRv hl1 hl2 hx
      go_wp2_with fail
      go_round
      case rel => exact ⟨i + 1, by omega, by go_num, by rw [HL.out]; go_num⟩
      case measure => simp [intOf]; omega
    · have hlt' : ¬ (i : Int) < (vs.length : Int) := by omega
      obtain rfl : i = vs.length := by omega
      have hall : flatToH ps vs.length = flatAllH ps := flat_allH ps _ HP.out.1
      rw [hall]
      have HGr := Lib.hid (grow_hd (flatAllH ps).length HN.out w)
      clear hall hlt hi
      go_wp2_with fail
      refine HGr.out.mono ?_
      rintro e w1 ⟨r1, rfl, hM⟩
      have HO1 := Lib.hid hM.1
      have HB1 := Lib.hid hM.2
      obtain ⟨p0, k0, hv⟩ := (Rd.of_owns hM.1).shape
      subst hv
      clear hM HGr
      go_wp2_with fail
      go_loopw [6, 27] (fun rv iv wr => ∃ i : Nat, i ≤ vs.length ∧ iv = .int .i64 (i : Int) ∧ Hid (wr.ownsRow w.heap.size 37 2 rv (flatToH ps i).length (hdCells (flatToH ps i))) ∧ Hid (Below w.heap.size w wr)) (fun _ iv _ => vs.length - (intOf iv).toNat)
      case atStart => exact ⟨0, Nat.zero_le _, rfl, HO1.out, HB1.out⟩
      case round =>
        obtain ⟨i, hi, rfl, HX, HBw⟩ := hrel
        have hib : (i : Int) ≤ 1000000 := by omega
        obtain ⟨p9, k9, hv9⟩ := (Rd.of_owns HX.out).shape
        subst hv9
        by_cases hlt : i < vs.length
        · have hlt' : (i : Int) < (vs.length : Int) := by omega
          obtain ⟨v, hv⟩ : ∃ v, vs[i]? = some v := ⟨_, List.getElem?_eq_getElem hlt⟩
          obtain ⟨p, hpi⟩ : ∃ p, ps[i]? = some p := ⟨_, List.getElem?_eq_getElem (by rw [← HP.out.1]; exact hlt)⟩
          have HRv := Lib.hid ((HP.out.2 i v p hv hpi).below HBw.out)
          obtain ⟨pp, cp, he⟩ := HRv.out.shape
          subst he
          obtain ⟨b, off, c', e, hnc, hncm, hcell⟩ := (HR.out.below HBw.out).at (fun e => by rw [e] at hlt; cases hlt)
          simp only [Value.slice.injEq] at e
          obtain ⟨rfl, _, rfl⟩ := e
          have hct : wr.cell? ⟨b, off + i, none⟩ = some (.slice pp p.length cp) := hcell i _ hv
          have HS := Lib.hid (flat_take_succH ps i p hpi)
          have HLb : Hid (((flatToH ps i).length + p.length) * 48 ≤ 140737488355328 ∧ (flatToH ps i).length + p.length ≤ maxLen) := by
            show _ ∧ _
            have hl2 := flat_take_lengthH ps (i + 1)
            rw [HS.out, List.length_append] at hl2
            have := HN.out
            unfold maxLen; omega
          have HOw := Lib.hid (owns_rebase HX.out (base' := 0) (fun _ _ => Nat.zero_le _))
          clear hcell hnc hncm hv hpi
          generalize hA : (flatToH ps i) = A at *
          have HA := Lib.hid hA
          clear hA
          go_wp2_with (at_builtin; refine wpList_extend elemSer _ _ _ _ _ _ _ HOw.out HRv.out (hdCells_one _) HLb.out rfl _ _ rfl rfl rfl ?_)
          intro v8 w8 hown hmods hfr
          have HX8 : Hid (w8.ownsRow w.heap.size 37 2 v8 (flatToH ps (i + 1)).length (hdCells (flatToH ps (i + 1)))) := by
            show World.ownsRow _ _ _ _ _ _ _
            rw [HS.out, List.length_append, hdCells_append]
            refine owns_rebase hown (fun k hk => ?_)
            rcases hfr k hk with e | e
            · exact (HX.out.lt k e).1
            · have := HBw.out.size; omega
          have HB8 : Hid (Below w.heap.size w w8) := HBw.out.trans (hmods.below HBw.out.size (fun k hk e => by have := (HX.out.lt k e).1; omega))
          obtain ⟨p8, k8, hv8⟩ := (Rd.of_owns hown).shape
          subst hv8
          clear hown hmods hfr HOw HRv hct
          go_wp2_with fail
          go_round
          case rel => exact ⟨i + 1, by omega, by go_num, HX8.out, HB8.out⟩
          case measure => simp [intOf]; omega
        · have hlt' : ¬ (i : Int) < (vs.length : Int) := by omega
          obtain rfl : i = vs.length := by omega
          have hall : flatToH ps vs.length = flatAllH ps := flat_allH ps _ HP.out.1
          rw [hall] at HX ⊢
          clear hall hlt hi
          go_wp2_with fail
          go_ret
          exact ⟨_, rfl, HX.out, HBw.out⟩
end Go.Proofs.YtkodhbkmpnokjaaGreat

end

section
/- Layer 12: slices.Reverse of samples. -/
set_option linter.unusedVariables false
set_option maxRecDepth 20000
namespace Go.Proofs.YtkodhbkmpnokjaaGreat
open Go Go.RowKit

theorem samCells_set (d : List Sam) (i : Nat) (y : Sam) : ((samCells d).set (i * 2) (.int .i64 y.1)).set (i * 2 + 1) (.int .u64 (y.2 : Int)) = samCells (d.set i y) := two_set d i y
def samZ : Sam := (0, 0)
/-- The list when i pairs have been exchanged. -/
def revSm (l : List Sam) (i : Nat) : List Sam := (List.range l.length).map fun k => if k < i ∨ l.length ≤ k + i then l.getD (l.length - 1 - k) samZ else l.getD k samZ
theorem revSm_length (l : List Sam) (i : Nat) : (revSm l i).length = l.length := by simp [revSm]
theorem revSm_get (l : List Sam) (i k : Nat) (h : k < l.length) : (revSm l i)[k]? = some (if k < i ∨ l.length ≤ k + i then l.getD (l.length - 1 - k) samZ else l.getD k samZ) := by simp [revSm, h]
theorem revSm_zero (l : List Sam) : revSm l 0 = l := by
  apply List.ext_getElem?
  intro k
  by_cases h : k < l.length
  · rw [revSm_get l 0 k h, if_neg (by omega), List.getD_eq_getElem?_getD, List.getElem?_eq_getElem h]; rfl
  · rw [List.getElem?_eq_none (by rw [revSm_length]; omega), List.getElem?_eq_none (by omega)]
theorem revSm_done (l : List Sam) (i : Nat) (h : l.length ≤ 2 * i + 1) : revSm l i = l.reverse := by
  apply List.ext_getElem?
  intro k
  by_cases hk : k < l.length
  · rw [revSm_get l i k hk, List.getElem?_reverse hk]
    have h1 : l.length - 1 - k < l.length := by omega
    split
    · rw [List.getElem?_eq_getElem h1, List.getD_eq_getElem?_getD, List.getElem?_eq_getElem h1]; rfl
    · next hn =>
      have e : l.length - 1 - k = k := by omega
      rw [e, List.getElem?_eq_getElem hk, List.getD_eq_getElem?_getD, List.getElem?_eq_getElem hk]; rfl
  · rw [List.getElem?_eq_none (by rw [revSm_length]; omega), List.getElem?_eq_none (by rw [List.length_reverse]; omega)]
theorem revSm_step (l : List Sam) (i j : Nat) (hj : i + j + 1 = l.length) (h : i < j) : ((revSm l i).set i (l.getD j samZ)).set j (l.getD i samZ) = revSm l (i + 1) := by
  apply List.ext_getElem?
  intro k
  by_cases hk : k < l.length
  · rw [revSm_get l (i + 1) k hk]
    by_cases e1 : k = j
    · subst e1
      rw [List.getElem?_set_self (by rw [List.length_set, revSm_length]; omega), if_pos (by omega), show l.length - 1 - k = i by omega]
    · rw [List.getElem?_set_ne (fun e => e1 e.symm)]
      by_cases e2 : k = i
      · subst e2
        rw [List.getElem?_set_self (by rw [revSm_length]; omega), if_pos (by omega), show l.length - 1 - k = j by omega]
      · rw [List.getElem?_set_ne (fun e => e2 e.symm), revSm_get l i k hk]
        congr 1
        by_cases e3 : k < i ∨ l.length ≤ k + i
        · rw [if_pos e3, if_pos (by omega)]
        · rw [if_neg e3, if_neg (by omega)]
  · rw [List.getElem?_eq_none (by rw [List.length_set, List.length_set, revSm_length]; omega), List.getElem?_eq_none (by rw [revSm_length]; omega)]


set_option maxHeartbeats 4000000 in
theorem reverse_sam (base : Nat) (lv : Value) (l : List Sam) (w : World) (hl : w.ownsRow base 42 2 lv l.length (samCells l)) (hn : l.length ≤ 1000000000000) :
    Calls Tryz.prog 25 #[lv] w fun e w' => e = .returned (.tuple #[]) ∧ w'.ownsRow base 42 2 lv l.length (samCells l.reverse) ∧ Mods (fun k => lv.ownBlock = some k) w w' := by
  have HL := Lib.hid hl
  have hni : (l.length : Int) ≤ 1000000000000 := by omega
  obtain ⟨pl, cl, hv⟩ := (Rd.of_owns hl).shape
  subst hv
  clear hl hn
  go_enter Tryz.func25, Tryz.ntmps25
  go_wp2_with fail
  go_loopw [2, 3] (fun iv jv wr => ∃ (i : Nat) (j : Int), iv = .int .i64 (i : Int) ∧ jv = .int .i64 j ∧ (i : Int) + j + 1 = (l.length : Int) ∧ (i : Int) ≤ j + 2 ∧ Hid (wr.ownsRow base 42 2 (.slice pl l.length cl) l.length (samCells (revSm l i))) ∧ Hid (Mods (fun k => (Value.slice pl l.length cl).ownBlock = some k) w wr)) (fun iv _ _ => l.length - (intOf iv).toNat)
  case atStart => exact ⟨0, (l.length : Int) - 1, rfl, by go_num, by omega, by omega, by show World.ownsRow _ _ _ _ _ _ _; rw [revSm_zero]; exact HL.out, Mods.refl _ _⟩
  case round =>
    obtain ⟨i, j, rfl, rfl, hij, hi2, HR, HM⟩ := hrel
    by_cases hlt : (i : Int) < j
    · obtain ⟨j, rfl⟩ : ∃ m : Nat, j = (m : Int) := ⟨j.toNat, by omega⟩
      have hij2 : i + j + 1 = l.length := by omega
      have hltn : i < j := by omega
      have hil : (i : Int) < (l.length : Int) := by omega
      have hjl : (j : Int) < (l.length : Int) := by omega
      have hj0 : (0 : Int) ≤ (j : Int) := by omega
      obtain ⟨g, cap, hvv⟩ : ∃ g cap, (Value.slice pl l.length cl) = .slice (some ⟨g, 0, none⟩) l.length cap := by
        rcases owns_cases HR.out with ⟨_, h0, _⟩ | ⟨g, cap, hv, _⟩
        · omega
        · exact ⟨g, cap, hv⟩
      simp only [Value.slice.injEq] at hvv
      obtain ⟨rfl, _, rfl⟩ := hvv
      have hln := samCells_length (revSm l i)
      rw [revSm_length] at hln
      have hgi : (revSm l i)[i]? = some (l.getD i samZ) := by rw [revSm_get l i i (by omega), if_neg (by omega)]
      have hgj : (revSm l i)[j]? = some (l.getD j samZ) := by rw [revSm_get l i j (by omega), if_neg (by omega)]
      have HSt := Lib.hid (revSm_step l i j hij2 hltn)
      have HIJ : Hid (i ≠ j ∧ i < l.length ∧ j < l.length) := by show _ ∧ _ ∧ _; omega
      generalize l.getD i samZ = x at *
      generalize l.getD j samZ = y at *
      obtain ⟨x1, x2⟩ := x
      obtain ⟨y1, y2⟩ := y
      have hci1 : wr.cell? ⟨g, i * 2, none⟩ = some (.int .i64 x1) := by rw [HR.out.cellAt (i * 2) (by omega)]; exact (samCells_get _ i _ _ hgi).1
      have hci2 : wr.cell? ⟨g, i * 2 + 1, none⟩ = some (.int .u64 (x2 : Int)) := by rw [HR.out.cellAt (i * 2 + 1) (by omega)]; exact (samCells_get _ i _ _ hgi).2
      have hcj1 : wr.cell? ⟨g, j * 2, none⟩ = some (.int .i64 y1) := by rw [HR.out.cellAt (j * 2) (by omega)]; exact (samCells_get _ j _ _ hgj).1
      have hcj2 : wr.cell? ⟨g, j * 2 + 1, none⟩ = some (.int .u64 (y2 : Int)) := by rw [HR.out.cellAt (j * 2 + 1) (by omega)]; exact (samCells_get _ j _ _ hgj).2
      have hfi1 := HR.out.frozenAt (i * 2)
      have hfi2 := HR.out.frozenAt (i * 2 + 1)
      have hfj1 := HR.out.frozenAt (j * 2)
      have hfj2 := HR.out.frozenAt (j * 2 + 1)
      clear hij2 hltn hgi hgj hln
      go_wp2_with fail
      go_big_region
      go_wp2_with fail
      have HF : Hid (∀ wz, wz = ((((wr.setCell ⟨g, i * 2, none⟩ (.int .i64 y1)).setCell ⟨g, i * 2 + 1, none⟩ (.int .u64 (y2 : Int))).setCell ⟨g, j * 2, none⟩ (.int .i64 x1)).setCell ⟨g, j * 2 + 1, none⟩ (.int .u64 (x2 : Int))).drew → wz.ownsRow base 42 2 (.slice (some ⟨g, 0, none⟩) l.length cl) l.length (samCells (revSm l (i + 1))) ∧ Mods (fun k => (Value.slice (some ⟨g, 0, none⟩) l.length cl).ownBlock = some k) w wz) := by
        rintro wz rfl
        have h1 := (HR.out.stored (i * 2) (.int .i64 y1)).1
        have h2 := (h1.stored (i * 2 + 1) (.int .u64 (y2 : Int))).1
        have h3 := (h2.stored (j * 2) (.int .i64 x1)).1
        have h4 := (h3.stored (j * 2 + 1) (.int .u64 (x2 : Int))).1
        have e1 : ((samCells (revSm l i)).set (i * 2) (.int .i64 y1)).set (i * 2 + 1) (.int .u64 (y2 : Int)) = samCells ((revSm l i).set i (y1, y2)) := samCells_set (revSm l i) i (y1, y2)
        have e2 : ((samCells ((revSm l i).set i (y1, y2))).set (j * 2) (.int .i64 x1)).set (j * 2 + 1) (.int .u64 (x2 : Int)) = samCells (((revSm l i).set i (y1, y2)).set j (x1, x2)) := samCells_set ((revSm l i).set i (y1, y2)) j (x1, x2)
        rw [e1, e2, HSt.out] at h4
        have hS : ∀ (wy : World) (o : Nat) (v : Value), Mods (fun k => (Value.slice (some ⟨g, 0, none⟩) l.length cl).ownBlock = some k) wy (wy.setCell ⟨g, o, none⟩ v) := fun wy o v => Mods.set _ _ _ _ (fun _ => rfl)
        refine ⟨(Mods.drew (fun _ => False) _).owns h4 (fun _ _ e => e), ?_⟩
        exact ((((HM.out.trans (hS _ _ _) (fun _ _ e => e)).trans (hS _ _ _) (fun _ _ e => e)).trans (hS _ _ _) (fun _ _ e => e)).trans (hS _ _ _) (fun _ _ e => e)).trans (Mods.drew _ _) (fun _ _ e => e)
      go_round
      case rel => exact ⟨i + 1, (j : Int) - 1, by go_num, by go_num, by omega, by omega, (HF.out _ rfl).1, (HF.out _ rfl).2⟩
      case measure => simp [intOf]; omega
    · have hd := revSm_done l i (by omega)
      have HD := Lib.hid hd
      clear hd
      go_wp2_with fail
      go_end0
      refine ⟨rfl, ?_, HM.out⟩
      rw [← HD.out]
      exact HR.out
end Go.Proofs.YtkodhbkmpnokjaaGreat

end

section
/- Layer 9: slices.Clone of samples. -/
set_option linter.unusedVariables false
namespace Go.Proofs.YtkodhbkmpnokjaaGreat
open Go Go.RowKit

set_option maxHeartbeats 400000 in
/-- slices.Clone. -/
theorem clone_sam (v : Value) (l : List (Int × Nat)) (w : World) (h : Rd w 2 v l.length (samCells l)) (hn : l.length ≤ 8796093022208) :
    Calls Tryz.prog 24 #[v] w fun e w' => ∃ r, e = .returned r ∧ Made w w' 42 2 r l.length (samCells l) := by
  have hq : ∀ (w : World) (a : Option Addr) (n c n' c' : Nat), (binOp .eql 35 (.slice a n c) (.slice none n' c')).run Tryz.prog w = .ok (.bool a.isNone) w := fun w a n c n' c' => Lib.run_eql_slice_nil w _ _ a n c n' c' Tryz.underlying35
  obtain ⟨p, c, hv⟩ := h.shape
  subst hv
  cases p with
  | none =>
    obtain ⟨_, _, e, hl, _, _, hnil, _⟩ := h
    simp only [Value.slice.injEq] at e
    obtain ⟨rfl, _, rfl⟩ := e
    obtain ⟨h0, rfl⟩ := hnil rfl
    obtain rfl : l = [] := List.eq_nil_of_length_eq_zero h0
    go_enter Tryz.func24, Tryz.ntmps24
    go_wp2
    go_ret
    exact ⟨_, rfl, World.ownsRow_nil _ _ _ _, Below.refl _ _⟩
  | some ad =>
    have HB : Hid (Below w.heap.size w (w.alloc (.cells #[] 42))) := (Below.refl _ _).alloc (Nat.le_refl _) _
    have HR := Lib.hid (h.below HB.out)
    clear h
    have HO : Hid ((w.alloc (.cells #[] 42)).ownsRow 0 42 2 (.slice (some ⟨w.heap.size, 0, none⟩) 0 0) 0 []) := World.ownsRow_lit (base := 0) w #[] 0 (Nat.zero_le _) (by simp [maxLen]) (by simp)
    have HL : Hid ((0 + l.length) * 16 ≤ 140737488355328 ∧ 0 + l.length ≤ maxLen) := by show _ ∧ _; unfold maxLen; omega
    go_enter Tryz.func24, Tryz.ntmps24
    go_wp2_with (at_builtin; refine wpList_extend elemSam _ _ _ _ _ _ _ HO.out HR.out (samCells_one _) HL.out rfl _ _ rfl rfl rfl ?_)
    intro v' w1 hown hmods hfr
    have HM : Hid (Made w w1 42 2 v' l.length (samCells l)) := by
      refine ⟨?_, HB.out.trans (hmods.below HB.out.size (fun k hk e => by simp [Value.ownBlock] at e; omega))⟩
      try simp only [List.nil_append, Nat.zero_add] at hown
      exact owns_rebase hown (fun k hk => by
        rcases hfr k hk with e | e
        · simp [Value.ownBlock] at e; omega
        · have := HB.out.size; omega)
    clear hown hmods hfr
    go_wp2
    go_ret
    exact ⟨_, rfl, HM.out⟩
end Go.Proofs.YtkodhbkmpnokjaaGreat

end
