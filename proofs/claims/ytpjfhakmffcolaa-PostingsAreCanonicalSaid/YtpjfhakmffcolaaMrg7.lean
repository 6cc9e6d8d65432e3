/- Ref11B, Norm15, Grw, LabCs, Ref11C, RdBlk, Ref15A, Ref14H, Ref14C, Normal, BlkThree, in one text. -/
import Derived.Test.YtpjfhakmffcolaaMrg6
import Derived.Test.YtpjfhakmffcolaaMrg5
import Derived.Test.YtpjfhakmffcolaaMrg1
import Derived.Shelf.SlSortCmp.QuietGrown
import Derived.Test.YtpjfhakmffcolaaMrg2
import Derived.Test.YtpjfhakmffcolaaMrg4

section
/- Layer 11: the reference's Normalize. -/
set_option linter.unusedVariables false
set_option maxRecDepth 20000
namespace Go.Proofs.Ytpjfhakmffcolaa
open Go Go.RowKit

theorem shift_setG2 {α : Type} (d : List α) (k : Nat) (y z : α) (hk : k ≤ d.length) : (d.take k ++ y :: d.drop k).set k z = d.take k ++ z :: d.drop k := by
  have hl : (d.take k).length = k := by rw [List.length_take]; omega
  rw [List.set_append_right _ _ (by omega), hl, Nat.sub_self, List.set_cons_zero]
theorem shift_eqG2 {α : Type} (d : List α) (k : Nat) (z : α) (hz : d[k]? = some z) : d.take (k + 1) ++ z :: d.drop (k + 1) = d.take k ++ z :: d.drop k := by
  have hk := (List.getElem?_eq_some_iff.1 hz).1
  have e : d.drop k = z :: d.drop (k + 1) := by rw [← (List.getElem?_eq_some_iff.1 hz).2, List.getElem_cons_drop]
  rw [List.take_add_one, hz, e, List.append_assoc]
  rfl

set_option maxHeartbeats 8000000 in
theorem ref_norm11 (lv : Value) (l : List Lab) (w : World) (hl : Rd w 2 lv l.length (labCells l)) (hs : ∀ x ∈ l, x.1.size ≤ 9223372036854775807 ∧ x.2.size ≤ 9223372036854775807) (hn : l.length ≤ 100000) :
    Calls Try.prog 32 #[lv] w (GotLb w (normL l)) := by
  have HL := Lib.hid hl; have HS := Lib.hid hs; have HNn := Lib.hid hn
  obtain ⟨pl, cl, hv⟩ := hl.shape
  subst hv
  have hmx : (l.length : Int) ≤ 100000 := by omega
  clear hl hs hn
  go_enter Try.func32, Try.ntmps32
  go_wp2_with fail
  go_loopw [5] (fun iv wr => ∃ (i : Nat), i ≤ l.length ∧ iv = .int .i64 (i : Int) ∧ Hid (∀ x ∈ l.take i, oneL x = 0) ∧ Hid (Below w.heap.size w wr)) (fun iv _ => l.length - (intOf iv).toNat)
  case atStart => exact ⟨0, Nat.zero_le _, rfl, (by intro x hx; simp at hx), Below.refl _ _⟩
  case round =>
    obtain ⟨i, hi, rfl, HF, HB⟩ := hrel
    have him : (i : Int) ≤ 100000 := by omega
    by_cases hlt : i < l.length
    · have hlt' : (i : Int) < (l.length : Int) := by omega
      obtain ⟨⟨n, v⟩, hx⟩ : ∃ x, l[i]? = some x := ⟨_, List.getElem?_eq_getElem hlt⟩
      obtain ⟨b, off, e⟩ := rd2_at HL.out hx
      subst e
      obtain ⟨c0, c1⟩ := rd2_cell (HL.out.below HB.out) hx
      have HOn := Lib.hid (fun w' => ref_one11 n v w' (HS.out _ (List.mem_of_getElem? hx)).1 (HS.out _ (List.mem_of_getElem? hx)).2)
      have HX := Lib.hid hx
      clear hx
      go_wp2_with fail
      refine (HOn.out _).mono ?_
      rintro e w2 ⟨rfl, hB⟩
      have HBw := Lib.hid (HB.out.trans (hB.mono HB.out.size))
      clear c0 c1 hB HOn
      by_cases he : oneL (n, v) = 0
      · have HF2 : Hid (∀ x ∈ l.take (i + 1), oneL x = 0) := by
          intro x hx
          rw [List.take_add_one, HX.out] at hx
          rcases List.mem_append.1 hx with e | e
          · exact HF.out x e
          · simp at e; subst e; exact he
        rw [he]
        clear he
        go_wp2_with fail
        go_round
        case rel => exact ⟨i + 1, by omega, by go_num, HF2.out, HBw.out⟩
        case measure => simp [intOf]; omega
      · have he1 : ¬ (oneL (n, v) : Int) = 0 := by omega
        have heb : ((oneL (n, v) : Int) == 0) = false := by rw [beq_eq_false_iff_ne]; exact he1
        have HE : Hid (normL l = (oneL (n, v), [])) := by
          show _ = _
          have h := firstErr_at HF.out HX.out he
          rw [normL, h, if_pos he]
        clear he
        generalize oneL (n, v) = e at *
        go_wp2_with fail
        go_ret2
        exact GotLb.fails HBw.out HE.out
    · have hlt' : ¬ (i : Int) < (l.length : Int) := by omega
      have HN0 : Hid (normL l = match putL [] l with
          | none => (18, [])
          | some out => (0, out)) := by
        show _ = _
        have h := HF.out
        rw [List.take_of_length_le (by omega)] at h
        rw [normL, if_neg (not_not_intro ((firstErr_zero l).2 h))]
        cases putL [] l <;> rfl
      have HOn := Lib.hid HB.out
      go_wp2_with fail
      clear hlt' hlt hi him HF
      generalize (i : Int) = i0 at *
      go_loopw [4, 7] (fun vv iv wr => ∃ (j : Nat) (d : List Lab), j ≤ l.length ∧ iv = .int .i64 (j : Int) ∧ Hid (OwnL w wr d vv) ∧ Hid (putL [] l = putL d (l.drop j) ∧ AscB ltN d ∧ d.length ≤ j)) (fun _ iv _ => l.length - (intOf iv).toNat)
      case atStart => exact ⟨0, [], by omega, rfl, (Own2.nil w).below HB.out, rfl, List.Pairwise.nil, Nat.le_refl _⟩
      case round =>
        obtain ⟨j, d, hj, rfl, HO, HInv⟩ := hrel
        have HPut := Lib.hid HInv.out.1
        have HA := Lib.hid HInv.out.2.1
        by_cases hlt : j < l.length
        · have hlt' : (j : Int) < (l.length : Int) := by omega
          have hji : (j : Int) ≤ 100000 := by omega
          obtain ⟨⟨xn, xv⟩, hx⟩ : ∃ x, l[j]? = some x := ⟨_, List.getElem?_eq_getElem hlt⟩
          obtain ⟨b, off, e⟩ := rd2_at HL.out hx
          subst e
          have HCt : Hid (∀ w', Below w.heap.size w w' → w'.cell? ⟨b, off + j * 2, none⟩ = some (.string xn) ∧ w'.cell? ⟨b, off + j * 2 + 1, none⟩ = some (.string xv)) := fun w' hb => rd2_cell (HL.out.below hb) hx
          have HDr : Hid (l.drop j = (xn, xv) :: l.drop (j + 1)) := by show _ = _; rw [List.drop_eq_getElem_cons hlt, (List.getElem?_eq_some_iff.1 hx).2]
          clear hx
          obtain ⟨pv, cv, hvv⟩ := HO.out.shape
          subst hvv
          obtain ⟨N, hN⟩ : ∃ N, d.length = N := ⟨_, rfl⟩
          have HNj : Hid (N ≤ j) := by show _ ≤ _; rw [← hN]; exact HInv.out.2.2
          rw [hN] at HO ⊢
          have HNe : Hid (d.length = N) := hN
          clear hN HInv
          have HD : Hid (N ≤ 100000) := by show _ ≤ _; have := HNj.out; omega
          have hNi : (N : Int) ≤ 100000 := by have := HD.out; omega
          go_wp2_with fail
          go_loopw [8] (fun kv wr2 => ∃ (k : Nat), k ≤ N ∧ kv = .int .i64 (k : Int) ∧ Hid (∀ z ∈ d.take k, ltN z (xn, xv) = true) ∧ Hid (OwnL w wr2 d (.slice pv N cv))) (fun kv _ => N - (intOf kv).toNat)
          case atStart => exact ⟨0, Nat.zero_le _, rfl, (by intro z hz; simp at hz), HO.out⟩
          case round =>
            obtain ⟨k, hkN, rfl, HLo, HO2⟩ := hrel
            have hki : (k : Int) ≤ 100000 := by omega
            obtain ⟨cx, cy⟩ := HCt.out wr HO2.out.bel
            by_cases hk : k < N
            · have hk' : (k : Int) < (N : Int) := by omega
              obtain ⟨g0, cap0, hv0⟩ : ∃ g cap, (Value.slice pv N cv) = .slice (some ⟨g, 0, none⟩) N cap := by
                rcases owns_cases HO2.out.row with ⟨_, h0, _⟩ | ⟨g, cap, hv, _⟩
                · have := HNe.out; omega
                · rw [HNe.out] at hv; exact ⟨g, cap, hv⟩
              simp only [Value.slice.injEq] at hv0
              obtain ⟨rfl, _, rfl⟩ := hv0
              obtain ⟨⟨yn, yv⟩, hy⟩ : ∃ y, d[k]? = some y := ⟨_, List.getElem?_eq_getElem (by have := HNe.out; omega)⟩
              obtain ⟨⟨dy, _⟩, _⟩ := HO2.out.cell hy
              have HYd : Hid (d.drop k = (yn, yv) :: d.drop (k + 1)) := by show _ = _; rw [List.drop_eq_getElem_cons (by have := HNe.out; omega), (List.getElem?_eq_some_iff.1 hy).2]
              have HYt : Hid (d.take (k + 1) = d.take k ++ [(yn, yv)]) := by show _ = _; rw [List.take_add_one, hy]; rfl
              have HYm : Hid ((yn, yv) ∈ d) := List.mem_of_getElem? hy
              clear hy
              by_cases hyx : ltS yn xn = true
              · have hcmp : Op.bytesLess yn.toList xn.toList = true := hyx
                have HLo2 : Hid (∀ z ∈ d.take (k + 1), ltN z (xn, xv) = true) := by
                  show ∀ z ∈ _, _
                  rw [HYt.out]
                  intro z hz
                  rcases List.mem_append.1 hz with e | e
                  · exact HLo.out z e
                  · simp only [List.mem_singleton] at e; subst e; exact hyx
                clear hyx
                go_wp2_with fail
                go_quiet (fail)
                have HO3 := Lib.hid (HO2.out.drewN nq)
                clear cx cy dy HO2 HLo
                generalize wr.drewN nq = wn at *
                go_wp2_with fail
                go_round
                case rel => exact ⟨k + 1, by omega, by go_num, HLo2.out, HO3.out⟩
                case measure => simp [intOf]; omega
              · have hcmp0 : ltS yn xn = false := by simpa using hyx
                have hcmp : Op.bytesLess yn.toList xn.toList = false := hcmp0
                have HYX := Lib.hid hcmp0
                clear hcmp0 hyx
                by_cases heq : yn = xn
                · subst heq
                  have HE : Hid (normL l = (18, [])) := by
                    show _ = _
                    rw [HN0.out, HPut.out, HDr.out, putL, if_pos ⟨(yn, yv), HYm.out, rfl⟩]
                  have hse : (yn.toList == yn.toList) = true := by simp
                  go_wp2_with fail
                  go_quiet (fail)
                  have HO3 := Lib.hid (HO2.out.drewN nq)
                  have cx2 : (wr.drewN nq).cell? ⟨b, off + j * 2, none⟩ = some (.string yn) := cx
                  have dy2 : (wr.drewN nq).cell? ⟨g0, k * 2, none⟩ = some (.string yn) := dy
                  clear cx cy dy HO2
                  generalize wr.drewN nq = wn at *
                  go_wp2_with fail
                  go_quiet (fail)
                  have HO4 := Lib.hid (HO3.out.drewN nq)
                  clear cx2 dy2 HO3
                  generalize wn.drewN nq = wq at *
                  go_wp2_with fail
                  go_ret2
                  exact GotLb.fails HO4.out.bel HE.out
                · have hse : (yn.toList == xn.toList) = false := by rw [eqS]; simpa using heq
                  have hxy : ltS xn yn = true := by
                    rcases Bool.eq_false_or_eq_true (ltS xn yn) with e | e
                    · exact e
                    · exact absurd (ltS_ok.tot yn xn HYX.out e) heq
                  have HHi : Hid (∀ z, (d.drop k).head? = some z → ltN (xn, xv) z = true) := by
                    intro z hz
                    rw [HYd.out] at hz
                    cases hz
                    exact hxy
                  have HNo : Hid (∀ y ∈ d, y.1 ≠ (xn, xv).1) := by
                    intro z hz e
                    have e' : z.1 = xn := e
                    rw [← List.take_append_drop k d] at hz
                    rcases List.mem_append.1 hz with h | h
                    · have h1 : ltS z.1 xn = true := HLo.out z h
                      rw [e', ltS_ok.irr] at h1; cases h1
                    · rw [HYd.out] at h
                      rcases List.mem_cons.1 h with h | h
                      · subst h; exact heq e'
                      · have ha := HA.out
                        rw [← List.take_append_drop k d, HYd.out] at ha
                        have h2 : ltN (yn, yv) z = true := (List.pairwise_cons.1 (List.pairwise_append.1 ha).2.1).1 z h
                        have h3 : ltS xn z.1 = true := ltS_ok.tr _ _ _ hxy h2
                        rw [e', ltS_ok.irr] at h3; cases h3
                  clear heq hxy
                  go_wp2_with fail
                  go_quiet (fail)
                  have HO3 := Lib.hid (HO2.out.drewN nq)
                  have cx2 : (wr.drewN nq).cell? ⟨b, off + j * 2, none⟩ = some (.string xn) := cx
                  have dy2 : (wr.drewN nq).cell? ⟨g0, k * 2, none⟩ = some (.string yn) := dy
                  clear cx cy dy HO2
                  generalize wr.drewN nq = wn at *
                  go_wp2_with fail
                  go_quiet (fail)
                  have HOb := Lib.hid (HO3.out.drewN nq)
                  clear cx2 dy2 HO3
                  generalize wn.drewN nq = wb at *
                  have HP : Hid (insB ltN (xn, xv) d = d.take k ++ (xn, xv) :: d.drop k) := by
                    have e := insB_parts ltN_ok (xn, xv) (d.take k) (d.drop k) HLo.out HHi.out
                    rwa [List.take_append_drop] at e
                  have HPut2 : Hid (putL [] l = putL (insB ltN (xn, xv) d) (l.drop (j + 1))) := by
                    show _ = _
                    rw [HPut.out, HDr.out, putL, if_neg]
                    rintro ⟨y, hy, e⟩
                    exact HNo.out y hy e
                  have HA2 : Hid (AscB ltN (insB ltN (xn, xv) d)) := insN_asc (xn, xv) d HNo.out HA.out
                  have HL2 : Hid ((insB ltN (xn, xv) d).length ≤ j + 1) := by show _ ≤ _; have := insB_le (lt := ltN) (xn, xv) d; have := HNe.out; have := HNj.out; omega
                  have HLb : Hid ((N + 1) * 32 ≤ 140737488355328 ∧ N + 1 ≤ maxLen) := by show _ ∧ _; have := HD.out; unfold maxLen; omega
                  have HOv : Hid (wb.ownsRow 0 34 2 (.slice (some ⟨g0, 0, none⟩) N cv) N (labCells d)) := by
                    have h := HOb.out.base0
                    rw [HNe.out] at h
                    exact h
                  obtain ⟨cx, cy⟩ := HCt.out wb HOb.out.bel
                  go_wp2_with (at_builtin; refine wpList_push elemLab _ #[.string xn, .string xv] _ _ _ HOv.out rfl (by simp [Value.oneCell']) HLb.out rfl _ _ rfl rfl rfl ?_)
                  intro v1 w1 k1 m1 f1
                  have HO1 : Hid (OwnL w w1 (d ++ [(xn, xv)]) v1) := HOb.out.pushed (by rw [HNe.out]; exact k1) m1 f1
                  obtain ⟨g, c1, hv1⟩ : ∃ g cap, v1 = .slice (some ⟨g, 0, none⟩) (N + 1) cap := by
                    rcases owns_cases k1 with ⟨_, h0, _⟩ | ⟨g, cap, hv, _⟩
                    · omega
                    · exact ⟨g, cap, hv⟩
                  subst hv1
                  clear k1 m1 f1 HOv HOb cx cy
                  go_wp2_with fail
                  go_loopw [9] (fun mv wr2 => ∃ (m : Nat) (y : Lab), k ≤ m ∧ m ≤ N ∧ mv = .int .i64 (m : Int) ∧ Hid (OwnL w wr2 (d.take m ++ y :: d.drop m) (.slice (some ⟨g, 0, none⟩) (N + 1) c1))) (fun mv _ => (intOf mv).toNat)
                  case atStart => exact ⟨N, (xn, xv), hkN, Nat.le_refl _, rfl, by
                    show OwnL _ _ _ _
                    rw [List.drop_of_length_le (by have := HNe.out; omega), List.take_of_length_le (by have := HNe.out; omega)]
                    exact HO1.out⟩
                  case round =>
                    obtain ⟨m, ⟨yn, yv⟩, hkm, hmN, rfl, HO2⟩ := hrel
                    have hmi : (m : Int) ≤ 1000000 := by have := HD.out; omega
                    have hmN' : (m : Int) < (N : Int) + 1 := by omega
                    obtain ⟨⟨cm0, cm1⟩, fm0, fm1⟩ := HO2.out.cell (i := m) (x := (yn, yv)) (by rw [List.getElem?_append_right (by rw [List.length_take]; omega), List.length_take, Nat.min_eq_left (by have := HNe.out; omega), Nat.sub_self]; rfl)
                    obtain ⟨cx, cy⟩ := HCt.out wr HO2.out.bel
                    by_cases hmk : k < m
                    · have hmk' : (k : Int) < (m : Int) := by omega
                      obtain ⟨q, rfl⟩ : ∃ q, m = q + 1 := ⟨m - 1, by omega⟩
                      obtain ⟨⟨zn, zv⟩, hz⟩ : ∃ z, d[q]? = some z := ⟨_, List.getElem?_eq_getElem (by have := HNe.out; omega)⟩
                      have HZe := Lib.hid hz
                      obtain ⟨⟨cz0, cz1⟩, _⟩ := HO2.out.cell (i := q) (x := (zn, zv)) (by rw [List.getElem?_append_left (by rw [List.length_take]; have := HNe.out; omega), List.getElem?_take, if_pos (by omega)]; exact hz)
                      have hqs : ((q + 1 : Nat) : Int) - 1 = (q : Int) := by omega
                      have hq0 : (0 : Int) ≤ (q : Int) := by omega
                      have hqi : (q : Int) ≤ 999999 := by omega
                      have HKM : Hid (k ≤ q + 1 ∧ k < q + 1 ∧ q + 1 ≤ N) := ⟨hkm, hmk, hmN⟩
                      have HDn : Hid (OwnL w ((wr.setCell ⟨g, (q + 1) * 2, none⟩ (.string zn)).setCell ⟨g, (q + 1) * 2 + 1, none⟩ (.string zv)) (d.take q ++ (zn, zv) :: d.drop q) (.slice (some ⟨g, 0, none⟩) (N + 1) c1)) := by
                        show OwnL _ _ _ _
                        rw [← shift_eqG2 d q (zn, zv) HZe.out]
                        exact HO2.out.stored (y := (zn, zv)) (shift_setG2 d (q + 1) (yn, yv) (zn, zv) (by have := HNe.out; omega))
                      clear hz hkm hmk hmN hmi HO2
                      go_wp2_with fail
                      go_round
                      case rel => exact ⟨q, (zn, zv), by have := HKM.out; omega, by have := HKM.out; omega, by go_num, HDn.out⟩
                      case measure => simp [intOf]
                    · have hmk2 : m = k := by omega
                      have hmk' : ¬ (k : Int) < (m : Int) := by omega
                      have HOk : Hid (OwnL w wr (d.take k ++ (yn, yv) :: d.drop k) (.slice (some ⟨g, 0, none⟩) (N + 1) c1)) := by
                        have h := HO2.out
                        rw [hmk2] at h
                        exact h
                      rw [hmk2] at cm0 cm1 fm0 fm1
                      have hkN2 : (k : Int) < (N : Int) + 1 := by omega
                      have HDn : Hid (OwnL w ((wr.setCell ⟨g, k * 2, none⟩ (.string xn)).setCell ⟨g, k * 2 + 1, none⟩ (.string xv)) (insB ltN (xn, xv) d) (.slice (some ⟨g, 0, none⟩) (N + 1) c1)) := by
                        show OwnL _ _ _ _
                        rw [HP.out]
                        exact HOk.out.stored (y := (xn, xv)) (shift_setG2 d k (yn, yv) (xn, xv) (by have := HNe.out; omega))
                      clear hmk2 HOk hkm hmk hmN HO2
                      go_wp2_with fail
                      go_round
                      case rel => exact ⟨j + 1, insB ltN (xn, xv) d, by omega, by go_num, HDn.out, ⟨HPut2.out, HA2.out, HL2.out⟩⟩
                      case measure => simp [intOf]; omega
            · obtain rfl : N = k := by omega
              have hk' : ¬ (N : Int) < (N : Int) := by omega
              have HHi : Hid (∀ z, (d.drop N).head? = some z → ltN (xn, xv) z = true) := by
                intro z hz
                rw [List.drop_of_length_le (by have := HNe.out; omega)] at hz
                cases hz
              have HNo : Hid (∀ y ∈ d, y.1 ≠ (xn, xv).1) := by
                intro z hz e
                have e' : z.1 = xn := e
                have h1 : ltS z.1 xn = true := HLo.out z (by rw [List.take_of_length_le (by have := HNe.out; omega)]; exact hz)
                rw [e', ltS_ok.irr] at h1; cases h1
              go_wp2_with fail
              go_quiet (fail)
              have HO3 := Lib.hid (HO2.out.drewN nq)
              clear cx cy HO2
              generalize wr.drewN nq = wn at *
              go_wp2_with fail
              go_quiet (fail)
              have HOb := Lib.hid (HO3.out.drewN nq)
              clear HO3
              generalize wn.drewN nq = wb at *
              have HP : Hid (insB ltN (xn, xv) d = d.take N ++ (xn, xv) :: d.drop N) := by
                have e := insB_parts ltN_ok (xn, xv) (d.take N) (d.drop N) HLo.out HHi.out
                rwa [List.take_append_drop] at e
              have HPut2 : Hid (putL [] l = putL (insB ltN (xn, xv) d) (l.drop (j + 1))) := by
                show _ = _
                rw [HPut.out, HDr.out, putL, if_neg]
                rintro ⟨y, hy, e⟩
                exact HNo.out y hy e
              have HA2 : Hid (AscB ltN (insB ltN (xn, xv) d)) := insN_asc (xn, xv) d HNo.out HA.out
              have HL2 : Hid ((insB ltN (xn, xv) d).length ≤ j + 1) := by show _ ≤ _; have := insB_le (lt := ltN) (xn, xv) d; have := HNe.out; have := HNj.out; omega
              have HLb : Hid ((N + 1) * 32 ≤ 140737488355328 ∧ N + 1 ≤ maxLen) := by show _ ∧ _; have := HD.out; unfold maxLen; omega
              have HOv : Hid (wb.ownsRow 0 34 2 (.slice pv N cv) N (labCells d)) := by
                have h := HOb.out.base0
                rw [HNe.out] at h
                exact h
              obtain ⟨cx, cy⟩ := HCt.out wb HOb.out.bel
              go_wp2_with (at_builtin; refine wpList_push elemLab _ #[.string xn, .string xv] _ _ _ HOv.out rfl (by simp [Value.oneCell']) HLb.out rfl _ _ rfl rfl rfl ?_)
              intro v1 w1 k1 m1 f1
              have HO1 : Hid (OwnL w w1 (d ++ [(xn, xv)]) v1) := HOb.out.pushed (by rw [HNe.out]; exact k1) m1 f1
              obtain ⟨g, c1, hv1⟩ : ∃ g cap, v1 = .slice (some ⟨g, 0, none⟩) (N + 1) cap := by
                rcases owns_cases k1 with ⟨_, h0, _⟩ | ⟨g, cap, hv, _⟩
                · omega
                · exact ⟨g, cap, hv⟩
              subst hv1
              clear k1 m1 f1 HOv HOb cx cy
              go_wp2_with fail
              go_loopw [9] (fun mv wr2 => ∃ (m : Nat) (y : Lab), N ≤ m ∧ m ≤ N ∧ mv = .int .i64 (m : Int) ∧ Hid (OwnL w wr2 (d.take m ++ y :: d.drop m) (.slice (some ⟨g, 0, none⟩) (N + 1) c1))) (fun mv _ => (intOf mv).toNat)
              case atStart => exact ⟨N, (xn, xv), Nat.le_refl _, Nat.le_refl _, rfl, by
                show OwnL _ _ _ _
                rw [List.drop_of_length_le (by have := HNe.out; omega), List.take_of_length_le (by have := HNe.out; omega)]
                exact HO1.out⟩
              case round =>
                obtain ⟨m, ⟨yn, yv⟩, hNm, hmN, rfl, HO2⟩ := hrel
                have hmi : (m : Int) ≤ 1000000 := by have := HD.out; omega
                have hmN' : (m : Int) < (N : Int) + 1 := by omega
                obtain ⟨⟨cm0, cm1⟩, fm0, fm1⟩ := HO2.out.cell (i := m) (x := (yn, yv)) (by rw [List.getElem?_append_right (by rw [List.length_take]; omega), List.length_take, Nat.min_eq_left (by have := HNe.out; omega), Nat.sub_self]; rfl)
                obtain ⟨cx, cy⟩ := HCt.out wr HO2.out.bel
                by_cases hmk : N < m
                · exfalso; omega
                · have hmk2 : m = N := by omega
                  have hmk' : ¬ (N : Int) < (m : Int) := by omega
                  have HOk : Hid (OwnL w wr (d.take N ++ (yn, yv) :: d.drop N) (.slice (some ⟨g, 0, none⟩) (N + 1) c1)) := by
                    have h := HO2.out
                    rw [hmk2] at h
                    exact h
                  rw [hmk2] at cm0 cm1 fm0 fm1
                  have hkN2 : (N : Int) < (N : Int) + 1 := by omega
                  have HDn : Hid (OwnL w ((wr.setCell ⟨g, N * 2, none⟩ (.string xn)).setCell ⟨g, N * 2 + 1, none⟩ (.string xv)) (insB ltN (xn, xv) d) (.slice (some ⟨g, 0, none⟩) (N + 1) c1)) := by
                    show OwnL _ _ _ _
                    rw [HP.out]
                    exact HOk.out.stored (y := (xn, xv)) (shift_setG2 d N (yn, yv) (xn, xv) (by have := HNe.out; omega))
                  clear hmk2 HOk hNm hmk hmN HO2
                  go_wp2_with fail
                  go_round
                  case rel => exact ⟨j + 1, insB ltN (xn, xv) d, by omega, by go_num, HDn.out, ⟨HPut2.out, HA2.out, HL2.out⟩⟩
                  case measure => simp [intOf]; omega
        · have hlt' : ¬ (j : Int) < (l.length : Int) := by omega
          have HE : Hid (normL l = (0, d)) := by
            show _ = _
            rw [HN0.out, HPut.out, List.drop_of_length_le (by omega)]; rfl
          obtain ⟨pv, cv, hvv⟩ := HO.out.shape
          subst hvv
          go_wp2_with fail
          go_ret2
          rw [HE.out]
          exact ⟨⟨_, rfl, HO.out.rd, fun k hk => (HO.out.row.lt k hk).1⟩, HO.out.bel⟩
end Go.Proofs.Ytpjfhakmffcolaa

end

section
/- Layer 15: the statements' normal label sets. -/
set_option linter.unusedVariables false
set_option maxRecDepth 20000
namespace Go.Proofs.Ytpjfhakmffcolaa
open Go Go.RowKit

theorem elemLabs15 : Elem Try.prog 22 36 1 24 := Elem.mk' (z := .slice none 0 0) Try.underlying22 (by kernel_rfl) rfl (by decide)

/-- What normal gives: nothing, or normal label sets in rows that the call has made. -/
def GotN15 (w : World) (l : List (List Lab)) (e : Ending) (w' : World) : Prop :=
  (e = .returned (.tuple #[.slice none 0 0, .int .i64 0]) ∨ ∃ v, e = .returned (.tuple #[v, .int .i64 1]) ∧ ∃ hs, LbAt 36 w w' hs (normsP l) v ∧ SmallP (normsP l)) ∧ Below w.heap.size w w'

set_option maxHeartbeats 4000000 in
theorem norm15 (lv : Value) (l : List (List Lab)) (w : World) (hl : RdBL w lv l) (hz : ∀ s ∈ l, LabSized s) :
    Calls Try.prog 9 #[lv] w (GotN15 w l) := by
  have HL := Lib.hid hl; have HZ := Lib.hid hz
  have hmx := hl.le
  unfold maxLen at hmx
  obtain ⟨pl, cl, hv⟩ := hl.shape
  subst hv
  have hni : (l.length : Int) ≤ 9223372036854775807 := by omega
  clear hl hz hmx
  go_enter Try.func9, Try.ntmps9
  go_wp2_with fail
  go_loopw [4, 5, 12] (fun nv vv iv wr => ∃ (i : Nat) (hs : List Value), i ≤ l.length ∧ iv = .int .i64 (i : Int) ∧ nv = .int .i64 (costP (l.take i) : Int) ∧ costP (l.take i) ≤ 300 ∧ Hid (LbAt 36 w wr hs (normsP (l.take i)) vv) ∧ Hid (∀ s ∈ l.take i, ∀ x ∈ s, x.1.size ≤ 200000 ∧ x.2.size ≤ 200000)) (fun _ _ iv _ => l.length - (intOf iv).toNat)
  case atStart => exact ⟨0, [], Nat.zero_le _, rfl, rfl, Nat.zero_le _, LbAt.nil w, (by intro s hs; simp at hs)⟩
  case round =>
    obtain ⟨i, hs, hi, rfl, rfl, hcost, HN, HS⟩ := hrel
    have him : (i : Int) ≤ 9223372036854775807 := by omega
    obtain ⟨pv, cv, hvv⟩ := HN.out.row.rd.shape
    subst hvv
    by_cases hlt : i < l.length
    · have hlt' : (i : Int) < (l.length : Int) := by omega
      obtain ⟨x, hx⟩ : ∃ x, l[i]? = some x := ⟨_, List.getElem?_eq_getElem hlt⟩
      obtain ⟨ba, oa, p1, k1, e, hal⟩ := HL.out.always hx
      subst e
      have HAl := Lib.hid hal
      obtain ⟨c0, hr⟩ := hal wr HN.out.row.bel
      have hxm : (x.length : Int) ≤ 9223372036854775807 := by have := hr.le; unfold maxLen at this; omega
      have HZx : Hid (LabSized x) := HZ.out x (List.mem_of_getElem? hx)
      have HLg := Lib.hid (fun W h => large11 (.slice p1 x.length k1) x W h HZx.out)
      have HNs := Lib.hid (normsP_step hx)
      have HCs := Lib.hid (costP_step hx)
      have HTk : Hid (l.take (i + 1) = l.take i ++ [x]) := by show _ = _; rw [List.take_add_one, hx]; rfl
      clear hx hal hr
      obtain ⟨c, hc⟩ : ∃ c, costP (l.take i) = c := ⟨_, rfl⟩
      have HC0 := Lib.hid hc
      rw [hc] at hcost HCs ⊢
      clear hc
      by_cases hz : (x.length : Int) ≤ 300
      · by_cases hS : c + (1 + x.length) ≤ 300
        · have hS' : ¬ (300 : Int) < (c : Int) + (1 + (x.length : Int)) := by omega
          have hcs : ((c + (1 + x.length) : Nat) : Int) = (c : Int) + (1 + (x.length : Int)) := by omega
          have hSm : (c : Int) + (1 + (x.length : Int)) ≤ 300 := by omega
          have HC2 : Hid (costP (l.take (i + 1)) = c + (1 + x.length)) := by show _ = _; rw [HCs.out]; omega
          have HCi := Lib.hid hcs
          have HCm : Hid (c + (1 + x.length) ≤ 300) := hS
          have HXl : Hid (x.length ≤ 300) := by show _ ≤ _; omega
          clear hS hcs HCs
          have hrw := (HAl.out wr HN.out.row.bel).2
          have HR0 := Lib.hid hrw
          clear hrw
          go_wp2_with fail
          refine (HLg.out wr HR0.out).mono ?_
          rintro en w2 ⟨hL, hB⟩
          have HN2 := Lib.hid (HN.out.below hB)
          clear hB c0 HN HR0
          rcases hL with rfl | ⟨rfl, _, h3⟩
          · have HBw := Lib.hid HN2.out.row.bel
            go_wp2_with fail
            go_ret2
            exact ⟨Or.inl rfl, HBw.out⟩
          · have HSx := Lib.hid (strings_sized h3)
            have HNm := Lib.hid (ref_norm11 (.slice p1 x.length k1) x w2 (HAl.out w2 HN2.out.row.bel).2 HZx.out (by have := HXl.out; omega))
            have HS2 : Hid (∀ s ∈ l.take (i + 1), ∀ y ∈ s, y.1.size ≤ 200000 ∧ y.2.size ≤ 200000) := by
              intro s hs
              rw [HTk.out] at hs
              rcases List.mem_append.1 hs with f | f
              · exact HS.out s f
              · rw [List.mem_singleton.1 f]; exact HSx.out
            have HLn : Hid (hs.length ≤ 300) := by
              show _ ≤ _
              rw [HN2.out.len]
              have := norms_cost (l.take i)
              have h4 : costP (l.take i) ≤ 300 := by rw [HC0.out]; exact hcost
              have := this h4
              omega
            obtain ⟨⟨o1, o2⟩, ho⟩ : ∃ o, normL x = o := ⟨_, rfl⟩
            rw [ho] at HNm HNs
            clear h3 ho HS HLg HTk HSx
            go_wp2_with fail
            refine HNm.out.mono ?_
            rintro en w3 ⟨⟨r, rfl, hR, hF⟩, hB⟩
            obtain ⟨pr, cr, hrv⟩ := hR.shape
            subst hrv
            have HN3 := Lib.hid (HN2.out.below hB)
            have HR3 := Lib.hid hR
            have HOf : Hid (LabOff (fun j => (Value.slice pv hs.length cv).ownBlock = some j) (.slice pr o2.length cr) o2) := fun _ j hj hv => by have h5 := hF j hj; have h6 := (HN2.out.row.row.lt j hv).2; omega
            try simp only at HNs
            clear hR hF hB HNm HN2
            by_cases h0 : o1 = 0
            · subst h0
              have HNs2 : Hid (normsP (l.take (i + 1)) = normsP (l.take i) ++ [o2]) := by show _ = _; rw [HNs.out]; rfl
              have HOz : Hid (w3.ownsRow 0 36 1 (.slice pv hs.length cv) hs.length hs) := by
                show World.ownsRow _ _ _ _ _ _ _
                have h := HN3.out.row.base0
                rwa [List.map_id'] at h
              have HLz : Hid ((hs.length + 1) * 24 ≤ 140737488355328 ∧ hs.length + 1 ≤ maxLen) := by show _ ∧ _; have := HLn.out; unfold maxLen; omega
              clear HNs
              go_wp2_with (at_builtin; refine wpList_push elemLabs15 w3 #[.slice pr o2.length cr] _ _ _ HOz.out rfl (by simp [Value.oneCell']) HLz.out rfl _ _ rfl rfl rfl ?_)
              intro v4 w4 k1 m1 f1
              have HN4 : Hid (LbAt 36 w w4 (hs ++ [.slice pr o2.length cr]) (normsP (l.take (i + 1))) v4) := by
                show LbAt _ _ _ _ _ _
                rw [HNs2.out]
                exact HN3.out.pushed (h := .slice pr o2.length cr) (s := o2) HR3.out HOf.out k1 m1 f1
              clear k1 m1 f1 HOz HLz
              obtain ⟨p4, c4, hv4⟩ := HN4.out.row.rd.shape
              subst hv4
              go_wp2_with fail
              go_round
              case rel => exact ⟨i + 1, hs ++ [(Value.slice pr o2.length cr : Value)], by omega, by go_num, by rw [HC2.out, HCi.out], by rw [HC2.out]; exact HCm.out, HN4.out, HS2.out⟩
              case measure => simp [intOf]; omega
            · have h0b : ((o1 : Int) == 0) = false := by rw [beq_eq_false_iff_ne]; omega
              have HN4 : Hid (LbAt 36 w w3 hs (normsP (l.take (i + 1))) (.slice pv hs.length cv)) := by
                show LbAt _ _ _ _ _ _
                rw [HNs.out, if_neg h0, List.append_nil]
                exact HN3.out
              clear h0
              go_wp2_with fail
              go_round
              case rel => exact ⟨i + 1, hs, by omega, by go_num, by rw [HC2.out, HCi.out], by rw [HC2.out]; exact HCm.out, HN4.out, HS2.out⟩
              case measure => simp [intOf]; omega
        · have hS' : (300 : Int) < (c : Int) + (1 + (x.length : Int)) := by omega
          have hSm : (c : Int) + (1 + (x.length : Int)) ≤ 601 := by omega
          have HBw := Lib.hid HN.out.row.bel
          clear hS
          go_wp2_with fail
          go_ret2
          exact ⟨Or.inl rfl, HBw.out⟩
      · have hS' : (300 : Int) < (c : Int) + (1 + 300) := by omega
        have HBw := Lib.hid HN.out.row.bel
        go_wp2_with fail
        go_ret2
        exact ⟨Or.inl rfl, HBw.out⟩
    · have hlt' : ¬ (i : Int) < (l.length : Int) := by omega
      have hte : l.take i = l := List.take_of_length_le (by omega)
      rw [hte] at HN HS hcost ⊢
      have HP := Lib.hid (small_norms hcost HS.out)
      clear hte hcost
      generalize costP l = c at *
      go_wp2_with fail
      go_ret2
      exact ⟨Or.inr ⟨_, rfl, hs, HN.out, HP.out⟩, HN.out.row.bel⟩
end Go.Proofs.Ytpjfhakmffcolaa

end

section
/- Draws and new blocks, and nothing else. No program in sight. -/
set_option linter.unusedVariables false
set_option maxRecDepth 20000
namespace Go.Proofs.Ytpjfhakmffcolaa
open Go Go.RowKit


/-- Draws and new blocks, and nothing else. -/
def Grw (w w' : World) : Prop := ∃ q os, w' = Go.Sort.grow (w.drewN q) os

theorem Grw.refl (w : World) : Grw w w := ⟨0, #[], by rw [Go.Sort.grow_empty]; rfl⟩

theorem Grw.trans {a b c : World} (h : Grw a b) (k : Grw b c) : Grw a c := by
  obtain ⟨q, os, rfl⟩ := h
  obtain ⟨r, ps, rfl⟩ := k
  exact ⟨q + r, os ++ ps, by show Go.Sort.grow (Go.Sort.grow ((a.drewN q).drewN r) os) ps = _; rw [Go.Sort.grow_grow, World.drewN_drewN]⟩

theorem Grw.alloc {a b : World} (h : Grw a b) (o : Obj) : Grw a (b.alloc o) := h.trans ⟨0, #[o], by rw [Go.Sort.alloc_eq_grow]; rfl⟩

theorem Grw.drew {a b : World} (h : Grw a b) : Grw a b.drew := h.trans ⟨1, #[], by rw [Go.Sort.grow_empty]; rfl⟩

theorem Grw.drewN {a b : World} (h : Grw a b) (n : Nat) : Grw a (b.drewN n) := h.trans ⟨n, #[], by rw [Go.Sort.grow_empty]⟩

theorem Grw.grow {a b : World} (h : Grw a b) (n : Nat) (os : Array Obj) : Grw a (Go.Sort.grow (b.drewN n) os) := h.trans ⟨n, os, rfl⟩

theorem Grw.below {w w' : World} (h : Grw w w') : Below w.heap.size w w' := by
  obtain ⟨q, os, rfl⟩ := h
  exact ⟨rfl, rfl, rfl, by rw [Go.Sort.size_grow]; exact Nat.le_add_right _ _, fun k hk => Go.Sort.heap_grow_old (w.drewN q) os hk⟩

theorem Grw.size {w w' : World} (h : Grw w w') : w.heap.size ≤ w'.heap.size := h.below.size

theorem Grw.blk {w w' : World} (h : Grw w w') {b : Nat} {cs : List Value} (hb : Blk w b cs) : Blk w' b cs := hb.of_same (h.below.block b hb.lt)
end Go.Proofs.Ytpjfhakmffcolaa

end

section
/- Layer 11: the comparison of lists of labels, one step. No program in sight. -/
set_option linter.unusedVariables false
namespace Go.Proofs.Ytpjfhakmffcolaa
open Go Go.RowKit

theorem cmp_step {a b : List Lab} {i : Nat} {x y : Lab} (ha : a[i]? = some x) (hb : b[i]? = some y) (h : cmpLabs a b = cmpLabs (a.drop i) (b.drop i)) :
    cmpLabs a b = if cmpLab x y = 0 then cmpLabs (a.drop (i + 1)) (b.drop (i + 1)) else cmpLab x y := by
  have h1 : a.drop i = x :: a.drop (i + 1) := by rw [List.drop_eq_getElem_cons (List.getElem?_eq_some_iff.1 ha).1, (List.getElem?_eq_some_iff.1 ha).2]
  have h2 : b.drop i = y :: b.drop (i + 1) := by rw [List.drop_eq_getElem_cons (List.getElem?_eq_some_iff.1 hb).1, (List.getElem?_eq_some_iff.1 hb).2]
  rw [h, h1, h2]; rfl
theorem cmp_end {a b : List Lab} {i : Nat} (hi : i ≤ a.length ∧ i ≤ b.length) (he : ¬ (i < a.length ∧ i < b.length)) (h : cmpLabs a b = cmpLabs (a.drop i) (b.drop i)) :
    cmpLabs a b = if a.length < b.length then -1 else if b.length < a.length then 1 else 0 := by
  rw [h]
  by_cases h1 : i < a.length
  · have h2 : ¬ i < b.length := fun e => he ⟨h1, e⟩
    rw [if_neg (by omega), if_pos (by omega), List.drop_of_length_le (l := b) (by omega), List.drop_eq_getElem_cons h1]; rfl
  · rw [List.drop_of_length_le (l := a) (by omega)]
    by_cases h2 : i < b.length
    · rw [if_pos (by omega), List.drop_eq_getElem_cons h2]; rfl
    · rw [if_neg (by omega), if_neg (by omega), List.drop_of_length_le (by omega)]; rfl
end Go.Proofs.Ytpjfhakmffcolaa

end

section
/- Layer 11: the reference's order and Compare. -/
set_option linter.unusedVariables false
set_option maxRecDepth 20000
namespace Go.Proofs.Ytpjfhakmffcolaa
open Go Go.RowKit

theorem ref_order11 (a b : ByteArray) (w : World) :
    Calls Try.prog 101 #[.string a, .string b] w fun e w' => e = .returned (.int .i64 (ordS a b)) ∧ w' = w := by
  by_cases h1 : ltS a b = true
  · have hcmp : Op.bytesLess a.toList b.toList = true := h1
    have HO : Hid (ordS a b = -1) := if_pos h1
    rw [HO.out]
    clear h1
    go_enter Try.func101, Try.ntmps101
    go_wp2_with fail
    go_ret
    exact ⟨rfl, rfl⟩
  · have h1f : ltS a b = false := by simpa using h1
    have hcmp : Op.bytesLess a.toList b.toList = false := h1f
    by_cases h2 : ltS b a = true
    · have hne : a ≠ b := fun e => by subst e; rw [ltS_ok.irr] at h2; cases h2
      have hgt : binOp .gtr 9 (.string a) (.string b) = pure (.bool true) := by simp [binOp, Op.stringOp, hcmp, eqS, hne]
      have HO : Hid (ordS a b = 1) := by show _ = _; rw [ordS, ordB, if_neg h1, if_pos h2]
      rw [HO.out]
      clear h1 h1f h2 hne
      go_enter Try.func101, Try.ntmps101
      go_wp2_with fail
      go_ret
      exact ⟨rfl, rfl⟩
    · have he : a = b := ltS_ok.tot a b h1f (by simpa using h2)
      have hgt : binOp .gtr 9 (.string a) (.string b) = pure (.bool false) := by simp [binOp, Op.stringOp, he]
      have HO : Hid (ordS a b = 0) := by show _ = _; rw [ordS, ordB, if_neg h1, if_neg h2]
      rw [HO.out]
      clear h1 h1f h2 he
      go_enter Try.func101, Try.ntmps101
      go_wp2_with fail
      go_ret
      exact ⟨rfl, rfl⟩

theorem ordS_dom (a b : ByteArray) : ordS a b = -1 ∨ ordS a b = 0 ∨ ordS a b = 1 := ordS_ok.dom a b

/-- Nothing but draws. -/
def Drw (w w' : World) : Prop := ∃ q, w' = w.drewN q
theorem Drw.below {w w' : World} (h : Drw w w') : Below w.heap.size w w' := by
  obtain ⟨q, rfl⟩ := h
  exact ⟨rfl, rfl, rfl, Nat.le_refl _, fun _ _ => rfl⟩
theorem Drw.step {w w' : World} (h : Drw w w') (n : Nat) : Drw w (w'.drewN n) := by
  obtain ⟨q, rfl⟩ := h
  exact ⟨q + n, World.drewN_drewN ..⟩

set_option maxHeartbeats 4000000 in
theorem ref_compareD (av bv : Value) (a b : List Lab) (w : World) (ha : Rd w 2 av a.length (labCells a)) (hb : Rd w 2 bv b.length (labCells b)) (hna : a.length ≤ 1000000) (hnb : b.length ≤ 1000000) :
    Calls Try.prog 78 #[av, bv] w fun e w' => e = .returned (.int .i64 (cmpLabs a b)) ∧ Drw w w' := by
  have HLa := Lib.hid ha; have HLb := Lib.hid hb
  obtain ⟨pa, ca, hv⟩ := ha.shape
  subst hv
  obtain ⟨pb, cb, hv⟩ := hb.shape
  subst hv
  have hma : (a.length : Int) ≤ 1000000 := by omega
  have hmb : (b.length : Int) ≤ 1000000 := by omega
  clear ha hb hna hnb
  go_enter Try.func78, Try.ntmps78
  go_wp2_with fail
  go_loopw [5] (fun iv wr => ∃ (i : Nat), i ≤ a.length ∧ i ≤ b.length ∧ iv = .int .i64 (i : Int) ∧ Hid (cmpLabs a b = cmpLabs (a.drop i) (b.drop i)) ∧ Hid (Drw w wr)) (fun iv _ => a.length - (intOf iv).toNat)
  case atStart => exact ⟨0, Nat.zero_le _, Nat.zero_le _, rfl, rfl, ⟨0, rfl⟩⟩
  case round =>
    obtain ⟨i, hia, hib, rfl, HC, HB⟩ := hrel
    have him : (i : Int) ≤ 1000000 := by omega
    by_cases h1 : i < a.length
    · have h1' : (i : Int) < (a.length : Int) := by omega
      by_cases h2 : i < b.length
      · have h2' : (i : Int) < (b.length : Int) := by omega
        obtain ⟨⟨xn, xv⟩, hx⟩ : ∃ x, a[i]? = some x := ⟨_, List.getElem?_eq_getElem h1⟩
        obtain ⟨⟨yn, yv⟩, hy⟩ : ∃ y, b[i]? = some y := ⟨_, List.getElem?_eq_getElem h2⟩
        obtain ⟨ba, oa, e⟩ := rd2_at HLa.out hx
        subst e
        obtain ⟨bb, ob, e⟩ := rd2_at HLb.out hy
        subst e
        obtain ⟨c0, c1⟩ := rd2_cell (HLa.out.below HB.out.below) hx
        obtain ⟨d0, d1⟩ := rd2_cell (HLb.out.below HB.out.below) hy
        have HSt := Lib.hid (cmp_step hx hy HC.out)
        clear hx hy HC
        have HO1 := Lib.hid (fun w' => ref_order11 xn yn w')
        have HO2 := Lib.hid (fun w' => ref_order11 xv yv w')
        go_wp2_with fail
        go_quiet ((go_at_call 101; exact Calls.quiet_of_same (HO1.out _)))
        have HB1 : Hid (Drw w (wr.drewN nq)) := HB.out.step nq
        have c1' : (wr.drewN nq).cell? ⟨ba, oa + i * 2 + 1, none⟩ = some (.string xv) := c1
        have d1' : (wr.drewN nq).cell? ⟨bb, ob + i * 2 + 1, none⟩ = some (.string yv) := d1
        clear c0 c1 d0 d1
        generalize wr.drewN nq = w1 at *
        have HD1 := ordS_dom xn yn
        have HD2 := ordS_dom xv yv
        by_cases e1 : ordS xn yn = 0
        · have HSc : Hid (cmpLabs a b = if ordS xv yv = 0 then cmpLabs (a.drop (i + 1)) (b.drop (i + 1)) else ordS xv yv) := by
            show _ = _
            have hc : cmpLab (xn, xv) (yn, yv) = ordS xv yv := if_pos e1
            rw [HSt.out, hc]
          rw [e1]
          clear e1 HD1
          go_wp2_with fail
          go_quiet ((go_at_call 101; exact Calls.quiet_of_same (HO2.out _)))
          have HB2 : Hid (Drw w (w1.drewN nq)) := HB1.out.step nq
          clear c1' d1'
          generalize w1.drewN nq = w2 at *
          by_cases e2 : ordS xv yv = 0
          · rw [if_pos e2] at HSc
            rw [e2]
            clear e2 HD2
            go_wp2_with fail
            go_round
            case rel => exact ⟨i + 1, by omega, by omega, by go_num, HSc.out, HB2.out⟩
            case measure => simp [intOf]; omega
          · rw [if_neg e2] at HSc
            have heb : ((ordS xv yv) == 0) = false := by rw [beq_eq_false_iff_ne]; exact e2
            have HE2 := Lib.hid e2
            clear HD2
            generalize ordS xv yv = o2 at *
            go_wp2_with fail
            go_ret
            exact ⟨by rw [HSc.out]; rfl, HB2.out⟩
        · have HSc : Hid (cmpLabs a b = ordS xn yn) := by
            show _ = _
            have hc : cmpLab (xn, xv) (yn, yv) = ordS xn yn := if_neg e1
            rw [HSt.out, hc, if_neg e1]
          have heb : ((ordS xn yn) == 0) = false := by rw [beq_eq_false_iff_ne]; exact e1
          clear HD1 HD2
          generalize ordS xn yn = o1 at *
          go_wp2_with fail
          go_ret
          exact ⟨by rw [HSc.out]; rfl, HB1.out⟩
      · have h2' : ¬ (i : Int) < (b.length : Int) := by omega
        have HE := Lib.hid (cmp_end ⟨hia, hib⟩ (fun e => h2 e.2) HC.out)
        have hlt : ¬ (a.length : Int) < (b.length : Int) := by omega
        have hgt : (b.length : Int) < (a.length : Int) := by omega
        rw [if_neg (by omega), if_pos (by omega)] at HE
        clear h2
        go_wp2_with fail
        go_ret
        exact ⟨by rw [HE.out]; rfl, HB.out⟩
    · have h1' : ¬ (i : Int) < (a.length : Int) := by omega
      have HE := Lib.hid (cmp_end ⟨hia, hib⟩ (fun e => h1 e.1) HC.out)
      by_cases hl1 : a.length < b.length
      · have hlt : (a.length : Int) < (b.length : Int) := by omega
        rw [if_pos hl1] at HE
        clear hl1 h1
        go_wp2_with fail
        go_ret
        exact ⟨by rw [HE.out]; rfl, HB.out⟩
      · have hlt : ¬ (a.length : Int) < (b.length : Int) := by omega
        rw [if_neg hl1] at HE
        by_cases hl2 : b.length < a.length
        · have hgt : (b.length : Int) < (a.length : Int) := by omega
          rw [if_pos hl2] at HE
          clear hl1 hl2 h1
          go_wp2_with fail
          go_ret
          exact ⟨by rw [HE.out]; rfl, HB.out⟩
        · have hgt : ¬ (b.length : Int) < (a.length : Int) := by omega
          rw [if_neg hl2] at HE
          clear hl1 hl2 h1
          go_wp2_with fail
          go_ret
          exact ⟨by rw [HE.out]; rfl, HB.out⟩
theorem ref_compare11 (av bv : Value) (a b : List Lab) (w : World) (ha : Rd w 2 av a.length (labCells a)) (hb : Rd w 2 bv b.length (labCells b)) (hna : a.length ≤ 1000000) (hnb : b.length ≤ 1000000) :
    Calls Try.prog 78 #[av, bv] w fun e w' => e = .returned (.int .i64 (cmpLabs a b)) ∧ Below w.heap.size w w' :=
  (ref_compareD av bv a b w ha hb hna hnb).mono fun e w' h => ⟨h.1, h.2.below⟩
end Go.Proofs.Ytpjfhakmffcolaa

end

section
/- A row in a block is a row that is read. No program in sight. -/
set_option linter.unusedVariables false
set_option maxRecDepth 100000
namespace Go.Proofs.Ytpjfhakmffcolaa
open Go Go.RowKit


/-- A whole block, read as a slice. -/
theorem Rd.of_blk {w : World} {b n : Nat} {vs : List Value} {sz : Nat} (h : Blk w b vs) (hl : vs.length = n * sz) (hn : n ≤ maxLen) : Rd w sz (.slice (some ⟨b, 0, none⟩) n n) n vs := by
  refine ⟨_, _, rfl, hl, Nat.le_refl _, hn, (fun e => by cases e), fun ad e j u hu => ?_⟩
  cases e
  have e : (⟨b, 0, none⟩ : Addr).add j = ⟨b, j, none⟩ := by unfold Addr.add; split <;> simp_all
  rw [e, h.cell]
  exact hu
end Go.Proofs.Ytpjfhakmffcolaa

end

section
/- Layer 15: the reference's compare. -/
set_option linter.unusedVariables false
set_option maxRecDepth 20000
namespace Go.Proofs.Ytpjfhakmffcolaa
open Go Go.RowKit

theorem cmpLabs_one (x y : Lab) : cmpLabs [x] [y] = cmpLab x y := by
  show (if cmpLab x y = 0 then 0 else cmpLab x y) = cmpLab x y
  split
  · next h => exact h.symm
  · rfl
theorem Drw.grw {w w' : World} (h : Drw w w') : Grw w w' := by
  obtain ⟨n, rfl⟩ := h
  exact (Grw.refl w).drewN n
theorem labOne_rd {w : World} {b : Nat} {x : Lab} (h : Blk w b [.string x.1, .string x.2]) : Rd w 2 (.slice (some ⟨b, 0, none⟩) 1 1) 1 (labCells [x]) := Rd.of_blk (n := 1) h rfl (by simp [maxLen])

set_option maxHeartbeats 2000000 in
theorem ref_compare15 (x y : Lab) (w : World) :
    Calls Try.prog 54 #[.agg #[.string x.1, .string x.2], .agg #[.string y.1, .string y.2]] w fun e w' => e = .returned (.int .i64 (cmpLab x y)) ∧ Grw w w' := by
  obtain ⟨xn, xv⟩ := x
  obtain ⟨yn, yv⟩ := y
  show Calls Try.prog 54 #[.agg #[.string xn, .string xv], .agg #[.string yn, .string yv]] w fun e w' => e = .returned (.int .i64 (cmpLab (xn, xv) (yn, yv))) ∧ Grw w w'
  obtain ⟨w1, hw1⟩ : ∃ w1, w1 = w.alloc (.cells #[.string xn, .string xv] 34) := ⟨_, rfl⟩
  obtain ⟨w2, hw2⟩ : ∃ w2, w2 = w1.alloc (.cells #[.string yn, .string yv] 34) := ⟨_, rfl⟩
  obtain ⟨w3, hw3⟩ : ∃ w3, w3 = w2.alloc (.cells #[.string xn, .string xv] 34) := ⟨_, rfl⟩
  obtain ⟨w4, hw4⟩ : ∃ w4, w4 = w3.alloc (.cells #[.string yn, .string yv] 34) := ⟨_, rfl⟩
  have HG : Hid (Grw w w4) := by show Grw _ _; rw [hw4, hw3, hw2, hw1]; exact ((((Grw.refl w).alloc _).alloc _).alloc _).alloc _
  have hs2 : w2.heap.size = w.heap.size + 2 := by rw [hw2, hw1]; simp
  have hs3 : w3.heap.size = w.heap.size + 3 := by rw [hw3, hw2, hw1]; simp
  have k3 : Blk w4 (w.heap.size + 2) [.string xn, .string xv] := by
    rw [hw4, ← hs2, hw3]; exact (Blk.new w2 _ _).alloc _
  have k4 : Blk w4 (w.heap.size + 3) [.string yn, .string yv] := by
    rw [hw4, ← hs3]; exact Blk.new w3 _ _
  have HC := Lib.hid (ref_compareD _ _ [(xn, xv)] [(yn, yv)] w4 (labOne_rd (x := (xn, xv)) k3) (labOne_rd (x := (yn, yv)) k4) (by simp) (by simp))
  rw [cmpLabs_one] at HC
  have HW : Hid (w4 = (((w.alloc (.cells #[.string xn, .string xv] 34)).alloc (.cells #[.string yn, .string yv] 34)).alloc (.cells #[.string xn, .string xv] 34)).alloc (.cells #[.string yn, .string yv] 34)) := by show _ = _; rw [hw4, hw3, hw2, hw1]
  clear hw1 hw2 hw3 hw4 hs2 hs3 k3 k4
  generalize cmpLab (xn, xv) (yn, yv) = o at *
  go_enter Try.func54, Try.ntmps54
  go_wp2_with fail
  rw [← HW.out]
  refine HC.out.mono ?_
  rintro e w5 ⟨rfl, hG⟩
  have HG5 := Lib.hid (HG.out.trans hG.grw)
  clear hG HC HG HW
  go_wp2_with fail
  go_ret
  exact ⟨rfl, HG5.out⟩
end Go.Proofs.Ytpjfhakmffcolaa

end

section
/- Layer 14: the reference's Has. -/
set_option linter.unusedVariables false
set_option maxRecDepth 20000
namespace Go.Proofs.Ytpjfhakmffcolaa
open Go Go.RowKit


theorem elemInt14 : Elem Try.prog 38 3 1 8 := Elem.mk' (z := .int .i64 0) Try.underlying38 (by kernel_rfl) rfl (by decide)

abbrev OwnI := Own1 3 (fun x : Int => Value.int .i64 x)

/-- A number of a list that is read. -/
theorem rdI_at {w : World} {p : Option Addr} {n c : Nat} {l : List Int} (h : Rd w 1 (.slice p n c) l.length (i64s l)) {i : Nat} {x : Int} (hx : l[i]? = some x) : ∃ b off, p = some ⟨b, off, none⟩ ∧ ∀ w', Below w.heap.size w w' → w'.cell? ⟨b, off + i, none⟩ = some (.int .i64 x) := by
  have hlt := (List.getElem?_eq_some_iff.1 hx).1
  obtain ⟨b, off, c', e, _, _, hc⟩ := h.at (fun e => by have := congrArg List.length e; rw [i64s_length] at this; rw [this] at hlt; simp at hlt)
  simp only [Value.slice.injEq] at e
  have hcell := hc i _ (by rw [i64s, List.getElem?_map, hx]; rfl)
  exact ⟨b, off, e.1, fun w' hb => (hb.cell (World.block_lt_of_cell? w _ hcell)).trans hcell⟩

set_option maxHeartbeats 2000000 in
theorem ref_has14 (lv : Value) (l : List Int) (x : Int) (w : World) (hl : Rd w 1 lv l.length (i64s l)) :
    Calls Try.prog 90 #[lv, .int .i64 x] w fun e w' => e = .returned (.bool (decide (x ∈ l))) ∧ w' = w := by
  have HL := Lib.hid hl
  obtain ⟨pl, cl, hv⟩ := hl.shape
  subst hv
  have hmx : (l.length : Int) ≤ 9223372036854775807 := by have := hl.le; unfold maxLen at this; omega
  clear hl
  go_enter Try.func90, Try.ntmps90
  go_wp2_with fail
  go_loopw [5] (fun iv wr => ∃ (i : Nat), i ≤ l.length ∧ iv = .int .i64 (i : Int) ∧ Hid (x ∉ l.take i) ∧ wr = w) (fun iv _ => l.length - (intOf iv).toNat)
  case atStart => exact ⟨0, Nat.zero_le _, rfl, (by show x ∉ _; simp), rfl⟩
  case round =>
    obtain ⟨i, hi, rfl, HF, rfl⟩ := hrel
    have him : (i : Int) ≤ 9223372036854775807 := by omega
    by_cases hlt : i < l.length
    · have hlt' : (i : Int) < (l.length : Int) := by omega
      obtain ⟨y, hy⟩ : ∃ y, l[i]? = some y := ⟨_, List.getElem?_eq_getElem hlt⟩
      obtain ⟨b, off, e, hcell⟩ := rdI_at HL.out hy
      subst e
      have c0 := hcell wr (Below.refl _ _)
      have HTk : Hid (l.take (i + 1) = l.take i ++ [y]) := by show _ = _; rw [List.take_add_one, hy]; rfl
      have HMy : Hid (y ∈ l) := List.mem_of_getElem? hy
      clear hy hcell
      by_cases hxy : y = x
      · have HD : Hid (decide (x ∈ l) = true) := decide_eq_true (hxy ▸ HMy.out)
        subst hxy
        go_wp2_with fail
        go_ret
        exact ⟨by rw [HD.out]; rfl, rfl⟩
      · have hxb : (y == x) = false := by rw [beq_eq_false_iff_ne]; exact hxy
        have HF2 : Hid (x ∉ l.take (i + 1)) := by
          show x ∉ _
          rw [HTk.out]
          intro h
          rcases List.mem_append.1 h with e | e
          · exact HF.out e
          · simp only [List.mem_singleton] at e; exact hxy e.symm
        clear hlt
        go_wp2_with fail
        go_round
        case rel => exact ⟨i + 1, by omega, by go_num, HF2.out, trivial⟩
        case measure => simp [intOf]; omega
    · have hlt' : ¬ (i : Int) < (l.length : Int) := by omega
      have HD : Hid (decide (x ∈ l) = false) := decide_eq_false (by have h := HF.out; rwa [List.take_of_length_le (by omega)] at h)
      go_wp2_with fail
      go_ret
      exact ⟨by rw [HD.out]; rfl, rfl⟩
end Go.Proofs.Ytpjfhakmffcolaa

end

section
/- Layer 14: the reference's Insert. -/
set_option linter.unusedVariables false
set_option maxRecDepth 20000
namespace Go.Proofs.Ytpjfhakmffcolaa
open Go Go.RowKit

theorem insZ_self {l : List Int} {x : Int} (ha : AscB ltI l) (hx : x ∈ l) : insB ltI x l = l :=
  ext_asc (insB_asc ltI_ok x l ha) ha (fun z => by rw [insB_mem ltI_ok]; exact ⟨fun h => h.elim (fun e => e ▸ hx) id, Or.inr⟩)
theorem insZ_cut {l : List Int} {x : Int} {i : Nat} (hi : i ≤ l.length) (hlo : ∀ z ∈ l.take i, ltI z x = true) (hx : x ∉ l) (hhi : ∀ y, l[i]? = some y → ¬ y < x) : insB ltI x l = l.take i ++ x :: l.drop i := by
  have e := insB_parts ltI_ok.toLtPre x (l.take i) (l.drop i) hlo (fun z hz => by
    rw [List.head?_drop] at hz
    have h1 := hhi z hz
    have h2 : z ≠ x := fun e => hx (e ▸ List.mem_of_getElem? hz)
    simp only [ltI, decide_eq_true_eq]; omega)
  rwa [List.take_append_drop] at e
theorem i64s_drop (l : List Int) (i : Nat) : (i64s l).drop (i * 1) = i64s (l.drop i) := by rw [Nat.mul_one, i64s, i64s, List.map_drop]

set_option maxHeartbeats 4000000 in
theorem ref_insert14 (lv : Value) (l : List Int) (x : Int) (w : World) (hl : Rd w 1 lv l.length (i64s l)) (ha : AscB ltI l) (hn : l.length ≤ 1000000) :
    Calls Try.prog 63 #[lv, .int .i64 x] w fun e w' => (e = .returned lv ∧ insB ltI x l = l ∧ w' = w) ∨ ∃ v, e = .returned v ∧ OwnI w w' (insB ltI x l) v := by
  have HL := Lib.hid hl
  have HA := Lib.hid ha
  have HNl := Lib.hid hn
  have HC := Lib.hid (ref_has14 lv l x w hl)
  obtain ⟨pl, cl, hv⟩ := hl.shape
  subst hv
  clear hl ha hn
  by_cases hin : x ∈ l
  · rw [decide_eq_true hin] at HC
    have HS := Lib.hid (insZ_self HA.out hin)
    clear hin
    go_enter Try.func63, Try.ntmps63
    go_wp2_with fail
    refine HC.out.mono ?_
    rintro en w1 ⟨rfl, hw1⟩
    have HW : Hid (w1 = w) := hw1
    clear HC hw1
    go_wp2_with fail
    go_ret
    exact Or.inl ⟨rfl, HS.out, HW.out⟩
  · rw [decide_eq_false hin] at HC
    have HX := Lib.hid hin
    clear hin
    go_enter Try.func63, Try.ntmps63
    go_wp2_with fail
    refine HC.out.mono ?_
    rintro en w1 ⟨rfl, hw1⟩
    have HW : Hid (w1 = w) := hw1
    clear HC hw1
    go_wp2_with fail
    go_loopw [5, 6] (fun vv iv wr => ∃ (i : Nat), i ≤ l.length ∧ iv = .int .i64 (i : Int) ∧ Hid (∀ z ∈ l.take i, ltI z x = true) ∧ Hid (OwnI w wr (l.take i) vv)) (fun _ iv _ => l.length - (intOf iv).toNat)
    case atStart => exact ⟨0, Nat.zero_le _, rfl, (by intro z hz; simp at hz), by rw [HW.out]; exact Own1.nil w⟩
    case round =>
      obtain ⟨i, hi, rfl, HLo, HO⟩ := hrel
      have him : (i : Int) ≤ 1000000 := by have := HNl.out; omega
      have hlen : (l.take i).length = i := by rw [List.length_take]; omega
      have HLen := Lib.hid hlen
      obtain ⟨pv, cv, hvv⟩ := HO.out.shape
      rw [hlen] at hvv
      subst hvv
      have HT : Hid (l.take i ++ l.drop i = l) := List.take_append_drop i l
      clear hlen
      by_cases hgo : ∃ y, l[i]? = some y ∧ y < x
      · obtain ⟨y, hy, hyx⟩ := hgo
        have hlt := (List.getElem?_eq_some_iff.1 hy).1
        have hlt' : (i : Int) < (l.length : Int) := by omega
        obtain ⟨b0, off, e, hcell⟩ := rdI_at HL.out hy
        subst e
        have HTk : Hid (l.take (i + 1) = l.take i ++ [y]) := by show _ = _; rw [List.take_add_one, hy]; rfl
        have HLo2 : Hid (∀ z ∈ l.take (i + 1), ltI z x = true) := by
          show ∀ z ∈ _, _
          rw [HTk.out]
          intro z hz
          rcases List.mem_append.1 hz with e | e
          · exact HLo.out z e
          · simp only [List.mem_singleton] at e; subst e; simpa [ltI] using hyx
        have c0 := hcell wr HO.out.bel
        clear hy hcell HT
        generalize l.take i = d at *
        have HOv : Hid (wr.ownsRow 0 3 1 (.slice pv i cv) i (i64s d)) := by
          have h := HO.out.base0
          rw [HLen.out] at h
          exact h
        have HLb : Hid ((i + 1) * 8 ≤ 140737488355328 ∧ i + 1 ≤ maxLen) := by show _ ∧ _; unfold maxLen; omega
        go_wp2_with (at_builtin; refine wpList_push elemInt14 _ #[.int .i64 y] _ _ _ HOv.out rfl (by simp [Value.oneCell']) HLb.out rfl _ _ rfl rfl rfl ?_)
        intro v1 w2 k1 m1 f1
        have HO3 : Hid (OwnI w w2 (d ++ [y]) v1) := HO.out.pushed (by rw [HLen.out]; exact k1) m1 f1
        clear k1 m1 f1 HOv HO c0
        go_wp2_with fail
        go_round
        case rel => exact ⟨i + 1, by omega, by go_num, HLo2.out, by rw [HTk.out]; exact HO3.out⟩
        case measure => simp [intOf]; omega
      · have HE : Hid (insB ltI x l = l.take i ++ x :: l.drop i) := insZ_cut hi HLo.out HX.out (fun y hy h => hgo ⟨y, hy, h⟩)
        have HLd : Hid ((l.drop i).length = l.length - i) := List.length_drop
        have hli : (l.length : Int) ≤ 1000000 := by have := HNl.out; omega
        have HP : Hid (l.length ≤ i ∨ ∃ y, l[i]? = some y ∧ x ≤ y) := by
          by_cases hlt : i < l.length
          · exact Or.inr ⟨l[i], List.getElem?_eq_getElem hlt, by
              have h1 : ¬ l[i] < x := fun h => hgo ⟨l[i], List.getElem?_eq_getElem hlt, h⟩
              omega⟩
          · exact Or.inl (by omega)
        clear hgo HT
        have HL2 := Lib.hid (HL.out.below HO.out.bel)
        have HOv : Hid (wr.ownsRow 0 3 1 (.slice pv i cv) i (i64s (l.take i))) := by
          have h := HO.out.base0
          rw [HLen.out] at h
          exact h
        have HLb : Hid ((i + 1) * 8 ≤ 140737488355328 ∧ i + 1 ≤ maxLen) := by show _ ∧ _; unfold maxLen; omega
        have HLc : Hid ((i + 1 + (l.length - i)) * 8 ≤ 140737488355328 ∧ i + 1 + (l.length - i) ≤ maxLen) := by show _ ∧ _; have := HNl.out; unfold maxLen; omega
        rcases HP.out with hge | ⟨y, hy, hxy⟩
        have hnl : ¬ (i : Int) < (l.length : Int) := by omega
        rotate_left
        have hlt := (List.getElem?_eq_some_iff.1 hy).1
        have hlt' : (i : Int) < (l.length : Int) := by omega
        obtain ⟨b0, off, e, hcell⟩ := rdI_at HL.out hy
        subst e
        have c0 := hcell wr HO.out.bel
        have hnx : ¬ y < x := by omega
        clear hy hcell
        rotate_left
        all_goals
          generalize l.take i = d at *
          go_wp2_with (at_builtin; refine wpList_push elemInt14 _ #[.int .i64 x] _ _ _ HOv.out rfl (by simp [Value.oneCell']) HLb.out rfl _ _ rfl rfl rfl ?_)
          intro v1 w2 k1 m1 f1
          have HO3 : Hid (OwnI w w2 (d ++ [x]) v1) := HO.out.pushed (by rw [HLen.out]; exact k1) m1 f1
          have HLx : Hid ((d ++ [x]).length = i + 1) := by show _ = _; rw [List.length_append, HLen.out]; rfl
          obtain ⟨p1, c1, hv1⟩ := HO3.out.shape
          rw [HLx.out] at hv1
          subst hv1
          have HL3 := Lib.hid (HL.out.below HO3.out.bel)
          have HOx : Hid (w2.ownsRow 0 3 1 (.slice p1 (i + 1) c1) (i + 1) (i64s (d ++ [x]))) := by
            have h := HO3.out.base0
            rw [HLx.out] at h
            exact h
          clear k1 m1 f1 HOv HO
          go_wp2_with (refine wpList_from elemInt14 _ _ _ i _ HL3.out hi rfl _ _ rfl rfl rfl ?_; intro p2 c2 h2; refine wpList_extend elemInt14 _ _ _ _ _ _ (i64s (l.drop i)) HOx.out (by rw [← i64s_drop]; exact h2) (i64s_one (l.drop i)) HLc.out rfl _ _ rfl rfl rfl ?_)
          intro v3 w3 k1 m1 f1
          have hk : w3.ownsRow 0 3 1 v3 ((d ++ [x]).length + (l.drop i).length) (i64s (d ++ [x]) ++ i64s (l.drop i)) := by
            rw [HLx.out, HLd.out]
            first
              | exact k1
              | (have h0 : l.length - i = 0 := by omega
                 rw [h0]
                 exact k1)
          have HO4 : Hid (OwnI w w3 (d ++ [x] ++ l.drop i) v3) := HO3.out.extended hk m1 f1
          clear hk k1 m1 f1 HOx HO3
          go_wp2_with fail
          go_ret
          exact Or.inr ⟨_, rfl, by rw [HE.out]; simpa using HO4.out⟩
end Go.Proofs.Ytpjfhakmffcolaa

end

section
/- A region that ends in no panic. No program in sight. -/
namespace Go.Proofs.Ytpjfhakmffcolaa
open Go Go.RowKit

/-- A stretch that is left in one way alone. -/
theorem wp_normal {P : Program} {c : Code} {Q : Exit → Act → World → Prop} {a : Act} {w : World} (h : c.wp P (fun e a w => e = .normal ∧ Q .normal a w) a w) : c.wp P Q a w := wp_mono h (fun _ _ _ h => h.1 ▸ h.2)
end Go.Proofs.Ytpjfhakmffcolaa

end

section
/- Variables of three cells. No program in sight. -/
namespace Go.Proofs.Ytpjfhakmffcolaa
open Go Go.RowKit

/-- The facts of a variable of three cells that a walk wants before it stores into it. -/
theorem Blk.three {w : World} {g : Nat} {a b c : Value} (h : Blk w g [a, b, c]) : (w.cell? ⟨g, 0, none⟩ = some a ∧ w.cell? ⟨g, 1, none⟩ = some b ∧ w.cell? ⟨g, 2, none⟩ = some c) ∧ (w.frozen? ⟨g, 0, none⟩ = false ∧ w.frozen? ⟨g, 1, none⟩ = false ∧ w.frozen? ⟨g, 2, none⟩ = false) :=
  ⟨⟨by rw [h.cell]; rfl, by rw [h.cell]; rfl, by rw [h.cell]; rfl⟩, h.free 0, h.free 1, h.free 2⟩

theorem Blk.set3 {w : World} {g : Nat} {a b c : Value} (h : Blk w g [a, b, c]) (x y z : Value) : Blk (((w.setCell ⟨g, 0, none⟩ x).setCell ⟨g, 1, none⟩ y).setCell ⟨g, 2, none⟩ z) g [x, y, z] := by
  simpa using ((h.set 0 x).set 1 y).set 2 z

theorem mods_set3 (w : World) (g : Nat) (x y z : Value) : Mods (fun k => k = g) w (((w.setCell ⟨g, 0, none⟩ x).setCell ⟨g, 1, none⟩ y).setCell ⟨g, 2, none⟩ z) :=
  ((Mods.set (fun k => k = g) w ⟨g, 0, none⟩ x (fun _ => rfl)).trans (Mods.set (fun k => k = g) _ ⟨g, 1, none⟩ y (fun _ => rfl)) (fun _ _ e => e)).trans (Mods.set (fun k => k = g) _ ⟨g, 2, none⟩ z (fun _ => rfl)) (fun _ _ e => e)
end Go.Proofs.Ytpjfhakmffcolaa

end
