/- Ref12D, RefSame, Ref12E, StrRow, Open, in one text. -/
import Derived.Test.YtkodhbkmpnokjaaGreatMrg4
import Derived.Test.YtkodhbkmpnokjaaGreatMrg3
import Derived.Test.YtkodhbkmpnokjaaGreatMrg1
import Derived.Test.YtkodhbkmpnokjaaGreatMrg2
import Derived.ProofKit
import Derived.OpenShut
import Derived.Deep.Slices
import Derived.SizedLaws

section
/- Layer 12: the reference's Normalize. -/
set_option linter.unusedVariables false
set_option maxRecDepth 20000
namespace Go.Proofs.YtkodhbkmpnokjaaGreat
open Go Go.RowKit

theorem RdB.nil (w : World) : RdB w (.slice none 0 0) [] := ⟨⟨[], Rd.nil w 2, rfl, fun i h s hi _ => by simp at hi⟩⟩
theorem firstErrB_at {l : List Ser} {i : Nat} (h : ∀ x ∈ l.take i, nErr x = 0) {x : Ser} (hx : l[i]? = some x) (he : nErr x ≠ 0) : firstErrB l = nErr x := by
  induction l generalizing i with
  | nil => simp at hx
  | cons y l ih =>
    cases i with
    | zero => simp at hx; subst hx; rw [firstErrB, if_pos he]
    | succ i =>
      rw [firstErrB, if_neg (not_not_intro (h y (by simp)))]
      exact ih (fun z hz => h z (by rw [List.take_succ_cons]; exact List.mem_cons_of_mem _ hz)) (by simpa using hx)
theorem normB_fails {l : List Ser} {i : Nat} (h : ∀ x ∈ l.take i, nErr x = 0) {x : Ser} (hx : l[i]? = some x) (he : nErr x ≠ 0) : normB l = (nErr x, []) := by
  have h1 := firstErrB_at h hx he
  unfold normB
  rw [h1, if_pos he]
theorem ltB_flip (a b : Ser) : ltB a b = true ↔ cmpLabs b.1 a.1 = 1 := by
  unfold ltB
  rw [decide_eq_true_eq, cmpLabs_ok.flip a.1 b.1]
  omega
/-- What Normalize leaves. -/
def GotN (w : World) (o : Nat × List Ser) (e : Ending) (w' : World) : Prop := ∃ r, e = .returned (.tuple #[r, .int .i64 (o.1 : Int)]) ∧ RdB w' r o.2 ∧ Below w.heap.size w w'
theorem GotN.fails {w w' : World} {o : Nat × List Ser} {en : Nat} (h : Below w.heap.size w w') (ho : o = (en, [])) : GotN w o (.returned (.tuple #[.slice none 0 0, .int .i64 (en : Int)])) w' := by
  subst ho
  exact ⟨_, rfl, RdB.nil _, h⟩
theorem adj_drop {r : List Ser} {k : Nat} {a b : Ser} (ha : r[k]? = some a) (hb : r[k + 1]? = some b) (h : adjB r = adjB (r.drop k)) : adjB r = (decide (cmpLabs a.1 b.1 = 0) || adjB (r.drop (k + 1))) := by
  have h1 : r.drop k = a :: r.drop (k + 1) := by rw [List.drop_eq_getElem_cons (List.getElem?_eq_some_iff.1 ha).1, (List.getElem?_eq_some_iff.1 ha).2]
  have h2 : r.drop (k + 1) = b :: r.drop (k + 1 + 1) := by rw [List.drop_eq_getElem_cons (List.getElem?_eq_some_iff.1 hb).1, (List.getElem?_eq_some_iff.1 hb).2]
  rw [h, h1, h2, adjB]

theorem bdN (w : World) (n : Nat) : Below w.heap.size w (w.drewN n) := (Mods.drewN (fun _ => False) w n).below (Nat.le_refl _) (fun _ _ e => e)
/-- The element of a shifted row in hand. -/
theorem mid_get {α : Type} (d : List α) (m : Nat) (y : α) (h : m ≤ d.length) : (d.take m ++ y :: d.drop m)[m]? = some y := by
  rw [List.getElem?_append_right (by rw [List.length_take]; omega), List.length_take, Nat.min_eq_left h, Nat.sub_self]; rfl
theorem pre_get {α : Type} (d : List α) (m : Nat) (y z : α) (q : Nat) (hq : q < m) (h : m ≤ d.length) (hz : d[q]? = some z) : (d.take m ++ y :: d.drop m)[q]? = some z := by
  rw [List.getElem?_append_left (by rw [List.length_take]; omega), List.getElem?_take, if_pos hq]; exact hz
theorem mods_two (w : World) (g a b : Nat) (u v : Value) : Mods (fun k => k = g) w ((w.setCell ⟨g, a, none⟩ u).setCell ⟨g, b, none⟩ v) :=
  (Mods.set (fun k => k = g) w ⟨g, a, none⟩ u (fun _ => rfl)).trans (Mods.set (fun k => k = g) _ ⟨g, b, none⟩ v (fun _ => rfl)) (fun _ _ e => e)
theorem adj_short {d : List Ser} (h : d.length ≤ 1) : adjB d = false := by
  match d, h with
  | [], _ => rfl
  | [_], _ => rfl
theorem norm_mem {l : List Ser} {d : List Ser} (hs : Small l) (j : Nat) (h : sortE ltB ((l.take j).map nSer) = d) : ∀ z ∈ d, z.1.length ≤ 200 := by
  intro z hz
  rw [← h] at hz
  obtain ⟨x, hx, rfl⟩ := List.mem_map.1 ((sortE_perm _).mem_iff.1 hz)
  have h1 := (norm_le x.1).2
  have h2 := hs.lab x (List.mem_of_mem_take hx)
  show (normL x.1).2.length ≤ 200
  omega

set_option maxHeartbeats 8000000 in
theorem ref_norm12 (lv : Value) (l : List Ser) (w : World) (h : RdB w lv l) (hs : Small l) (hz : Sized l) :
    Calls Tryz.prog 14 #[lv] w (GotN w (normB l)) := by
  have H := Lib.hid h; have HSm := Lib.hid hs; have HZ := Lib.hid hz
  have HLg := Lib.hid (ref_large12 lv l w h hs)
  obtain ⟨p, c, hv⟩ := h.shape
  subst hv
  have hmx : (l.length : Int) ≤ 300 := by have := hs.len; omega
  clear h hs hz
  go_enter Tryz.func14, Tryz.ntmps14
  go_wp2_with fail
  refine HLg.out.mono ?_
  rintro e w1 ⟨rfl, rfl⟩
  go_wp2_with fail
  go_loopw [4, 5] (fun vv iv wr => ∃ (j : Nat) (hs : List Hd) (d : List Ser), j ≤ l.length ∧ iv = .int .i64 (j : Int) ∧ Hid (NmAt w1 wr hs d vv) ∧ Hid (sortE ltB ((l.take j).map nSer) = d ∧ d.length = j ∧ ∀ x ∈ l.take j, nErr x = 0)) (fun _ iv _ => l.length - (intOf iv).toNat)
  case atStart => exact ⟨0, [], [], by omega, rfl, NmAt.nil w1, rfl, rfl, by intro x hx; simp at hx⟩
  case round =>
    obtain ⟨j, hs, d, hj, rfl, HO, HInv⟩ := hrel
    obtain ⟨pv, cv, hvv⟩ := HO.out.row.shape
    subst hvv
    by_cases hlt : j < l.length
    · have hlt' : (j : Int) < (l.length : Int) := by omega
      have hji : (j : Int) ≤ 300 := by omega
      obtain ⟨⟨ls, ss⟩, hx⟩ : ∃ s, l[j]? = some s := ⟨_, List.getElem?_eq_getElem hlt⟩
      obtain ⟨blk, off, h1, h2, e, ⟨p1, k1, e1⟩, ⟨p2, k2, e2⟩, hal⟩ := H.out.always hx
      subst e
      simp only at e1 e2
      subst e1
      subst e2
      have HAl := Lib.hid hal
      have hmem := List.mem_of_getElem? hx
      have HL1 : Hid (ls.length ≤ 200 ∧ ss.length ≤ 3000) := ⟨HSm.out.lab _ hmem, HSm.out.mem hmem⟩
      obtain ⟨cl, _, hsr⟩ := hal wr HO.out.row.bel
      have HN1 := Lib.hid (ref_norm11 _ ls wr hsr.1 (HZ.out _ hmem).1 (by have := HL1.out.1; omega))
      have HFl : Hid (nErr (ls, ss) ≠ 0 → normB l = (nErr (ls, ss), [])) := fun e => normB_fails HInv.out.2.2 hx e
      have HSn : Hid (nErr (ls, ss) = 0 → sortE ltB ((l.take (j + 1)).map nSer) = insE ltB (nSer (ls, ss)) d ∧ ∀ x ∈ l.take (j + 1), nErr x = 0) := fun e => by
        rw [List.take_add_one, hx, Option.toList_some, List.map_append, List.map_singleton, sortE_snoc, HInv.out.1]
        refine ⟨rfl, fun x hxm => ?_⟩
        rcases List.mem_append.1 hxm with f | f
        · exact HInv.out.2.2 x f
        · rw [List.mem_singleton.1 f]; exact e
      clear hx hal hsr hmem
      go_wp2_with fail
      refine HN1.out.mono ?_
      rintro e w2 hG
      obtain ⟨r, rfl, hRd, hFar⟩ := hG.res
      have HOfl : Hid (∀ k, r.ownBlock = some k → (Value.slice pv hs.length cv).ownBlock ≠ some k) := fun k hk e => by
        have h1 := hFar k hk
        have h2 := (HO.out.row.row.lt k e).2
        omega
      have HVw : Hid (∀ k, (Value.slice pv hs.length cv).ownBlock = some k → k < w2.heap.size) := fun k e => by
        have h2 := (HO.out.row.row.lt k e).2
        have h3 := hG.bel.size
        omega
      clear hFar
      have HB2 : Hid (Below w1.heap.size w1 w2) := HO.out.row.bel.trans (hG.bel.mono HO.out.row.bel.size)
      have HO2 := Lib.hid (HO.out.below hG.bel)
      obtain ⟨pr, cr, e⟩ := hRd.shape
      subst e
      have HRd := Lib.hid hRd
      have HNl := Lib.hid (norm_le ls)
      clear hG hRd HO cl HN1
      by_cases he : (normL ls).1 = 0
      · rw [he]
        by_cases hss : ss.length = 0
        · have HE : Hid (normB l = (21, [])) := by
            have hn : nErr (ls, ss) = 21 := by unfold nErr; rw [if_neg (not_not_intro he), if_pos (List.eq_nil_of_length_eq_zero hss)]
            have := HFl.out (by rw [hn]; decide)
            rw [hn] at this
            exact this
          have c2 := (HAl.out w2 HB2.out).2.1
          rw [hss] at c2
          clear HFl HSn
          go_wp2_with fail
          go_ret2
          exact GotN.fails (en := 21) HB2.out HE.out
        · have hssb : ((ss.length : Int) == 0) = false := by rw [beq_eq_false_iff_ne]; omega
          have hnE : nErr (ls, ss) = timesL (sortE ltT ss) := by
            unfold nErr
            rw [if_neg (not_not_intro he), if_neg (fun e : ss = [] => hss (by rw [e]; rfl))]
          rw [hnE] at HFl HSn
          have c2 := (HAl.out w2 HB2.out).2.1
          have HS1 := Lib.hid (ref_sorted12 _ ss w2 (HAl.out w2 HB2.out).2.2.2 (by have := HL1.out; omega))
          have HSs : Hid (nSer (ls, ss) = ((normL ls).2, sortE ltT ss) ∧ (sortE ltT ss).length = ss.length) := ⟨rfl, sortE_len ss⟩
          clear hnE he hss
          go_wp2_with fail
          refine HS1.out.mono ?_
          rintro e w3 ⟨v, rfl, hM⟩
          have HB3 : Hid (Below w1.heap.size w1 w3) := HB2.out.trans (hM.bel.mono HB2.out.size)
          obtain ⟨ps, cs, e⟩ := hM.shape
          subst e
          have HTm := Lib.hid (ref_times12 _ (sortE ltT ss) w3 hM.rd (by rw [sortE_len]; have := HL1.out; omega))
          have HM := Lib.hid hM
          have HO3 := Lib.hid (HO2.out.below hM.bel)
          have HRd3 := Lib.hid (HRd.out.below hM.bel)
          clear hM HS1 c2 HO2
          go_wp2_with fail
          refine HTm.out.mono ?_
          rintro e w4 ⟨rfl, q4, hq4⟩
          have hB34 : Below w3.heap.size w3 w4 := by rw [hq4]; exact (Mods.drewN (fun _ => False) w3 q4).below (Nat.le_refl _) (fun _ _ e => e)
          have HB4 : Hid (Below w1.heap.size w1 w4) := HB3.out.trans (hB34.mono HB3.out.size)
          have HO4 := Lib.hid (HO3.out.below hB34)
          have HRd4 := Lib.hid (HRd3.out.below hB34)
          have HMr4 := Lib.hid (HM.out.rd.below hB34)
          have HMf : Hid (∀ k, (Value.slice ps (sortE ltT ss).length cs).ownBlock = some k → w2.heap.size ≤ k) := fun k hk => (HM.out.row.lt k hk).1
          clear hq4 hB34 HTm HO3 HRd3 HM
          by_cases ht : timesL (sortE ltT ss) = 0
          · rw [ht]
            have HSe := Lib.hid (HSn.out ht)
            have HDl := Lib.hid (norm_mem HSm.out j HInv.out.1)
            have HIn0 : Hid (d.length = j) := HInv.out.2.1
            have HOf : Hid (SerOff (fun k => (Value.slice pv hs.length cv).ownBlock = some k) (.slice pr (normL ls).2.length cr, .slice ps (sortE ltT ss).length cs) ((normL ls).2, sortE ltT ss)) :=
              ⟨fun _ k hk e => HOfl.out k hk e, fun _ k hk e => by have h1 := HVw.out k e; have h2 := HMf.out k hk; omega⟩
            have HX0 : Hid (SerAt w4 (.slice pr (normL ls).2.length cr, .slice ps (sortE ltT ss).length cs) ((normL ls).2, sortE ltT ss)) := ⟨HRd4.out, HMr4.out⟩
            have HNl2 : Hid ((normL ls).2.length ≤ 200) := by show _ ≤ _; have := HNl.out; have := HL1.out; omega
            have HS0 : Hid (nSer (ls, ss) = ((normL ls).2, sortE ltT ss)) := rfl
            rw [HS0.out] at HSe
            clear HFl HSn ht HRd4 HMr4 HMf HOfl HVw HS0 HSs HNl HInv
            generalize (normL ls).2 = nl at *
            generalize sortE ltT ss = sl at *
            obtain ⟨N, hN⟩ : ∃ N, hs.length = N := ⟨_, rfl⟩
            have HNe : Hid (d.length = N ∧ N = j ∧ hs.length = N) := ⟨by rw [← HO4.out.len]; exact hN, by rw [← hN, HO4.out.len]; exact HIn0.out, hN⟩
            rw [hN] at HO4 HOf ⊢
            clear hN HIn0
            have hNi : (N : Int) ≤ 300 := by have := HNe.out; omega
            have HLb : Hid ((N + 1) * 48 ≤ 140737488355328 ∧ N + 1 ≤ maxLen) := by show _ ∧ _; have := HNe.out; unfold maxLen; omega
            have hb5 : Below w4.heap.size w4 (w4.alloc (.cells #[.slice pr nl.length cr, .slice ps sl.length cs] 37)) := (Mods.alloc (fun _ => False) w4 _).below (Nat.le_refl _) (fun _ _ e => e)
            have HO5 := Lib.hid (HO4.out.below hb5)
            have HX5 := Lib.hid (HX0.out.below hb5)
            have HC5 := Lib.hid (Blk.new w4 #[.slice pr nl.length cr, .slice ps sl.length cs] 37)
            have HVl : Hid (∀ k, (Value.slice pv N cv).ownBlock = some k → k < w4.heap.size) := fun k e => (HO4.out.row.row.lt k e).2
            have HOv : Hid ((w4.alloc (.cells #[.slice pr nl.length cr, .slice ps sl.length cs] 37)).ownsRow 0 37 2 (.slice pv N cv) N (two Prod.fst Prod.snd hs)) := by
              have h := HO5.out.row.base0
              rw [HNe.out.2.2] at h
              exact h
            have hsz : (w4.alloc (.cells #[.slice pr nl.length cr, .slice ps sl.length cs] 37)).heap.size = w4.heap.size + 1 := by simp
            have HSz := Lib.hid hsz
            clear hb5 hsz HO4 HX0
            go_wp2_with (at_builtin; refine wpList_push elemSer _ #[.slice pr nl.length cr, .slice ps sl.length cs] _ _ _ HOv.out rfl (by simp [Value.oneCell']) HLb.out rfl _ _ rfl rfl ?hx ?_)
            case hx => rw [HSz.out]; rfl
            intro v1 w6 k1 m1 f1
            rw [← HSz.out] at f1
            have HO6 : Hid (NmAt w1 w6 (hs ++ [(.slice pr nl.length cr, .slice ps sl.length cs)]) (d ++ [(nl, sl)]) v1) := HO5.out.pushed HX5.out HOf.out (by rw [HNe.out.2.2]; exact k1) m1 f1
            have HX6 : Hid (SerAt w6 (.slice pr nl.length cr, .slice ps sl.length cs) (nl, sl) ∧ SerOff (fun k => v1.ownBlock = some k) (.slice pr nl.length cr, .slice ps sl.length cs) (nl, sl)) :=
              HO6.out.ser N _ _ (by rw [List.getElem?_append_right (by have := HNe.out; omega), HNe.out.2.2, Nat.sub_self]; rfl) (by rw [List.getElem?_append_right (by have := HNe.out; omega), HNe.out.1, Nat.sub_self]; rfl)
            obtain ⟨g, c1, hv1⟩ : ∃ g cap, v1 = .slice (some ⟨g, 0, none⟩) (N + 1) cap := by
              rcases owns_cases k1 with ⟨_, h0, _⟩ | ⟨g, cap, hv, _⟩
              · omega
              · exact ⟨g, cap, hv⟩
            subst hv1
            have HCx : Hid ((w6.cell? ⟨w4.heap.size, 0, none⟩ = some (.slice pr nl.length cr) ∧ w6.cell? ⟨w4.heap.size, 1, none⟩ = some (.slice ps sl.length cs)) ∧ w4.heap.size ≠ g) := by
              have hb := m1.blk HC5.out (fun e => by have := HVl.out _ e; omega)
              refine ⟨⟨hb.cell 0, hb.cell 1⟩, fun e => ?_⟩
              rcases f1 g rfl with h | h
              · have := HVl.out g h; omega
              · have := HSz.out; omega
            have HGo : Hid (SerOff (fun k => k = g) (.slice pr nl.length cr, .slice ps sl.length cs) (nl, sl)) :=
              ⟨fun e k hk hg => HX6.out.2.1 e k hk (by rw [hg]; rfl), fun e k hk hg => HX6.out.2.2 e k hk (by rw [hg]; rfl)⟩
            have HX7 := Lib.hid HX6.out.1
            clear k1 m1 f1 HOv HO5 HX5 HC5 HVl HSz HX6 HOf
            generalize w4.heap.size = gx at *
            go_wp2_with fail
            go_loopw [9] (fun mv wr2 => ∃ (m : Nat) (y : Ser) (hy : Hd), m ≤ N ∧ mv = .int .i64 (m : Int) ∧ Hid (∀ z ∈ d.drop m, ltB (nl, sl) z = true) ∧ Hid (NmAt w1 wr2 (hs.take m ++ hy :: hs.drop m) (d.take m ++ y :: d.drop m) (.slice (some ⟨g, 0, none⟩) (N + 1) c1)) ∧ Hid (wr2.cell? ⟨gx, 0, none⟩ = some (.slice pr nl.length cr) ∧ wr2.cell? ⟨gx, 1, none⟩ = some (.slice ps sl.length cs)) ∧ Hid (SerAt wr2 (.slice pr nl.length cr, .slice ps sl.length cs) (nl, sl))) (fun mv _ => (intOf mv).toNat)
            case atStart => exact ⟨N, (nl, sl), (.slice pr nl.length cr, .slice ps sl.length cs), Nat.le_refl _, rfl, (by
              show ∀ z ∈ _, _
              rw [List.drop_of_length_le (by have := HNe.out; omega)]
              intro z hz; cases hz), (by
              show NmAt _ _ _ _ _
              rw [List.drop_of_length_le (by have := HNe.out; omega), List.take_of_length_le (by have := HNe.out; omega), List.drop_of_length_le (by have := HNe.out; omega), List.take_of_length_le (by have := HNe.out; omega)]
              exact HO6.out), HCx.out.1, HX7.out⟩
            case round =>
              obtain ⟨m, y, ⟨y1, y2⟩, hmN, rfl, HGt, HO7, HC7, HX8⟩ := hrel
              have hmi : (m : Int) ≤ 300 := by have := HNe.out; omega
              have hmN' : (m : Int) < (N : Int) + 1 := by omega
              have HNg : Hid (gx ≠ g) := HCx.out.2
              obtain ⟨cx, cy⟩ := HC7.out
              cases m with
              | zero =>
                have HIn : Hid (insE ltB (nl, sl) d = d.take 0 ++ (nl, sl) :: d.drop 0) := insE_at (Nat.zero_le _) HGt.out (fun y h0 _ => by omega)
                have HO8 := HO7
                have HX9 := HX8
                clear HO7 HX8 HC7
                obtain ⟨⟨cm0, cm1⟩, fm0, fm1⟩ := HO8.out.row.cell (i := 0) (x := (y1, y2)) (by simp)
                have HDn : Hid (NmAt w1 ((wr.setCell ⟨g, 0 * 2, none⟩ (.slice pr nl.length cr)).setCell ⟨g, 0 * 2 + 1, none⟩ (.slice ps sl.length cs)) (hs.take 0 ++ (.slice pr nl.length cr, .slice ps sl.length cs) :: hs.drop 0) (insE ltB (nl, sl) d) (.slice (some ⟨g, 0, none⟩) (N + 1) c1)) := by
                  show NmAt _ _ _ _ _
                  rw [HIn.out]
                  exact HO8.out.stored HX9.out HGo.out (shift_setG2 hs 0 (y1, y2) _ (Nat.zero_le _)) (shift_setG2 d 0 y (nl, sl) (Nat.zero_le _))
                simp only [Nat.zero_mul, Nat.zero_add] at cm0 cm1 fm0 fm1 HDn
                clear HO8 HX9
                go_wp2_with fail
                go_round
                case rel => exact ⟨j + 1, _, insE ltB (nl, sl) d, by omega, by go_num, HDn.out, HSe.out.1, by rw [insE_len]; have := HNe.out; omega, HSe.out.2⟩
                case measure => simp [intOf]; omega
              | succ q =>
                obtain ⟨⟨zl, zs⟩, hz⟩ : ∃ z, d[q]? = some z := ⟨_, List.getElem?_eq_getElem (by have := HNe.out; omega)⟩
                obtain ⟨⟨z1, z2⟩, hh⟩ : ∃ z, hs[q]? = some z := ⟨_, List.getElem?_eq_getElem (by have := HNe.out; omega)⟩
                have hzh := pre_get hs (q + 1) (y1, y2) (z1, z2) q (by omega) (by have := HNe.out; omega) hh
                have hzd := pre_get d (q + 1) y (zl, zs) q (by omega) (by have := HNe.out; omega) hz
                obtain ⟨hza, hzo⟩ := HO7.out.ser q _ _ hzh hzd
                obtain ⟨p3, k3, e3⟩ := hza.1.shape
                obtain ⟨p4, k4, e4⟩ := hza.2.shape
                simp only at e3 e4
                subst e3
                subst e4
                obtain ⟨⟨cz0, cz1⟩, _⟩ := HO7.out.row.cell (i := q) hzh
                obtain ⟨⟨cm0, cm1⟩, fm0, fm1⟩ := HO7.out.row.cell (i := q + 1) (x := (y1, y2)) (mid_get hs (q + 1) (y1, y2) (by have := HNe.out; omega))
                simp only at cz0 cz1 cm0 cm1
                have HZe : Hid (d[q]? = some (zl, zs) ∧ hs[q]? = some (.slice p3 zl.length k3, .slice p4 zs.length k4)) := ⟨hz, hh⟩
                have HZa := Lib.hid hza
                have HZh := Lib.hid hzh
                have HMg : Hid ((hs.take (q + 1) ++ (y1, y2) :: hs.drop (q + 1))[q + 1]? = some (y1, y2)) := mid_get hs (q + 1) (y1, y2) (by have := HNe.out; omega)
                have HZo : Hid (SerOff (fun k => k = g) (.slice p3 zl.length k3, .slice p4 zs.length k4) (zl, zs)) :=
                  ⟨fun e k hk hg => hzo.1 e k hk (by rw [hg]; rfl), fun e k hk hg => hzo.2 e k hk (by rw [hg]; rfl)⟩
                have HCm : Hid (Calls Tryz.prog 35 #[.slice p3 zl.length k3, .slice pr nl.length cr] wr fun e w' => e = .returned (.int .i64 (cmpLabs zl nl)) ∧ ∃ m, w' = wr.drewN m) :=
                  ref_compareD _ _ zl nl _ HZa.out.1 HX8.out.1 (by have := HDl.out _ (List.mem_of_getElem? hz); simp only at this; omega) (by have := HNl2.out; omega)
                have HFp : Hid (ltB (nl, sl) (zl, zs) = true ↔ cmpLabs zl nl = 1) := ltB_flip _ _
                have HDr : Hid (d.drop q = (zl, zs) :: d.drop (q + 1)) := by show _ = _; rw [List.drop_eq_getElem_cons (by have := HNe.out; omega), (List.getElem?_eq_some_iff.1 hz).2]
                have HKM : Hid (q + 1 ≤ N) := hmN
                have hqs : ((q + 1 : Nat) : Int) - 1 = (q : Int) := by omega
                have hqi : (q : Int) ≤ 299 := by have := HNe.out; omega
                have hqN : (q : Int) < (N : Int) + 1 := by omega
                have hpos : (0 : Int) < ((q + 1 : Nat) : Int) := by omega
                have hdom := cmpLabs_ok.dom zl nl
                clear hz hh hzh hzd hza hzo hmN hmi cm0 cm1 fm0 fm1 cx cy cz1
                generalize cmpLabs zl nl = cv at *
                by_cases hgt : 0 < cv
                · have hcv : cv = 1 := by rcases hdom with e | e | e <;> omega
                  have HGt2 : Hid (∀ z ∈ d.drop q, ltB (nl, sl) z = true) := by
                    show ∀ z ∈ _, _
                    rw [HDr.out]
                    intro z hz
                    rcases List.mem_cons.1 hz with rfl | hz
                    · exact HFp.out.2 hcv
                    · exact HGt.out z hz
                  subst hcv
                  clear hgt hdom HFp
                  go_wp2_with fail
                  refine HCm.out.mono ?_
                  rintro e w5 ⟨rfl, n5, e5⟩
                  have hb5 : Below wr.heap.size wr w5 := by rw [e5]; exact bdN wr n5
                  have HO8 := Lib.hid (HO7.out.below hb5)
                  have HX9 := Lib.hid (HX8.out.below hb5)
                  have HZb := Lib.hid (HZa.out.below hb5)
                  have HC8 : Hid (w5.cell? ⟨gx, 0, none⟩ = some (.slice pr nl.length cr) ∧ w5.cell? ⟨gx, 1, none⟩ = some (.slice ps sl.length cs)) := ⟨by rw [e5]; exact HC7.out.1, by rw [e5]; exact HC7.out.2⟩
                  obtain ⟨⟨cm0, cm1⟩, fm0, fm1⟩ := HO8.out.row.cell (i := q + 1) HMg.out
                  clear cz0
                  obtain ⟨⟨cz0, cz1⟩, _⟩ := HO8.out.row.cell (i := q) HZh.out
                  simp only at cz0 cz1 cm0 cm1
                  have HDn : Hid (NmAt w1 ((w5.setCell ⟨g, (q + 1) * 2, none⟩ (.slice p3 zl.length k3)).setCell ⟨g, (q + 1) * 2 + 1, none⟩ (.slice p4 zs.length k4)) (hs.take q ++ (.slice p3 zl.length k3, .slice p4 zs.length k4) :: hs.drop q) (d.take q ++ (zl, zs) :: d.drop q) (.slice (some ⟨g, 0, none⟩) (N + 1) c1)) := by
                    show NmAt _ _ _ _ _
                    rw [← shift_eqG2 d q _ HZe.out.1, ← shift_eqG2 hs q _ HZe.out.2]
                    exact HO8.out.stored HZb.out HZo.out (shift_setG2 hs (q + 1) (y1, y2) _ (by have := HNe.out; have := HKM.out; omega)) (shift_setG2 d (q + 1) y _ (by have := HNe.out; have := HKM.out; omega))
                  have HC9 : Hid (((w5.setCell ⟨g, (q + 1) * 2, none⟩ (.slice p3 zl.length k3)).setCell ⟨g, (q + 1) * 2 + 1, none⟩ (.slice p4 zs.length k4)).cell? ⟨gx, 0, none⟩ = some (.slice pr nl.length cr) ∧ ((w5.setCell ⟨g, (q + 1) * 2, none⟩ (.slice p3 zl.length k3)).setCell ⟨g, (q + 1) * 2 + 1, none⟩ (.slice p4 zs.length k4)).cell? ⟨gx, 1, none⟩ = some (.slice ps sl.length cs)) :=
                    ⟨(mods_two w5 g _ _ _ _).cell HC8.out.1 (fun e => HNg.out e), (mods_two w5 g _ _ _ _).cell HC8.out.2 (fun e => HNg.out e)⟩
                  have HXa := Lib.hid (HX9.out.mods (mods_two w5 g ((q + 1) * 2) ((q + 1) * 2 + 1) (.slice p3 zl.length k3) (.slice p4 zs.length k4)) HGo.out)
                  clear HO8 HO7 HX8 HX9 HZa HZb HC7 HC8 hb5 e5 hpos HCm
                  go_wp2_with fail
                  go_round
                  case rel => exact ⟨q, (zl, zs), (.slice p3 zl.length k3, .slice p4 zs.length k4), by have := HKM.out; omega, by go_num, HGt2.out, HDn.out, HC9.out, HXa.out⟩
                  case measure => simp [intOf]
                · have HIn : Hid (insE ltB (nl, sl) d = d.take (q + 1) ++ (nl, sl) :: d.drop (q + 1)) := insE_at (by have := HNe.out; have := HKM.out; omega) HGt.out (fun y h0 hy => by
                    rw [Nat.add_sub_cancel, HZe.out.1] at hy
                    cases hy
                    rcases Bool.eq_false_or_eq_true (ltB (nl, sl) (zl, zs)) with e | e
                    · have := HFp.out.1 e; omega
                    · exact e)
                  have hgb : decide (0 < cv) = false := decide_eq_false hgt
                  clear hgt hdom HFp
                  go_wp2_with fail
                  refine HCm.out.mono ?_
                  rintro e w5 ⟨rfl, n5, e5⟩
                  have hb5 : Below wr.heap.size wr w5 := by rw [e5]; exact bdN wr n5
                  have HO8 := Lib.hid (HO7.out.below hb5)
                  have HX9 := Lib.hid (HX8.out.below hb5)
                  have HZb := Lib.hid (HZa.out.below hb5)
                  have HC8 : Hid (w5.cell? ⟨gx, 0, none⟩ = some (.slice pr nl.length cr) ∧ w5.cell? ⟨gx, 1, none⟩ = some (.slice ps sl.length cs)) := ⟨by rw [e5]; exact HC7.out.1, by rw [e5]; exact HC7.out.2⟩
                  obtain ⟨⟨cm0, cm1⟩, fm0, fm1⟩ := HO8.out.row.cell (i := q + 1) HMg.out
                  obtain ⟨cx, cy⟩ := HC8.out
                  simp only at cm0 cm1
                  have HDn : Hid (NmAt w1 ((w5.setCell ⟨g, (q + 1) * 2, none⟩ (.slice pr nl.length cr)).setCell ⟨g, (q + 1) * 2 + 1, none⟩ (.slice ps sl.length cs)) (hs.take (q + 1) ++ (.slice pr nl.length cr, .slice ps sl.length cs) :: hs.drop (q + 1)) (insE ltB (nl, sl) d) (.slice (some ⟨g, 0, none⟩) (N + 1) c1)) := by
                    show NmAt _ _ _ _ _
                    rw [HIn.out]
                    exact HO8.out.stored HX9.out HGo.out (shift_setG2 hs (q + 1) (y1, y2) _ (by have := HNe.out; have := HKM.out; omega)) (shift_setG2 d (q + 1) y _ (by have := HNe.out; have := HKM.out; omega))
                  clear HO8 HO7 HX8 HX9 HZa HZb HC7 HC8 hb5 e5 hpos HCm hqs cz0
                  go_wp2_with fail
                  go_round
                  case rel => exact ⟨j + 1, _, insE ltB (nl, sl) d, by omega, by go_num, HDn.out, HSe.out.1, by rw [insE_len]; have := HNe.out; omega, HSe.out.2⟩
                  case measure => simp [intOf]; omega
          · have HE := Lib.hid (HFl.out ht)
            have htb : ((timesL (sortE ltT ss) : Int) == 0) = false := by rw [beq_eq_false_iff_ne]; omega
            clear ht HFl HSn
            generalize timesL (sortE ltT ss) = te at *
            go_wp2_with fail
            go_ret2
            exact GotN.fails HB4.out HE.out
      · have hnE : nErr (ls, ss) = (normL ls).1 := by unfold nErr; rw [if_pos he]
        have HE := Lib.hid (HFl.out (by rw [hnE]; exact he))
        rw [hnE] at HE
        have heb : (((normL ls).1 : Int) == 0) = false := by rw [beq_eq_false_iff_ne]; omega
        clear he HFl HSn hnE
        generalize (normL ls).1 = e1 at *
        go_wp2_with fail
        go_ret2
        exact GotN.fails HB2.out HE.out
    · have hlt' : ¬ (j : Int) < (l.length : Int) := by omega
      have HDl := Lib.hid (norm_mem HSm.out j HInv.out.1)
      have HNb : Hid (normB l = if adjB d = true then (19, []) else (0, d)) := by
        show _ = _
        obtain ⟨h1, h2, h3⟩ := HInv.out
        rw [List.take_of_length_le (by omega)] at h1 h3
        rw [normB, if_neg (not_not_intro ((firstErrB_zero l).2 h3)), h1]
      obtain ⟨N, hN⟩ : ∃ N, hs.length = N := ⟨_, rfl⟩
      have HNe : Hid (d.length = N ∧ N ≤ 300) := ⟨by rw [← HO.out.len]; exact hN, by have := HO.out.len; have := HInv.out.2.1; have := HSm.out.len; omega⟩
      rw [hN] at HO ⊢
      clear hN HInv
      have hNi : (N : Int) ≤ 300 := by have := HNe.out; omega
      have HO1 := HO
      clear HO hj
      go_wp2_with fail
      go_loopw [11] (fun iv wr2 => ∃ (i : Nat), iv = .int .i64 ((i + 1 : Nat) : Int) ∧ Hid (adjB d = adjB (d.drop i)) ∧ Hid (NmAt w1 wr2 hs d (.slice pv N cv))) (fun iv _ => N + 1 - (intOf iv).toNat)
      case atStart => exact ⟨0, rfl, rfl, HO1.out⟩
      case round =>
        obtain ⟨q, rfl, HA, HO2⟩ := hrel
        by_cases hli : q + 1 < N
        · have hli' : ((q + 1 : Nat) : Int) < (N : Int) := by omega
          obtain ⟨⟨al, as_⟩, ha⟩ : ∃ z, d[q]? = some z := ⟨_, List.getElem?_eq_getElem (by have := HNe.out; omega)⟩
          obtain ⟨⟨bl, bs⟩, hb⟩ : ∃ z, d[q + 1]? = some z := ⟨_, List.getElem?_eq_getElem (by have := HNe.out; omega)⟩
          obtain ⟨g, c1, a1, a2, e, ca0, ca1, has⟩ := HO2.out.rd.at ha
          subst e
          obtain ⟨g2, c2, b1, b2, e, cb0, cb1, hbs⟩ := HO2.out.rd.at hb
          simp only [Option.some.injEq, Addr.mk.injEq] at e
          obtain ⟨rfl, rfl, _⟩ := e
          obtain ⟨p3, k3, e3⟩ := has.1.shape
          obtain ⟨p4, k4, e4⟩ := hbs.1.shape
          simp only at e3 e4
          subst e3
          subst e4
          have HCm : Hid (∀ n, Calls Tryz.prog 35 #[.slice p3 al.length k3, .slice p4 bl.length k4] (wr.drewN n) fun e w' => e = .returned (.int .i64 (cmpLabs al bl)) ∧ ∃ m, w' = (wr.drewN n).drewN m) := fun n =>
            ref_compareD _ _ al bl _ (has.below (bdN wr n)).1 (hbs.below (bdN wr n)).1 (by have := HDl.out _ (List.mem_of_getElem? ha); simp only at this; omega) (by have := HDl.out _ (List.mem_of_getElem? hb); simp only at this; omega)
          have HAd : Hid (adjB d = (decide (cmpLabs al bl = 0) || adjB (d.drop (q + 1)))) := adj_drop ha hb HA.out
          have hqs : ((q + 1 : Nat) : Int) - 1 = (q : Int) := by omega
          have hqi : (q : Int) ≤ 299 := by have := HNe.out; omega
          have hqN : (q : Int) < (N : Int) := by omega
          have hdom := cmpLabs_ok.dom al bl
          clear ha hb ca1 cb1 has hbs HA
          generalize cmpLabs al bl = cv at *
          by_cases hz : cv = 0
          · have HE : Hid (normB l = (19, [])) := by show _ = _; rw [HNb.out, if_pos (by rw [HAd.out, decide_eq_true hz]; rfl)]
            subst hz
            clear hdom HAd
            go_wp2_with fail
            go_quiet ((go_at_call 35; exact Calls.quiet_of (HCm.out _)))
            have HO3 := Lib.hid (HO2.out.below (bdN wr nq))
            clear HO2 HCm ca0 cb0 hqs
            generalize wr.drewN nq = wn at *
            go_wp2_with fail
            go_ret2
            exact GotN.fails (en := 19) HO3.out.row.bel HE.out
          · have HE : Hid (adjB d = adjB (d.drop (q + 1))) := by show _ = _; rw [HAd.out, decide_eq_false hz]; rfl
            have hzb : (cv == 0) = false := by rw [beq_eq_false_iff_ne]; exact hz
            clear hz hdom HAd
            go_wp2_with fail
            go_quiet ((go_at_call 35; exact Calls.quiet_of (HCm.out _)))
            have HO3 := Lib.hid (HO2.out.below (bdN wr nq))
            clear HO2 HCm ca0 cb0 hqs
            generalize wr.drewN nq = wn at *
            go_wp2_with fail
            go_round
            case rel => exact ⟨q + 1, by go_num, HE.out, HO3.out⟩
            case measure => simp [intOf]; omega
        · have hli' : ¬ ((q + 1 : Nat) : Int) < (N : Int) := by omega
          have HE : Hid (normB l = (0, d)) := by
            show _ = _
            rw [HNb.out, HA.out, adj_short (by rw [List.length_drop]; have := HNe.out; omega)]
            rfl
          go_wp2_with fail
          go_ret2
          rw [HE.out]
          exact ⟨_, rfl, HO2.out.rd, HO2.out.row.bel⟩
end Go.Proofs.YtkodhbkmpnokjaaGreat

end

section
/- Layer 9: the reference's Same: whether two lists of samples are equal. -/
set_option linter.unusedVariables false
set_option maxRecDepth 20000
namespace Go.Proofs.YtkodhbkmpnokjaaGreat
open Go Go.RowKit

set_option maxHeartbeats 1000000 in
theorem ref_same09 (av bv : Value) (a b : List Sam) (w : World) (ha : Rd w 2 av a.length (samCells a)) (hb : Rd w 2 bv b.length (samCells b)) (hn : a.length ≤ 1000000) (hm : b.length ≤ 1000000) :
    Calls Tryz.prog 40 #[av, bv] w fun e w' => e = .returned (.bool (decide (a = b))) ∧ ∃ q, w' = w.drewN q := by
  have HA := Lib.hid ha; have HB := Lib.hid hb
  obtain ⟨pa, ca, hv⟩ := ha.shape
  subst hv
  obtain ⟨pb, cb, hv⟩ := hb.shape
  subst hv
  have hma : (a.length : Int) ≤ 1000000 := by omega
  have hmb : (b.length : Int) ≤ 1000000 := by omega
  clear ha hb hn hm
  by_cases hl : a.length = b.length
  · have hlb : ((a.length : Int) == (b.length : Int)) = true := by rw [beq_iff_eq]; omega
    have HL := Lib.hid hl
    have hli : (b.length : Int) = (a.length : Int) := by omega
    rw [← hl] at HB ⊢
    clear hl hlb hli hmb
    go_enter Tryz.func40, Tryz.ntmps40
    go_wp2_with fail
    go_loopw [5] (fun iv wr => ∃ (i q : Nat), i ≤ a.length ∧ iv = .int .i64 (i : Int) ∧ Hid (a.take i = b.take i) ∧ wr = w.drewN q) (fun iv _ => a.length - (intOf iv).toNat)
    case atStart => exact ⟨0, 0, Nat.zero_le _, rfl, rfl, rfl⟩
    case round =>
      obtain ⟨i, q, hi, rfl, HT, rfl⟩ := hrel
      have him : (i : Int) ≤ 1000000 := by omega
      by_cases hlt : i < a.length
      · have hlt' : (i : Int) < (a.length : Int) := by omega
        obtain ⟨⟨x1, x2⟩, hx⟩ : ∃ x, a[i]? = some x := ⟨_, List.getElem?_eq_getElem hlt⟩
        obtain ⟨⟨y1, y2⟩, hy⟩ : ∃ y, b[i]? = some y := ⟨_, List.getElem?_eq_getElem (by rw [← HL.out]; exact hlt)⟩
        have hrb : Rd w 2 (.slice pb a.length cb) a.length (two (fun x : Sam => Value.int .i64 x.1) (fun x : Sam => Value.int .u64 (x.2 : Int)) b) := samCells_two b ▸ HB.out
        obtain ⟨ba, oa, e⟩ := rd2_at (samCells_two a ▸ HA.out) hx
        subst e
        obtain ⟨bb, ob, e⟩ := rd2_at hrb hy
        subst e
        obtain ⟨c0, c1⟩ := rd2_cell (samCells_two a ▸ HA.out) hx
        obtain ⟨d0, d1⟩ := rd2_cell hrb hy
        have c0' : (w.drewN q).cell? ⟨ba, oa + i * 2, none⟩ = some (.int .i64 x1) := c0
        have c1' : (w.drewN q).cell? ⟨ba, oa + i * 2 + 1, none⟩ = some (.int .u64 (x2 : Int)) := c1
        have d0' : (w.drewN q).cell? ⟨bb, ob + i * 2, none⟩ = some (.int .i64 y1) := d0
        have d1' : (w.drewN q).cell? ⟨bb, ob + i * 2 + 1, none⟩ = some (.int .u64 (y2 : Int)) := d1
        have HX := Lib.hid hx; have HY := Lib.hid hy
        clear hx hy c0 c1 d0 d1 hrb
        obtain ⟨wq, hwq⟩ : ∃ wq, w.drewN q = wq := ⟨_, rfl⟩
        have HWq := Lib.hid hwq
        rw [hwq] at c0' c1' d0' d1' ⊢
        clear hwq
        have hne : ∀ (h : ¬ (x1 = y1 ∧ x2 = y2)), decide (a = b) = false := fun h => decide_eq_false fun e => by
          have h1 := HX.out
          rw [e, HY.out] at h1
          cases h1
          exact h ⟨rfl, rfl⟩
        by_cases e1 : x1 = y1
        · by_cases e2 : x2 = y2
          · have HT2 : Hid (a.take (i + 1) = b.take (i + 1)) := by show _ = _; rw [List.take_add_one, List.take_add_one, HT.out, HX.out, HY.out, e1, e2]
            subst e1
            subst e2
            clear hne
            go_wp2_with fail
            go_quiet (fail)
            obtain ⟨q3, hq3⟩ : ∃ q, wq.drewN nq = w.drewN q := ⟨q + nq, by rw [← HWq.out, drewN_two]⟩
            have HQ3 := Lib.hid hq3
            clear c0' c1' d0' d1' hq3
            generalize wq.drewN nq = w2 at *
            go_wp2_with fail
            go_roundw
            case rel => exact ⟨i + 1, q3, by omega, by go_num, HT2.out, HQ3.out⟩
            case measure => simp [intOf]; omega
          · have HR := Lib.hid (hne (fun h => e2 h.2))
            have he2 : ((x2 : Int) == (y2 : Int)) = false := by rw [beq_eq_false_iff_ne]; omega
            subst e1
            clear hne e2
            go_wp2_with fail
            go_quiet (fail)
            have HW2 : Hid (∃ q, wq.drewN nq = w.drewN q) := ⟨q + nq, by rw [← HWq.out, drewN_two]⟩
            clear c0' c1' d0' d1'
            generalize wq.drewN nq = w2 at *
            go_wp2_with fail
            go_ret
            exact ⟨by rw [HR.out]; rfl, HW2.out⟩
        · have HR := Lib.hid (hne (fun h => e1 h.1))
          have he1 : (x1 == y1) = false := by rw [beq_eq_false_iff_ne]; exact e1
          clear hne e1
          go_wp2_with fail
          go_quiet (fail)
          have HW2 : Hid (∃ q, wq.drewN nq = w.drewN q) := ⟨q + nq, by rw [← HWq.out, drewN_two]⟩
          clear c0' c1' d0' d1'
          generalize wq.drewN nq = w2 at *
          go_wp2_with fail
          go_ret
          exact ⟨by rw [HR.out]; rfl, HW2.out⟩
      · have hlt' : ¬ (i : Int) < (a.length : Int) := by omega
        have HE : Hid (decide (a = b) = true) := decide_eq_true (by have := HT.out; rw [List.take_of_length_le (by omega), List.take_of_length_le (by rw [← HL.out]; omega)] at this; exact this)
        obtain ⟨wq, hwq⟩ : ∃ wq, w.drewN q = wq := ⟨_, rfl⟩
        have HWq := Lib.hid hwq
        rw [hwq]
        clear hwq
        go_wp2_with fail
        go_ret
        exact ⟨by rw [HE.out]; rfl, q, HWq.out.symm⟩
  · have hlb : ((a.length : Int) == (b.length : Int)) = false := by rw [beq_eq_false_iff_ne]; omega
    have HR : Hid (decide (a = b) = false) := decide_eq_false fun e => hl (by rw [e])
    clear hl
    go_enter Tryz.func40, Tryz.ntmps40
    go_wp2_with fail
    go_ret
    exact ⟨by rw [HR.out]; rfl, 0, rfl⟩
end Go.Proofs.YtkodhbkmpnokjaaGreat

end

section
/- Layer 12: the reference's Equal. -/
set_option linter.unusedVariables false
set_option maxRecDepth 20000
namespace Go.Proofs.YtkodhbkmpnokjaaGreat
open Go Go.RowKit

theorem below_drewN' (w : World) (n : Nat) : Below w.heap.size w (w.drewN n) := (Mods.drewN (fun _ => False) w n).below (Nat.le_refl _) (fun _ _ e => e)

set_option maxHeartbeats 4000000 in
theorem ref_equal12 (av bv : Value) (a b : List Ser) (w : World) (ha : RdB w av a) (hb : RdB w bv b) (sa : Small a) (sb : Small b) :
    Calls Tryz.prog 15 #[av, bv] w fun e w' => e = .returned (.bool (decide (a = b))) ∧ Below w.heap.size w w' := by
  have HA := Lib.hid ha; have HB0 := Lib.hid hb; have SA := Lib.hid sa; have SB := Lib.hid sb
  obtain ⟨pa, ca, hv⟩ := ha.shape
  subst hv
  obtain ⟨pb, cb, hv⟩ := hb.shape
  subst hv
  have hma : (a.length : Int) ≤ 300 := by have := sa.len; omega
  have hmb : (b.length : Int) ≤ 300 := by have := sb.len; omega
  clear ha hb sa sb
  by_cases hl : a.length = b.length
  · have HL := Lib.hid hl
    rw [← hl] at HB0 ⊢
    clear hl hmb
    go_enter Tryz.func15, Tryz.ntmps15
    go_wp2_with fail
    go_loopw [5] (fun iv wr => ∃ (i : Nat), i ≤ a.length ∧ iv = .int .i64 (i : Int) ∧ Hid (a.take i = b.take i) ∧ Hid (Below w.heap.size w wr)) (fun iv _ => a.length - (intOf iv).toNat)
    case atStart => exact ⟨0, Nat.zero_le _, rfl, rfl, Below.refl _ _⟩
    case round =>
      obtain ⟨i, hi, rfl, HT, HB⟩ := hrel
      have him : (i : Int) ≤ 300 := by omega
      by_cases hlt : i < a.length
      · have hlt' : (i : Int) < (a.length : Int) := by omega
        obtain ⟨⟨x1, x2⟩, hx⟩ : ∃ x, a[i]? = some x := ⟨_, List.getElem?_eq_getElem hlt⟩
        obtain ⟨⟨y1, y2⟩, hy⟩ : ∃ y, b[i]? = some y := ⟨_, List.getElem?_eq_getElem (by rw [← HL.out]; exact hlt)⟩
        obtain ⟨ba, oa, h1, h2, e, ⟨p1, k1, e1⟩, ⟨p2, k2, e2⟩, hal⟩ := HA.out.always hx
        subst e
        simp only at e1 e2
        subst e1
        subst e2
        obtain ⟨bb, ob, g1, g2, e, ⟨p3, k3, e3⟩, ⟨p4, k4, e4⟩, hbl⟩ := HB0.out.always hy
        subst e
        simp only at e3 e4
        subst e3
        subst e4
        have HAl := Lib.hid hal; have HBl := Lib.hid hbl
        have hmx := List.mem_of_getElem? hx
        have hmy := List.mem_of_getElem? hy
        have HLs : Hid (x1.length ≤ 200 ∧ x2.length ≤ 3000 ∧ y1.length ≤ 200 ∧ y2.length ≤ 3000) := ⟨SA.out.lab _ hmx, SA.out.mem hmx, SB.out.lab _ hmy, SB.out.mem hmy⟩
        have hne : Hid (¬ (x1 = y1 ∧ x2 = y2) → decide (a = b) = false) := fun h => decide_eq_false fun e => by
          rw [e, hy] at hx
          cases hx
          exact h ⟨rfl, rfl⟩
        have HT2 : Hid (x1 = y1 → x2 = y2 → a.take (i + 1) = b.take (i + 1)) := fun e1 e2 => by rw [List.take_add_one, List.take_add_one, HT.out, hx, hy, e1, e2]
        obtain ⟨cA, cA2, hr1⟩ := hal wr HB.out
        clear hr1
        obtain ⟨cB, cB2, hr2⟩ := hbl wr HB.out
        clear hr2
        clear hx hy hal hbl hmx hmy
        have HCm : Hid (∀ n, Calls Tryz.prog 35 #[.slice p1 x1.length k1, .slice p3 y1.length k3] (wr.drewN n) fun e w' => e = .returned (.int .i64 (cmpLabs x1 y1)) ∧ ∃ m, w' = (wr.drewN n).drewN m) := fun n =>
          have hb : Below w.heap.size w (wr.drewN n) := HB.out.trans ((below_drewN' wr n).mono HB.out.size)
          ref_compareD _ _ x1 y1 _ (HAl.out _ hb).2.2.1 (HBl.out _ hb).2.2.1 (by have := HLs.out; omega) (by have := HLs.out; omega)
        have HSm : Hid (∀ n, Calls Tryz.prog 40 #[.slice p2 x2.length k2, .slice p4 y2.length k4] (wr.drewN n) fun e w' => e = .returned (.bool (decide (x2 = y2))) ∧ ∃ m, w' = (wr.drewN n).drewN m) := fun n =>
          have hb : Below w.heap.size w (wr.drewN n) := HB.out.trans ((below_drewN' wr n).mono HB.out.size)
          ref_same09 _ _ x2 y2 _ (HAl.out _ hb).2.2.2 (HBl.out _ hb).2.2.2 (by have := HLs.out; omega) (by have := HLs.out; omega)
        have hdom := cmpLabs_ok.dom x1 y1
        have HXY : Hid (cmpLabs x1 y1 = 0 ↔ x1 = y1) := cmpLabs_ok.eq x1 y1
        clear HAl HBl
        generalize cmpLabs x1 y1 = cv at *
        rcases hdom with rfl | rfl | rfl
        · have HR : Hid (a ≠ b) := fun e => by
            have := hne.out (fun h => by have := HXY.out.2 h.1; cases this)
            rw [decide_eq_false_iff_not] at this
            exact this e
          clear HSm hne HT2 HXY
          go_wp2_with fail
          go_quiet ((go_at_call 35; exact Calls.quiet_of (HCm.out _)))
          have HB6 : Hid (Below w.heap.size w (wr.drewN nq)) := HB.out.trans ((below_drewN' wr nq).mono HB.out.size)
          clear cA cB cA2 cB2
          generalize wr.drewN nq = w6 at *
          go_wp2_with fail
          go_ret
          exact ⟨by rw [decide_eq_false HR.out]; rfl, HB6.out⟩
        · have HXe : Hid (x1 = y1) := HXY.out.1 rfl
          by_cases hs2 : x2 = y2
          · have HT3 := Lib.hid (HT2.out HXe.out hs2)
            rw [decide_eq_true hs2] at HSm
            clear hs2 hne HT2 HXY HXe
            go_wp2_with fail
            go_quiet ((first | (go_at_call 35; exact Calls.quiet_of (HCm.out _)) | (go_at_call 40; exact Calls.quiet_of (HSm.out _))))
            have HB6 : Hid (Below w.heap.size w (wr.drewN nq)) := HB.out.trans ((below_drewN' wr nq).mono HB.out.size)
            clear cA cB cA2 cB2
            generalize wr.drewN nq = w6 at *
            go_wp2_with fail
            go_round
            case rel => exact ⟨i + 1, by omega, by go_num, HT3.out, HB6.out⟩
            case measure => simp [intOf]; omega
          · have HR : Hid (a ≠ b) := fun e => by
              have := hne.out (fun h => hs2 h.2)
              rw [decide_eq_false_iff_not] at this
              exact this e
            rw [decide_eq_false hs2] at HSm
            clear hs2 hne HT2 HXY HXe
            go_wp2_with fail
            go_quiet ((first | (go_at_call 35; exact Calls.quiet_of (HCm.out _)) | (go_at_call 40; exact Calls.quiet_of (HSm.out _))))
            have HB6 : Hid (Below w.heap.size w (wr.drewN nq)) := HB.out.trans ((below_drewN' wr nq).mono HB.out.size)
            clear cA cB cA2 cB2
            generalize wr.drewN nq = w6 at *
            go_wp2_with fail
            go_ret
            exact ⟨by rw [decide_eq_false HR.out]; rfl, HB6.out⟩
        · have HR : Hid (a ≠ b) := fun e => by
            have := hne.out (fun h => by have := HXY.out.2 h.1; cases this)
            rw [decide_eq_false_iff_not] at this
            exact this e
          clear HSm hne HT2 HXY
          go_wp2_with fail
          go_quiet ((go_at_call 35; exact Calls.quiet_of (HCm.out _)))
          have HB6 : Hid (Below w.heap.size w (wr.drewN nq)) := HB.out.trans ((below_drewN' wr nq).mono HB.out.size)
          clear cA cB cA2 cB2
          generalize wr.drewN nq = w6 at *
          go_wp2_with fail
          go_ret
          exact ⟨by rw [decide_eq_false HR.out]; rfl, HB6.out⟩
      · have hlt' : ¬ (i : Int) < (a.length : Int) := by omega
        have HE : Hid (decide (a = b) = true) := decide_eq_true (by have := HT.out; rw [List.take_of_length_le (by omega), List.take_of_length_le (by rw [← HL.out]; omega)] at this; exact this)
        go_wp2_with fail
        go_ret
        exact ⟨by rw [HE.out]; rfl, HB.out⟩
  · have hlb : ((a.length : Int) == (b.length : Int)) = false := by rw [beq_eq_false_iff_ne]; omega
    have HR : Hid (decide (a = b) = false) := decide_eq_false fun e => hl (by rw [e])
    clear hl
    go_enter Tryz.func15, Tryz.ntmps15
    go_wp2_with fail
    go_ret
    exact ⟨by rw [HR.out]; rfl, Below.refl _ _⟩
end Go.Proofs.YtkodhbkmpnokjaaGreat

end

section
/- Lists of strings as rows. -/
set_option linter.unusedVariables false
namespace Go.Proofs.YtkodhbkmpnokjaaGreat
open Go Go.RowKit

theorem strs_one (l : List ByteArray) : ∀ u ∈ strs l, u.oneCell' = true := by
  intro u hu
  simp only [strs, List.mem_map] at hu
  obtain ⟨n, _, rfl⟩ := hu
  rfl
theorem Tryz.infoStr : (Tryz.prog.info? 9).map (fun i => (i.zero, i.size, i.bytes)) = some (some (.string ⟨#[]⟩), 1, 16) := by kernel_rfl
theorem Tryz.elemStr : Elem Tryz.prog 44 9 1 16 := Elem.mk' Tryz.underlying44 Tryz.infoStr rfl (by decide)
end Go.Proofs.YtkodhbkmpnokjaaGreat

end

section
/- Arguments that came in, opened: what the cells of a value of a flat type (numbers, bools, strings, and structs and arrays of these) hold; slices of these. No program in sight. -/
namespace Go.Proofs.YtkodhbkmpnokjaaGreat
open Go Go.RowKit Go.ChangeShapes

/-- Every reading at type e is of the cells 'f a' for an 'a' that is 'ok'. -/
def Flat (P : Program) (e : TypeId) (sz : Nat) {α : Type} (f : α → List Value) (ok : α → Prop) : Prop :=
  P.cellsOf e = sz ∧ ∀ (H : Type) (enc : TypeId × Value → H) (w : World) (base : Nat) (spare : Nat → Bool) (held : Bool) (fuel : Nat) (cs : List Value) (x : DataW H × List MemPlace),
    DataW.trod enc P w base spare held fuel e cs = some x → ∃ a, ok a ∧ cs = f a

theorem Flat.map {P : Program} {e : TypeId} {sz : Nat} {α β : Type} {f : α → List Value} {ok : α → Prop} (h : Flat P e sz f ok) {g : β → List Value} {ok' : β → Prop} (hm : ∀ a, ok a → ∃ b, ok' b ∧ f a = g b) : Flat P e sz g ok' :=
  ⟨h.1, fun H enc w base spare held fuel cs x hx => by
    obtain ⟨a, ha, rfl⟩ := h.2 H enc w base spare held fuel cs x hx
    exact hm a ha⟩
theorem flat_int {P : Program} {e : TypeId} {k : IntKind} (he : P.underlying e = some (.int k)) (hc : P.cellsOf e = 1) : Flat P e 1 (fun z : Int => [Value.int k z]) (fun z => (Lit.int k z).wf = true) :=
  ⟨hc, fun H enc w base spare held fuel cs x hx => by
    obtain ⟨n, rfl, _, hw⟩ := DataW.trod_int he hx
    exact ⟨n, hw, rfl⟩⟩
theorem flat_bool {P : Program} {e : TypeId} (he : P.underlying e = some .bool) (hc : P.cellsOf e = 1) : Flat P e 1 (fun b : Bool => [Value.bool b]) (fun _ => True) :=
  ⟨hc, fun H enc w base spare held fuel cs x hx => by
    obtain ⟨n, rfl, _⟩ := DataW.trod_bool he hx
    exact ⟨n, trivial, rfl⟩⟩
theorem flat_string {P : Program} {e : TypeId} (he : P.underlying e = some .string) (hc : P.cellsOf e = 1) : Flat P e 1 (fun s : ByteArray => [Value.string s]) (fun s => s.size ≤ maxLen) :=
  ⟨hc, fun H enc w base spare held fuel cs x hx => by
    obtain ⟨s, rfl, _, hs⟩ := DataW.trod_string he hx
    exact ⟨s, hs, rfl⟩⟩
theorem flat_struct2 {P : Program} {e : TypeId} {f0 f1 : Field} {s0 s1 : Nat} {α β : Type} {g0 : α → List Value} {g1 : β → List Value} {k0 : α → Prop} {k1 : β → Prop}
    (he : P.underlying e = some (.struct #[f0, f1])) (hc : P.cellsOf e = s0 + s1) (o0 : f0.offset = 0) (o1 : f1.offset = s0) (h0 : Flat P f0.type s0 g0 k0) (h1 : Flat P f1.type s1 g1 k1) :
    Flat P e (s0 + s1) (fun a : α × β => g0 a.1 ++ g1 a.2) (fun a => k0 a.1 ∧ k1 a.2) :=
  ⟨hc, fun H enc w base spare held fuel cs x hx => by
    obtain ⟨y0, y1, n, _, hl, t0, t1⟩ := trod_struct2 he hx
    rw [o0, h0.1] at t0
    rw [o1, h1.1] at t1
    obtain ⟨a, ha, ea⟩ := h0.2 H enc w base spare held n _ _ t0
    obtain ⟨b, hb, eb⟩ := h1.2 H enc w base spare held n _ _ t1
    refine ⟨(a, b), ⟨ha, hb⟩, ?_⟩
    show cs = g0 a ++ g1 b
    rw [← ea, ← eb]
    simp only [List.drop_zero]
    rw [List.take_of_length_le (l := cs.drop s0) (by rw [List.length_drop, hl, hc]; omega), List.take_append_drop]⟩

theorem cells_get {w : World} {base : Nat} {a : Addr} {n : Nat} {cs : List Value} (h : w.cells? base a n = some cs) : cs.length = n ∧ ∀ (j : Nat) (u : Value), cs[j]? = some u → w.cell? (a.add j) = some u := by
  unfold World.cells? at h
  split at h
  · have key : ∀ (l : List Nat) (cs : List Value), l.mapM (fun i => w.cell? (a.add i)) = some cs → cs.length = l.length ∧ ∀ (j : Nat) (u : Value), cs[j]? = some u → ∃ i, l[j]? = some i ∧ w.cell? (a.add i) = some u := by
      intro l
      induction l with
      | nil => intro cs h; simp at h; subst h; simp
      | cons i l ih =>
        intro cs h
        rw [List.mapM_cons] at h
        simp only [Option.bind_eq_bind, Option.bind_eq_some_iff, Option.pure_def, Option.some.injEq] at h
        obtain ⟨x, hx, ys, hys, rfl⟩ := h
        obtain ⟨h1, h2⟩ := ih ys hys
        refine ⟨by simp [h1], fun j u hu => ?_⟩
        cases j with
        | zero => simp at hu; subst hu; exact ⟨i, rfl, hx⟩
        | succ j => simp at hu; obtain ⟨i', hi', hc⟩ := h2 j u hu; exact ⟨i', by simpa using hi', hc⟩
    obtain ⟨h1, h2⟩ := key _ _ h
    refine ⟨by simpa using h1, fun j u hu => ?_⟩
    obtain ⟨i, hi, hc⟩ := h2 j u hu
    rw [List.getElem?_range (by rcases Nat.lt_or_ge j n with hj | hj; exact hj; simp [List.getElem?_eq_none (show cs.length ≤ j by rw [h1]; simpa using hj)] at hu)] at hi
    simp at hi
    subst hi
    exact hc
  · cases h

theorem flatMap_get {α β : Type} {sz : Nat} (f : α → List β) (l : List α) (hf : ∀ a ∈ l, (f a).length = sz) (i k : Nat) (hk : k < sz) (u : β) (h : (l.flatMap f)[i * sz + k]? = some u) : ∃ a, l[i]? = some a ∧ (f a)[k]? = some u := by
  induction l generalizing i with
  | nil => simp at h
  | cons a l ih =>
    have ha := hf a (by simp)
    rw [List.flatMap_cons] at h
    cases i with
    | zero =>
      rw [Nat.zero_mul, Nat.zero_add, List.getElem?_append_left (by omega)] at h
      exact ⟨a, rfl, h⟩
    | succ i =>
      rw [List.getElem?_append_right (by rw [ha, Nat.add_mul]; omega), ha, show (i + 1) * sz + k - sz = i * sz + k by rw [Nat.add_mul]; omega] at h
      obtain ⟨b, hb, hu⟩ := ih (fun a ha => hf a (by simp [ha])) i h
      exact ⟨b, by simpa using hb, hu⟩
theorem flatMap_len {α β : Type} {sz : Nat} (f : α → List β) (l : List α) (hf : ∀ a ∈ l, (f a).length = sz) : (l.flatMap f).length = l.length * sz := by
  induction l with
  | nil => simp
  | cons a l ih => rw [List.flatMap_cons, List.length_append, hf a (by simp), ih (fun a ha => hf a (by simp [ha])), List.length_cons, Nat.add_mul]; omega

theorem flatMap_one {α β : Type} (f : α → β) (l : List α) : l.flatMap (fun a => [f a]) = l.map f := by
  induction l with
  | nil => rfl
  | cons a l ih => rw [List.flatMap_cons, ih]; rfl
theorem rd_cell {α : Type} {f : α → Value} {w : World} {v : Value} {l : List α} (h : Rd w 1 v l.length (l.flatMap fun a => [f a])) (j : Nat) (hj : j < l.length) :
    ∃ b off c, v = .slice (some ⟨b, off, none⟩) l.length c ∧ w.cell? ⟨b, off + j, none⟩ = some (f l[j]) ∧ b < w.heap.size := by
  have hg : (l.flatMap fun a => [f a])[j]? = some (f l[j]) := by rw [flatMap_one]; simp [hj]
  obtain ⟨b, off, c, hv, _, _, hc⟩ := h.at (fun e => by rw [e] at hg; simp at hg)
  have := hc j _ hg
  exact ⟨b, off, c, hv, this, World.block_lt_of_cell? w _ this⟩

/-- A slice of a flat type that came in. -/
theorem open_flat {P : Program} {t e : TypeId} {sz : Nat} (hsz : 0 < sz) {α : Type} [Inhabited α] {f : α → List Value} {ok : α → Prop} (hF : Flat P e sz f ok) (ht : P.underlying t = some (.slice e))
    {H : Type} {enc : TypeId × Value → H} {w : World} {base : Nat} {spare : Nat → Bool} {held : Bool} {v : Value} {d : DataW H} {ps : List MemPlace} {n c : Nat} {p : Option Addr} (hv : v = .slice p n c)
    (h : DataW.Trod enc P w base spare held t v d ps) :
    ∃ l : List α, (∀ a ∈ l, ok a) ∧ l.length = n ∧ Rd w sz v l.length (l.flatMap f) ∧ ((d = .nil ∧ l.length = 0) ∨ ∃ elems rest, d = .slice elems rest ∧ elems.length = l.length) := by
  subst hv
  obtain ⟨fuel, h⟩ := h
  rcases Deep.open_slice ht h with ⟨hcs, hx⟩ | ⟨a, len, cap, m, n', D, Pl, hcs, _, hl, hm, hmm, hx, hel⟩
  · simp [Value.cells] at hcs
    obtain ⟨rfl, rfl, rfl⟩ := hcs
    simp at hx
    exact ⟨[], by simp, rfl, Rd.nil w sz, Or.inl ⟨hx.1, rfl⟩⟩
  · simp [Value.cells] at hcs
    obtain ⟨rfl, rfl, rfl⟩ := hcs
    have hml : n ≤ m := by rw [hmm]; split <;> omega
    have hch : ∀ i, i < n → ∃ b : α, ok b ∧ (f b).length = sz ∧ ∀ (j : Nat) (u : Value), (f b)[j]? = some u → w.cell? (a.add (i * sz + j)) = some u := by
      intro i hi
      obtain ⟨cs', h1, h2⟩ := hel i (by omega)
      rw [hF.1] at h1
      obtain ⟨b, hb, rfl⟩ := hF.2 H enc w base spare held n' _ _ h2
      obtain ⟨h3, h4⟩ := cells_get h1
      exact ⟨b, hb, h3, fun j u hu => by rw [← Deep.add_add]; exact h4 j u hu⟩
    obtain ⟨g, hg⟩ := Deep.choose_lt hch
    have hlen : ∀ b ∈ (List.range n).map g, (f b).length = sz := by
      intro b hb
      obtain ⟨i, hi, rfl⟩ := List.mem_map.1 hb
      exact (hg i (List.mem_range.1 hi)).2.1
    simp at hx
    refine ⟨(List.range n).map g, ?_, by simp, ⟨some a, c, by simp, ?_, by simpa using hl, hm, (fun e => by cases e), ?_⟩, Or.inr ⟨_, _, hx.1, by simp⟩⟩
    · intro b hb
      obtain ⟨i, hi, rfl⟩ := List.mem_map.1 hb
      exact (hg i (List.mem_range.1 hi)).1
    · rw [flatMap_len f _ hlen]
    · intro ad e j u hu
      cases e
      have hj : j = j / sz * sz + j % sz := by rw [Nat.mul_comm]; exact (Nat.div_add_mod j sz).symm
      rw [hj] at hu
      obtain ⟨b, hb, hu'⟩ := flatMap_get f _ hlen (j / sz) (j % sz) (Nat.mod_lt _ hsz) u hu
      have hlt : j / sz < n := by
        rcases Nat.lt_or_ge (j / sz) n with h | h
        · exact h
        · rw [List.getElem?_eq_none (by simpa using h)] at hb; cases hb
      rw [List.getElem?_map, List.getElem?_range hlt] at hb
      simp at hb
      subst hb
      rw [hj]
      exact (hg (j / sz) hlt).2.2 _ u hu'

/-- A struct or an array by value. -/
theorem open_flat_agg {P : Program} {t : TypeId} {sz : Nat} {α : Type} {f : α → List Value} {ok : α → Prop} (hF : Flat P t sz f ok)
    {H : Type} {enc : TypeId × Value → H} {w : World} {base : Nat} {spare : Nat → Bool} {held : Bool} {v : Value} {d : DataW H} {ps : List MemPlace} {cs : Array Value} (hv : v = .agg cs)
    (h : DataW.Trod enc P w base spare held t v d ps) : ∃ a : α, ok a ∧ v = .agg (f a).toArray := by
  subst hv
  obtain ⟨fuel, h⟩ := h
  obtain ⟨a, ha, e⟩ := hF.2 H enc w base spare held fuel _ _ h
  exact ⟨a, ha, by rw [← e]; simp [Value.cells]⟩
theorem flat_array2 {P : Program} {t e : TypeId} {s : Nat} {α : Type} {g : α → List Value} {k : α → Prop} (he : P.underlying t = some (.array 2 e)) (hc : P.cellsOf t = s + s) (h : Flat P e s g k) :
    Flat P t (s + s) (fun a : α × α => g a.1 ++ g a.2) (fun a => k a.1 ∧ k a.2) :=
  ⟨hc, fun H enc w base spare held fuel cs x hx => by
    obtain ⟨xs, m, _, _, hl, hlen, hf⟩ := DataW.trod_array he hx
    match xs, hlen with
    | [y0, y1], _ =>
      have t0 := hf 0 (by decide)
      have t1 := hf 1 (by decide)
      rw [h.1] at t0 t1
      obtain ⟨a, ha, ea⟩ := h.2 H enc w base spare held m _ _ t0
      obtain ⟨b, hb, eb⟩ := h.2 H enc w base spare held m _ _ t1
      refine ⟨(a, b), ⟨ha, hb⟩, ?_⟩
      show cs = g a ++ g b
      rw [← ea, ← eb]
      simp only [Nat.zero_mul, Nat.one_mul, List.drop_zero]
      rw [List.take_of_length_le (l := cs.drop s) (by rw [List.length_drop, hl, hc]; omega), List.take_append_drop]⟩

theorem nat_u8 {z : Int} (h : (Lit.int .u8 z).wf = true) : ∃ n : Nat, n < 256 ∧ z = n := by have := bounds_u8 h; exact ⟨z.toNat, by omega, by omega⟩
theorem nat_u16 {z : Int} (h : (Lit.int .u16 z).wf = true) : ∃ n : Nat, n < 65536 ∧ z = n := by have := bounds_u16 h; exact ⟨z.toNat, by omega, by omega⟩
theorem nat_u32 {z : Int} (h : (Lit.int .u32 z).wf = true) : ∃ n : Nat, n < 4294967296 ∧ z = n := by have := bounds_u32 h; exact ⟨z.toNat, by omega, by omega⟩
theorem nat_u64 {z : Int} (h : (Lit.int .u64 z).wf = true) : ∃ n : Nat, n < 18446744073709551616 ∧ z = n := by have := bounds_u64 h; exact ⟨z.toNat, by omega, by omega⟩
theorem int_i64 {z : Int} (h : (Lit.int .i64 z).wf = true) : ∃ n : Int, (-9223372036854775808 ≤ n ∧ n < 9223372036854775808) ∧ z = n := by have := bounds_i64 h; exact ⟨z, by omega, rfl⟩
theorem okWide_arr {P : Program} {w : World} {r : Reach} {base n : Nat} {t e : TypeId} {v : Value} (ht : P.underlying t = some (.array n e)) (h : Value.okWide P w r base t v) : ∃ cs, v = .agg cs ∧ cs.size = P.cellsOf t := by
  simp only [Value.okWide, ht] at h
  obtain ⟨cs, h1, h2, _⟩ := h
  exact ⟨cs, h1, h2⟩

/-- How much such an argument may weigh. -/
theorem sized_flat {P : Program} {H : Type} {ts : List TypeId} {ds : List (DataW H)} (hw : (DataW.weightsEach P ts ds).all (· ≤ reachBytes) = true) {j : Nat} {t e : TypeId} {d : DataW H} {bytes m : Nat}
    (ht : ts[j]? = some t) (hd : ds[j]? = some d) (hu : P.underlying t = some (.slice e)) (hb : P.bytesOf e = bytes) (h : (d = .nil ∧ m = 0) ∨ ∃ elems rest, d = .slice elems rest ∧ elems.length = m) : m * bytes ≤ 140737488351232 := by
  rcases h with ⟨_, rfl⟩ | ⟨elems, rest, rfl, rfl⟩
  · omega
  · have := sized_slice hw ht hd hu
    rw [hb] at this
    have h2 : elems.length * bytes ≤ (elems.length + rest.length) * bytes := Nat.mul_le_mul_right _ (by omega)
    have h3 : reachBytes = 140737488351232 := by decide
    omega

/-- The bytes of a slice of bytes. -/
theorem flat_u8 {P : Program} {e : TypeId} (he : P.underlying e = some (.int .u8)) (hc : P.cellsOf e = 1) : Flat P e 1 (fun n : Nat => [Value.int .u8 (n : Int)]) (fun n => n < 256) :=
  (flat_int he hc).map fun z hz => by
    have := bounds_u8 hz
    exact ⟨z.toNat, by omega, by rw [Int.toNat_of_nonneg (by omega)]⟩
theorem flat_u64 {P : Program} {e : TypeId} (he : P.underlying e = some (.int .u64)) (hc : P.cellsOf e = 1) : Flat P e 1 (fun n : Nat => [Value.int .u64 (n : Int)]) (fun n => n < 18446744073709551616) :=
  (flat_int he hc).map fun z hz => by
    have := bounds_u64 hz
    exact ⟨z.toNat, by omega, by rw [Int.toNat_of_nonneg (by omega)]⟩
theorem flat_i64 {P : Program} {e : TypeId} (he : P.underlying e = some (.int .i64)) (hc : P.cellsOf e = 1) : Flat P e 1 (fun z : Int => [Value.int .i64 z]) (fun z => -9223372036854775808 ≤ z ∧ z < 9223372036854775808) :=
  (flat_int he hc).map fun z hz => by
    have := bounds_i64 hz
    exact ⟨z, by omega, rfl⟩
theorem flatMap_u8s (l : List Nat) : l.flatMap (fun n : Nat => [Value.int .u8 (n : Int)]) = u8s l := by
  induction l with
  | nil => rfl
  | cons a l ih => rw [List.flatMap_cons, ih]; simp [u8s]
end Go.Proofs.YtkodhbkmpnokjaaGreat

end
