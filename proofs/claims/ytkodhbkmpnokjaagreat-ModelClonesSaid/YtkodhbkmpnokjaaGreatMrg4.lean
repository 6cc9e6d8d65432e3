/- Ref12B, RowHd, LabGot, Ref11B, NmAt, Ref12C, in one text. -/
import Derived.Test.YtkodhbkmpnokjaaGreatMrg3
import Derived.Test.YtkodhbkmpnokjaaGreatMrg2

section
/- Layer 12: the reference's Check. -/
set_option linter.unusedVariables false
set_option maxRecDepth 20000
namespace Go.Proofs.YtkodhbkmpnokjaaGreat
open Go Go.RowKit

/-- The labels ahead of place i. -/
def prevB (b : List Ser) (i : Nat) : Option (List Lab) := if i = 0 then none else (b[i - 1]?).map Prod.fst
def nextB (p : Option (List Lab)) (l : List Lab) (rest : Nat) : Nat := match p with
  | none => rest
  | some q => if cmpLabs q l = 0 then 19 else if 0 < cmpLabs q l then 16 else rest
theorem checkB_step {b : List Ser} {i : Nat} {s : Ser} (hx : b[i]? = some s) (h : checkB b = checkBFrom (prevB b i) (b.drop i)) :
    checkB b = if serErr s ≠ 0 then serErr s else nextB (prevB b i) s.1 (checkBFrom (prevB b (i + 1)) (b.drop (i + 1))) := by
  have hlt := (List.getElem?_eq_some_iff.1 hx).1
  have hd : b.drop i = s :: b.drop (i + 1) := by rw [List.drop_eq_getElem_cons hlt, (List.getElem?_eq_some_iff.1 hx).2]
  have hp : prevB b (i + 1) = some s.1 := by rw [prevB, if_neg (by omega), Nat.add_sub_cancel, hx]; rfl
  rw [h, hd, hp]
  conv => lhs; unfold checkBFrom
  cases prevB b i <;> rfl

set_option maxHeartbeats 4000000 in
theorem ref_check12 (bv : Value) (b : List Ser) (w : World) (h : RdB w bv b) (hs : Small b) (hz : Sized b) :
    Calls Tryz.prog 12 #[bv] w fun e w' => e = .returned (.int .i64 (checkB b : Int)) ∧ Below w.heap.size w w' := by
  have H := Lib.hid h; have HSm := Lib.hid hs; have HZ := Lib.hid hz
  have HLg := Lib.hid (ref_large12 bv b w h hs)
  obtain ⟨p, c, hv⟩ := h.shape
  subst hv
  have hmx : (b.length : Int) ≤ 300 := by have := hs.len; omega
  clear h hs hz
  go_enter Tryz.func12, Tryz.ntmps12
  go_wp2_with fail
  refine HLg.out.mono ?_
  rintro e w1 ⟨rfl, rfl⟩
  go_wp2_with fail
  go_loopw [3] (fun iv wr => ∃ (i : Nat), i ≤ b.length ∧ iv = .int .i64 (i : Int) ∧ Hid (checkB b = checkBFrom (prevB b i) (b.drop i)) ∧ Hid (Below w1.heap.size w1 wr)) (fun iv _ => b.length - (intOf iv).toNat)
  case atStart => exact ⟨0, Nat.zero_le _, rfl, rfl, Below.refl _ _⟩
  case round =>
    obtain ⟨i, hi, rfl, HC, HB⟩ := hrel
    have him : (i : Int) ≤ 300 := by omega
    by_cases hlt : i < b.length
    · have hlt' : (i : Int) < (b.length : Int) := by omega
      obtain ⟨⟨ls, ss⟩, hx⟩ : ∃ s, b[i]? = some s := ⟨_, List.getElem?_eq_getElem hlt⟩
      obtain ⟨blk, off, h1, h2, e, ⟨p1, k1, e1⟩, ⟨p2, k2, e2⟩, hal⟩ := H.out.always hx
      subst e
      simp only at e1 e2
      subst e1
      subst e2
      have HAl := Lib.hid hal
      have HSt := Lib.hid (checkB_step hx HC.out)
      have hmem := List.mem_of_getElem? hx
      have HL1 : Hid (ls.length ≤ 200 ∧ ss.length ≤ 3000) := ⟨HSm.out.lab _ hmem, HSm.out.mem hmem⟩
      obtain ⟨c1, _, hsr⟩ := hal wr HB.out
      have HCk := Lib.hid (ref_check11 _ ls wr hsr.1 (HZ.out _ hmem).1 (by have := HL1.out.1; omega))
      have HX := Lib.hid hx
      clear hx hal hsr hmem HC
      by_cases hc : checkL ls = 0
      · by_cases hss : ss.length = 0
        · have HE : Hid (checkB b = 21) := by
            have hnil : ss = [] := List.eq_nil_of_length_eq_zero hss
            have hser : serErr (ls, ss) = 21 := by unfold serErr; rw [if_neg (not_not_intro hc), if_pos hnil]
            have := HSt.out
            rw [hser] at this
            exact this
          rw [hc] at HCk
          have hssi : ((ss.length : Int) == 0) = true := by rw [beq_iff_eq]; omega
          rw [hss] at HAl
          clear hc hssi HSt
          go_wp2_with fail
          refine HCk.out.mono ?_
          rintro e w2 ⟨rfl, hB⟩
          have HB2 : Hid (Below w1.heap.size w1 w2) := HB.out.trans (hB.mono HB.out.size)
          have c2 := (HAl.out w2 HB2.out).2.1
          clear hB HCk c1
          go_wp2_with fail
          go_ret
          exact ⟨by rw [HE.out]; rfl, HB2.out⟩
        · have HSer : Hid (serErr (ls, ss) = timesL ss) := by
            show _ = _
            unfold serErr
            rw [if_neg (not_not_intro hc), if_neg (fun e : ss = [] => hss (by rw [e]; rfl))]
          rw [hc] at HCk
          have hssi : ((ss.length : Int) == 0) = false := by rw [beq_eq_false_iff_ne]; omega
          clear hc
          go_wp2_with fail
          refine HCk.out.mono ?_
          rintro e w2 ⟨rfl, hB⟩
          have HB2 : Hid (Below w1.heap.size w1 w2) := HB.out.trans (hB.mono HB.out.size)
          have c2 := (HAl.out w2 HB2.out).2.1
          have HTm := Lib.hid (ref_times12 _ ss w2 (HAl.out w2 HB2.out).2.2.2 (by have := HL1.out.2; omega))
          clear hB HCk c1
          go_wp2_with fail
          refine HTm.out.mono ?_
          rintro e w3 ⟨rfl, q3, rfl⟩
          have HB3 : Hid (Below w1.heap.size w1 (w2.drewN q3)) := HB2.out.trans ((Mods.drewN (fun _ => False) w2 q3).below HB2.out.size (fun _ _ e => e))
          clear c2 HTm
          generalize w2.drewN q3 = w3 at *
          by_cases ht : timesL ss = 0
          · have HSt2 : Hid (checkB b = nextB (prevB b i) ls (checkBFrom (prevB b (i + 1)) (b.drop (i + 1)))) := by
              have := HSt.out
              rw [HSer.out, if_neg (not_not_intro ht)] at this
              exact this
            rw [ht]
            clear ht HSt HSer
            by_cases h0 : i = 0
            · subst h0
              have HE : Hid (checkB b = checkBFrom (prevB b (0 + 1)) (b.drop (0 + 1))) := HSt2.out
              clear HSt2
              go_wp2_with fail
              go_round
              case rel => exact ⟨0 + 1, by omega, by go_num, HE.out, HB3.out⟩
              case measure => simp [intOf]; omega
            · obtain ⟨k, rfl⟩ : ∃ k, i = k + 1 := ⟨i - 1, by omega⟩
              obtain ⟨⟨lq, sq⟩, hy⟩ : ∃ s, b[k]? = some s := ⟨_, List.getElem?_eq_getElem (by omega)⟩
              obtain ⟨blk2, off2, g1, g2, e, ⟨p3, k3, e3⟩, _, hal2⟩ := H.out.always hy
              simp only [Option.some.injEq, Addr.mk.injEq] at e
              obtain ⟨rfl, rfl, _⟩ := e
              simp only at e3
              subst e3
              have HL2 : Hid (lq.length ≤ 200) := HSm.out.lab _ (List.mem_of_getElem? hy)
              have hprev : prevB b (k + 1) = some lq := by rw [prevB, if_neg (by omega), Nat.add_sub_cancel, hy]; rfl
              have HE : Hid (checkB b = if cmpLabs lq ls = 0 then 19 else if 0 < cmpLabs lq ls then 16 else checkBFrom (prevB b (k + 1 + 1)) (b.drop (k + 1 + 1))) := by
                have := HSt2.out
                rw [hprev] at this
                exact this
              have cA := (hal2 w3 HB3.out).1
              have cB := (HAl.out w3 HB3.out).1
              have hki : ((k + 1 : Nat) : Int) - 1 = (k : Int) := by omega
              have hkw : IntKind.i64.wrap (k : Int) = (k : Int) := IntWalk.i64_in _ (by omega)
              have hkN : k < b.length := by omega
              have hk1 : k + 1 < b.length := hlt
              have hpos : (0 : Int) < ((k + 1 : Nat) : Int) := by omega
              have hkl : (k : Int) < (b.length : Int) := by omega
              have HAq := Lib.hid hal2
              have hdom := cmpLabs_ok.dom lq ls
              clear hy hal2 hprev HSt2 h0
              obtain ⟨I, hI⟩ : ∃ I, k + 1 = I := ⟨_, rfl⟩
              have HI := Lib.hid hI
              rw [hI] at HAl HE him hlt' hki hk1 hpos ⊢
              rw [hI] at cB
              clear hI hi hlt
              go_wp2_with fail
              have HS : Hid (∀ w' : World, (w'.cell? ⟨blk, off + k * 2, none⟩ = some (.slice p3 lq.length k3) ∧ w'.cell? ⟨blk, off + I * 2, none⟩ = some (.slice p1 ls.length k1) ∧ True) → (w'.cell? ⟨blk, off + k * 2, none⟩ = some (.slice p3 lq.length k3) ∧ w'.cell? ⟨blk, off + I * 2, none⟩ = some (.slice p1 ls.length k1) ∧ True)) := fun _ h => h
              refine wp_normal ?_
              refine wp_region_takeH (fun w' : World => w'.cell? ⟨blk, off + k * 2, none⟩ = some (.slice p3 lq.length k3) ∧ w'.cell? ⟨blk, off + I * 2, none⟩ = some (.slice p1 ls.length k1) ∧ True) [11] [0, 1, 2, 3, 4, 5, 6, 7, 8, 9, 10, 11, 12] (by kernel_rfl) (by kernel_rfl) (by kernel_rfl) ?_ ?_ ?_
              · intro c a a' w hd h; cases h.1
              · exact ⟨cA, cB, trivial⟩
              clear cA cB
              simp only [taken, List.map_cons, List.map_nil, List.getElem?_cons_succ, List.getElem?_cons_zero, Option.getD_some]
              repeat (first
        | (refine takeH_skip rfl ?_; simp only [Act.put, List.setIfInBounds_toArray, List.set_cons_succ, List.set_cons_zero])
        | (refine takeH_blind rfl rfl ?_; apply Exists.intro; refine ⟨fun w => ?_, ?_⟩; (go_simp; try with_reducible rfl); simp only [Act.put, List.setIfInBounds_toArray, List.set_cons_succ, List.set_cons_zero])
        | (refine takeH_reads rfl rfl ?_; apply Exists.intro; refine ⟨fun w' hS => ?_, ?_⟩; (obtain ⟨d0, d1, d2⟩ := HS.out w' hS; go_simp; try with_reducible rfl); simp only [Act.put, List.setIfInBounds_toArray, List.set_cons_succ, List.set_cons_zero]))
              refine takeH_call rfl rfl (fun K' hK => ?_)
              have HB4 : Hid (Below w1.heap.size w1 w3.drew) := HB3.out.trans ((Mods.drew (fun _ => False) w3).below HB3.out.size (fun _ _ e => e))
              have HCm := Lib.hid (ref_compare11 _ _ lq ls w3.drew (HAq.out _ HB4.out).2.2.1 (HAl.out _ HB4.out).2.2.1 (by have := HL2.out; omega) (by have := HL1.out.1; omega))
              generalize w3.drew = w4 at *
              go_wp2_with fail
              refine HCm.out.mono ?_
              rintro en w5 ⟨rfl, hB⟩
              have HB5 : Hid (Below w1.heap.size w1 w5) := HB4.out.trans (hB.mono HB4.out.size)
              refine hK _ _ ⟨(HAq.out _ HB5.out).1, (HAl.out _ HB5.out).1, trivial⟩ ?_
              clear hK K' hB HCm
              repeat (first
        | (refine takeH_skip rfl ?_; simp only [Act.put, List.setIfInBounds_toArray, List.set_cons_succ, List.set_cons_zero])
        | (refine takeH_blind rfl rfl ?_; apply Exists.intro; refine ⟨fun w => ?_, ?_⟩; (go_simp; try with_reducible rfl); simp only [Act.put, List.setIfInBounds_toArray, List.set_cons_succ, List.set_cons_zero])
        | (refine takeH_reads rfl rfl ?_; apply Exists.intro; refine ⟨fun w' hS => ?_, ?_⟩; (obtain ⟨d0, d1, d2⟩ := HS.out w' hS; go_simp; try with_reducible rfl); simp only [Act.put, List.setIfInBounds_toArray, List.set_cons_succ, List.set_cons_zero]))
              refine takeH_nil ⟨rfl, ?_⟩
              clear HS
              generalize cmpLabs lq ls = cv at *
              rcases hdom with rfl | rfl | rfl
              · have HE2 : Hid (checkB b = checkBFrom (prevB b (I + 1)) (b.drop (I + 1))) := by rw [← HI.out]; rw [← HI.out] at HE; exact HE.out
                clear HE
                go_wp2_with fail
                go_round
                case rel => exact ⟨I + 1, by omega, by go_num, HE2.out, HB5.out⟩
                case measure => simp [intOf]; omega
              · have HE2 : Hid (checkB b = 19) := HE.out
                clear HE
                go_wp2_with fail
                go_ret
                exact ⟨by rw [HE2.out]; rfl, HB5.out⟩
              · have HE2 : Hid (checkB b = 16) := HE.out
                clear HE
                go_wp2_with fail
                go_ret
                exact ⟨by rw [HE2.out]; rfl, HB5.out⟩
          · have HE : Hid (checkB b = timesL ss) := by
              have := HSt.out
              rw [HSer.out, if_pos ht] at this
              exact this
            have htb : ((timesL ss : Int) == 0) = false := by rw [beq_eq_false_iff_ne]; omega
            clear ht HSt HSer
            generalize timesL ss = te at *
            go_wp2_with fail
            go_ret
            exact ⟨by rw [HE.out]; rfl, HB3.out⟩
      · have HE : Hid (checkB b = checkL ls) := by
          have hser : serErr (ls, ss) = checkL ls := by unfold serErr; rw [if_pos hc]
          have := HSt.out
          rw [hser, if_pos hc] at this
          exact this
        have hcb : ((checkL ls : Int) == 0) = false := by rw [beq_eq_false_iff_ne]; omega
        clear hc HSt
        generalize checkL ls = ce at *
        go_wp2_with fail
        refine HCk.out.mono ?_
        rintro e w2 ⟨rfl, hB⟩
        have HB2 : Hid (Below w1.heap.size w1 w2) := HB.out.trans (hB.mono HB.out.size)
        clear hB HCk c1
        go_wp2_with fail
        go_ret
        exact ⟨by rw [HE.out]; rfl, HB2.out⟩
    · have hlt' : ¬ (i : Int) < (b.length : Int) := by omega
      have HE : Hid (checkB b = 0) := by
        show _ = _
        rw [HC.out, List.drop_of_length_le (by omega)]
        cases prevB b i <;> rfl
      go_wp2_with fail
      go_ret
      exact ⟨by rw [HE.out]; rfl, HB.out⟩
end Go.Proofs.YtkodhbkmpnokjaaGreat

end

section
/- Rows of two heads, each of which leads on: what serves series and records alike. No program in sight. -/
set_option linter.unusedVariables false
set_option maxRecDepth 20000
namespace Go.Proofs.YtkodhbkmpnokjaaGreat
open Go Go.RowKit

abbrev Hd := Value × Value
theorem labCells_ne {l : List Lab} (h : labCells l ≠ []) : l ≠ [] := fun e => h (by subst e; rfl)
theorem labCells_ne' {l : List Lab} (h : l ≠ []) : labCells l ≠ [] := fun e => h (List.eq_nil_of_length_eq_zero (by have := congrArg List.length e; rw [labCells_length, List.length_nil] at this; omega))
theorem getElem?_snoc {α : Type} {l : List α} {x y : α} {i : Nat} (h : (l ++ [x])[i]? = some y) : l[i]? = some y ∨ (i = l.length ∧ y = x) := by
  by_cases hi : i < l.length
  · rw [List.getElem?_append_left hi] at h; exact Or.inl h
  · rw [List.getElem?_append_right (by omega)] at h
    have : i - l.length = 0 := by
      rcases Nat.eq_zero_or_pos (i - l.length) with e | e
      · exact e
      · rw [List.getElem?_eq_none (by simp; omega)] at h; cases h
    rw [this] at h
    simp at h
    exact Or.inr ⟨by omega, h.symm⟩
end Go.Proofs.YtkodhbkmpnokjaaGreat

end

section
/- Layer 11: a result that is labels and an error; the first error. No program in sight. -/
set_option linter.unusedVariables false
set_option maxRecDepth 20000
namespace Go.Proofs.YtkodhbkmpnokjaaGreat
open Go Go.RowKit

/-- A result that is labels and an error. -/
structure GotLb (w : World) (o : Nat × List Lab) (e : Ending) (w' : World) : Prop where
  res : ∃ r, e = .returned (.tuple #[r, .int .i64 (o.1 : Int)]) ∧ Rd w' 2 r o.2.length (labCells o.2) ∧ (∀ k, r.ownBlock = some k → w.heap.size ≤ k)
  bel : Below w.heap.size w w'
theorem GotLb.fails {w w' : World} {o : Nat × List Lab} {en : Nat} (h : Below w.heap.size w w') (ho : o = (en, [])) : GotLb w o (.returned (.tuple #[.slice none 0 0, .int .i64 (en : Int)])) w' := by
  subst ho
  exact ⟨⟨_, rfl, Rd.nil _ _, fun k e => by cases e⟩, h⟩
theorem firstErr_at {l : List Lab} {i : Nat} (h : ∀ x ∈ l.take i, oneL x = 0) {x : Lab} (hx : l[i]? = some x) (he : oneL x ≠ 0) : firstErr l = oneL x := by
  induction l generalizing i with
  | nil => simp at hx
  | cons y l ih =>
    cases i with
    | zero => simp at hx; subst hx; rw [firstErr, if_pos he]
    | succ i =>
      rw [firstErr, if_neg (not_not_intro (h y (by simp)))]
      exact ih (fun z hz => h z (by rw [List.take_succ_cons]; exact List.mem_cons_of_mem _ hz)) (by simpa using hx)

end Go.Proofs.YtkodhbkmpnokjaaGreat

end

section
/- Layer 11: the reference's Normalize. -/
set_option linter.unusedVariables false
set_option maxRecDepth 20000
namespace Go.Proofs.YtkodhbkmpnokjaaGreat
open Go Go.RowKit

theorem shift_setG2 {α : Type} (d : List α) (k : Nat) (y z : α) (hk : k ≤ d.length) : (d.take k ++ y :: d.drop k).set k z = d.take k ++ z :: d.drop k := by
  have hl : (d.take k).length = k := by rw [List.length_take]; omega
  rw [List.set_append_right _ _ (by omega), hl, Nat.sub_self, List.set_cons_zero]
theorem shift_eqG2 {α : Type} (d : List α) (k : Nat) (z : α) (hz : d[k]? = some z) : d.take (k + 1) ++ z :: d.drop (k + 1) = d.take k ++ z :: d.drop k := by
  have hk := (List.getElem?_eq_some_iff.1 hz).1
  have e : d.drop k = z :: d.drop (k + 1) := by rw [← (List.getElem?_eq_some_iff.1 hz).2, List.getElem_cons_drop]
  rw [List.take_add_one, hz, e, List.append_assoc]
  rfl

set_option maxHeartbeats 8000000 in
theorem ref_norm11 (lv : Value) (l : List Lab) (w : World) (hl : Rd w 2 lv l.length (labCells l)) (hs : ∀ x ∈ l, x.1.size ≤ 9223372036854775807 ∧ x.2.size ≤ 9223372036854775807) (hn : l.length ≤ 100000) :
    Calls Tryz.prog 38 #[lv] w (GotLb w (normL l)) := by
  have HL := Lib.hid hl; have HS := Lib.hid hs; have HNn := Lib.hid hn
  obtain ⟨pl, cl, hv⟩ := hl.shape
  subst hv
  have hmx : (l.length : Int) ≤ 100000 := by omega
  clear hl hs hn
  go_enter Tryz.func38, Tryz.ntmps38
  go_wp2_with fail
  go_loopw [5] (fun iv wr => ∃ (i : Nat), i ≤ l.length ∧ iv = .int .i64 (i : Int) ∧ Hid (∀ x ∈ l.take i, oneL x = 0) ∧ Hid (Below w.heap.size w wr)) (fun iv _ => l.length - (intOf iv).toNat)
  case atStart => exact ⟨0, Nat.zero_le _, rfl, (by intro x hx; simp at hx), Below.refl _ _⟩
  case round =>
    obtain ⟨i, hi, rfl, HF, HB⟩ := hrel
    have him : (i : Int) ≤ 100000 := by omega
    by_cases hlt : i < l.length
    · have hlt' : (i : Int) < (l.length : Int) := by omega
      obtain ⟨⟨n, v⟩, hx⟩ : ∃ x, l[i]? = some x := ⟨_, List.getElem?_eq_getElem hlt⟩
      obtain ⟨b, off, e⟩ := rd2_at HL.out hx
      subst e
      obtain ⟨c0, c1⟩ := rd2_cell (HL.out.below HB.out) hx
      have HOn := Lib.hid (fun w' => ref_one11 n v w' (HS.out _ (List.mem_of_getElem? hx)).1 (HS.out _ (List.mem_of_getElem? hx)).2)
      have HX := Lib.hid hx
      clear hx
      go_wp2_with fail
      refine (HOn.out _).mono ?_
      rintro e w2 ⟨rfl, hB⟩
      have HBw := Lib.hid (HB.out.trans (hB.mono HB.out.size))
      clear c0 c1 hB HOn
      by_cases he : oneL (n, v) = 0
      · have HF2 : Hid (∀ x ∈ l.take (i + 1), oneL x = 0) := by
          intro x hx
          rw [List.take_add_one, HX.out] at hx
          rcases List.mem_append.1 hx with e | e
          · exact HF.out x e
          · simp at e; subst e; exact he
        rw [he]
        clear he
        go_wp2_with fail
        go_round
        case rel => exact ⟨i + 1, by omega, by go_num, HF2.out, HBw.out⟩
        case measure => simp [intOf]; omega
      · have he1 : ¬ (oneL (n, v) : Int) = 0 := by omega
        have heb : ((oneL (n, v) : Int) == 0) = false := by rw [beq_eq_false_iff_ne]; exact he1
        have HE : Hid (normL l = (oneL (n, v), [])) := by
          show _ = _
          have h := firstErr_at HF.out HX.out he
          rw [normL, h, if_pos he]
        clear he
        generalize oneL (n, v) = e at *
        go_wp2_with fail
        go_ret2
        exact GotLb.fails HBw.out HE.out
    · have hlt' : ¬ (i : Int) < (l.length : Int) := by omega
      have HN0 : Hid (normL l = match putL [] l with
          | none => (18, [])
          | some out => (0, out)) := by
        show _ = _
        have h := HF.out
        rw [List.take_of_length_le (by omega)] at h
        rw [normL, if_neg (not_not_intro ((firstErr_zero l).2 h))]
        cases putL [] l <;> rfl
      have HOn := Lib.hid HB.out
      go_wp2_with fail
      clear hlt' hlt hi him HF
      generalize (i : Int) = i0 at *
      go_loopw [4, 7] (fun vv iv wr => ∃ (j : Nat) (d : List Lab), j ≤ l.length ∧ iv = .int .i64 (j : Int) ∧ Hid (OwnL w wr d vv) ∧ Hid (putL [] l = putL d (l.drop j) ∧ AscB ltN d ∧ d.length ≤ j)) (fun _ iv _ => l.length - (intOf iv).toNat)
      case atStart => exact ⟨0, [], by omega, rfl, (Own2.nil w).below HB.out, rfl, List.Pairwise.nil, Nat.le_refl _⟩
      case round =>
        obtain ⟨j, d, hj, rfl, HO, HInv⟩ := hrel
        have HPut := Lib.hid HInv.out.1
        have HA := Lib.hid HInv.out.2.1
        by_cases hlt : j < l.length
        · have hlt' : (j : Int) < (l.length : Int) := by omega
          have hji : (j : Int) ≤ 100000 := by omega
          obtain ⟨⟨xn, xv⟩, hx⟩ : ∃ x, l[j]? = some x := ⟨_, List.getElem?_eq_getElem hlt⟩
          obtain ⟨b, off, e⟩ := rd2_at HL.out hx
          subst e
          have HCt : Hid (∀ w', Below w.heap.size w w' → w'.cell? ⟨b, off + j * 2, none⟩ = some (.string xn) ∧ w'.cell? ⟨b, off + j * 2 + 1, none⟩ = some (.string xv)) := fun w' hb => rd2_cell (HL.out.below hb) hx
          have HDr : Hid (l.drop j = (xn, xv) :: l.drop (j + 1)) := by show _ = _; rw [List.drop_eq_getElem_cons hlt, (List.getElem?_eq_some_iff.1 hx).2]
          clear hx
          obtain ⟨pv, cv, hvv⟩ := HO.out.shape
          subst hvv
          obtain ⟨N, hN⟩ : ∃ N, d.length = N := ⟨_, rfl⟩
          have HNj : Hid (N ≤ j) := by show _ ≤ _; rw [← hN]; exact HInv.out.2.2
          rw [hN] at HO ⊢
          have HNe : Hid (d.length = N) := hN
          clear hN HInv
          have HD : Hid (N ≤ 100000) := by show _ ≤ _; have := HNj.out; omega
          have hNi : (N : Int) ≤ 100000 := by have := HD.out; omega
          go_wp2_with fail
          go_loopw [8] (fun kv wr2 => ∃ (k : Nat), k ≤ N ∧ kv = .int .i64 (k : Int) ∧ Hid (∀ z ∈ d.take k, ltN z (xn, xv) = true) ∧ Hid (OwnL w wr2 d (.slice pv N cv))) (fun kv _ => N - (intOf kv).toNat)
          case atStart => exact ⟨0, Nat.zero_le _, rfl, (by intro z hz; simp at hz), HO.out⟩
          case round =>
            obtain ⟨k, hkN, rfl, HLo, HO2⟩ := hrel
            have hki : (k : Int) ≤ 100000 := by omega
            obtain ⟨cx, cy⟩ := HCt.out wr HO2.out.bel
            by_cases hk : k < N
            · have hk' : (k : Int) < (N : Int) := by omega
              obtain ⟨g0, cap0, hv0⟩ : ∃ g cap, (Value.slice pv N cv) = .slice (some ⟨g, 0, none⟩) N cap := by
                rcases owns_cases HO2.out.row with ⟨_, h0, _⟩ | ⟨g, cap, hv, _⟩
                · have := HNe.out; omega
                · rw [HNe.out] at hv; exact ⟨g, cap, hv⟩
              simp only [Value.slice.injEq] at hv0
              obtain ⟨rfl, _, rfl⟩ := hv0
              obtain ⟨⟨yn, yv⟩, hy⟩ : ∃ y, d[k]? = some y := ⟨_, List.getElem?_eq_getElem (by have := HNe.out; omega)⟩
              obtain ⟨⟨dy, _⟩, _⟩ := HO2.out.cell hy
              have HYd : Hid (d.drop k = (yn, yv) :: d.drop (k + 1)) := by show _ = _; rw [List.drop_eq_getElem_cons (by have := HNe.out; omega), (List.getElem?_eq_some_iff.1 hy).2]
              have HYt : Hid (d.take (k + 1) = d.take k ++ [(yn, yv)]) := by show _ = _; rw [List.take_add_one, hy]; rfl
              have HYm : Hid ((yn, yv) ∈ d) := List.mem_of_getElem? hy
              clear hy
              by_cases hyx : ltS yn xn = true
              · have hcmp : Op.bytesLess yn.toList xn.toList = true := hyx
                have HLo2 : Hid (∀ z ∈ d.take (k + 1), ltN z (xn, xv) = true) := by
                  show ∀ z ∈ _, _
                  rw [HYt.out]
                  intro z hz
                  rcases List.mem_append.1 hz with e | e
                  · exact HLo.out z e
                  · simp only [List.mem_singleton] at e; subst e; exact hyx
                clear hyx
                go_wp2_with fail
                go_quiet (fail)
                have HO3 := Lib.hid (HO2.out.drewN nq)
                clear cx cy dy HO2 HLo
                generalize wr.drewN nq = wn at *
                go_wp2_with fail
                go_round
                case rel => exact ⟨k + 1, by omega, by go_num, HLo2.out, HO3.out⟩
                case measure => simp [intOf]; omega
              · have hcmp0 : ltS yn xn = false := by simpa using hyx
                have hcmp : Op.bytesLess yn.toList xn.toList = false := hcmp0
                have HYX := Lib.hid hcmp0
                clear hcmp0 hyx
                by_cases heq : yn = xn
                · subst heq
                  have HE : Hid (normL l = (18, [])) := by
                    show _ = _
                    rw [HN0.out, HPut.out, HDr.out, putL, if_pos ⟨(yn, yv), HYm.out, rfl⟩]
                  have hse : (yn.toList == yn.toList) = true := by simp
                  go_wp2_with fail
                  go_quiet (fail)
                  have HO3 := Lib.hid (HO2.out.drewN nq)
                  have cx2 : (wr.drewN nq).cell? ⟨b, off + j * 2, none⟩ = some (.string yn) := cx
                  have dy2 : (wr.drewN nq).cell? ⟨g0, k * 2, none⟩ = some (.string yn) := dy
                  clear cx cy dy HO2
                  generalize wr.drewN nq = wn at *
                  go_wp2_with fail
                  go_quiet (fail)
                  have HO4 := Lib.hid (HO3.out.drewN nq)
                  clear cx2 dy2 HO3
                  generalize wn.drewN nq = wq at *
                  go_wp2_with fail
                  go_ret2
                  exact GotLb.fails HO4.out.bel HE.out
                · have hse : (yn.toList == xn.toList) = false := by rw [eqS]; simpa using heq
                  have hxy : ltS xn yn = true := by
                    rcases Bool.eq_false_or_eq_true (ltS xn yn) with e | e
                    · exact e
                    · exact absurd (ltS_ok.tot yn xn HYX.out e) heq
                  have HHi : Hid (∀ z, (d.drop k).head? = some z → ltN (xn, xv) z = true) := by
                    intro z hz
                    rw [HYd.out] at hz
                    cases hz
                    exact hxy
                  have HNo : Hid (∀ y ∈ d, y.1 ≠ (xn, xv).1) := by
                    intro z hz e
                    have e' : z.1 = xn := e
                    rw [← List.take_append_drop k d] at hz
                    rcases List.mem_append.1 hz with h | h
                    · have h1 : ltS z.1 xn = true := HLo.out z h
                      rw [e', ltS_ok.irr] at h1; cases h1
                    · rw [HYd.out] at h
                      rcases List.mem_cons.1 h with h | h
                      · subst h; exact heq e'
                      · have ha := HA.out
                        rw [← List.take_append_drop k d, HYd.out] at ha
                        have h2 : ltN (yn, yv) z = true := (List.pairwise_cons.1 (List.pairwise_append.1 ha).2.1).1 z h
                        have h3 : ltS xn z.1 = true := ltS_ok.tr _ _ _ hxy h2
                        rw [e', ltS_ok.irr] at h3; cases h3
                  clear heq hxy
                  go_wp2_with fail
                  go_quiet (fail)
                  have HO3 := Lib.hid (HO2.out.drewN nq)
                  have cx2 : (wr.drewN nq).cell? ⟨b, off + j * 2, none⟩ = some (.string xn) := cx
                  have dy2 : (wr.drewN nq).cell? ⟨g0, k * 2, none⟩ = some (.string yn) := dy
                  clear cx cy dy HO2
                  generalize wr.drewN nq = wn at *
                  go_wp2_with fail
                  go_quiet (fail)
                  have HOb := Lib.hid (HO3.out.drewN nq)
                  clear cx2 dy2 HO3
                  generalize wn.drewN nq = wb at *
                  have HP : Hid (insB ltN (xn, xv) d = d.take k ++ (xn, xv) :: d.drop k) := by
                    have e := insB_parts ltN_ok (xn, xv) (d.take k) (d.drop k) HLo.out HHi.out
                    rwa [List.take_append_drop] at e
                  have HPut2 : Hid (putL [] l = putL (insB ltN (xn, xv) d) (l.drop (j + 1))) := by
                    show _ = _
                    rw [HPut.out, HDr.out, putL, if_neg]
                    rintro ⟨y, hy, e⟩
                    exact HNo.out y hy e
                  have HA2 : Hid (AscB ltN (insB ltN (xn, xv) d)) := insN_asc (xn, xv) d HNo.out HA.out
                  have HL2 : Hid ((insB ltN (xn, xv) d).length ≤ j + 1) := by show _ ≤ _; have := insB_le (lt := ltN) (xn, xv) d; have := HNe.out; have := HNj.out; omega
                  have HLb : Hid ((N + 1) * 32 ≤ 140737488355328 ∧ N + 1 ≤ maxLen) := by show _ ∧ _; have := HD.out; unfold maxLen; omega
                  have HOv : Hid (wb.ownsRow 0 39 2 (.slice (some ⟨g0, 0, none⟩) N cv) N (labCells d)) := by
                    have h := HOb.out.base0
                    rw [HNe.out] at h
                    exact h
                  obtain ⟨cx, cy⟩ := HCt.out wb HOb.out.bel
                  go_wp2_with (at_builtin; refine wpList_push elemLab _ #[.string xn, .string xv] _ _ _ HOv.out rfl (by simp [Value.oneCell']) HLb.out rfl _ _ rfl rfl rfl ?_)
                  intro v1 w1 k1 m1 f1
                  have HO1 : Hid (OwnL w w1 (d ++ [(xn, xv)]) v1) := HOb.out.pushed (by rw [HNe.out]; exact k1) m1 f1
                  obtain ⟨g, c1, hv1⟩ : ∃ g cap, v1 = .slice (some ⟨g, 0, none⟩) (N + 1) cap := by
                    rcases owns_cases k1 with ⟨_, h0, _⟩ | ⟨g, cap, hv, _⟩
                    · omega
                    · exact ⟨g, cap, hv⟩
                  subst hv1
                  clear k1 m1 f1 HOv HOb cx cy
                  go_wp2_with fail
                  go_loopw [9] (fun mv wr2 => ∃ (m : Nat) (y : Lab), k ≤ m ∧ m ≤ N ∧ mv = .int .i64 (m : Int) ∧ Hid (OwnL w wr2 (d.take m ++ y :: d.drop m) (.slice (some ⟨g, 0, none⟩) (N + 1) c1))) (fun mv _ => (intOf mv).toNat)
                  case atStart => exact ⟨N, (xn, xv), hkN, Nat.le_refl _, rfl, by
                    show OwnL _ _ _ _
                    rw [List.drop_of_length_le (by have := HNe.out; omega), List.take_of_length_le (by have := HNe.out; omega)]
                    exact HO1.out⟩
                  case round =>
                    obtain ⟨m, ⟨yn, yv⟩, hkm, hmN, rfl, HO2⟩ := hrel
                    have hmi : (m : Int) ≤ 1000000 := by have := HD.out; omega
                    have hmN' : (m : Int) < (N : Int) + 1 := by omega
                    obtain ⟨⟨cm0, cm1⟩, fm0, fm1⟩ := HO2.out.cell (i := m) (x := (yn, yv)) (by rw [List.getElem?_append_right (by rw [List.length_take]; omega), List.length_take, Nat.min_eq_left (by have := HNe.out; omega), Nat.sub_self]; rfl)
                    obtain ⟨cx, cy⟩ := HCt.out wr HO2.out.bel
                    by_cases hmk : k < m
                    · have hmk' : (k : Int) < (m : Int) := by omega
                      obtain ⟨q, rfl⟩ : ∃ q, m = q + 1 := ⟨m - 1, by omega⟩
                      obtain ⟨⟨zn, zv⟩, hz⟩ : ∃ z, d[q]? = some z := ⟨_, List.getElem?_eq_getElem (by have := HNe.out; omega)⟩
                      have HZe := Lib.hid hz
                      obtain ⟨⟨cz0, cz1⟩, _⟩ := HO2.out.cell (i := q) (x := (zn, zv)) (by rw [List.getElem?_append_left (by rw [List.length_take]; have := HNe.out; omega), List.getElem?_take, if_pos (by omega)]; exact hz)
                      have hqs : ((q + 1 : Nat) : Int) - 1 = (q : Int) := by omega
                      have hq0 : (0 : Int) ≤ (q : Int) := by omega
                      have hqi : (q : Int) ≤ 999999 := by omega
                      have HKM : Hid (k ≤ q + 1 ∧ k < q + 1 ∧ q + 1 ≤ N) := ⟨hkm, hmk, hmN⟩
                      have HDn : Hid (OwnL w ((wr.setCell ⟨g, (q + 1) * 2, none⟩ (.string zn)).setCell ⟨g, (q + 1) * 2 + 1, none⟩ (.string zv)) (d.take q ++ (zn, zv) :: d.drop q) (.slice (some ⟨g, 0, none⟩) (N + 1) c1)) := by
                        show OwnL _ _ _ _
                        rw [← shift_eqG2 d q (zn, zv) HZe.out]
                        exact HO2.out.stored (y := (zn, zv)) (shift_setG2 d (q + 1) (yn, yv) (zn, zv) (by have := HNe.out; omega))
                      clear hz hkm hmk hmN hmi HO2
                      go_wp2_with fail
                      go_round
                      case rel => exact ⟨q, (zn, zv), by have := HKM.out; omega, by have := HKM.out; omega, by go_num, HDn.out⟩
                      case measure => simp [intOf]
                    · have hmk2 : m = k := by omega
                      have hmk' : ¬ (k : Int) < (m : Int) := by omega
                      have HOk : Hid (OwnL w wr (d.take k ++ (yn, yv) :: d.drop k) (.slice (some ⟨g, 0, none⟩) (N + 1) c1)) := by
                        have h := HO2.out
                        rw [hmk2] at h
                        exact h
                      rw [hmk2] at cm0 cm1 fm0 fm1
                      have hkN2 : (k : Int) < (N : Int) + 1 := by omega
                      have HDn : Hid (OwnL w ((wr.setCell ⟨g, k * 2, none⟩ (.string xn)).setCell ⟨g, k * 2 + 1, none⟩ (.string xv)) (insB ltN (xn, xv) d) (.slice (some ⟨g, 0, none⟩) (N + 1) c1)) := by
                        show OwnL _ _ _ _
                        rw [HP.out]
                        exact HOk.out.stored (y := (xn, xv)) (shift_setG2 d k (yn, yv) (xn, xv) (by have := HNe.out; omega))
                      clear hmk2 HOk hkm hmk hmN HO2
                      go_wp2_with fail
                      go_round
                      case rel => exact ⟨j + 1, insB ltN (xn, xv) d, by omega, by go_num, HDn.out, ⟨HPut2.out, HA2.out, HL2.out⟩⟩
                      case measure => simp [intOf]; omega
            · obtain rfl : N = k := by omega
              have hk' : ¬ (N : Int) < (N : Int) := by omega
              have HHi : Hid (∀ z, (d.drop N).head? = some z → ltN (xn, xv) z = true) := by
                intro z hz
                rw [List.drop_of_length_le (by have := HNe.out; omega)] at hz
                cases hz
              have HNo : Hid (∀ y ∈ d, y.1 ≠ (xn, xv).1) := by
                intro z hz e
                have e' : z.1 = xn := e
                have h1 : ltS z.1 xn = true := HLo.out z (by rw [List.take_of_length_le (by have := HNe.out; omega)]; exact hz)
                rw [e', ltS_ok.irr] at h1; cases h1
              go_wp2_with fail
              go_quiet (fail)
              have HO3 := Lib.hid (HO2.out.drewN nq)
              clear cx cy HO2
              generalize wr.drewN nq = wn at *
              go_wp2_with fail
              go_quiet (fail)
              have HOb := Lib.hid (HO3.out.drewN nq)
              clear HO3
              generalize wn.drewN nq = wb at *
              have HP : Hid (insB ltN (xn, xv) d = d.take N ++ (xn, xv) :: d.drop N) := by
                have e := insB_parts ltN_ok (xn, xv) (d.take N) (d.drop N) HLo.out HHi.out
                rwa [List.take_append_drop] at e
              have HPut2 : Hid (putL [] l = putL (insB ltN (xn, xv) d) (l.drop (j + 1))) := by
                show _ = _
                rw [HPut.out, HDr.out, putL, if_neg]
                rintro ⟨y, hy, e⟩
                exact HNo.out y hy e
              have HA2 : Hid (AscB ltN (insB ltN (xn, xv) d)) := insN_asc (xn, xv) d HNo.out HA.out
              have HL2 : Hid ((insB ltN (xn, xv) d).length ≤ j + 1) := by show _ ≤ _; have := insB_le (lt := ltN) (xn, xv) d; have := HNe.out; have := HNj.out; omega
              have HLb : Hid ((N + 1) * 32 ≤ 140737488355328 ∧ N + 1 ≤ maxLen) := by show _ ∧ _; have := HD.out; unfold maxLen; omega
              have HOv : Hid (wb.ownsRow 0 39 2 (.slice pv N cv) N (labCells d)) := by
                have h := HOb.out.base0
                rw [HNe.out] at h
                exact h
              obtain ⟨cx, cy⟩ := HCt.out wb HOb.out.bel
              go_wp2_with (at_builtin; refine wpList_push elemLab _ #[.string xn, .string xv] _ _ _ HOv.out rfl (by simp [Value.oneCell']) HLb.out rfl _ _ rfl rfl rfl ?_)
              intro v1 w1 k1 m1 f1
              have HO1 : Hid (OwnL w w1 (d ++ [(xn, xv)]) v1) := HOb.out.pushed (by rw [HNe.out]; exact k1) m1 f1
              obtain ⟨g, c1, hv1⟩ : ∃ g cap, v1 = .slice (some ⟨g, 0, none⟩) (N + 1) cap := by
                rcases owns_cases k1 with ⟨_, h0, _⟩ | ⟨g, cap, hv, _⟩
                · omega
                · exact ⟨g, cap, hv⟩
              subst hv1
              clear k1 m1 f1 HOv HOb cx cy
              go_wp2_with fail
              go_loopw [9] (fun mv wr2 => ∃ (m : Nat) (y : Lab), N ≤ m ∧ m ≤ N ∧ mv = .int .i64 (m : Int) ∧ Hid (OwnL w wr2 (d.take m ++ y :: d.drop m) (.slice (some ⟨g, 0, none⟩) (N + 1) c1))) (fun mv _ => (intOf mv).toNat)
              case atStart => exact ⟨N, (xn, xv), Nat.le_refl _, Nat.le_refl _, rfl, by
                show OwnL _ _ _ _
                rw [List.drop_of_length_le (by have := HNe.out; omega), List.take_of_length_le (by have := HNe.out; omega)]
                exact HO1.out⟩
              case round =>
                obtain ⟨m, ⟨yn, yv⟩, hNm, hmN, rfl, HO2⟩ := hrel
                have hmi : (m : Int) ≤ 1000000 := by have := HD.out; omega
                have hmN' : (m : Int) < (N : Int) + 1 := by omega
                obtain ⟨⟨cm0, cm1⟩, fm0, fm1⟩ := HO2.out.cell (i := m) (x := (yn, yv)) (by rw [List.getElem?_append_right (by rw [List.length_take]; omega), List.length_take, Nat.min_eq_left (by have := HNe.out; omega), Nat.sub_self]; rfl)
                obtain ⟨cx, cy⟩ := HCt.out wr HO2.out.bel
                by_cases hmk : N < m
                · exfalso; omega
                · have hmk2 : m = N := by omega
                  have hmk' : ¬ (N : Int) < (m : Int) := by omega
                  have HOk : Hid (OwnL w wr (d.take N ++ (yn, yv) :: d.drop N) (.slice (some ⟨g, 0, none⟩) (N + 1) c1)) := by
                    have h := HO2.out
                    rw [hmk2] at h
                    exact h
                  rw [hmk2] at cm0 cm1 fm0 fm1
                  have hkN2 : (N : Int) < (N : Int) + 1 := by omega
                  have HDn : Hid (OwnL w ((wr.setCell ⟨g, N * 2, none⟩ (.string xn)).setCell ⟨g, N * 2 + 1, none⟩ (.string xv)) (insB ltN (xn, xv) d) (.slice (some ⟨g, 0, none⟩) (N + 1) c1)) := by
                    show OwnL _ _ _ _
                    rw [HP.out]
                    exact HOk.out.stored (y := (xn, xv)) (shift_setG2 d N (yn, yv) (xn, xv) (by have := HNe.out; omega))
                  clear hmk2 HOk hNm hmk hmN HO2
                  go_wp2_with fail
                  go_round
                  case rel => exact ⟨j + 1, insB ltN (xn, xv) d, by omega, by go_num, HDn.out, ⟨HPut2.out, HA2.out, HL2.out⟩⟩
                  case measure => simp [intOf]; omega
        · have hlt' : ¬ (j : Int) < (l.length : Int) := by omega
          have HE : Hid (normL l = (0, d)) := by
            show _ = _
            rw [HN0.out, HPut.out, List.drop_of_length_le (by omega)]; rfl
          obtain ⟨pv, cv, hvv⟩ := HO.out.shape
          subst hvv
          go_wp2_with fail
          go_ret2
          rw [HE.out]
          exact ⟨⟨_, rfl, HO.out.rd, fun k hk => (HO.out.row.lt k hk).1⟩, HO.out.bel⟩
end Go.Proofs.YtkodhbkmpnokjaaGreat

end

section
/- Layer 12: a list of series under way, in a row of the call's own, whose series lie elsewhere. -/
set_option linter.unusedVariables false
set_option maxRecDepth 20000
namespace Go.Proofs.YtkodhbkmpnokjaaGreat
open Go Go.RowKit

theorem elemSer : Elem Tryz.prog 22 37 2 48 := Elem.mk' (z := .agg #[.slice none 0 0, .slice none 0 0]) Tryz.underlying22 (by kernel_rfl) rfl (by decide)
abbrev OwnH := Own2 37 (Prod.fst : Hd → Value) (Prod.snd : Hd → Value)
/-- The rows of a series lie in no block of S. -/
def SerOff (S : Nat → Prop) (h : Hd) (s : Ser) : Prop := (s.1 ≠ [] → ∀ k, h.1.ownBlock = some k → ¬ S k) ∧ (s.2 ≠ [] → ∀ k, h.2.ownBlock = some k → ¬ S k)
theorem samCells_ne {l : List Sam} (h : samCells l ≠ []) : l ≠ [] := fun e => h (by subst e; rfl)
theorem samCells_ne' {l : List Sam} (h : l ≠ []) : samCells l ≠ [] := fun e => h (List.eq_nil_of_length_eq_zero (by have := congrArg List.length e; rw [samCells_length, List.length_nil] at this; omega))
theorem SerAt.mods {S : Nat → Prop} {w w' : World} {h : Hd} {s : Ser} (k : SerAt w h s) (hm : Mods S w w') (ho : SerOff S h s) : SerAt w' h s :=
  ⟨k.1.mods' hm (fun e => ho.1 (labCells_ne e)), k.2.mods' hm (fun e => ho.2 (samCells_ne e))⟩
theorem SerAt.lt {w : World} {h : Hd} {s : Ser} (k : SerAt w h s) : (s.1 ≠ [] → ∀ j, h.1.ownBlock = some j → j < w.heap.size) ∧ (s.2 ≠ [] → ∀ j, h.2.ownBlock = some j → j < w.heap.size) :=
  ⟨fun e => k.1.lt (labCells_ne' e), fun e => k.2.lt (samCells_ne' e)⟩

structure NmAt (w wr : World) (hs : List Hd) (b : List Ser) (v : Value) : Prop where
  row : OwnH w wr hs v
  len : hs.length = b.length
  ser : ∀ (i : Nat) (h : Hd) (s : Ser), hs[i]? = some h → b[i]? = some s → SerAt wr h s ∧ SerOff (fun k => v.ownBlock = some k) h s
theorem NmAt.nil (w : World) : NmAt w w [] [] (.slice none 0 0) := ⟨Own2.nil w, rfl, fun i h s hi _ => by simp at hi⟩
theorem NmAt.below {w wr w1 : World} {hs : List Hd} {b : List Ser} {v : Value} (k : NmAt w wr hs b v) (hb : Below wr.heap.size wr w1) : NmAt w w1 hs b v :=
  ⟨k.row.below hb, k.len, fun i h s hi hj => ⟨(k.ser i h s hi hj).1.below hb, (k.ser i h s hi hj).2⟩⟩
theorem NmAt.rd {w wr : World} {hs : List Hd} {b : List Ser} {v : Value} (k : NmAt w wr hs b v) : RdB wr v b := ⟨⟨hs, k.row.rd, k.len, fun i h s hi hj => (k.ser i h s hi hj).1⟩⟩
/-- An append. -/
theorem NmAt.pushed {w wr w1 : World} {hs : List Hd} {b : List Ser} {v v1 : Value} {h : Hd} {s : Ser} (k : NmAt w wr hs b v) (hsr : SerAt wr h s) (ho : SerOff (fun j => v.ownBlock = some j) h s)
    (k1 : w1.ownsRow 0 37 2 v1 (hs.length + 1) (two Prod.fst Prod.snd hs ++ [h.1, h.2])) (m : Mods (fun j => v.ownBlock = some j) wr w1) (hf : Fresh wr.heap.size v v1) : NmAt w w1 (hs ++ [h]) (b ++ [s]) v1 := by
  have hoff : ∀ (h : Hd) (s : Ser), SerAt wr h s → SerOff (fun j => v.ownBlock = some j) h s → SerAt w1 h s ∧ SerOff (fun j => v1.ownBlock = some j) h s := fun h s a b => by
    refine ⟨a.mods m b, fun e j hj hv => ?_, fun e j hj hv => ?_⟩
    · rcases hf j hv with f | f
      · exact b.1 e j hj f
      · have := a.lt.1 e j hj; omega
    · rcases hf j hv with f | f
      · exact b.2 e j hj f
      · have := a.lt.2 e j hj; omega
  refine ⟨k.row.pushed k1 m hf, by simp [k.len], fun i h' s' hi hj => ?_⟩
  rcases getElem?_snoc hi with e | ⟨e, rfl⟩
  · rcases getElem?_snoc hj with f | ⟨f, _⟩
    · exact hoff _ _ (k.ser i h' s' e f).1 (k.ser i h' s' e f).2
    · have := (List.getElem?_eq_some_iff.1 e).1; have := k.len; omega
  · rcases getElem?_snoc hj with f | ⟨_, rfl⟩
    · have := (List.getElem?_eq_some_iff.1 f).1; have := k.len; omega
    · exact hoff _ _ hsr ho
/-- A store. -/
theorem NmAt.stored {w wr : World} {hs hs' : List Hd} {b b' : List Ser} {g n c i : Nat} {h : Hd} {s : Ser} (k : NmAt w wr hs b (.slice (some ⟨g, 0, none⟩) n c)) (hsr : SerAt wr h s) (ho : SerOff (fun j => j = g) h s) (e1 : hs.set i h = hs') (e2 : b.set i s = b') :
    NmAt w ((wr.setCell ⟨g, i * 2, none⟩ h.1).setCell ⟨g, i * 2 + 1, none⟩ h.2) hs' b' (.slice (some ⟨g, 0, none⟩) n c) := by
  subst e1 e2
  have hm1 : Mods (fun k => k = g) wr (wr.setCell ⟨g, i * 2, none⟩ h.1) := Mods.set _ _ _ _ (fun _ => rfl)
  have hm : Mods (fun k => k = g) wr ((wr.setCell ⟨g, i * 2, none⟩ h.1).setCell ⟨g, i * 2 + 1, none⟩ h.2) := hm1.trans (Mods.set (fun k => k = g) _ _ _ (fun _ => rfl)) (fun _ _ e => e)
  have hc : ∀ (h : Hd) (s : Ser), SerOff (fun j => j = g) h s → SerOff (fun j => (Value.slice (some ⟨g, 0, none⟩) n c).ownBlock = some j) h s := fun h s a => ⟨fun e j hj hv => a.1 e j hj (by simpa [Value.ownBlock] using hv.symm), fun e j hj hv => a.2 e j hj (by simpa [Value.ownBlock] using hv.symm)⟩
  have hc' : ∀ (h : Hd) (s : Ser), SerOff (fun j => (Value.slice (some ⟨g, 0, none⟩) n c).ownBlock = some j) h s → SerOff (fun j => j = g) h s := fun h s a => ⟨fun e j hj hv => a.1 e j hj (by rw [hv]; rfl), fun e j hj hv => a.2 e j hj (by rw [hv]; rfl)⟩
  refine ⟨k.row.stored (y := h) rfl, by simp [k.len], fun j h' s' hi hj => ?_⟩
  rw [List.getElem?_set] at hi hj
  by_cases e : i = j
  · subst e
    by_cases hl : i < hs.length
    · rw [if_pos rfl, if_pos hl] at hi
      rw [if_pos rfl, if_pos (by rw [← k.len]; exact hl)] at hj
      cases hi; cases hj
      exact ⟨hsr.mods hm ho, hc _ _ ho⟩
    · rw [if_pos rfl, if_neg hl] at hi; cases hi
  · rw [if_neg e] at hi hj
    obtain ⟨a, b⟩ := k.ser j h' s' hi hj
    exact ⟨a.mods hm (hc' _ _ b), b⟩
end Go.Proofs.YtkodhbkmpnokjaaGreat

end

section
/- Layer 12: the reference's sorted: samples by their times. -/
set_option linter.unusedVariables false
set_option maxRecDepth 20000
namespace Go.Proofs.YtkodhbkmpnokjaaGreat
open Go Go.RowKit

abbrev OwnM := Own2 42 (fun x : Sam => Value.int .i64 x.1) (fun x : Sam => Value.int .u64 (x.2 : Int))
theorem insE_at {α : Type} {lt : α → α → Bool} {x : α} {d : List α} {k : Nat} (hk : k ≤ d.length) (h1 : ∀ y ∈ d.drop k, lt x y = true) (h2 : ∀ y, 0 < k → d[k - 1]? = some y → lt x y = false) : insE lt x d = d.take k ++ x :: d.drop k := by
  rw [insE, posE_of hk h1 h2]

set_option maxHeartbeats 4000000 in
theorem ref_sorted12 (lv : Value) (l : List Sam) (w : World) (hl : Rd w 2 lv l.length (samCells l)) (hn : l.length ≤ 100000) :
    Calls Tryz.prog 39 #[lv] w fun e w' => ∃ v, e = .returned v ∧ OwnM w w' (sortE ltT l) v := by
  have HL : Hid (Rd w 2 lv l.length (two (fun x : Sam => Value.int .i64 x.1) (fun x : Sam => Value.int .u64 (x.2 : Int)) l)) := hl
  obtain ⟨pl, cl, hv⟩ := hl.shape
  subst hv
  have hmx : (l.length : Int) ≤ 100000 := by omega
  clear hl hn
  go_enter Tryz.func39, Tryz.ntmps39
  go_wp2_with fail
  go_loopw [3, 4] (fun vv iv wr => ∃ (j : Nat) (d : List Sam), j ≤ l.length ∧ iv = .int .i64 (j : Int) ∧ Hid (OwnM w wr d vv) ∧ Hid (sortE ltT (l.take j) = d ∧ d.length = j)) (fun _ iv _ => l.length - (intOf iv).toNat)
  case atStart => exact ⟨0, [], by omega, rfl, Own2.nil w, rfl, rfl⟩
  case round =>
    obtain ⟨j, d, hj, rfl, HO, HInv⟩ := hrel
    obtain ⟨pv, cv, hvv⟩ := HO.out.shape
    subst hvv
    by_cases hlt : j < l.length
    · have hlt' : (j : Int) < (l.length : Int) := by omega
      have hji : (j : Int) ≤ 100000 := by omega
      obtain ⟨⟨xt, xv⟩, hx⟩ : ∃ x, l[j]? = some x := ⟨_, List.getElem?_eq_getElem hlt⟩
      obtain ⟨b, off, e⟩ := rd2_at HL.out hx
      subst e
      have HCt : Hid (∀ w', Below w.heap.size w w' → w'.cell? ⟨b, off + j * 2, none⟩ = some (.int .i64 xt) ∧ w'.cell? ⟨b, off + j * 2 + 1, none⟩ = some (.int .u64 (xv : Int))) := fun w' hb => rd2_cell (HL.out.below hb) hx
      have HSn : Hid (sortE ltT (l.take (j + 1)) = insE ltT (xt, xv) d) := by
        show _ = _
        rw [List.take_add_one, hx, Option.toList_some, sortE_snoc, HInv.out.1]
      clear hx
      obtain ⟨N, hN⟩ : ∃ N, d.length = N := ⟨_, rfl⟩
      have HNe : Hid (d.length = N ∧ N = j) := ⟨hN, by rw [← hN]; exact HInv.out.2⟩
      rw [hN] at HO ⊢
      clear hN HInv
      have hNi : (N : Int) ≤ 100000 := by have := HNe.out.2; omega
      have HLb : Hid ((N + 1) * 16 ≤ 140737488355328 ∧ N + 1 ≤ maxLen) := by show _ ∧ _; have := HNe.out.2; unfold maxLen; omega
      have HOv : Hid (wr.ownsRow 0 42 2 (.slice pv N cv) N (two (fun x : Sam => Value.int .i64 x.1) (fun x : Sam => Value.int .u64 (x.2 : Int)) d)) := by
        have h := HO.out.base0
        rw [HNe.out.1] at h
        exact h
      obtain ⟨cx, cy⟩ := HCt.out wr HO.out.bel
      go_wp2_with (at_builtin; refine wpList_push elemSam _ #[.int .i64 xt, .int .u64 (xv : Int)] _ _ _ HOv.out rfl (by simp [Value.oneCell']) HLb.out rfl _ _ rfl rfl rfl ?_)
      intro v1 w1 k1 m1 f1
      have HO1 : Hid (OwnM w w1 (d ++ [(xt, xv)]) v1) := HO.out.pushed (by rw [HNe.out.1]; exact k1) m1 f1
      obtain ⟨g, c1, hv1⟩ : ∃ g cap, v1 = .slice (some ⟨g, 0, none⟩) (N + 1) cap := by
        rcases owns_cases k1 with ⟨_, h0, _⟩ | ⟨g, cap, hv, _⟩
        · omega
        · exact ⟨g, cap, hv⟩
      subst hv1
      clear k1 m1 f1 HOv HO cx cy
      go_wp2_with fail
      go_loopw [5] (fun mv wr2 => ∃ (m : Nat) (y : Sam), m ≤ N ∧ mv = .int .i64 (m : Int) ∧ Hid (∀ z ∈ d.drop m, ltT (xt, xv) z = true) ∧ Hid (OwnM w wr2 (d.take m ++ y :: d.drop m) (.slice (some ⟨g, 0, none⟩) (N + 1) c1))) (fun mv _ => (intOf mv).toNat)
      case atStart => exact ⟨N, (xt, xv), Nat.le_refl _, rfl, (by
        show ∀ z ∈ _, _
        rw [List.drop_of_length_le (by have := HNe.out; omega)]
        intro z hz; cases hz), by
        show OwnM _ _ _ _
        rw [List.drop_of_length_le (by have := HNe.out; omega), List.take_of_length_le (by have := HNe.out; omega)]
        exact HO1.out⟩
      case round =>
        obtain ⟨m, ⟨yt, yv⟩, hmN, rfl, HGt, HO2⟩ := hrel
        have hmi : (m : Int) ≤ 100000 := by have := HNe.out; omega
        have hmN' : (m : Int) < (N : Int) + 1 := by omega
        obtain ⟨cx, cy⟩ := HCt.out wr HO2.out.bel
        cases m with
        | zero =>
          have HIn : Hid (insE ltT (xt, xv) d = d.take 0 ++ (xt, xv) :: d.drop 0) := insE_at (Nat.zero_le _) HGt.out (fun y h0 _ => by omega)
          go_wp2_with fail
          go_quiet (fail)
          have HO3 := Lib.hid (HO2.out.drewN nq)
          clear cx cy HO2
          generalize wr.drewN nq = wn at *
          obtain ⟨cx, cy⟩ := HCt.out wn HO3.out.bel
          obtain ⟨⟨cm0, cm1⟩, fm0, fm1⟩ := HO3.out.cell (i := 0) (x := (yt, yv)) (by simp)
          have HDn : Hid (OwnM w ((wn.setCell ⟨g, 0 * 2, none⟩ (.int .i64 xt)).setCell ⟨g, 0 * 2 + 1, none⟩ (.int .u64 (xv : Int))) (insE ltT (xt, xv) d) (.slice (some ⟨g, 0, none⟩) (N + 1) c1)) := by
            show OwnM _ _ _ _
            rw [HIn.out]
            exact HO3.out.stored (y := (xt, xv)) (shift_setG2 d 0 (yt, yv) (xt, xv) (Nat.zero_le _))
          simp only [Nat.zero_mul, Nat.zero_add] at cm0 cm1 fm0 fm1 HDn
          clear HO3
          go_wp2_with fail
          go_round
          case rel => exact ⟨j + 1, insE ltT (xt, xv) d, by omega, by go_num, HDn.out, HSn.out, by rw [insE_len]; have := HNe.out; omega⟩
          case measure => simp [intOf]; omega
        | succ q =>
          obtain ⟨⟨zt, zv⟩, hz⟩ : ∃ z, d[q]? = some z := ⟨_, List.getElem?_eq_getElem (by have := HNe.out; omega)⟩
          have HZe := Lib.hid hz
          obtain ⟨⟨cz0, cz1⟩, _⟩ := HO2.out.cell (i := q) (x := (zt, zv)) (by rw [List.getElem?_append_left (by rw [List.length_take]; have := HNe.out; omega), List.getElem?_take, if_pos (by omega)]; exact hz)
          obtain ⟨⟨cm0, cm1⟩, fm0, fm1⟩ := HO2.out.cell (i := q + 1) (x := (yt, yv)) (by rw [List.getElem?_append_right (by rw [List.length_take]; omega), List.length_take, Nat.min_eq_left (by have := HNe.out; omega), Nat.sub_self]; rfl)
          have hqs : ((q + 1 : Nat) : Int) - 1 = (q : Int) := by omega
          have hqi : (q : Int) ≤ 99999 := by have := HNe.out; omega
          have hqN : (q : Int) < (N : Int) + 1 := by omega
          have HKM : Hid (q + 1 ≤ N) := hmN
          have hd0 : decide (0 < q + 1) = true := decide_eq_true (by omega)
          have hpos : (0 : Int) < ((q + 1 : Nat) : Int) := by omega
          have hDr : d.drop q = (zt, zv) :: d.drop (q + 1) := by rw [List.drop_eq_getElem_cons (by have := HNe.out; omega), (List.getElem?_eq_some_iff.1 hz).2]
          have HDr := Lib.hid hDr
          clear hz hDr hmN hmi
          by_cases hgt : xt < zt
          · have HGt2 : Hid (∀ z ∈ d.drop q, ltT (xt, xv) z = true) := by
              show ∀ z ∈ _, _
              rw [HDr.out]
              intro z hz
              rcases List.mem_cons.1 hz with rfl | hz
              · simp [ltT, hgt]
              · exact HGt.out z hz
            go_wp2_with fail
            go_quiet (fail)
            have HO3 := Lib.hid (HO2.out.drewN nq)
            have cz0' : (wr.drewN nq).cell? ⟨g, q * 2, none⟩ = some (.int .i64 zt) := cz0
            have cz1' : (wr.drewN nq).cell? ⟨g, q * 2 + 1, none⟩ = some (.int .u64 (zv : Int)) := cz1
            have cm0' : (wr.drewN nq).cell? ⟨g, (q + 1) * 2, none⟩ = some (.int .i64 yt) := cm0
            have cm1' : (wr.drewN nq).cell? ⟨g, (q + 1) * 2 + 1, none⟩ = some (.int .u64 (yv : Int)) := cm1
            have fm0' : (wr.drewN nq).frozen? ⟨g, (q + 1) * 2, none⟩ = false := fm0
            have fm1' : (wr.drewN nq).frozen? ⟨g, (q + 1) * 2 + 1, none⟩ = false := fm1
            clear cx cy cz0 cz1 cm0 cm1 fm0 fm1 HO2 hgt hd0 hpos
            generalize wr.drewN nq = wn at *
            have HDn : Hid (OwnM w ((wn.setCell ⟨g, (q + 1) * 2, none⟩ (.int .i64 zt)).setCell ⟨g, (q + 1) * 2 + 1, none⟩ (.int .u64 (zv : Int))) (d.take q ++ (zt, zv) :: d.drop q) (.slice (some ⟨g, 0, none⟩) (N + 1) c1)) := by
              show OwnM _ _ _ _
              rw [← shift_eqG2 d q (zt, zv) HZe.out]
              exact HO3.out.stored (y := (zt, zv)) (shift_setG2 d (q + 1) (yt, yv) (zt, zv) (by have := HNe.out; have := HKM.out; omega))
            clear HO3
            go_wp2_with fail
            go_round
            case rel => exact ⟨q, (zt, zv), by have := HKM.out; omega, by go_num, HGt2.out, HDn.out⟩
            case measure => simp [intOf]
          · have HIn : Hid (insE ltT (xt, xv) d = d.take (q + 1) ++ (xt, xv) :: d.drop (q + 1)) := insE_at (by have := HNe.out; have := HKM.out; omega) HGt.out (fun y h0 hy => by
              rw [Nat.add_sub_cancel, HZe.out] at hy
              cases hy
              simp [ltT]; omega)
            have hgb : decide (xt < zt) = false := decide_eq_false hgt
            clear hgt
            go_wp2_with fail
            go_quiet (fail)
            have HO3 := Lib.hid (HO2.out.drewN nq)
            have cm0' : (wr.drewN nq).cell? ⟨g, (q + 1) * 2, none⟩ = some (.int .i64 yt) := cm0
            have cm1' : (wr.drewN nq).cell? ⟨g, (q + 1) * 2 + 1, none⟩ = some (.int .u64 (yv : Int)) := cm1
            have fm0' : (wr.drewN nq).frozen? ⟨g, (q + 1) * 2, none⟩ = false := fm0
            have fm1' : (wr.drewN nq).frozen? ⟨g, (q + 1) * 2 + 1, none⟩ = false := fm1
            clear cx cy cz0 cz1 cm0 cm1 fm0 fm1 HO2 hgb hd0 hpos hqs
            generalize wr.drewN nq = wn at *
            obtain ⟨cx, cy⟩ := HCt.out wn HO3.out.bel
            have HDn : Hid (OwnM w ((wn.setCell ⟨g, (q + 1) * 2, none⟩ (.int .i64 xt)).setCell ⟨g, (q + 1) * 2 + 1, none⟩ (.int .u64 (xv : Int))) (insE ltT (xt, xv) d) (.slice (some ⟨g, 0, none⟩) (N + 1) c1)) := by
              show OwnM _ _ _ _
              rw [HIn.out]
              exact HO3.out.stored (y := (xt, xv)) (shift_setG2 d (q + 1) (yt, yv) (xt, xv) (by have := HNe.out; have := HKM.out; omega))
            clear HO3
            go_wp2_with fail
            go_round
            case rel => exact ⟨j + 1, insE ltT (xt, xv) d, by omega, by go_num, HDn.out, HSn.out, by rw [insE_len]; have := HNe.out; omega⟩
            case measure => simp [intOf]; omega
    · have hlt' : ¬ (j : Int) < (l.length : Int) := by omega
      have HE : Hid (sortE ltT l = d) := by have := HInv.out.1; rw [List.take_of_length_le (by omega)] at this; exact this
      go_wp2_with fail
      go_ret
      exact ⟨_, rfl, by rw [HE.out]; exact HO.out⟩
end Go.Proofs.YtkodhbkmpnokjaaGreat

end
