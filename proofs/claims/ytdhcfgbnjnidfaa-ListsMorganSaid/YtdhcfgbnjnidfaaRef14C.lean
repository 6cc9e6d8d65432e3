/- Layer 14: the reference's Insert. -/
import Derived.Test.YtdhcfgbnjnidfaaRef14H
import Derived.Test.YtdhcfgbnjnidfaaFrom
set_option linter.unusedVariables false
set_option maxRecDepth 20000
namespace Go.Proofs.Ytdhcfgbnjnidfaa
open Go Go.RowKit

theorem insZ_self {l : List Int} {x : Int} (ha : AscB ltI l) (hx : x ∈ l) : insB ltI x l = l :=
  ext_asc (insB_asc ltI_ok x l ha) ha (fun z => by rw [insB_mem ltI_ok]; exact ⟨fun h => h.elim (fun e => e ▸ hx) id, Or.inr⟩)
theorem insZ_cut {l : List Int} {x : Int} {i : Nat} (hi : i ≤ l.length) (hlo : ∀ z ∈ l.take i, ltI z x = true) (hx : x ∉ l) (hhi : ∀ y, l[i]? = some y → ¬ y < x) : insB ltI x l = l.take i ++ x :: l.drop i := by
  have e := insB_parts ltI_ok.toLtPre x (l.take i) (l.drop i) hlo (fun z hz => by
    rw [List.head?_drop] at hz
    have h1 := hhi z hz
    have h2 : z ≠ x := fun e => hx (e ▸ List.mem_of_getElem? hz)
    simp only [ltI, decide_eq_true_eq]; omega)
  rwa [List.take_append_drop] at e
theorem i64s_drop (l : List Int) (i : Nat) : (i64s l).drop (i * 1) = i64s (l.drop i) := by rw [Nat.mul_one, i64s, i64s, List.map_drop]

set_option maxHeartbeats 4000000 in
theorem ref_insert14 (lv : Value) (l : List Int) (x : Int) (w : World) (hl : Rd w 1 lv l.length (i64s l)) (ha : AscB ltI l) (hn : l.length ≤ 1000000) :
    Calls Try.prog 27 #[lv, .int .i64 x] w fun e w' => (e = .returned lv ∧ insB ltI x l = l ∧ w' = w) ∨ ∃ v, e = .returned v ∧ OwnI w w' (insB ltI x l) v := by
  have HL := Lib.hid hl
  have HA := Lib.hid ha
  have HNl := Lib.hid hn
  have HC := Lib.hid (ref_has14 lv l x w hl)
  obtain ⟨pl, cl, hv⟩ := hl.shape
  subst hv
  clear hl ha hn
  by_cases hin : x ∈ l
  · rw [decide_eq_true hin] at HC
    have HS := Lib.hid (insZ_self HA.out hin)
    clear hin
    go_enter Try.func27, Try.ntmps27
    go_wp2_with fail
    refine HC.out.mono ?_
    rintro en w1 ⟨rfl, hw1⟩
    have HW : Hid (w1 = w) := hw1
    clear HC hw1
    go_wp2_with fail
    go_ret
    exact Or.inl ⟨rfl, HS.out, HW.out⟩
  · rw [decide_eq_false hin] at HC
    have HX := Lib.hid hin
    clear hin
    go_enter Try.func27, Try.ntmps27
    go_wp2_with fail
    refine HC.out.mono ?_
    rintro en w1 ⟨rfl, hw1⟩
    have HW : Hid (w1 = w) := hw1
    clear HC hw1
    go_wp2_with fail
    go_loopw [5, 6] (fun vv iv wr => ∃ (i : Nat), i ≤ l.length ∧ iv = .int .i64 (i : Int) ∧ Hid (∀ z ∈ l.take i, ltI z x = true) ∧ Hid (OwnI w wr (l.take i) vv)) (fun _ iv _ => l.length - (intOf iv).toNat)
    case atStart => exact ⟨0, Nat.zero_le _, rfl, (by intro z hz; simp at hz), by rw [HW.out]; exact Own1.nil w⟩
    case round =>
      obtain ⟨i, hi, rfl, HLo, HO⟩ := hrel
      have him : (i : Int) ≤ 1000000 := by have := HNl.out; omega
      have hlen : (l.take i).length = i := by rw [List.length_take]; omega
      have HLen := Lib.hid hlen
      obtain ⟨pv, cv, hvv⟩ := HO.out.shape
      rw [hlen] at hvv
      subst hvv
      have HT : Hid (l.take i ++ l.drop i = l) := List.take_append_drop i l
      clear hlen
      by_cases hgo : ∃ y, l[i]? = some y ∧ y < x
      · obtain ⟨y, hy, hyx⟩ := hgo
        have hlt := (List.getElem?_eq_some_iff.1 hy).1
        have hlt' : (i : Int) < (l.length : Int) := by omega
        obtain ⟨b0, off, e, hcell⟩ := rdI_at HL.out hy
        subst e
        have HTk : Hid (l.take (i + 1) = l.take i ++ [y]) := by show _ = _; rw [List.take_add_one, hy]; rfl
        have HLo2 : Hid (∀ z ∈ l.take (i + 1), ltI z x = true) := by
          show ∀ z ∈ _, _
          rw [HTk.out]
          intro z hz
          rcases List.mem_append.1 hz with e | e
          · exact HLo.out z e
          · simp only [List.mem_singleton] at e; subst e; simpa [ltI] using hyx
        have c0 := hcell wr HO.out.bel
        clear hy hcell HT
        generalize l.take i = d at *
        have HOv : Hid (wr.ownsRow 0 3 1 (.slice pv i cv) i (i64s d)) := by
          have h := HO.out.base0
          rw [HLen.out] at h
          exact h
        have HLb : Hid ((i + 1) * 8 ≤ 140737488355328 ∧ i + 1 ≤ maxLen) := by show _ ∧ _; unfold maxLen; omega
        go_wp2_with (at_builtin; refine wpList_push elemInt14 _ #[.int .i64 y] _ _ _ HOv.out rfl (by simp [Value.oneCell']) HLb.out rfl _ _ rfl rfl rfl ?_)
        intro v1 w2 k1 m1 f1
        have HO3 : Hid (OwnI w w2 (d ++ [y]) v1) := HO.out.pushed (by rw [HLen.out]; exact k1) m1 f1
        clear k1 m1 f1 HOv HO c0
        go_wp2_with fail
        go_round
        case rel => exact ⟨i + 1, by omega, by go_num, HLo2.out, by rw [HTk.out]; exact HO3.out⟩
        case measure => simp [intOf]; omega
      · have HE : Hid (insB ltI x l = l.take i ++ x :: l.drop i) := insZ_cut hi HLo.out HX.out (fun y hy h => hgo ⟨y, hy, h⟩)
        have HLd : Hid ((l.drop i).length = l.length - i) := List.length_drop
        have hli : (l.length : Int) ≤ 1000000 := by have := HNl.out; omega
        have HP : Hid (l.length ≤ i ∨ ∃ y, l[i]? = some y ∧ x ≤ y) := by
          by_cases hlt : i < l.length
          · exact Or.inr ⟨l[i], List.getElem?_eq_getElem hlt, by
              have h1 : ¬ l[i] < x := fun h => hgo ⟨l[i], List.getElem?_eq_getElem hlt, h⟩
              omega⟩
          · exact Or.inl (by omega)
        clear hgo HT
        have HL2 := Lib.hid (HL.out.below HO.out.bel)
        have HOv : Hid (wr.ownsRow 0 3 1 (.slice pv i cv) i (i64s (l.take i))) := by
          have h := HO.out.base0
          rw [HLen.out] at h
          exact h
        have HLb : Hid ((i + 1) * 8 ≤ 140737488355328 ∧ i + 1 ≤ maxLen) := by show _ ∧ _; unfold maxLen; omega
        have HLc : Hid ((i + 1 + (l.length - i)) * 8 ≤ 140737488355328 ∧ i + 1 + (l.length - i) ≤ maxLen) := by show _ ∧ _; have := HNl.out; unfold maxLen; omega
        rcases HP.out with hge | ⟨y, hy, hxy⟩
        have hnl : ¬ (i : Int) < (l.length : Int) := by omega
        rotate_left
        have hlt := (List.getElem?_eq_some_iff.1 hy).1
        have hlt' : (i : Int) < (l.length : Int) := by omega
        obtain ⟨b0, off, e, hcell⟩ := rdI_at HL.out hy
        subst e
        have c0 := hcell wr HO.out.bel
        have hnx : ¬ y < x := by omega
        clear hy hcell
        rotate_left
        all_goals
          generalize l.take i = d at *
          go_wp2_with (at_builtin; refine wpList_push elemInt14 _ #[.int .i64 x] _ _ _ HOv.out rfl (by simp [Value.oneCell']) HLb.out rfl _ _ rfl rfl rfl ?_)
          intro v1 w2 k1 m1 f1
          have HO3 : Hid (OwnI w w2 (d ++ [x]) v1) := HO.out.pushed (by rw [HLen.out]; exact k1) m1 f1
          have HLx : Hid ((d ++ [x]).length = i + 1) := by show _ = _; rw [List.length_append, HLen.out]; rfl
          obtain ⟨p1, c1, hv1⟩ := HO3.out.shape
          rw [HLx.out] at hv1
          subst hv1
          have HL3 := Lib.hid (HL.out.below HO3.out.bel)
          have HOx : Hid (w2.ownsRow 0 3 1 (.slice p1 (i + 1) c1) (i + 1) (i64s (d ++ [x]))) := by
            have h := HO3.out.base0
            rw [HLx.out] at h
            exact h
          clear k1 m1 f1 HOv HO
          go_wp2_with (refine wpList_from elemInt14 _ _ _ i _ HL3.out hi rfl _ _ rfl rfl rfl ?_; intro p2 c2 h2; refine wpList_extend elemInt14 _ _ _ _ _ _ (i64s (l.drop i)) HOx.out (by rw [← i64s_drop]; exact h2) (i64s_one (l.drop i)) HLc.out rfl _ _ rfl rfl rfl ?_)
          intro v3 w3 k1 m1 f1
          have hk : w3.ownsRow 0 3 1 v3 ((d ++ [x]).length + (l.drop i).length) (i64s (d ++ [x]) ++ i64s (l.drop i)) := by
            rw [HLx.out, HLd.out]
            first
              | exact k1
              | (have h0 : l.length - i = 0 := by omega
                 rw [h0]
                 exact k1)
          have HO4 : Hid (OwnI w w3 (d ++ [x] ++ l.drop i) v3) := HO3.out.extended hk m1 f1
          clear hk k1 m1 f1 HOx HO3
          go_wp2_with fail
          go_ret
          exact Or.inr ⟨_, rfl, by rw [HE.out]; simpa using HO4.out⟩
end Go.Proofs.Ytdhcfgbnjnidfaa
