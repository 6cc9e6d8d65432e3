/- Layer 14: the reference's Union. -/
import Derived.Test.YtdhcfgbnjnidfaaRef14C
import Derived.Test.YtdhcfgbnjnidfaaRdLL
set_option linter.unusedVariables false
set_option maxRecDepth 20000
namespace Go.Proofs.Ytdhcfgbnjnidfaa
open Go Go.RowKit

theorem union_step {m : List (List Int)} {i : Nat} {l : List Int} (h : m[i]? = some l) : unionZ (m.take (i + 1)) = tabFrom ltI (unionZ (m.take i)) l := by
  unfold unionZ tabB
  rw [List.take_add_one, h, Option.toList_some, List.flatten_append, tabFrom, tabFrom, tabFrom, List.foldl_append]
  simp
theorem flat_bound {m : List (List Int)} {i : Nat} {l : List Int} (h : m[i]? = some l) : (m.take i).flatten.length + l.length ≤ m.flatten.length := by
  obtain ⟨hlt, e⟩ := List.getElem?_eq_some_iff.1 h
  have e2 : m.flatten = (m.take i).flatten ++ (m.drop i).flatten := by rw [← List.flatten_append, List.take_append_drop]
  have e3 : m.drop i = l :: m.drop (i + 1) := by rw [← e, List.getElem_cons_drop]
  rw [e2, e3, List.length_append, List.flatten_cons, List.length_append]; omega
theorem Own1.rebase {t : TypeId} {α : Type} {f : α → Value} {w w1 w2 : World} {d d' : List α} {v v' : Value} (h1 : Own1 t f w w1 d v) (h2 : Own1 t f w1 w2 d' v') : Own1 t f w w2 d' v' :=
  ⟨owns_rebase h2.row (fun k hk => by have := (h2.row.lt k hk).1; have := h1.bel.size; omega), h1.bel.trans (h2.bel.mono h1.bel.size)⟩

set_option maxHeartbeats 4000000 in
theorem ref_union14 (mv : Value) (m : List (List Int)) (w : World) (hm : RdLL w mv m) (hn : m.flatten.length ≤ 100000) (hk : m.length ≤ 100000) :
    Calls Try.prog 17 #[mv] w fun e w' => ∃ v, e = .returned v ∧ OwnI w w' (unionZ m) v := by
  have HM := Lib.hid hm
  have HNn := Lib.hid hn
  have HK := Lib.hid hk
  obtain ⟨pm, cm, hv⟩ := hm.shape
  subst hv
  clear hm hn hk
  go_enter Try.func17, Try.ntmps17
  go_wp2_with fail
  go_loopw [3, 4] (fun vv iv wr => ∃ (i : Nat), i ≤ m.length ∧ iv = .int .i64 (i : Int) ∧ Hid (OwnI w wr (unionZ (m.take i)) vv)) (fun _ iv _ => m.length - (intOf iv).toNat)
  case atStart => exact ⟨0, Nat.zero_le _, rfl, Own1.nil w⟩
  case round =>
    obtain ⟨i, hi, rfl, HO⟩ := hrel
    have him : (i : Int) ≤ 100000 := by have := HK.out; omega
    by_cases hlt : i < m.length
    · have hlt' : (i : Int) < (m.length : Int) := by omega
      obtain ⟨l, hl⟩ : ∃ l, m[i]? = some l := ⟨_, List.getElem?_eq_getElem hlt⟩
      obtain ⟨blk, off, p1, c1, e, hal⟩ := HM.out.always hl
      subst e
      have HAl := Lib.hid hal
      have HU := Lib.hid (union_step hl)
      have HB : Hid ((unionZ (m.take i)).length + l.length ≤ 100000) := by
        show _ ≤ _
        have h1 := flat_bound hl
        have h2 : (unionZ (m.take i)).length ≤ (m.take i).flatten.length := tabB_len (lt := ltI) _
        have := HNn.out
        omega
      have HA : Hid (AscB ltI (unionZ (m.take i))) := union_asc _
      clear hl hal
      generalize unionZ (m.take i) = D at *
      go_wp2_with fail
      go_loopw [3, 5] (fun vv kv wr2 => ∃ (k : Nat), k ≤ l.length ∧ kv = .int .i64 (k : Int) ∧ Hid (OwnI w wr2 (tabFrom ltI D (l.take k)) vv)) (fun _ kv _ => l.length - (intOf kv).toNat)
      case atStart => exact ⟨0, Nat.zero_le _, rfl, HO.out⟩
      case round =>
        obtain ⟨k, hkl, rfl, HO2⟩ := hrel
        have hkm : (k : Int) ≤ 100000 := by have := HB.out; omega
        obtain ⟨x0, hR⟩ := HAl.out wr HO2.out.bel
        by_cases hlk : k < l.length
        · have hlk' : (k : Int) < (l.length : Int) := by omega
          obtain ⟨x, hx⟩ : ∃ x, l[k]? = some x := ⟨_, List.getElem?_eq_getElem hlk⟩
          obtain ⟨b2, o2, e, hcell⟩ := rdI_at hR hx
          subst e
          have c0 := hcell wr (Below.refl _ _)
          have HSt : Hid (tabFrom ltI D (l.take (k + 1)) = insB ltI x (tabFrom ltI D (l.take k))) := by
            show _ = _
            rw [List.take_add_one, hx, Option.toList_some]
            exact tabFrom_snoc _ _ _
          have HLn : Hid ((tabFrom ltI D (l.take k)).length ≤ 100000) := by
            show _ ≤ _
            have h1 := tabFrom_len (lt := ltI) D (l.take k)
            rw [List.length_take] at h1
            have := HB.out
            omega
          have HAs : Hid (AscB ltI (tabFrom ltI D (l.take k))) := tabFrom_asc ltI_ok _ _ HA.out
          clear hx hcell hR
          generalize tabFrom ltI D (l.take k) = d at *
          have HC := Lib.hid (ref_insert14 _ d x wr HO2.out.rd HAs.out (by have := HLn.out; omega))
          obtain ⟨pv, cv, hvv⟩ := HO2.out.shape
          subst hvv
          go_wp2_with fail
          refine HC.out.mono ?_
          rintro en w1 hpost
          have HO3 : Hid (∃ v, en = .returned v ∧ OwnI w w1 (insB ltI x d) v) := by
            rcases hpost with ⟨rfl, e1, e2⟩ | ⟨v, rfl, hO⟩
            · exact ⟨_, rfl, by rw [e1, e2]; exact HO2.out⟩
            · exact ⟨_, rfl, HO2.out.rebase hO⟩
          clear hpost HC HO2 c0 x0
          obtain ⟨v1, rfl, hO1⟩ := HO3.out
          have HO4 := Lib.hid hO1
          clear hO1 HO3
          go_wp2_with fail
          go_round
          case rel => exact ⟨k + 1, by omega, by go_num, by rw [HSt.out]; exact HO4.out⟩
          case measure => simp [intOf]; omega
        · have hlk' : ¬ (k : Int) < (l.length : Int) := by omega
          have HE : Hid (tabFrom ltI D (l.take k) = unionZ (m.take (i + 1))) := by show _ = _; rw [HU.out, List.take_of_length_le (by omega)]
          clear hR
          go_wp2_with fail
          go_round
          case rel => exact ⟨i + 1, by omega, by go_num, by rw [← HE.out]; exact HO2.out⟩
          case measure => simp [intOf]; omega
    · have hlt' : ¬ (i : Int) < (m.length : Int) := by omega
      have HE : Hid (m.take i = m) := List.take_of_length_le (by omega)
      go_wp2_with fail
      go_ret
      exact ⟨_, rfl, by rw [HE.out] at HO; exact HO.out⟩
end Go.Proofs.Ytdhcfgbnjnidfaa
