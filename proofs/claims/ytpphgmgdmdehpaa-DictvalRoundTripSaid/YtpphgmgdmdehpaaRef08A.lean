/- Layer 8: the reference's find, Width, Dictionary. -/
import Derived.Test.YtpphgmgdmdehpaaDict
import Derived.Test.YtpphgmgdmdehpaaU64
set_option linter.unusedVariables false
namespace Go.Proofs.Ytpphgmgdmdehpaa
open Go Go.RowKit

def findI (l : List Nat) (x : Nat) : Int := if x ∈ l then (l.idxOf x : Int) else -1
theorem idxOf_take {l : List Nat} {x i : Nat} (h : x ∉ l.take i) (hi : i < l.length) (hx : l[i] = x) : l.idxOf x = i := by
  have e : l = l.take i ++ l[i] :: l.drop (i + 1) := by rw [List.getElem_cons_drop, List.take_append_drop]
  rw [e, List.idxOf_append, if_neg h, hx, List.idxOf_cons_self, List.length_take]
  omega
theorem findI_at {l : List Nat} {x i : Nat} (h : x ∉ l.take i) (hi : i < l.length) (hx : l[i] = x) : findI l x = (i : Int) := by
  rw [findI, if_pos (hx ▸ List.getElem_mem hi), idxOf_take h hi hx]

set_option maxHeartbeats 2000000 in
theorem ref_find08 (lv : Value) (l : List Nat) (x : Nat) (w : World) (hl : Rd w 1 lv l.length (u64s l)) (hn : l.length ≤ 1000000000000) :
    Calls Try.prog 37 #[lv, .int .u64 (x : Int)] w fun e w' => e = .returned (.int .i64 (findI l x)) ∧ w' = w := by
  have HL := Lib.hid hl; have HNn := Lib.hid hn
  obtain ⟨pl, cl, hv⟩ := hl.shape
  subst hv
  clear hl hn
  go_enter Try.func37, Try.ntmps37
  go_wp2_with fail
  go_loop [5] (fun iv => ∃ (j : Nat), j ≤ l.length ∧ iv = .int .i64 (j : Int) ∧ Hid (x ∉ l.take j)) (fun iv => l.length - (intOf iv).toNat)
  case atStart => exact ⟨0, by omega, rfl, by show _ ∉ _; simp⟩
  case round =>
    obtain ⟨j, hj, rfl, HX⟩ := hrel
    by_cases hlt : j < l.length
    · have hlt' : (j : Int) < (l.length : Int) := by omega
      have hji : (j : Int) ≤ 1000000000000 := by have := HNn.out; omega
      obtain ⟨b, off, c', e, hnc, hncm, hcell⟩ := HL.out.at (fun e => by have := congrArg List.length e; rw [u64s_length] at this; simp at this; subst this; simp at hlt)
      simp only [Value.slice.injEq] at e
      obtain ⟨rfl, _, rfl⟩ := e
      obtain ⟨y, hy⟩ : ∃ y, l[j] = y := ⟨_, rfl⟩
      have hct : w.cell? ⟨b, off + j, none⟩ = some (.int .u64 (y : Int)) := by rw [← hy]; exact hcell j _ (u64s_get l j hlt)
      have HY := Lib.hid hy
      clear hcell hnc hncm hy
      by_cases hxy : y = x
      · subst hxy
        have HF : Hid (findI l y = (j : Int)) := findI_at HX.out hlt HY.out
        go_wp2_with fail
        go_ret
        exact ⟨by rw [HF.out]; rfl, rfl⟩
      · have hvn : ¬ (y : Int) = (x : Int) := by omega
        have HX2 : Hid (x ∉ l.take (j + 1)) := by
          show _ ∉ _
          rw [List.take_add_one, List.getElem?_eq_getElem hlt, List.mem_append, not_or]
          refine ⟨HX.out, ?_⟩
          simp only [Option.toList_some, List.mem_singleton]
          rw [HY.out]; omega
        clear hxy
        go_wp2_with fail
        go_round
        case rel => exact ⟨j + 1, by omega, by go_num, HX2.out⟩
        case measure => simp [intOf]; omega
    · have hlt' : ¬ (j : Int) < (l.length : Int) := by omega
      have HF : Hid (findI l x = -1) := by
        show _ = _
        have := HX.out
        rw [List.take_of_length_le (by omega)] at this
        rw [findI, if_neg this]
      go_wp2_with fail
      go_ret
      exact ⟨by rw [HF.out]; rfl, rfl⟩

/-- Width counts how often 1 must be doubled. -/
theorem width_at {n c : Nat} (h1 : c ≤ 2 ^ n) (h2 : n = 0 ∨ 2 ^ (n - 1) < c) : widthD c = n := by
  rw [widthD]
  split
  · next hc =>
    rcases h2 with h2 | h2
    · exact h2.symm
    · have := Nat.two_pow_pos (n - 1); omega
  · next hc =>
    rcases h2 with h2 | h2
    · subst h2; simp at h1; omega
    · have hn : n ≠ 0 := fun e => by subst e; simp at h1; omega
      have a1 : Nat.log2 (c - 1) < n := (Nat.log2_lt (by omega)).2 (by omega)
      have a2 : n - 1 ≤ Nat.log2 (c - 1) := (Nat.le_log2 (by omega)).2 (by omega)
      omega
def widthI (c : Int) : Int := (widthD c.toNat : Int)
set_option maxHeartbeats 2000000 in
theorem ref_width08 (c : Int) (w : World) (hc : -9223372036854775808 ≤ c ∧ c ≤ 1152921504606846976) :
    Calls Try.prog 15 #[.int .i64 c] w fun e w' => e = .returned (.int .i64 (widthI c)) ∧ w' = w := by
  have HC := Lib.hid hc
  have hc2 := hc.2
  clear hc
  go_enter Try.func15, Try.ntmps15
  go_wp2_with fail

  go_loop [3, 4] (fun nv kv => ∃ (n : Nat), n ≤ 60 ∧ nv = .int .i64 (n : Int) ∧ kv = .int .i64 ((2 ^ n : Nat) : Int) ∧ Hid (n = 0 ∨ ((2 ^ (n - 1) : Nat) : Int) < c)) (fun nv _ => 62 - (intOf nv).toNat)
  case atStart => exact ⟨0, by omega, rfl, rfl, Or.inl rfl⟩
  case round =>
    obtain ⟨n, hn, rfl, rfl, HP⟩ := hrel
    have hn6 : (n : Int) < 62 := by omega
    by_cases hlt : ((2 ^ n : Nat) : Int) < c
    · have hp := Nat.two_pow_pos n
      have HS : Hid (2 ^ (n + 1) = 2 ^ n * 2) := Nat.pow_succ ..
      have HP2 : Hid (n + 1 = 0 ∨ ((2 ^ (n + 1 - 1) : Nat) : Int) < c) := Or.inr (by rw [Nat.add_sub_cancel]; exact hlt)
      have hn1 : n + 1 ≤ 60 := by
        by_cases h : n = 60
        · subst h; omega
        · omega
      clear HP
      generalize 2 ^ n = V at *
      have hv1 : (V : Int) ≤ 1152921504606846976 := by omega
      go_wp2_with fail
      go_round
      case rel => exact ⟨n + 1, hn1, by go_num, by rw [HS.out]; go_num, HP2.out⟩
      case measure => simp [intOf]; omega
    · have HW : Hid (widthI c = (n : Int)) := by
        show _ = _
        rw [widthI, width_at (n := n) (by generalize 2 ^ n = V at *; omega) (by
          rcases HP.out with h | h
          · exact Or.inl h
          · refine Or.inr ?_
            generalize 2 ^ (n - 1) = V at *
            omega)]
      generalize 2 ^ n = V at *
      go_wp2_with fail
      go_ret
      exact ⟨by rw [HW.out]; rfl, rfl⟩

/-- A list of words in a row of the call's own. -/
structure OwnD (w wr : World) (d : List Nat) (v : Value) : Prop where
  row : wr.ownsRow w.heap.size 25 1 v d.length (u64s d)
  bel : Below w.heap.size w wr
theorem OwnD.drewN {w wr : World} {d : List Nat} {v : Value} (h : OwnD w wr d v) (n : Nat) : OwnD w (wr.drewN n) d v :=
  ⟨(Mods.drewN (fun _ => False) wr n).owns h.row (fun _ _ e => e), h.bel.trans ((Mods.drewN (fun _ => False) wr n).below h.bel.size (fun _ _ e => e))⟩
theorem OwnD.pushed {w wr w1 : World} {d : List Nat} {v v1 : Value} {x : Nat} (h : OwnD w wr d v) (k : w1.ownsRow 0 25 1 v1 (d.length + 1) (u64s d ++ [.int .u64 (x : Int)])) (m : Mods (fun k => v.ownBlock = some k) wr w1) (f : Fresh wr.heap.size v v1) : OwnD w w1 (d ++ [x]) v1 := by
  refine ⟨?_, h.bel.trans (m.below h.bel.size (fun k hk e => by have := (h.row.lt k e).1; omega))⟩
  rw [List.length_append, u64s_append]
  refine owns_rebase k (fun k hk => ?_)
  rcases f k hk with e | e
  · exact (h.row.lt k e).1
  · have := h.bel.size; omega
theorem OwnD.stored {w wr : World} {d e : List Nat} {g n c i y : Nat} (h : OwnD w wr d (.slice (some ⟨g, 0, none⟩) n c)) (he : d.set i y = e) : OwnD w (wr.setCell ⟨g, i, none⟩ (.int .u64 (y : Int))) e (.slice (some ⟨g, 0, none⟩) n c) := by
  subst he
  have hn : n = d.length := by
    obtain ⟨p, c', h'⟩ := (Rd.of_owns h.row).shape
    simp only [Value.slice.injEq] at h'
    exact h'.2.1
  subst hn
  have hm : Mods (fun k => k = g) wr (wr.setCell ⟨g, i, none⟩ (.int .u64 (y : Int))) := Mods.set _ _ _ _ (fun _ => rfl)
  have hg := (h.row.lt g rfl).1
  refine ⟨?_, h.bel.trans (hm.below h.bel.size (fun k hk e => by omega))⟩
  have e : u64s (d.set i y) = (u64s d).set i (.int .u64 (y : Int)) := by simp [u64s, List.map_set]
  rw [List.length_set, e]
  exact (h.row.stored i _).1
theorem OwnD.cell {w wr : World} {d : List Nat} {g n c i : Nat} (h : OwnD w wr d (.slice (some ⟨g, 0, none⟩) n c)) (hi : i < d.length) : wr.cell? ⟨g, i, none⟩ = some (.int .u64 (d[i] : Int)) ∧ wr.frozen? ⟨g, i, none⟩ = false := by
  have hn : n = d.length := by
    obtain ⟨p, c', h'⟩ := (Rd.of_owns h.row).shape
    simp only [Value.slice.injEq] at h'
    exact h'.2.1
  subst hn
  refine ⟨?_, h.row.frozenAt _⟩
  rw [h.row.cellAt i (by omega)]
  simp [u64s, hi]
theorem shift_set (d : List Nat) (k y z : Nat) (hk : k ≤ d.length) : (d.take k ++ y :: d.drop k).set k z = d.take k ++ z :: d.drop k := by
  have hl : (d.take k).length = k := by rw [List.length_take]; omega
  rw [List.set_append_right _ _ (by omega), hl, Nat.sub_self, List.set_cons_zero]
theorem shift_eq (d : List Nat) (k : Nat) (hk : k < d.length) (z : Nat) (hz : d[k] = z) : d.take (k + 1) ++ z :: d.drop (k + 1) = d.take k ++ z :: d.drop k := by
  have e : d.drop k = z :: d.drop (k + 1) := by rw [← hz, List.getElem_cons_drop]
  rw [List.take_add_one, List.getElem?_eq_getElem hk, hz, e, List.append_assoc]
  rfl
theorem shift_done {d : List Nat} {k x : Nat} (ha : Asc d) (hx : x ∉ d) (h1 : ∀ z ∈ d.drop k, x < z) (h2 : k = 0 ∨ ∃ hk : k - 1 < d.length, d[k - 1] ≤ x) (hk : k ≤ d.length) : d.take k ++ x :: d.drop k = insD x d := by
  have e := insD_parts x (d.take k) (d.drop k) (fun z hz => ?_) h1
  · rw [List.take_append_drop] at e; exact e.symm
  · rcases h2 with h2 | ⟨h3, h2⟩
    · subst h2; simp at hz
    · obtain ⟨i, hi, rfl⟩ := List.getElem_of_mem hz
      rw [List.length_take] at hi
      rw [List.getElem_take]
      have hne : d[k - 1] ≠ x := fun e => hx (e ▸ List.getElem_mem h3)
      by_cases hik : i = k - 1
      · subst hik; omega
      · have := List.pairwise_iff_getElem.1 ha i (k - 1) (by omega) h3 (by omega)
        omega

set_option maxRecDepth 20000 in
set_option maxHeartbeats 4000000 in
theorem ref_dict08 (lv : Value) (l : List Nat) (w : World) (hl : Rd w 1 lv l.length (u64s l)) (hn : l.length ≤ 1000000000) :
    Calls Try.prog 13 #[lv] w fun e w' => ∃ v, e = .returned v ∧ OwnD w w' (dictD l) v := by
  have HL := Lib.hid hl; have HNn := Lib.hid hn
  obtain ⟨pl, cl, hv⟩ := hl.shape
  subst hv
  clear hl hn
  go_enter Try.func13, Try.ntmps13
  go_wp2_with fail

  go_loopw [3, 4] (fun vv iv wr => ∃ (j : Nat), j ≤ l.length ∧ iv = .int .i64 (j : Int) ∧ Hid (OwnD w wr (dictD (l.take j)) vv)) (fun _ iv _ => l.length - (intOf iv).toNat)
  case atStart => exact ⟨0, by omega, rfl, World.ownsRow_nil _ _ _ _, Below.refl _ _⟩
  case round =>
    obtain ⟨j, hj, rfl, HO⟩ := hrel
    by_cases hlt : j < l.length
    · have hlt' : (j : Int) < (l.length : Int) := by omega
      have hji : (j : Int) ≤ 1000000000 := by have := HNn.out; omega
      have HLr := Lib.hid (HL.out.below HO.out.bel)
      obtain ⟨b, off, c', e, hnc, hncm, hcell⟩ := HLr.out.at (fun e => by have := congrArg List.length e; rw [u64s_length] at this; simp at this; subst this; simp at hlt)
      simp only [Value.slice.injEq] at e
      obtain ⟨rfl, _, rfl⟩ := e
      obtain ⟨x, hx⟩ : ∃ x, l[j] = x := ⟨_, rfl⟩
      have hct : wr.cell? ⟨b, off + j, none⟩ = some (.int .u64 (x : Int)) := by rw [← hx]; exact hcell j _ (u64s_get l j hlt)
      have HCt : Hid (∀ w', Below w.heap.size w w' → w'.cell? ⟨b, off + j, none⟩ = some (.int .u64 (x : Int))) := fun w' hb => by
        obtain ⟨b2, off2, c2, e, _, _, hcell⟩ := (HL.out.below hb).at (fun e => by have := congrArg List.length e; rw [u64s_length] at this; simp at this; subst this; simp at hlt)
        simp only [Value.slice.injEq, Option.some.injEq, Addr.mk.injEq] at e
        obtain ⟨⟨rfl, rfl, _⟩, _, rfl⟩ := e
        rw [← hx]; exact hcell j _ (u64s_get l j hlt)
      have HSt : Hid (dictD (l.take (j + 1)) = insD x (dictD (l.take j))) := by show _ = _; rw [List.take_add_one, List.getElem?_eq_getElem hlt, hx]; exact dictD_snoc _ _
      have hDl : (dictD (l.take j)).length ≤ 1000000000 := by have := dictD_len (l.take j); rw [List.length_take] at this; have := HNn.out; omega
      have HA := Lib.hid (dictD_asc (l.take j))
      clear hcell hx hnc hncm
      generalize dictD (l.take j) = d at *
      obtain ⟨pv, cv, hvv⟩ := (Rd.of_owns HO.out.row).shape
      subst hvv
      obtain ⟨N, hN⟩ : ∃ N, d.length = N := ⟨_, rfl⟩
      have HF := Lib.hid (ref_find08 (.slice pv d.length cv) d x wr (Rd.of_owns HO.out.row) (by omega))
      rw [hN] at hDl HF HO ⊢
      have HNe : Hid (d.length = N) := hN
      clear hN
      have HD := Lib.hid hDl
      have hNi : (N : Int) ≤ 1000000000 := by omega
      clear hDl
      by_cases hin : x ∈ d
      · have HFi : Hid (∃ i : Nat, findI d x = (i : Int)) := ⟨_, by rw [findI, if_pos hin]⟩
        have HS2 : Hid (dictD (l.take (j + 1)) = d) := by show _ = _; rw [HSt.out]; exact insD_in x d HA.out hin
        clear hin
        go_wp2_with fail
        refine HF.out.mono ?_
        rintro e w7 ⟨rfl, rfl⟩
        obtain ⟨i, hi⟩ := HFi.out
        rw [hi]
        have hi0 : (0 : Int) ≤ (i : Int) := by omega
        go_wp2_with fail
        go_round
        case rel => exact ⟨j + 1, by omega, by go_num, by rw [HS2.out]; exact HO.out⟩
        case measure => simp [intOf]; omega
      · have HFi : Hid (findI d x = -1) := by show _ = _; rw [findI, if_neg hin]
        have HIn : Hid (x ∉ d) := hin
        clear hin
        go_wp2_with fail
        refine HF.out.mono ?_
        rintro e w7 ⟨rfl, h7⟩
        obtain rfl := h7.symm
        rw [HFi.out]
        have HLb : Hid ((N + 1) * 8 ≤ 140737488355328 ∧ N + 1 ≤ maxLen) := by show _ ∧ _; have := HD.out; unfold maxLen; omega
        have HOv : Hid (wr.ownsRow 0 25 1 (.slice pv N cv) N (u64s d)) := by
          have h := owns_rebase HO.out.row (base' := 0) (fun _ _ => Nat.zero_le _)
          rw [HNe.out] at h
          exact h
        clear hct
        go_wp2_with (at_builtin; refine wpList_push Try.elemU64 _ #[.int .u64 0] _ _ _ HOv.out rfl (one_cell _ rfl) HLb.out rfl _ _ rfl rfl rfl ?_)
        intro v1 w1 k1 m1 f1
        have HO1 : Hid (OwnD w w1 (d ++ [0]) v1) := HO.out.pushed (by rw [HNe.out]; exact k1) m1 f1
        obtain ⟨g, c1, hv1⟩ : ∃ g cap, v1 = .slice (some ⟨g, 0, none⟩) (N + 1) cap := by
          rcases owns_cases k1 with ⟨_, h0, _⟩ | ⟨g, cap, hv, _⟩
          · omega
          · exact ⟨g, cap, hv⟩
        subst hv1
        clear k1 m1 f1 HO HOv HF
        go_wp2_with fail
        go_loopw [5] (fun kv wr2 => ∃ (k y : Nat), k ≤ N ∧ kv = .int .i64 (k : Int) ∧ Hid (∀ z ∈ d.drop k, x < z) ∧ Hid (OwnD w wr2 (d.take k ++ y :: d.drop k) (.slice (some ⟨g, 0, none⟩) (N + 1) c1))) (fun kv _ => (intOf kv).toNat)
        case atStart => exact ⟨N, 0, Nat.le_refl _, rfl, (by show ∀ z ∈ d.drop N, x < z; rw [List.drop_of_length_le (by have := HNe.out; omega)]; intro z hz; cases hz), by
          show OwnD _ _ _ _
          rw [List.drop_of_length_le (by have := HNe.out; omega), List.take_of_length_le (by have := HNe.out; omega)]
          exact HO1.out⟩
        case round =>
          obtain ⟨k, y, hk, rfl, HZ, HO2⟩ := hrel
          have hlen : (d.take k ++ y :: d.drop k).length = N + 1 := by
            rw [List.length_append, List.length_cons, List.length_take, List.length_drop]; have := HNe.out; omega
          have HLen := Lib.hid hlen
          have hki : (k : Int) ≤ 1000000000 := by omega
          have hkN : (k : Int) < (N : Int) + 1 := by omega
          have hfk := (HO2.out.cell (i := k) (by omega)).2
          have hck := (HO2.out.cell (i := k) (by omega)).1
          have hcx := HCt.out wr HO2.out.bel
          generalize (d.take k ++ y :: d.drop k)[k] = yy at hck
          clear hlen
          by_cases h0 : k = 0
          · subst h0
            have HDn : Hid (∀ nq, OwnD w ((wr.drewN nq).setCell ⟨g, 0, none⟩ (.int .u64 (x : Int))) (insD x d) (.slice (some ⟨g, 0, none⟩) (N + 1) c1)) := fun nq => by
              rw [← shift_done HA.out HIn.out HZ.out (Or.inl rfl) (Nat.zero_le _)]
              exact (HO2.out.drewN nq).stored (shift_set d 0 y x (Nat.zero_le _))
            clear HZ HO2
            go_wp2_with fail
            go_quiet (fail)
            have hck2 : (wr.drewN nq).cell? ⟨g, 0, none⟩ = some (.int .u64 (yy : Int)) := hck
            have hcx2 : (wr.drewN nq).cell? ⟨b, off + j, none⟩ = some (.int .u64 (x : Int)) := hcx
            have hfk2 : (wr.drewN nq).frozen? ⟨g, 0, none⟩ = false := hfk
            have HDn2 := Lib.hid (HDn.out nq)
            clear hck hcx hfk HDn
            generalize wr.drewN nq = wn at *
            go_wp2_with fail
            go_round
            case rel => exact ⟨j + 1, by omega, by go_num, by rw [HSt.out]; exact HDn2.out⟩
            case measure => simp [intOf]; omega
          · obtain ⟨k, rfl⟩ : ∃ m, k = m + 1 := ⟨k - 1, by omega⟩
            clear h0
            obtain ⟨z, hz⟩ : ∃ z, d[k]'(by have := HNe.out; omega) = z := ⟨_, rfl⟩
            have HZe := Lib.hid hz
            have hcz : wr.cell? ⟨g, k, none⟩ = some (.int .u64 (z : Int)) := by
              rw [(HO2.out.cell (i := k) (by have := HLen.out; omega)).1, ← hz]
              congr 2
              rw [List.getElem_append_left (by rw [List.length_take]; have := HNe.out; omega), List.getElem_take]
            have hks : ((k + 1 : Nat) : Int) - 1 = (k : Int) := by omega
            have hkp : (0 : Int) < ((k + 1 : Nat) : Int) := by omega
            have hk0 : (0 : Int) ≤ (k : Int) := by omega
            clear hz
            by_cases hxz : x < z
            · have hxz' : (x : Int) < (z : Int) := by omega
              have HDn : Hid (∀ nq, OwnD w ((wr.drewN nq).setCell ⟨g, k + 1, none⟩ (.int .u64 (z : Int))) (d.take k ++ z :: d.drop k) (.slice (some ⟨g, 0, none⟩) (N + 1) c1)) := fun nq => by
                rw [← shift_eq d k (by have := HNe.out; omega) z HZe.out]
                exact (HO2.out.drewN nq).stored (shift_set d (k + 1) y z (by have := HNe.out; omega))
              have HZ2 : Hid (∀ z' ∈ d.drop k, x < z') := fun z' hz' => by
                rw [← List.getElem_cons_drop (show k < d.length by have := HNe.out; omega), HZe.out] at hz'
                rcases List.mem_cons.1 hz' with e | e
                · omega
                · exact HZ.out z' e
              clear HO2 HZ
              go_wp2_with fail
              go_quiet (fail)
              have hck2 : (wr.drewN nq).cell? ⟨g, k + 1, none⟩ = some (.int .u64 (yy : Int)) := hck
              have hcx2 : (wr.drewN nq).cell? ⟨b, off + j, none⟩ = some (.int .u64 (x : Int)) := hcx
              have hcz2 : (wr.drewN nq).cell? ⟨g, k, none⟩ = some (.int .u64 (z : Int)) := hcz
              have hfk2 : (wr.drewN nq).frozen? ⟨g, k + 1, none⟩ = false := hfk
              have HDn2 := Lib.hid (HDn.out nq)
              clear hck hcx hcz hfk HDn
              generalize wr.drewN nq = wn at *
              go_wp2_with fail
              go_round
              case rel => exact ⟨k, z, by omega, by go_num, HZ2.out, HDn2.out⟩
              case measure => simp [intOf]
            · have hxz' : ¬ (x : Int) < (z : Int) := by omega
              have HDn : Hid (∀ nq, OwnD w ((wr.drewN nq).setCell ⟨g, k + 1, none⟩ (.int .u64 (x : Int))) (insD x d) (.slice (some ⟨g, 0, none⟩) (N + 1) c1)) := fun nq => by
                rw [← shift_done HA.out HIn.out HZ.out (Or.inr ⟨by have := HNe.out; simp only [Nat.add_sub_cancel]; omega, by simp only [Nat.add_sub_cancel]; rw [HZe.out]; omega⟩) (by have := HNe.out; omega)]
                exact (HO2.out.drewN nq).stored (shift_set d (k + 1) y x (by have := HNe.out; omega))
              clear HO2
              go_wp2_with fail
              go_quiet (fail)
              have hck2 : (wr.drewN nq).cell? ⟨g, k + 1, none⟩ = some (.int .u64 (yy : Int)) := hck
              have hcx2 : (wr.drewN nq).cell? ⟨b, off + j, none⟩ = some (.int .u64 (x : Int)) := hcx
              have hcz2 : (wr.drewN nq).cell? ⟨g, k, none⟩ = some (.int .u64 (z : Int)) := hcz
              have hfk2 : (wr.drewN nq).frozen? ⟨g, k + 1, none⟩ = false := hfk
              have HDn2 := Lib.hid (HDn.out nq)
              clear hck hcx hcz hfk HDn
              generalize wr.drewN nq = wn at *
              go_wp2_with fail
              go_round
              case rel => exact ⟨j + 1, by omega, by go_num, by rw [HSt.out]; exact HDn2.out⟩
              case measure => simp [intOf]; omega
    · have hlt' : ¬ (j : Int) < (l.length : Int) := by omega
      rw [List.take_of_length_le (by omega)] at HO
      go_wp2_with fail
      go_ret
      exact ⟨_, rfl, HO.out⟩
end Go.Proofs.Ytpphgmgdmdehpaa
