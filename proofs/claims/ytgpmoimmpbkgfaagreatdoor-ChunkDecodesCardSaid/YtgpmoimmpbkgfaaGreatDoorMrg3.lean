/- U64, Ref08A, RefW, Ref08B, EndR, Chunk, Made, Bytes, Sample, ChunkI, From, in one text. -/
import Derived.Test.YtgpmoimmpbkgfaaGreatDoorMrg1
import Derived.Test.YtgpmoimmpbkgfaaGreatDoorMrg2
import Derived.Test.YtgpmoimmpbkgfaaGreatDoorProg
import Derived.WalkSpells
import Derived.WalkLawsBesides
import Derived.Outline
import Derived.Lib.Hide
import Derived.Deep.QuietTactic
import Derived.BigQuiet
import Derived.StillTailTactics
import Derived.Laws.IdiomStrings
import Derived.Lib.SlBytesConst
import Derived.Laws.Slices
import Derived.ChangeKeysEq

section
/- Lists of words as rows. -/
set_option linter.unusedVariables false
namespace Go.Proofs.YtgpmoimmpbkgfaaGreatDoor
open Go Go.RowKit

def u64s (l : List Nat) : List Value := l.map fun x : Nat => .int .u64 (x : Int)
theorem u64s_length (l : List Nat) : (u64s l).length = l.length := by simp [u64s]
theorem u64s_append (a b : List Nat) : u64s (a ++ b) = u64s a ++ u64s b := by simp [u64s]
theorem u64s_get (l : List Nat) (i : Nat) (h : i < l.length) : (u64s l)[i]? = some (.int .u64 (l[i] : Int)) := by simp [u64s, h]
theorem u64s_one (l : List Nat) : ∀ u ∈ u64s l, u.oneCell' = true := by
  intro u hu
  simp only [u64s, List.mem_map] at hu
  obtain ⟨n, _, rfl⟩ := hu
  rfl
theorem Tryz.infoU64 : (Tryz.prog.info? 31).map (fun i => (i.zero, i.size, i.bytes)) = some (some (.int .u64 0), 1, 8) := by kernel_rfl
theorem Tryz.elemU64 : Elem Tryz.prog 22 31 1 8 := Elem.mk' Tryz.underlying22 Tryz.infoU64 rfl (by decide)

end Go.Proofs.YtgpmoimmpbkgfaaGreatDoor

end

section
/- Layer 8: the reference's find, Width, Dictionary. -/
set_option linter.unusedVariables false
namespace Go.Proofs.YtgpmoimmpbkgfaaGreatDoor
open Go Go.RowKit

def findI (l : List Nat) (x : Nat) : Int := if x ∈ l then (l.idxOf x : Int) else -1
theorem idxOf_take {l : List Nat} {x i : Nat} (h : x ∉ l.take i) (hi : i < l.length) (hx : l[i] = x) : l.idxOf x = i := by
  have e : l = l.take i ++ l[i] :: l.drop (i + 1) := by rw [List.getElem_cons_drop, List.take_append_drop]
  rw [e, List.idxOf_append, if_neg h, hx, List.idxOf_cons_self, List.length_take]
  omega
theorem findI_at {l : List Nat} {x i : Nat} (h : x ∉ l.take i) (hi : i < l.length) (hx : l[i] = x) : findI l x = (i : Int) := by
  rw [findI, if_pos (hx ▸ List.getElem_mem hi), idxOf_take h hi hx]

set_option maxHeartbeats 2000000 in
theorem ref_find08 (lv : Value) (l : List Nat) (x : Nat) (w : World) (hl : Rd w 1 lv l.length (u64s l)) (hn : l.length ≤ 1000000000000) :
    Calls Tryz.prog 78 #[lv, .int .u64 (x : Int)] w fun e w' => e = .returned (.int .i64 (findI l x)) ∧ w' = w := by
  have HL := Lib.hid hl; have HNn := Lib.hid hn
  obtain ⟨pl, cl, hv⟩ := hl.shape
  subst hv
  clear hl hn
  go_enter Tryz.func78, Tryz.ntmps78
  go_wp2_with fail
  go_loop [5] (fun iv => ∃ (j : Nat), j ≤ l.length ∧ iv = .int .i64 (j : Int) ∧ Hid (x ∉ l.take j)) (fun iv => l.length - (intOf iv).toNat)
  case atStart => exact ⟨0, by omega, rfl, by show _ ∉ _; simp⟩
  case round =>
    obtain ⟨j, hj, rfl, HX⟩ := hrel
    by_cases hlt : j < l.length
    · have hlt' : (j : Int) < (l.length : Int) := by omega
      have hji : (j : Int) ≤ 1000000000000 := by have := HNn.out; omega
      obtain ⟨b, off, c', e, hnc, hncm, hcell⟩ := HL.out.at (fun e => by have := congrArg List.length e; rw [u64s_length] at this; simp at this; subst this; simp at hlt)
      simp only [Value.slice.injEq] at e
      obtain ⟨rfl, _, rfl⟩ := e
      obtain ⟨y, hy⟩ : ∃ y, l[j] = y := ⟨_, rfl⟩
      have hct : w.cell? ⟨b, off + j, none⟩ = some (.int .u64 (y : Int)) := by rw [← hy]; exact hcell j _ (u64s_get l j hlt)
      have HY := Lib.hid hy
      clear hcell hnc hncm hy
      by_cases hxy : y = x
      · subst hxy
        have HF : Hid (findI l y = (j : Int)) := findI_at HX.out hlt HY.out
        go_wp2_with fail
        go_ret
        exact ⟨by rw [HF.out]; rfl, rfl⟩
      · have hvn : ¬ (y : Int) = (x : Int) := by omega
        have HX2 : Hid (x ∉ l.take (j + 1)) := by
          show _ ∉ _
          rw [List.take_add_one, List.getElem?_eq_getElem hlt, List.mem_append, not_or]
          refine ⟨HX.out, ?_⟩
          simp only [Option.toList_some, List.mem_singleton]
          rw [HY.out]; omega
        clear hxy
        go_wp2_with fail
        go_round
        case rel => exact ⟨j + 1, by omega, by go_num, HX2.out⟩
        case measure => simp [intOf]; omega
    · have hlt' : ¬ (j : Int) < (l.length : Int) := by omega
      have HF : Hid (findI l x = -1) := by
        show _ = _
        have := HX.out
        rw [List.take_of_length_le (by omega)] at this
        rw [findI, if_neg this]
      go_wp2_with fail
      go_ret
      exact ⟨by rw [HF.out]; rfl, rfl⟩

/-- Width counts how often 1 must be doubled. -/
theorem width_at {n c : Nat} (h1 : c ≤ 2 ^ n) (h2 : n = 0 ∨ 2 ^ (n - 1) < c) : widthD c = n := by
  rw [widthD]
  split
  · next hc =>
    rcases h2 with h2 | h2
    · exact h2.symm
    · have := Nat.two_pow_pos (n - 1); omega
  · next hc =>
    rcases h2 with h2 | h2
    · subst h2; simp at h1; omega
    · have hn : n ≠ 0 := fun e => by subst e; simp at h1; omega
      have a1 : Nat.log2 (c - 1) < n := (Nat.log2_lt (by omega)).2 (by omega)
      have a2 : n - 1 ≤ Nat.log2 (c - 1) := (Nat.le_log2 (by omega)).2 (by omega)
      omega
set_option maxHeartbeats 2000000 in
theorem ref_width08 (c : Int) (w : World) (hc : -9223372036854775808 ≤ c ∧ c ≤ 1152921504606846976) :
    Calls Tryz.prog 79 #[.int .i64 c] w fun e w' => e = .returned (.int .i64 (widthI c)) ∧ w' = w := by
  have HC := Lib.hid hc
  have hc2 := hc.2
  clear hc
  go_enter Tryz.func79, Tryz.ntmps79
  go_wp2_with fail

  go_loop [3, 4] (fun nv kv => ∃ (n : Nat), n ≤ 60 ∧ nv = .int .i64 (n : Int) ∧ kv = .int .i64 ((2 ^ n : Nat) : Int) ∧ Hid (n = 0 ∨ ((2 ^ (n - 1) : Nat) : Int) < c)) (fun nv _ => 62 - (intOf nv).toNat)
  case atStart => exact ⟨0, by omega, rfl, rfl, Or.inl rfl⟩
  case round =>
    obtain ⟨n, hn, rfl, rfl, HP⟩ := hrel
    have hn6 : (n : Int) < 62 := by omega
    by_cases hlt : ((2 ^ n : Nat) : Int) < c
    · have hp := Nat.two_pow_pos n
      have HS : Hid (2 ^ (n + 1) = 2 ^ n * 2) := Nat.pow_succ ..
      have HP2 : Hid (n + 1 = 0 ∨ ((2 ^ (n + 1 - 1) : Nat) : Int) < c) := Or.inr (by rw [Nat.add_sub_cancel]; exact hlt)
      have hn1 : n + 1 ≤ 60 := by
        by_cases h : n = 60
        · subst h; omega
        · omega
      clear HP
      generalize 2 ^ n = V at *
      have hv1 : (V : Int) ≤ 1152921504606846976 := by omega
      go_wp2_with fail
      go_round
      case rel => exact ⟨n + 1, hn1, by go_num, by rw [HS.out]; go_num, HP2.out⟩
      case measure => simp [intOf]; omega
    · have HW : Hid (widthI c = (n : Int)) := by
        show _ = _
        rw [widthI, width_at (n := n) (by generalize 2 ^ n = V at *; omega) (by
          rcases HP.out with h | h
          · exact Or.inl h
          · refine Or.inr ?_
            generalize 2 ^ (n - 1) = V at *
            omega)]
      generalize 2 ^ n = V at *
      go_wp2_with fail
      go_ret
      exact ⟨by rw [HW.out]; rfl, rfl⟩

/-- A list of words in a row of the call's own. -/
structure OwnD (w wr : World) (d : List Nat) (v : Value) : Prop where
  row : wr.ownsRow w.heap.size 31 1 v d.length (u64s d)
  bel : Below w.heap.size w wr
theorem OwnD.drewN {w wr : World} {d : List Nat} {v : Value} (h : OwnD w wr d v) (n : Nat) : OwnD w (wr.drewN n) d v :=
  ⟨(Mods.drewN (fun _ => False) wr n).owns h.row (fun _ _ e => e), h.bel.trans ((Mods.drewN (fun _ => False) wr n).below h.bel.size (fun _ _ e => e))⟩
theorem OwnD.pushed {w wr w1 : World} {d : List Nat} {v v1 : Value} {x : Nat} (h : OwnD w wr d v) (k : w1.ownsRow 0 31 1 v1 (d.length + 1) (u64s d ++ [.int .u64 (x : Int)])) (m : Mods (fun k => v.ownBlock = some k) wr w1) (f : Fresh wr.heap.size v v1) : OwnD w w1 (d ++ [x]) v1 := by
  refine ⟨?_, h.bel.trans (m.below h.bel.size (fun k hk e => by have := (h.row.lt k e).1; omega))⟩
  rw [List.length_append, u64s_append]
  refine owns_rebase k (fun k hk => ?_)
  rcases f k hk with e | e
  · exact (h.row.lt k e).1
  · have := h.bel.size; omega
theorem OwnD.stored {w wr : World} {d e : List Nat} {g n c i y : Nat} (h : OwnD w wr d (.slice (some ⟨g, 0, none⟩) n c)) (he : d.set i y = e) : OwnD w (wr.setCell ⟨g, i, none⟩ (.int .u64 (y : Int))) e (.slice (some ⟨g, 0, none⟩) n c) := by
  subst he
  have hn : n = d.length := by
    obtain ⟨p, c', h'⟩ := (Rd.of_owns h.row).shape
    simp only [Value.slice.injEq] at h'
    exact h'.2.1
  subst hn
  have hm : Mods (fun k => k = g) wr (wr.setCell ⟨g, i, none⟩ (.int .u64 (y : Int))) := Mods.set _ _ _ _ (fun _ => rfl)
  have hg := (h.row.lt g rfl).1
  refine ⟨?_, h.bel.trans (hm.below h.bel.size (fun k hk e => by omega))⟩
  have e : u64s (d.set i y) = (u64s d).set i (.int .u64 (y : Int)) := by simp [u64s, List.map_set]
  rw [List.length_set, e]
  exact (h.row.stored i _).1
theorem OwnD.cell {w wr : World} {d : List Nat} {g n c i : Nat} (h : OwnD w wr d (.slice (some ⟨g, 0, none⟩) n c)) (hi : i < d.length) : wr.cell? ⟨g, i, none⟩ = some (.int .u64 (d[i] : Int)) ∧ wr.frozen? ⟨g, i, none⟩ = false := by
  have hn : n = d.length := by
    obtain ⟨p, c', h'⟩ := (Rd.of_owns h.row).shape
    simp only [Value.slice.injEq] at h'
    exact h'.2.1
  subst hn
  refine ⟨?_, h.row.frozenAt _⟩
  rw [h.row.cellAt i (by omega)]
  simp [u64s, hi]
theorem shift_set (d : List Nat) (k y z : Nat) (hk : k ≤ d.length) : (d.take k ++ y :: d.drop k).set k z = d.take k ++ z :: d.drop k := by
  have hl : (d.take k).length = k := by rw [List.length_take]; omega
  rw [List.set_append_right _ _ (by omega), hl, Nat.sub_self, List.set_cons_zero]
theorem shift_eq (d : List Nat) (k : Nat) (hk : k < d.length) (z : Nat) (hz : d[k] = z) : d.take (k + 1) ++ z :: d.drop (k + 1) = d.take k ++ z :: d.drop k := by
  have e : d.drop k = z :: d.drop (k + 1) := by rw [← hz, List.getElem_cons_drop]
  rw [List.take_add_one, List.getElem?_eq_getElem hk, hz, e, List.append_assoc]
  rfl
theorem shift_done {d : List Nat} {k x : Nat} (ha : Asc d) (hx : x ∉ d) (h1 : ∀ z ∈ d.drop k, x < z) (h2 : k = 0 ∨ ∃ hk : k - 1 < d.length, d[k - 1] ≤ x) (hk : k ≤ d.length) : d.take k ++ x :: d.drop k = insD x d := by
  have e := insD_parts x (d.take k) (d.drop k) (fun z hz => ?_) h1
  · rw [List.take_append_drop] at e; exact e.symm
  · rcases h2 with h2 | ⟨h3, h2⟩
    · subst h2; simp at hz
    · obtain ⟨i, hi, rfl⟩ := List.getElem_of_mem hz
      rw [List.length_take] at hi
      rw [List.getElem_take]
      have hne : d[k - 1] ≠ x := fun e => hx (e ▸ List.getElem_mem h3)
      by_cases hik : i = k - 1
      · subst hik; omega
      · have := List.pairwise_iff_getElem.1 ha i (k - 1) (by omega) h3 (by omega)
        omega

set_option maxRecDepth 20000 in
set_option maxHeartbeats 4000000 in
theorem ref_dict08 (lv : Value) (l : List Nat) (w : World) (hl : Rd w 1 lv l.length (u64s l)) (hn : l.length ≤ 1000000000) :
    Calls Tryz.prog 77 #[lv] w fun e w' => ∃ v, e = .returned v ∧ OwnD w w' (dictD l) v := by
  have HL := Lib.hid hl; have HNn := Lib.hid hn
  obtain ⟨pl, cl, hv⟩ := hl.shape
  subst hv
  clear hl hn
  go_enter Tryz.func77, Tryz.ntmps77
  go_wp2_with fail

  go_loopw [3, 4] (fun vv iv wr => ∃ (j : Nat), j ≤ l.length ∧ iv = .int .i64 (j : Int) ∧ Hid (OwnD w wr (dictD (l.take j)) vv)) (fun _ iv _ => l.length - (intOf iv).toNat)
  case atStart => exact ⟨0, by omega, rfl, World.ownsRow_nil _ _ _ _, Below.refl _ _⟩
  case round =>
    obtain ⟨j, hj, rfl, HO⟩ := hrel
    by_cases hlt : j < l.length
    · have hlt' : (j : Int) < (l.length : Int) := by omega
      have hji : (j : Int) ≤ 1000000000 := by have := HNn.out; omega
      have HLr := Lib.hid (HL.out.below HO.out.bel)
      obtain ⟨b, off, c', e, hnc, hncm, hcell⟩ := HLr.out.at (fun e => by have := congrArg List.length e; rw [u64s_length] at this; simp at this; subst this; simp at hlt)
      simp only [Value.slice.injEq] at e
      obtain ⟨rfl, _, rfl⟩ := e
      obtain ⟨x, hx⟩ : ∃ x, l[j] = x := ⟨_, rfl⟩
      have hct : wr.cell? ⟨b, off + j, none⟩ = some (.int .u64 (x : Int)) := by rw [← hx]; exact hcell j _ (u64s_get l j hlt)
      have HCt : Hid (∀ w', Below w.heap.size w w' → w'.cell? ⟨b, off + j, none⟩ = some (.int .u64 (x : Int))) := fun w' hb => by
        obtain ⟨b2, off2, c2, e, _, _, hcell⟩ := (HL.out.below hb).at (fun e => by have := congrArg List.length e; rw [u64s_length] at this; simp at this; subst this; simp at hlt)
        simp only [Value.slice.injEq, Option.some.injEq, Addr.mk.injEq] at e
        obtain ⟨⟨rfl, rfl, _⟩, _, rfl⟩ := e
        rw [← hx]; exact hcell j _ (u64s_get l j hlt)
      have HSt : Hid (dictD (l.take (j + 1)) = insD x (dictD (l.take j))) := by show _ = _; rw [List.take_add_one, List.getElem?_eq_getElem hlt, hx]; exact dictD_snoc _ _
      have hDl : (dictD (l.take j)).length ≤ 1000000000 := by have := dictD_len (l.take j); rw [List.length_take] at this; have := HNn.out; omega
      have HA := Lib.hid (dictD_asc (l.take j))
      clear hcell hx hnc hncm
      generalize dictD (l.take j) = d at *
      obtain ⟨pv, cv, hvv⟩ := (Rd.of_owns HO.out.row).shape
      subst hvv
      obtain ⟨N, hN⟩ : ∃ N, d.length = N := ⟨_, rfl⟩
      have HF := Lib.hid (ref_find08 (.slice pv d.length cv) d x wr (Rd.of_owns HO.out.row) (by omega))
      rw [hN] at hDl HF HO ⊢
      have HNe : Hid (d.length = N) := hN
      clear hN
      have HD := Lib.hid hDl
      have hNi : (N : Int) ≤ 1000000000 := by omega
      clear hDl
      by_cases hin : x ∈ d
      · have HFi : Hid (∃ i : Nat, findI d x = (i : Int)) := ⟨_, by rw [findI, if_pos hin]⟩
        have HS2 : Hid (dictD (l.take (j + 1)) = d) := by show _ = _; rw [HSt.out]; exact insD_in x d HA.out hin
        clear hin
        go_wp2_with fail
        refine HF.out.mono ?_
        rintro e w7 ⟨rfl, rfl⟩
        obtain ⟨i, hi⟩ := HFi.out
        rw [hi]
        have hi0 : (0 : Int) ≤ (i : Int) := by omega
        go_wp2_with fail
        go_round
        case rel => exact ⟨j + 1, by omega, by go_num, by rw [HS2.out]; exact HO.out⟩
        case measure => simp [intOf]; omega
      · have HFi : Hid (findI d x = -1) := by show _ = _; rw [findI, if_neg hin]
        have HIn : Hid (x ∉ d) := hin
        clear hin
        go_wp2_with fail
        refine HF.out.mono ?_
        rintro e w7 ⟨rfl, h7⟩
        obtain rfl := h7.symm
        rw [HFi.out]
        have HLb : Hid ((N + 1) * 8 ≤ 140737488355328 ∧ N + 1 ≤ maxLen) := by show _ ∧ _; have := HD.out; unfold maxLen; omega
        have HOv : Hid (wr.ownsRow 0 31 1 (.slice pv N cv) N (u64s d)) := by
          have h := owns_rebase HO.out.row (base' := 0) (fun _ _ => Nat.zero_le _)
          rw [HNe.out] at h
          exact h
        clear hct
        go_wp2_with (at_builtin; refine wpList_push Tryz.elemU64 _ #[.int .u64 0] _ _ _ HOv.out rfl (one_cell _ rfl) HLb.out rfl _ _ rfl rfl rfl ?_)
        intro v1 w1 k1 m1 f1
        have HO1 : Hid (OwnD w w1 (d ++ [0]) v1) := HO.out.pushed (by rw [HNe.out]; exact k1) m1 f1
        obtain ⟨g, c1, hv1⟩ : ∃ g cap, v1 = .slice (some ⟨g, 0, none⟩) (N + 1) cap := by
          rcases owns_cases k1 with ⟨_, h0, _⟩ | ⟨g, cap, hv, _⟩
          · omega
          · exact ⟨g, cap, hv⟩
        subst hv1
        clear k1 m1 f1 HO HOv HF
        go_wp2_with fail
        go_loopw [5] (fun kv wr2 => ∃ (k y : Nat), k ≤ N ∧ kv = .int .i64 (k : Int) ∧ Hid (∀ z ∈ d.drop k, x < z) ∧ Hid (OwnD w wr2 (d.take k ++ y :: d.drop k) (.slice (some ⟨g, 0, none⟩) (N + 1) c1))) (fun kv _ => (intOf kv).toNat)
        case atStart => exact ⟨N, 0, Nat.le_refl _, rfl, (by show ∀ z ∈ d.drop N, x < z; rw [List.drop_of_length_le (by have := HNe.out; omega)]; intro z hz; cases hz), by
          show OwnD _ _ _ _
          rw [List.drop_of_length_le (by have := HNe.out; omega), List.take_of_length_le (by have := HNe.out; omega)]
          exact HO1.out⟩
        case round =>
          obtain ⟨k, y, hk, rfl, HZ, HO2⟩ := hrel
          have hlen : (d.take k ++ y :: d.drop k).length = N + 1 := by
            rw [List.length_append, List.length_cons, List.length_take, List.length_drop]; have := HNe.out; omega
          have HLen := Lib.hid hlen
          have hki : (k : Int) ≤ 1000000000 := by omega
          have hkN : (k : Int) < (N : Int) + 1 := by omega
          have hfk := (HO2.out.cell (i := k) (by omega)).2
          have hck := (HO2.out.cell (i := k) (by omega)).1
          have hcx := HCt.out wr HO2.out.bel
          generalize (d.take k ++ y :: d.drop k)[k] = yy at hck
          clear hlen
          by_cases h0 : k = 0
          · subst h0
            have HDn : Hid (∀ nq, OwnD w ((wr.drewN nq).setCell ⟨g, 0, none⟩ (.int .u64 (x : Int))) (insD x d) (.slice (some ⟨g, 0, none⟩) (N + 1) c1)) := fun nq => by
              rw [← shift_done HA.out HIn.out HZ.out (Or.inl rfl) (Nat.zero_le _)]
              exact (HO2.out.drewN nq).stored (shift_set d 0 y x (Nat.zero_le _))
            clear HZ HO2
            go_wp2_with fail
            go_quiet (fail)
            have hck2 : (wr.drewN nq).cell? ⟨g, 0, none⟩ = some (.int .u64 (yy : Int)) := hck
            have hcx2 : (wr.drewN nq).cell? ⟨b, off + j, none⟩ = some (.int .u64 (x : Int)) := hcx
            have hfk2 : (wr.drewN nq).frozen? ⟨g, 0, none⟩ = false := hfk
            have HDn2 := Lib.hid (HDn.out nq)
            clear hck hcx hfk HDn
            generalize wr.drewN nq = wn at *
            go_wp2_with fail
            go_round
            case rel => exact ⟨j + 1, by omega, by go_num, by rw [HSt.out]; exact HDn2.out⟩
            case measure => simp [intOf]; omega
          · obtain ⟨k, rfl⟩ : ∃ m, k = m + 1 := ⟨k - 1, by omega⟩
            clear h0
            obtain ⟨z, hz⟩ : ∃ z, d[k]'(by have := HNe.out; omega) = z := ⟨_, rfl⟩
            have HZe := Lib.hid hz
            have hcz : wr.cell? ⟨g, k, none⟩ = some (.int .u64 (z : Int)) := by
              rw [(HO2.out.cell (i := k) (by have := HLen.out; omega)).1, ← hz]
              congr 2
              rw [List.getElem_append_left (by rw [List.length_take]; have := HNe.out; omega), List.getElem_take]
            have hks : ((k + 1 : Nat) : Int) - 1 = (k : Int) := by omega
            have hkp : (0 : Int) < ((k + 1 : Nat) : Int) := by omega
            have hk0 : (0 : Int) ≤ (k : Int) := by omega
            clear hz
            by_cases hxz : x < z
            · have hxz' : (x : Int) < (z : Int) := by omega
              have HDn : Hid (∀ nq, OwnD w ((wr.drewN nq).setCell ⟨g, k + 1, none⟩ (.int .u64 (z : Int))) (d.take k ++ z :: d.drop k) (.slice (some ⟨g, 0, none⟩) (N + 1) c1)) := fun nq => by
                rw [← shift_eq d k (by have := HNe.out; omega) z HZe.out]
                exact (HO2.out.drewN nq).stored (shift_set d (k + 1) y z (by have := HNe.out; omega))
              have HZ2 : Hid (∀ z' ∈ d.drop k, x < z') := fun z' hz' => by
                rw [← List.getElem_cons_drop (show k < d.length by have := HNe.out; omega), HZe.out] at hz'
                rcases List.mem_cons.1 hz' with e | e
                · omega
                · exact HZ.out z' e
              clear HO2 HZ
              go_wp2_with fail
              go_quiet (fail)
              have hck2 : (wr.drewN nq).cell? ⟨g, k + 1, none⟩ = some (.int .u64 (yy : Int)) := hck
              have hcx2 : (wr.drewN nq).cell? ⟨b, off + j, none⟩ = some (.int .u64 (x : Int)) := hcx
              have hcz2 : (wr.drewN nq).cell? ⟨g, k, none⟩ = some (.int .u64 (z : Int)) := hcz
              have hfk2 : (wr.drewN nq).frozen? ⟨g, k + 1, none⟩ = false := hfk
              have HDn2 := Lib.hid (HDn.out nq)
              clear hck hcx hcz hfk HDn
              generalize wr.drewN nq = wn at *
              go_wp2_with fail
              go_round
              case rel => exact ⟨k, z, by omega, by go_num, HZ2.out, HDn2.out⟩
              case measure => simp [intOf]
            · have hxz' : ¬ (x : Int) < (z : Int) := by omega
              have HDn : Hid (∀ nq, OwnD w ((wr.drewN nq).setCell ⟨g, k + 1, none⟩ (.int .u64 (x : Int))) (insD x d) (.slice (some ⟨g, 0, none⟩) (N + 1) c1)) := fun nq => by
                rw [← shift_done HA.out HIn.out HZ.out (Or.inr ⟨by have := HNe.out; simp only [Nat.add_sub_cancel]; omega, by simp only [Nat.add_sub_cancel]; rw [HZe.out]; omega⟩) (by have := HNe.out; omega)]
                exact (HO2.out.drewN nq).stored (shift_set d (k + 1) y x (by have := HNe.out; omega))
              clear HO2
              go_wp2_with fail
              go_quiet (fail)
              have hck2 : (wr.drewN nq).cell? ⟨g, k + 1, none⟩ = some (.int .u64 (yy : Int)) := hck
              have hcx2 : (wr.drewN nq).cell? ⟨b, off + j, none⟩ = some (.int .u64 (x : Int)) := hcx
              have hcz2 : (wr.drewN nq).cell? ⟨g, k, none⟩ = some (.int .u64 (z : Int)) := hcz
              have hfk2 : (wr.drewN nq).frozen? ⟨g, k + 1, none⟩ = false := hfk
              have HDn2 := Lib.hid (HDn.out nq)
              clear hck hcx hcz hfk HDn
              generalize wr.drewN nq = wn at *
              go_wp2_with fail
              go_round
              case rel => exact ⟨j + 1, by omega, by go_num, by rw [HSt.out]; exact HDn2.out⟩
              case measure => simp [intOf]; omega
    · have hlt' : ¬ (j : Int) < (l.length : Int) := by omega
      rw [List.take_of_length_le (by omega)] at HO
      go_wp2_with fail
      go_ret
      exact ⟨_, rfl, HO.out⟩
end Go.Proofs.YtgpmoimmpbkgfaaGreatDoor

end

section
/- What the reference has written, carried on. -/
set_option linter.unusedVariables false
namespace Go.Proofs.YtgpmoimmpbkgfaaGreatDoor
open Go Go.RowKit

theorem Tryz.elemBool : Elem Tryz.prog 51 4 1 1 := Elem.mk' Tryz.underlying51 Tryz.infoBool rfl (by decide)
theorem RefWrote.drewN {v v' : Value} {out : List Bool} {w w' : World} (h : RefWrote v out w v' w') (n : Nat) : RefWrote v out w v' (w'.drewN n) :=
  ⟨(Mods.drewN (fun _ => False) w' n).owns h.own (fun _ _ e => e), h.mods.trans (Mods.drewN _ _ _) (fun _ _ e => e), h.fresh⟩
theorem RefWrote.drew {v v' : Value} {out : List Bool} {w w' : World} (h : RefWrote v out w v' w') : RefWrote v out w v' w'.drew :=
  ⟨(Mods.drew (fun _ => False) w').owns h.own (fun _ _ e => e), h.mods.trans (Mods.drew _ _) (fun _ _ e => e), h.fresh⟩
theorem RefWrote.then {v v' u : Value} {out out' : List Bool} {w w' w2 : World} (h : RefWrote v out w v' w') (k : RefWrote v' out' w' u w2) : RefWrote v out' w u w2 :=
  ⟨k.own, h.mods.trans k.mods (fun j hj e => by
    rcases h.fresh j e with e | e
    · exact e
    · omega), h.fresh.trans k.fresh h.mods.size⟩
theorem RefWrote.below {v v' : Value} {out : List Bool} {w w' w2 : World} (h : RefWrote v out w v' w') (hb : Below w'.heap.size w' w2) : RefWrote v out w v' w2 :=
  ⟨(Mods.of_below hb (fun _ => False)).owns h.own (fun _ _ e => e), h.mods.trans (Mods.of_below hb _) (fun _ _ e => e), h.fresh⟩
/-- Bits appended from a literal. -/
theorem RefWrote.lit {v v' u : Value} {out news : List Bool} {w w' w2 : World} (h : RefWrote v out w v' w') (ho : w2.ownsRow 0 4 1 u (out.length + news.length) (bls out ++ bls news)) (hm : Mods (fun k => v'.ownBlock = some k) w' w2) (hf : Fresh w'.heap.size v' u) : RefWrote v (out ++ news) w u w2 :=
  h.then ⟨by rw [BitsIn, List.length_append, bls_append]; exact ho, hm, hf⟩
end Go.Proofs.YtgpmoimmpbkgfaaGreatDoor

end

section
/- Layer 8: the reference's Put. -/
set_option linter.unusedVariables false
namespace Go.Proofs.YtgpmoimmpbkgfaaGreatDoor
open Go Go.RowKit

set_option maxRecDepth 20000 in
set_option maxHeartbeats 4000000 in
theorem ref_put08 (v lv : Value) (bs : List Bool) (l : List Nat) (w : World) (h : BitsIn w v bs) (hl : Rd w 1 lv l.length (u64s l)) (hin : ∀ t ∈ l, in64u t) (hap : l ≠ [] → ∀ k, lv.ownBlock = some k → v.ownBlock ≠ some k) (hn : l.length ≤ 1000000000) (hz : bs.length + 8199 + 7 * l.length ≤ 70368744177000) :
    Calls Tryz.prog 47 #[v, lv] w fun e w' => ∃ v', e = .returned (.tuple #[v', .bool (okD l)]) ∧ RefWrote v (bs ++ putD l) w v' w' := by
  have H := Lib.hid h
  have HS := Lib.hid (ref_dict08 lv l w hl hn)
  have HIn : Hid (∀ x ∈ dictD l, x < 18446744073709551616) := fun x hx => hin x ((dictD_mem l x).1 hx)
  have HMem : Hid (∀ x ∈ l, x ∈ dictD l) := fun x hx => (dictD_mem l x).2 hx
  have HVl : Hid (∀ k, v.ownBlock = some k → k < w.heap.size) := owns_lt h
  have HL := Lib.hid hl; have HAp := Lib.hid hap; have HNn := Lib.hid hn; have HZ := Lib.hid hz
  have HDl := Lib.hid (dictD_len l)
  have HE1 : Hid (okD l = decide ((dictD l).length ≤ 128)) := rfl
  have HE2 : Hid (putD l = if okD l then (if l = [] then [] else fieldBits ((dictD l).length - 1) 7 ++ (wordsBits (dictD l) ++ indsBits (dictD l).length (l.map fun x => (dictD l).idxOf x))) else []) := rfl
  have hnz : (0 : Int) ≤ (l.length : Int) ∧ (l.length : Int) ≤ 1000000000 := by omega
  obtain ⟨hnz1, hnz2⟩ := hnz
  have HDne : Hid (l ≠ [] → 0 < (dictD l).length) := fun hne => by
    obtain ⟨x, hx⟩ := List.exists_mem_of_ne_nil l hne
    exact List.length_pos_of_mem ((dictD_mem l x).2 hx)
  obtain ⟨pl, cl, hv⟩ := hl.shape
  subst hv
  obtain ⟨p0, c0, hv0⟩ := (Rd.of_owns h).shape
  subst hv0
  clear h hl hin hap hn hz
  generalize dictD l = d at *
  go_enter Tryz.func47, Tryz.ntmps47
  go_wp2_with fail
  refine HS.out.mono ?_
  rintro e w1 ⟨dv, rfl, hO⟩
  have HO := Lib.hid hO
  have HW1 : Hid (RefWrote (.slice p0 bs.length c0) bs w1 (.slice p0 bs.length c0) w1) := ⟨(Mods.of_below hO.bel (fun _ => False)).owns H.out (fun _ _ e => e), Mods.refl _ _, Fresh.refl _ _⟩
  have HBel := Lib.hid hO.bel
  have HEnd : Hid (∀ {B v2 w2}, RefWrote (.slice p0 bs.length c0) B w1 v2 w2 → RefWrote (.slice p0 bs.length c0) B w v2 w2) := fun {B v2 w2} hw => by
    refine ⟨hw.own, (Mods.of_below HBel.out _).trans hw.mods (fun _ _ e => e), fun k hk => ?_⟩
    rcases hw.fresh k hk with e | e
    · exact Or.inl e
    · have := HBel.out.size; exact Or.inr (by omega)
  obtain ⟨pv, cv, hvv⟩ := (Rd.of_owns hO.row).shape
  subst hvv
  have HApart : Hid (∀ g, w.heap.size ≤ g → ¬ (Value.slice p0 bs.length c0).ownBlock = some g) := fun g hg e => by have := HVl.out g e; omega
  clear hO HS
  obtain ⟨N, hN⟩ : ∃ N, d.length = N := ⟨_, rfl⟩
  have HNe := Lib.hid hN
  rw [hN] at HO HDl HE1 HE2 HDne ⊢
  have hNb : (N : Int) ≤ 1000000000 := by have := HDl.out; omega
  clear hN
  by_cases h0 : l.length = 0
  · have hl0 : (l.length : Int) = 0 := by omega
    have hle : l = [] := List.eq_nil_of_length_eq_zero h0
    have HOk : Hid (okD l = true) := by show _ = _; rw [HE1.out]; have := HDl.out; exact decide_eq_true (by omega)
    have HPu : Hid (putD l = []) := by show _ = _; rw [HE2.out, HOk.out, if_pos rfl, if_pos hle]
    go_wp2_with fail
    go_ret2
    rw [HOk.out, HPu.out, List.append_nil]
    exact ⟨_, rfl, HEnd.out HW1.out⟩
  · have hl0 : ¬ (l.length : Int) = 0 := by omega
    have hl0b : ((l.length : Int) == 0) = false := by rw [beq_eq_false_iff_ne]; exact hl0
    have hlne : l ≠ [] := fun e => h0 (by rw [e]; rfl)
    have HN1 := Lib.hid (HDne.out hlne)
    have HApl : Hid (∀ k, (Value.slice pl l.length cl).ownBlock = some k → (Value.slice p0 bs.length c0).ownBlock ≠ some k) := HAp.out hlne
    have HLne := Lib.hid hlne
    clear h0 hlne HAp HDne
    by_cases h128 : 128 < N
    · have h128' : (128 : Int) < (N : Int) := by omega
      have HOk : Hid (okD l = false) := by show _ = _; rw [HE1.out]; exact decide_eq_false (by omega)
      have HPu : Hid (putD l = []) := by show _ = _; rw [HE2.out, HOk.out, if_neg (by decide)]
      clear h128
      go_wp2_with fail
      go_ret2
      rw [HOk.out, HPu.out, List.append_nil]
      exact ⟨_, rfl, HEnd.out HW1.out⟩
    · have h128' : ¬ (128 : Int) < (N : Int) := by omega
      have HOk : Hid (okD l = true) := by show _ = _; rw [HE1.out]; exact decide_eq_true (by omega)
      have HPu : Hid (putD l = fieldBits (N - 1) 7 ++ (wordsBits d ++ indsBits N (l.map fun x => d.idxOf x))) := by show _ = _; rw [HE2.out, HOk.out, if_pos rfl, if_neg HLne.out]
      have H128 : Hid (N ≤ 128) := by show _ ≤ _; omega
      have hNs : (N : Int) - 1 = ((N - 1 : Nat) : Int) := by have := HN1.out; omega
      have hNw : IntKind.u64.wrap ((N - 1 : Nat) : Int) = ((N - 1 : Nat) : Int) := by rw [IntKind.wrap_u64]; omega
      have HM : Hid (N - 1 < 128) := by show _ < _; omega
      have hMb : ((N - 1 : Nat) : Int) ≤ 128 := by omega
      have hNb2 : (N : Int) ≤ 128 := by omega
      have hN1 : (1 : Int) ≤ (N : Int) := by have := HN1.out; omega
      clear h128 HE1 HE2 hNb
      generalize hM : N - 1 = M at *
      clear hM
      go_wp2_with fail
      refine (ref_write _ bs M 7 _ HW1.out.own (by have := HM.out; omega) (by omega) (by have := HZ.out; omega)).mono ?_
      rintro en w7 ⟨v7, rfl, hR⟩
      have HR7 : Hid (RefWrote (.slice p0 bs.length c0) (bs ++ fieldBits M 7) w1 v7 w7) := HW1.out.then hR
      have HB7 : Hid ((bs ++ fieldBits M 7).length = bs.length + 7) := by show _ = _; rw [List.length_append, fieldBits_length]
      clear hR
      generalize hB7 : bs ++ fieldBits M 7 = B7 at *
      have HBe := Lib.hid hB7
      clear hB7
      obtain ⟨p7, c7, hv7⟩ := (Rd.of_owns HR7.out.own).shape
      subst hv7
      go_wp2_with fail
      go_loopw [0, 7] (fun v2 iv wr => ∃ (i : Nat) (B : List Bool), i ≤ N ∧ iv = .int .i64 (i : Int) ∧ Hid (B = B7 ++ wordsBits (d.take i)) ∧ Hid (RefWrote (.slice p0 bs.length c0) B w1 v2 wr)) (fun _ iv _ => N - (intOf iv).toNat)
      case atStart => exact ⟨0, B7, by omega, rfl, by show _ = _; simp [wordsBits], HR7.out⟩
      case round =>
        obtain ⟨i, B, hi, rfl, HB, HW⟩ := hrel
        obtain ⟨p2, c2, hv2⟩ := (Rd.of_owns HW.out.own).shape
        subst hv2
        have HVr : Hid (wr.ownsRow w.heap.size 31 1 (.slice pv N cv) d.length (u64s d)) := HW.out.mods.owns HO.out.row (fun k hk e => HApart.out k (HO.out.row.lt k hk).1 e)
        by_cases hlt : i < N
        · have hlt' : (i : Int) < (N : Int) := by omega
          have hib : (i : Int) ≤ 128 := by omega
          rw [HNe.out] at HVr
          obtain ⟨gv, cv', hvv⟩ : ∃ g cap, (Value.slice pv N cv) = .slice (some ⟨g, 0, none⟩) N cap := by
            rcases owns_cases HVr.out with ⟨_, h0, _⟩ | ⟨g, cap, hv, _⟩
            · omega
            · exact ⟨g, cap, hv⟩
          simp only [Value.slice.injEq] at hvv
          obtain ⟨rfl, _, rfl⟩ := hvv
          obtain ⟨x, hx⟩ : ∃ x, d[i]'(by have := HNe.out; omega) = x := ⟨_, rfl⟩
          have hcv : wr.cell? ⟨gv, i, none⟩ = some (.int .u64 (x : Int)) := by
            rw [HVr.out.cellAt i (by omega), ← hx]; simp [u64s, show i < d.length by have := HNe.out; omega]
          have HX : Hid (x < 18446744073709551616) := by show _ < _; rw [← hx]; exact HIn.out _ (List.getElem_mem _)
          have HTk := Lib.hid (wordsBits_take d i (by have := HNe.out; omega) x hx)
          have HBl : Hid (B.length = bs.length + 7 + 64 * i) := by show _ = _; rw [HB.out, List.length_append, wordsBits_len, List.length_take, HB7.out]; have := HNe.out; omega
          clear hx
          go_wp2_with fail
          refine (ref_write _ B x 64 _ HW.out.own HX.out (by omega) (by have := HBl.out; have := HZ.out; omega)).mono ?_
          rintro en w8 ⟨v8, rfl, hR⟩
          have HR8 : Hid (RefWrote (.slice p0 bs.length c0) (B ++ fieldBits x 64) w1 v8 w8) := HW.out.then hR
          have HB8 : Hid (B ++ fieldBits x 64 = B7 ++ wordsBits (d.take (i + 1))) := by show _ = _; rw [HTk.out, ← List.append_assoc, HB.out]
          clear hR HW HVr hcv
          generalize B ++ fieldBits x 64 = B2 at *
          obtain ⟨p8, c8, hv8⟩ := (Rd.of_owns HR8.out.own).shape
          subst hv8
          go_wp2_with fail
          go_round
          case rel => exact ⟨i + 1, B2, by omega, by go_num, HB8.out, HR8.out⟩
          case measure => simp [intOf]; omega
        · have hlt' : ¬ (i : Int) < (N : Int) := by omega
          have HB8 : Hid (B = B7 ++ wordsBits d) := by show _ = _; rw [HB.out, List.take_of_length_le (by have := HNe.out; omega)]
          have HBl8 : Hid (B.length = bs.length + 7 + 64 * N) := by show _ = _; rw [HB8.out, List.length_append, wordsBits_len, HB7.out, HNe.out]
          clear HB hlt
          have hib : (i : Int) ≤ 128 := by omega
          go_wp2_with fail
          go_loopw [0, 8] (fun v2 iv wr2 => ∃ (j : Nat) (C : List Bool), j ≤ l.length ∧ iv = .int .i64 (j : Int) ∧ Hid (C = B ++ indsBits N ((l.take j).map fun x => d.idxOf x)) ∧ Hid (RefWrote (.slice p0 bs.length c0) C w1 v2 wr2)) (fun _ iv _ => l.length - (intOf iv).toNat)
          case atStart => exact ⟨0, B, by omega, rfl, by show _ = _; simp [indsBits], HW.out⟩
          case round =>
            obtain ⟨j, C, hj, rfl, HC, HW2⟩ := hrel
            obtain ⟨p3, c3, hv3⟩ := (Rd.of_owns HW2.out.own).shape
            subst hv3
            clear HW HVr
            have HVr : Hid (wr.ownsRow w.heap.size 31 1 (.slice pv N cv) d.length (u64s d)) := HW2.out.mods.owns HO.out.row (fun k hk e => HApart.out k (HO.out.row.lt k hk).1 e)
            have HLr : Hid (Rd wr 1 (.slice pl l.length cl) l.length (u64s l)) := (HL.out.below HBel.out).mods HW2.out.mods (fun k hk e => HApl.out k hk e)
            have hjb : (j : Int) ≤ 1000000000 := by omega
            by_cases hlt : j < l.length
            · have hlt' : (j : Int) < (l.length : Int) := by omega
              obtain ⟨b, off, c', e, hnc, hncm, hcell⟩ := HLr.out.at (fun e => by have := congrArg List.length e; rw [u64s_length] at this; simp at this; subst this; simp at hlt)
              simp only [Value.slice.injEq] at e
              obtain ⟨rfl, _, rfl⟩ := e
              obtain ⟨x, hx⟩ : ∃ x, l[j] = x := ⟨_, rfl⟩
              have hct : wr.cell? ⟨b, off + j, none⟩ = some (.int .u64 (x : Int)) := by rw [← hx]; exact hcell j _ (u64s_get l j hlt)
              have HMx : Hid (x ∈ d) := HMem.out x (hx ▸ List.getElem_mem hlt)
              have HF := Lib.hid (ref_find08 (.slice pv N cv) d x wr (Rd.of_owns HVr.out) (by have := HNe.out; omega))
              have HFi : Hid (findI d x = ((d.idxOf x : Nat) : Int)) := by show _ = _; rw [findI, if_pos HMx.out]
              have HIx : Hid (d.idxOf x < N) := by show _ < _; have := List.idxOf_lt_length_of_mem HMx.out; have := HNe.out; omega
              have HTk : Hid (indsBits N ((l.take (j + 1)).map fun x => d.idxOf x) = indsBits N ((l.take j).map fun x => d.idxOf x) ++ fieldBits (d.idxOf x) (widthD N)) := by
                show _ = _
                rw [List.take_add_one, List.getElem?_eq_getElem hlt, hx, List.map_append]; simp [indsBits]
              have HWd := Lib.hid (ref_width08 (N : Int) wr (by omega))
              have HWi : Hid (widthI (N : Int) = ((widthD N : Nat) : Int)) := by show _ = _; rw [widthI, Int.toNat_natCast]
              have HWb : Hid (widthD N ≤ 7) := width_le H128.out
              have HCl : Hid (C.length ≤ bs.length + 7 + 64 * 128 + 7 * j) := by
                show _ ≤ _
                rw [HC.out, List.length_append, indsBits_len, List.length_map, List.length_take, HBl8.out]
                have h1 := Nat.mul_le_mul_right j HWb.out
                rw [Nat.min_eq_left hj]
                have := H128.out
                omega
              have hixb : ((d.idxOf x : Nat) : Int) < 128 := by have := HIx.out; have := H128.out; omega
              have hixw : IntKind.u64.wrap ((d.idxOf x : Nat) : Int) = ((d.idxOf x : Nat) : Int) := by rw [IntKind.wrap_u64]; omega
              have hwb : ((widthD N : Nat) : Int) ≤ 7 := by have := HWb.out; omega
              clear hcell hx hnc hncm
              generalize hix : d.idxOf x = ix at *
              generalize hWN : widthD N = W at *
              clear hix hWN
              go_wp2_with fail
              refine HF.out.mono ?_
              rintro e w8 ⟨rfl, h8⟩
              obtain rfl := h8.symm
              rw [HFi.out]
              go_wp2_with fail
              refine HWd.out.mono ?_
              rintro e w8 ⟨rfl, h8⟩
              obtain rfl := h8.symm
              rw [HWi.out]
              go_wp2_with fail
              refine (ref_write _ C ix W _ HW2.out.own (by omega) (by omega) (by have := HCl.out; have := HZ.out; omega)).mono ?_
              rintro en w9 ⟨v9, rfl, hR⟩
              have HR9 : Hid (RefWrote (.slice p0 bs.length c0) (C ++ fieldBits ix W) w1 v9 w9) := HW2.out.then hR
              have HC9 : Hid (C ++ fieldBits ix W = B ++ indsBits N ((l.take (j + 1)).map fun x => d.idxOf x)) := by show _ = _; rw [HTk.out, ← List.append_assoc, HC.out]
              clear hR HW2 HVr HLr hct HF HWd
              generalize C ++ fieldBits ix W = C2 at *
              obtain ⟨p9, c9, hv9⟩ := (Rd.of_owns HR9.out.own).shape
              subst hv9
              go_wp2_with fail
              go_round
              case rel => exact ⟨j + 1, C2, by omega, by go_num, HC9.out, HR9.out⟩
              case measure => simp [intOf]; omega
            · have hlt' : ¬ (j : Int) < (l.length : Int) := by omega
              have HCe : Hid (C = bs ++ putD l) := by
                show _ = _
                rw [HC.out, List.take_of_length_le (by omega), HB8.out, HPu.out, ← HBe.out]
                simp only [List.append_assoc]
              go_wp2_with fail
              go_ret2
              rw [HOk.out, ← HCe.out]
              exact ⟨_, rfl, HEnd.out HW2.out⟩
end Go.Proofs.YtgpmoimmpbkgfaaGreatDoor

end

section
/- Layer 1: when only padding remains, as a function on the bits that are left. No program in sight. -/
namespace Go.Proofs.YtgpmoimmpbkgfaaGreatDoor

def endR (bs : List Bool) : Int := if 8 ≤ bs.length then 4 else if bs.all (fun b => !b) then 0 else 4
theorem endR_zero {bs : List Bool} (h8 : ¬ 8 ≤ bs.length) (h : ∀ j (hj : j < bs.length), bs[j] = false) : endR bs = 0 := by
  rw [endR, if_neg h8, if_pos]
  rw [List.all_eq_true]
  intro b hb
  obtain ⟨j, hj, rfl⟩ := List.mem_iff_getElem.1 hb
  rw [h j hj]; rfl
theorem endR_four {bs : List Bool} (h8 : ¬ 8 ≤ bs.length) (j : Nat) (hj : j < bs.length) (h : bs[j] = true) : endR bs = 4 := by
  rw [endR, if_neg h8, if_neg]
  rw [List.all_eq_true]
  intro hall
  have := hall bs[j] (List.getElem_mem _)
  rw [h] at this
  cases this

end Go.Proofs.YtgpmoimmpbkgfaaGreatDoor

end

section
/- Layer 9: the choice of an encoding, chunks and their reading, as functions on lists. -/
set_option linter.unusedVariables false
set_option linter.unusedSimpArgs false
namespace Go.Proofs.YtgpmoimmpbkgfaaGreatDoor

def bitsC (tag : Nat) (l : List Nat) : List Bool := if tag = 1 then encV l else if tag = 2 then encR l else putD l
def okC (tag : Nat) (l : List Nat) : Bool := if tag = 1 then true else if tag = 2 then true else okD l
def sizeC (tag : Nat) (l : List Nat) : Int := if okC tag l = true then ((bitsC tag l).length : Int) else -1
def chooseC (l : List Nat) : Nat :=
  if sizeC 2 l < sizeC 1 l then (if 0 ≤ sizeC 3 l ∧ sizeC 3 l < sizeC 2 l then 3 else 2) else (if 0 ≤ sizeC 3 l ∧ sizeC 3 l < sizeC 1 l then 3 else 1)
def timesC (l : List (Int × Nat)) : List Int := l.map (·.1)
def valuesC (l : List (Int × Nat)) : List Nat := l.map (·.2)
def encC (l : List (Int × Nat)) : List Nat × Nat :=
  if l = [] then ([], 21) else if 120 < l.length then ([], 7) else
  (chooseC (valuesC l) :: (l.length - 1) :: pack (encT (timesC l) ++ bitsC (chooseC (valuesC l)) (valuesC l)), 0)
def valsC (tag n : Nat) (bits : List Bool) : Res (List Nat) := if tag = 1 then decV n bits else if tag = 2 then decR n bits else decD n bits
def decBody (t n : Nat) (bits : List Bool) : List (Int × Nat) × Nat :=
  if (decT n bits).e ≠ 0 then ([], (decT n bits).e) else
  if (valsC t n (decT n bits).r).e ≠ 0 then ([], (valsC t n (decT n bits).r).e) else
  if endR (valsC t n (decT n bits).r).r ≠ 0 then ([], 4) else
  if chooseC (valsC t n (decT n bits).r).x ≠ t then ([], 8) else ((decT n bits).x.zip (valsC t n (decT n bits).r).x, 0)
def decC : List Nat → List (Int × Nat) × Nat
  | [] => ([], 3)
  | [t] => if t < 1 ∨ 3 < t then ([], 9) else ([], 3)
  | t :: m :: rest => if t < 1 ∨ 3 < t then ([], 9) else if 120 < m + 1 then ([], 7) else decBody t (m + 1) (unpack rest)

theorem choose_ok (l : List Nat) : okC (chooseC l) l = true := by
  rw [chooseC]
  split
  · split
    · next h =>
      rw [sizeC] at h
      by_cases hk : okC 3 l = true
      · exact hk
      · rw [if_neg hk] at h; omega
    · rfl
  · split
    · next h =>
      rw [sizeC] at h
      by_cases hk : okC 3 l = true
      · exact hk
      · rw [if_neg hk] at h; omega
    · rfl
theorem choose_tag (l : List Nat) : chooseC l = 1 ∨ chooseC l = 2 ∨ chooseC l = 3 := by
  rw [chooseC]
  split
  · split
    · exact Or.inr (Or.inr rfl)
    · exact Or.inr (Or.inl rfl)
  · split
    · exact Or.inr (Or.inr rfl)
    · exact Or.inl rfl

theorem valsC_back {tag : Nat} {l : List Nat} (hk : okC tag l = true) (hl : ∀ x ∈ l, x < 18446744073709551616) (rest : List Bool) : valsC tag l.length (bitsC tag l ++ rest) = ⟨0, l, rest⟩ := by
  rw [okC] at hk
  rw [valsC, bitsC]
  split
  · exact decV_back l hl rest
  · next h1 =>
    rw [if_neg h1] at hk
    split
    · exact decR_back l hl rest
    · next h2 =>
      rw [if_neg h2] at hk
      rw [putD, if_pos hk]
      exact decD_back l rest hl (of_decide_eq_true hk)
theorem valsC_inv {tag n : Nat} {bs : List Bool} (h : (valsC tag n bs).e = 0) : bs = bitsC tag (valsC tag n bs).x ++ (valsC tag n bs).r ∧ (valsC tag n bs).x.length = n ∧ okC tag (valsC tag n bs).x = true ∧ ∀ x ∈ (valsC tag n bs).x, x < 18446744073709551616 := by
  rw [valsC] at h ⊢
  simp only [bitsC, okC]
  by_cases h1 : tag = 1
  · simp only [h1, if_true] at h ⊢
    obtain ⟨a, b, c⟩ := decV_inv n bs h
    exact ⟨a, b, trivial, c⟩
  · by_cases h2 : tag = 2
    · simp only [h1, h2, if_true, if_false, show ¬ (2 : Nat) = 1 by omega] at h ⊢
      obtain ⟨a, b, c⟩ := decR_inv n bs h
      exact ⟨a, b, trivial, c⟩
    · simp only [h1, h2, if_false] at h ⊢
      obtain ⟨a, b, c, d⟩ := decD_inv n bs h
      have hk : okD (decD n bs).x = true := decide_eq_true c
      refine ⟨?_, b, hk, d⟩
      rw [putD, if_pos hk]
      exact a

theorem numOf_byte {b : Nat} (h : b < 256) : numOf (fieldBits b 8) = b := by
  have h1 := field_back b 8 [] (by simpa using h)
  rw [List.append_nil, field, if_neg (by simp [fieldBits_length])] at h1
  have h2 := congrArg Res.x h1
  simp only at h2
  rwa [List.take_of_length_le (by simp [fieldBits_length])] at h2
theorem unpack_inj : ∀ {a b : List Nat}, (∀ x ∈ a, x < 256) → (∀ x ∈ b, x < 256) → unpack a = unpack b → a = b
  | [], [], _, _, _ => rfl
  | [], y :: b, _, _, h => by have := congrArg List.length h; rw [unpack_length, unpack_length] at this; simp at this
  | x :: a, [], _, _, h => by have := congrArg List.length h; rw [unpack_length, unpack_length] at this; simp at this
  | x :: a, y :: b, ha, hb, h => by
    rw [unpack_cons, unpack_cons] at h
    obtain ⟨h1, h2⟩ := List.append_inj h (by rw [fieldBits_length, fieldBits_length])
    have h3 := congrArg numOf h1
    rw [numOf_byte (ha x (List.mem_cons_self ..)), numOf_byte (hb y (List.mem_cons_self ..))] at h3
    rw [h3, unpack_inj (fun z hz => ha z (List.mem_cons_of_mem _ hz)) (fun z hz => hb z (List.mem_cons_of_mem _ hz)) h2]
theorem endR_pad {r : List Bool} (h : endR r = 0) : r.length < 8 ∧ r = List.replicate r.length false := by
  rw [endR] at h
  split at h
  · cases h
  · next h8 =>
    split at h
    · next hall =>
      refine ⟨by omega, List.eq_replicate_iff.2 ⟨rfl, fun b hb => ?_⟩⟩
      have := List.all_eq_true.1 hall b hb
      simpa using this
    · cases h
theorem endR_replicate (k : Nat) (h : k < 8) : endR (List.replicate k false) = 0 := endR_zero (by simp; omega) (fun j hj => by simp)
theorem pack_of_unpack {rest : List Nat} {bits r : List Bool} (h8 : ∀ x ∈ rest, x < 256) (h : unpack rest = bits ++ r) (he : endR r = 0) : rest = pack bits := by
  obtain ⟨h1, h2⟩ := endR_pad he
  have hl := congrArg List.length h
  rw [unpack_length, List.length_append] at hl
  refine unpack_inj h8 (pack_lt bits) ?_
  rw [unpack_pack, h]
  congr 1
  refine h2.trans ?_
  congr 1
  omega

theorem zip_times {a : List Int} {b : List Nat} (h : a.length = b.length) : timesC (a.zip b) = a := by
  rw [timesC, List.map_fst_zip (by omega)]
theorem zip_values {a : List Int} {b : List Nat} (h : a.length = b.length) : valuesC (a.zip b) = b := by
  rw [valuesC, List.map_snd_zip (by omega)]
theorem zip_back (l : List (Int × Nat)) : (timesC l).zip (valuesC l) = l := by
  induction l with
  | nil => rfl
  | cons x l ih => rw [timesC, valuesC, List.map_cons, List.map_cons, List.zip_cons_cons]; rw [timesC, valuesC] at ih; rw [ih]

def sampleOk (s : Int × Nat) : Prop := (-9223372036854775808 ≤ s.1 ∧ s.1 < 9223372036854775808) ∧ s.2 < 18446744073709551616
theorem decC_back (l : List (Int × Nat)) (hne : l ≠ []) (h120 : l.length ≤ 120) (ok : ∀ s ∈ l, sampleOk s) : decC (encC l).1 = (l, 0) := by
  have hlen : 0 < l.length := List.length_pos_iff.2 hne
  have ht : ∀ t ∈ timesC l, in64 t := fun t ht => by
    obtain ⟨s, hs, rfl⟩ := List.mem_map.1 ht
    exact (ok s hs).1
  have hv : ∀ x ∈ valuesC l, x < 18446744073709551616 := fun x hx => by
    obtain ⟨s, hs, rfl⟩ := List.mem_map.1 hx
    exact (ok s hs).2
  have hk := choose_ok (valuesC l)
  have htag := choose_tag (valuesC l)
  have e1 : (timesC l).length = l.length := by simp [timesC]
  have e2 : (valuesC l).length = l.length := by simp [valuesC]
  rw [encC, if_neg hne, if_neg (by omega)]
  simp only [decC]
  rw [if_neg (by omega), if_neg (by omega), show l.length - 1 + 1 = l.length by omega, unpack_pack, decBody]
  generalize hpad : List.replicate (8 * (((encT (timesC l) ++ bitsC (chooseC (valuesC l)) (valuesC l)).length + 7) / 8) - (encT (timesC l) ++ bitsC (chooseC (valuesC l)) (valuesC l)).length) false = pad
  have hend : endR pad = 0 := by rw [← hpad]; exact endR_replicate _ (by omega)
  rw [List.append_assoc]
  have hT := decT_back (timesC l) ht (bitsC (chooseC (valuesC l)) (valuesC l) ++ pad)
  rw [e1] at hT
  have hV := valsC_back hk hv pad
  rw [e2] at hV
  rw [hT]
  simp only [ne_eq, not_true_eq_false, if_false]
  rw [hV]
  simp only [ne_eq, not_true_eq_false, if_false, hend]
  rw [zip_back]
theorem decBody_inv {t n : Nat} {rest : List Nat} (hn : 0 < n) (h120 : n ≤ 120) (h8 : ∀ x ∈ rest, x < 256) (h : (decBody t n (unpack rest)).2 = 0) :
    encC (decBody t n (unpack rest)).1 = (t :: (n - 1) :: rest, 0) ∧ (decBody t n (unpack rest)).1.length = n ∧ ∀ s ∈ (decBody t n (unpack rest)).1, sampleOk s := by
  rw [decBody] at h ⊢
  by_cases h1 : (decT n (unpack rest)).e = 0
  · rw [if_neg (fun e => e h1)] at h ⊢
    obtain ⟨a1, a2, a3⟩ := decT_inv n (unpack rest) h1
    generalize (decT n (unpack rest)).x = x at *
    generalize (decT n (unpack rest)).r = r at *
    by_cases h2 : (valsC t n r).e = 0
    · rw [if_neg (fun e => e h2)] at h ⊢
      obtain ⟨b1, b2, b3, b4⟩ := valsC_inv h2
      by_cases h3 : endR (valsC t n r).r = 0
      · rw [if_neg (fun e => e h3)] at h ⊢
        by_cases h4 : chooseC (valsC t n r).x = t
        · rw [if_neg (fun e => e h4)] at h ⊢
          generalize (valsC t n r).x = y at *
          generalize (valsC t n r).r = z at *
          have hl : (x.zip y).length = n := by rw [List.length_zip, a2, b2, Nat.min_self]
          refine ⟨?_, hl, fun s hs => ?_⟩
          · show encC (x.zip y) = _
            rw [encC, if_neg (fun e => by rw [e] at hl; simp at hl; omega), hl, if_neg (by omega), zip_times (by omega), zip_values (by omega), h4]
            have hp := pack_of_unpack (bits := encT x ++ bitsC t y) (r := z) h8 (by rw [a1, b1, List.append_assoc]) h3
            rw [← hp]
          · obtain ⟨u, v⟩ := s
            obtain ⟨hu, hv⟩ := List.of_mem_zip hs
            exact ⟨a3 u hu, b4 v hv⟩
        · rw [if_pos h4] at h; cases h
      · rw [if_pos h3] at h; cases h
    · rw [if_pos h2] at h; exact absurd h h2
  · rw [if_pos h1] at h; exact absurd h h1
theorem decC_inv (b : List Nat) (h8 : ∀ x ∈ b, x < 256) (h : (decC b).2 = 0) : encC (decC b).1 = (b, 0) ∧ 0 < (decC b).1.length ∧ (decC b).1.length ≤ 120 ∧ ∀ s ∈ (decC b).1, sampleOk s := by
  match b with
  | [] => cases h
  | [t] =>
    simp only [decC] at h
    split at h <;> cases h
  | t :: m :: rest =>
    simp only [decC] at h ⊢
    split at h
    · cases h
    · next ht =>
      rw [if_neg ht]
      split at h
      · cases h
      · next hm =>
        rw [if_neg hm]
        obtain ⟨a, b, c⟩ := decBody_inv (t := t) (n := m + 1) (rest := rest) (by omega) (by omega) (fun x hx => h8 x (by simp [hx])) h
        exact ⟨a, by omega, by omega, c⟩
theorem decBody_nil (t n : Nat) (bits : List Bool) (h : (decBody t n bits).2 ≠ 0) : (decBody t n bits).1 = [] := by
  revert h
  rw [decBody]
  split
  · intro _; rfl
  · split
    · intro _; rfl
    · split
      · intro _; rfl
      · split
        · intro _; rfl
        · intro h; exact absurd rfl h
theorem decC_nil (b : List Nat) (h : (decC b).2 ≠ 0) : (decC b).1 = [] := by
  match b with
  | [] => rfl
  | [t] => simp only [decC]; split <;> rfl
  | t :: m :: rest =>
    simp only [decC] at h ⊢
    split
    · rfl
    · next ht =>
      rw [if_neg ht] at h
      split
      · rfl
      · next hm => rw [if_neg hm] at h; exact decBody_nil _ _ _ h
theorem bitsC_len (tag : Nat) (l : List Nat) : (bitsC tag l).length ≤ 8199 + 78 * l.length := by
  rw [bitsC]
  split
  · have := encV_len l; omega
  · split
    · have := encR_len l; omega
    · rw [putD]
      split
      · next h =>
        have hk : (dictD l).length ≤ 128 := of_decide_eq_true h
        rw [encD]
        split
        · simp
        · rw [List.length_append, List.length_append, fieldBits_length, wordsBits_len, indsBits_len, List.length_map]
          have := Nat.mul_le_mul_right l.length (width_le hk)
          omega
      · simp
end Go.Proofs.YtgpmoimmpbkgfaaGreatDoor

end

section
/- What a call makes; the tactics. -/
namespace Go.Proofs.YtgpmoimmpbkgfaaGreatDoor
open Go Go.RowKit

/-- A slice that the call has made. -/
def Made (w w' : World) (e : TypeId) (sz : Nat) (r : Value) (n : Nat) (vs : List Value) : Prop := w'.ownsRow w.heap.size e sz r n vs ∧ Below w.heap.size w w'
end Go.Proofs.YtgpmoimmpbkgfaaGreatDoor

end

section
/- Slices of bytes: what a call makes; bytes.Equal. -/
namespace Go.Proofs.YtgpmoimmpbkgfaaGreatDoor
open Go Go.RowKit

theorem Tryz.infoU8 : (Tryz.prog.info? 5).map (fun i => (i.zero, i.size, i.bytes)) = some (some (.int .u8 0), 1, 1) := by kernel_rfl

theorem Tryz.elemU8 : Elem Tryz.prog 34 5 1 1 := Elem.mk' Tryz.underlying34 Tryz.infoU8 rfl (by decide)

/-- A literal slice of bytes, built in a block of its own. -/
theorem lit_rd (w : World) (cs : Array Value) (l : List Nat) (h : cs.toList = u8s l) (hn : l.length ≤ maxLen) : Rd (w.alloc (.cells cs 5)) 1 (.slice (some ⟨w.heap.size, 0, none⟩) l.length l.length) l.length (u8s l) := by
  have hs : cs.size = l.length * 1 := by rw [← Array.length_toList, h, u8s_length, Nat.mul_one]
  have := Rd.of_owns (World.ownsRow_lit (base := 0) (e := 5) w cs l.length (Nat.zero_le _) (by simpa using hn) hs)
  rwa [h] at this

/-- '[]byte("..")' of a constant: its block bears a mark. -/
theorem lit_rd_mark (w : World) (cs : Array Value) (fr : Nat × Nat) (l : List Nat) (n : Nat) (h : cs.toList = u8s l) (hl : l.length = n) (hn : n ≤ maxLen) : Rd (w.alloc (.cells cs 5 fr)) 1 (.slice (some ⟨w.heap.size, 0, none⟩) n n) l.length (u8s l) := by
  subst hl
  refine ⟨_, _, rfl, by simp [u8s_length], Nat.le_refl _, hn, (fun e => by cases e), fun ad e j u hu => ?_⟩
  cases e
  have e1 : (⟨w.heap.size, 0, none⟩ : Addr).add j = ⟨w.heap.size, j, none⟩ := by unfold Addr.add; split <;> simp_all
  rw [e1, World.cell?_alloc_mark, ← Array.getElem?_toList, h]
  exact hu

/-- bytes.Equal of two slices of bytes. -/
theorem equal_any (a b : Value) (n m : Nat) (l k : List Nat) (w : World) (ha : Rd w 1 a n (u8s l)) (hb : Rd w 1 b m (u8s k)) (hl : ∀ x ∈ l, x < 256) (hk : ∀ x ∈ k, x < 256) :
    Calls Tryz.prog 17 #[a, b] w fun e w' => e = .returned (.bool (decide (l = k))) ∧ w = w' := by
  have e1 := ha.conv (P := Tryz.prog) 34 5 9 Tryz.underlying34 Tryz.underlying5 Tryz.underlying9
  have e2 := hb.conv (P := Tryz.prog) 34 5 9 Tryz.underlying34 Tryz.underlying5 Tryz.underlying9
  have e3 := strOf_inj hl hk
  have E3 := Lib.hid e3
  clear ha hb hl hk e3
  generalize strOf l = sl at *
  generalize strOf k = sk at *
  go_enter Tryz.func17, Tryz.ntmps17
  go_wp2
  go_ret
  exact ⟨congrArg (fun b => Ending.returned (.bool b)) E3.out, rfl⟩

theorem calls_flip {P : Program} {f : FuncId} {args : Array Value} {w : World} {r : Ending} (h : Calls P f args w fun e w' => e = r ∧ w = w') : Calls P f args w fun e w' => e = r ∧ w' = w := h.mono fun _ _ h => ⟨h.1, h.2.symm⟩
end Go.Proofs.YtgpmoimmpbkgfaaGreatDoor

end

section
/- Layer 9: rows of samples: their cells, slices.Equal of two rows of the same samples, slices.Clone. -/
set_option linter.unusedVariables false
namespace Go.Proofs.YtgpmoimmpbkgfaaGreatDoor
open Go Go.RowKit

def samCells (l : List (Int × Nat)) : List Value := l.flatMap fun r => [.int .i64 r.1, .int .u64 (r.2 : Int)]
theorem elemSam : Elem Tryz.prog 29 33 2 16 := Elem.mk' (z := .agg #[.int .i64 0, .int .u64 0]) Tryz.underlying29 (by kernel_rfl) rfl (by decide)
theorem samCells_one (l : List (Int × Nat)) : ∀ u ∈ samCells l, u.oneCell' = true := by
  intro u hu
  simp only [samCells, List.mem_flatMap] at hu
  obtain ⟨r, _, hu⟩ := hu
  simp only [List.mem_cons, List.not_mem_nil, or_false] at hu
  rcases hu with rfl | rfl <;> rfl
theorem samCells_length (rs : List (Int × Nat)) : (samCells rs).length = rs.length * 2 := by
  induction rs with
  | nil => rfl
  | cons r rs ih => rw [samCells, List.flatMap_cons, List.length_append, ← samCells, ih, List.length_cons]; simp; omega
theorem samCells_append (a b : List (Int × Nat)) : samCells (a ++ b) = samCells a ++ samCells b := by simp [samCells, List.flatMap_append]
theorem samCells_get (rs : List (Int × Nat)) (j : Nat) (x : Int) (c : Nat) (h : rs[j]? = some (x, c)) : (samCells rs)[j * 2]? = some (.int .i64 x) ∧ (samCells rs)[j * 2 + 1]? = some (.int .u64 (c : Int)) := by
  induction rs generalizing j with
  | nil => simp at h
  | cons r rs ih =>
    have e : samCells (r :: rs) = [.int .i64 r.1, .int .u64 (r.2 : Int)] ++ samCells rs := by simp [samCells]
    cases j with
    | zero =>
      simp at h
      subst h
      rw [e]
      exact ⟨rfl, rfl⟩
    | succ j =>
      obtain ⟨h1, h2⟩ := ih j (by simpa using h)
      rw [e, show (j + 1) * 2 = j * 2 + 2 by omega]
      exact ⟨by simpa using h1, by simpa using h2⟩

set_option maxHeartbeats 1000000 in
theorem equal_sam (a b : Value) (l : List (Int × Nat)) (w : World) (hn : l.length ≤ 1000000) (ha : Rd w 2 a l.length (samCells l)) (hb : Rd w 2 b l.length (samCells l)) :
    Calls Tryz.prog 18 #[a, b] w fun e w' => e = .returned (.bool true) ∧ Below w.heap.size w w' := by
  have HA := Lib.hid ha; have HB := Lib.hid hb
  obtain ⟨pa, ca, hv⟩ := ha.shape
  subst hv
  obtain ⟨pb, cb, hv⟩ := hb.shape
  subst hv
  have hmx : (l.length : Int) ≤ 1000000 := by omega
  clear ha hb hn
  go_enter Tryz.func18, Tryz.ntmps18
  go_wp2_with fail
  go_loopw [13] (fun i wr => ∃ j : Nat, j ≤ l.length ∧ i = .int .i64 (j : Int) ∧ Hid (Below w.heap.size w wr)) (fun i _ => l.length - (intOf i).toNat)
  case atStart => exact ⟨0, by omega, rfl, Below.refl _ _⟩
  case round =>
    obtain ⟨j, hj, rfl, HBw⟩ := hrel
    by_cases hlt : j < l.length
    · have hlt' : (j : Int) < (l.length : Int) := by omega
      have hji : (j : Int) ≤ 1000000 := by omega
      have hca := (HA.out.below HBw.out)
      have hcb := (HB.out.below HBw.out)
      have hne : samCells l ≠ [] := fun e => by have := congrArg List.length e; rw [samCells_length, List.length_nil] at this; omega
      obtain ⟨b1, o1, c1, e, m1, m2, hc1⟩ := hca.at hne
      simp only [Value.slice.injEq] at e
      obtain ⟨rfl, _, rfl⟩ := e
      obtain ⟨b2, o2, c2, e, m3, m4, hc2⟩ := hcb.at hne
      simp only [Value.slice.injEq] at e
      obtain ⟨rfl, _, rfl⟩ := e
      obtain ⟨x, c, hxc⟩ : ∃ x c, l[j] = (x, c) := ⟨_, _, rfl⟩
      obtain ⟨g1, g2⟩ := samCells_get l j x c (by rw [List.getElem?_eq_getElem hlt, hxc])
      have h1 := hc1 _ _ g1
      have h2 := hc1 _ _ g2
      have h3 := hc2 _ _ g1
      have h4 := hc2 _ _ g2
      clear hc1 hc2 hca hcb m1 m2 m3 m4 hxc g1 g2 hne
      rw [← Nat.add_assoc] at h2 h4
      go_wp2_with fail
      go_quiet (fail)
      have HB2 : Hid (Below w.heap.size w (wr.drewN nq)) := HBw.out.trans ⟨rfl, rfl, rfl, Nat.le_refl _, fun _ _ => rfl⟩
      clear h1 h2 h3 h4
      generalize wr.drewN nq = w2 at *
      go_wp2_with fail
      go_round
      case rel => exact ⟨j + 1, by omega, by go_num, HB2.out⟩
      case measure => simp [intOf]; omega
    · have hnl : ¬ (j : Int) < (l.length : Int) := by omega
      go_wp2_with fail
      go_ret
      exact ⟨rfl, HBw.out⟩
end Go.Proofs.YtgpmoimmpbkgfaaGreatDoor

end

section
/- Layer 9: what the walks ask of the program's chunks, whatever they look like inside. -/
set_option linter.unusedVariables false
namespace Go.Proofs.YtgpmoimmpbkgfaaGreatDoor
open Go Go.RowKit

/-- Slices that hold these lists of samples. -/
def PartsAt (w : World) (vs : List Value) (ps : List (List (Int × Nat))) : Prop := vs.length = ps.length ∧ ∀ (i : Nat) (v : Value) (p : List (Int × Nat)), vs[i]? = some v → ps[i]? = some p → Rd w 2 v p.length (samCells p)
/-- A list parted from its beginning, 120 at a time. -/
def PartsC (l : List (Int × Nat)) (ps : List (List (Int × Nat))) : Prop := ps.flatten = l ∧ (∀ p ∈ ps, 1 ≤ p.length ∧ p.length ≤ 120) ∧ ∀ (i : Nat) (p : List (Int × Nat)), i + 1 < ps.length → ps[i]? = some p → p.length = 120
theorem PartsC.count {l : List (Int × Nat)} {ps : List (List (Int × Nat))} (h : PartsC l ps) : ps.length = (l.length + 119) / 120 := by
  induction ps generalizing l with
  | nil =>
    have := h.1
    subst this
    rfl
  | cons p ps ih =>
    obtain ⟨h1, h2, h3⟩ := h
    subst h1
    have hp := h2 p (List.mem_cons_self ..)
    have hr : PartsC ps.flatten ps := ⟨rfl, fun q hq => h2 q (List.mem_cons_of_mem _ hq), fun i q hi hq => h3 (i + 1) q (by simp; omega) (by simpa using hq)⟩
    have hi := ih hr
    rw [List.flatten_cons, List.length_append, List.length_cons]
    cases ps with
    | nil => simp; omega
    | cons q qs =>
      have := h3 0 p (by simp) rfl
      omega

/-- T w: what the program's own memory, in the blocks below G, must hold. -/
structure CIf (G : Nat) (T : World → Prop) : Prop where
  keeps : ∀ {S : Nat → Prop} {w w' : World}, T w → Mods S w w' → (∀ k, k < G → ¬ S k) → T w'
  low : ∀ {w : World}, T w → G ≤ w.heap.size
  sizes : ∀ (lv : Value) (l : List Nat) (w : World), T w → Rd w 1 lv l.length (u64s l) → (∀ t ∈ l, in64u t) → l.length ≤ 1000000 →
    Calls Tryz.prog 11 #[lv] w fun e w' => e = .returned (.agg #[.int .i64 (sizeC 1 l), .int .i64 (sizeC 2 l), .int .i64 (sizeC 3 l)]) ∧ Below w.heap.size w w'
  choose : ∀ (lv : Value) (l : List Nat) (w : World), T w → Rd w 1 lv l.length (u64s l) → (∀ t ∈ l, in64u t) → l.length ≤ 1000000 →
    Calls Tryz.prog 12 #[lv] w fun e w' => e = .returned (.int .i64 (chooseC l : Int)) ∧ Below w.heap.size w w'
  encode : ∀ (lv : Value) (l : List (Int × Nat)) (w : World), T w → Rd w 2 lv l.length (samCells l) → (∀ s ∈ l, sampleOk s) → l.length ≤ 1000000 →
    Calls Tryz.prog 15 #[lv] w fun e w' => ∃ r, e = .returned (.tuple #[r, .int .i64 ((encC l).2 : Int)]) ∧ Rd w' 1 r (encC l).1.length (u8s (encC l).1) ∧ Below w.heap.size w w'
  decode : ∀ (bv : Value) (b : List Nat) (w : World), T w → Rd w 1 bv b.length (u8s b) → (∀ x ∈ b, x < 256) → b.length ≤ 1000000 →
    Calls Tryz.prog 19 #[bv] w fun e w' => ∃ r, e = .returned (.tuple #[r, .int .i64 ((decC b).2 : Int)]) ∧ Rd w' 2 r (decC b).1.length (samCells (decC b).1) ∧ Below w.heap.size w w'
  split : ∀ (lv : Value) (l : List (Int × Nat)) (w : World), T w → Rd w 2 lv l.length (samCells l) → l.length ≤ 1000000 →
    Calls Tryz.prog 21 #[lv] w fun e w' => ∃ r vs ps, e = .returned r ∧ PartsC l ps ∧ Rd w' 1 r vs.length vs ∧ PartsAt w' vs ps ∧ Below w.heap.size w w'

theorem CIf.below {G : Nat} {T : World → Prop} (I : CIf G T) {w w' : World} (h : T w) (hb : Below w.heap.size w w') : T w' := I.keeps h (Mods.of_below hb (fun _ => False)) (fun _ _ h => h)
end Go.Proofs.YtgpmoimmpbkgfaaGreatDoor

end

section
/- 's[i:]' of a slice that is read. No program in sight. -/
namespace Go.Proofs.YtgpmoimmpbkgfaaGreatDoor
open Go Go.RowKit

theorem Addr.add_add (ad : Addr) (i j : Nat) : (ad.add i).add j = ad.add (i + j) := by
  unfold Addr.add
  by_cases hi : i = 0
  · simp [hi]
  · by_cases hj : j = 0
    · simp [hi, hj]
    · simp [hi, hj, Nat.add_assoc]

theorem Rd.from {w : World} {sz : Nat} {p : Option Addr} {n c : Nat} {vs : List Value} (h : Rd w sz (.slice p n c) n vs) (i : Nat) (hi : i ≤ n) :
    Rd w sz (sliced p i n c sz) (n - i) (vs.drop (i * sz)) := by
  obtain ⟨p', c', e, h1, h2, h3, h4, h5⟩ := h
  cases e
  refine ⟨_, _, rfl, by rw [List.length_drop, h1, Nat.sub_mul], by omega, by omega, ?_, ?_⟩
  · intro hp
    split at hp
    · obtain ⟨rfl, rfl⟩ := h4 hp; simp
    · cases p with
      | none => obtain ⟨rfl, rfl⟩ := h4 rfl; simp
      | some a => simp at hp
  · intro ad had j u hu
    rw [List.getElem?_drop] at hu
    split at had
    · next hc =>
      have hlt := (List.getElem?_eq_some_iff.1 hu).1
      rw [h1] at hlt
      have : n = i := by omega
      subst this
      omega
    · cases p with
      | none => simp at had
      | some a =>
        simp only [Option.map_some, Option.some.injEq] at had
        subst had
        rw [Addr.add_add]
        exact h5 a rfl _ u hu

theorem Rd.upto {w : World} {sz : Nat} {p : Option Addr} {n c : Nat} {vs : List Value} (h : Rd w sz (.slice p n c) n vs) (i : Nat) (hi : i ≤ n) :
    Rd w sz (.slice p i c) i (vs.take (i * sz)) := by
  obtain ⟨p', c', e, h1, h2, h3, h4, h5⟩ := h
  cases e
  refine ⟨_, _, rfl, ?_, by omega, by omega, fun e => ?_, ?_⟩
  · rw [List.length_take, h1]
    exact Nat.min_eq_left (Nat.mul_le_mul_right _ hi)
  · obtain ⟨rfl, rfl⟩ := h4 e; exact ⟨by omega, rfl⟩
  · intro ad had j u hu
    refine h5 ad had j u ?_
    rw [List.getElem?_take] at hu
    split at hu
    · exact hu
    · cases hu
theorem Rd.fromTo {w : World} {sz : Nat} {p : Option Addr} {n c : Nat} {vs : List Value} (h : Rd w sz (.slice p n c) n vs) (i k : Nat) (hi : i ≤ k) (hk : k ≤ n) :
    Rd w sz (sliced p i k c sz) (k - i) ((vs.take (k * sz)).drop (i * sz)) := (h.upto k hk).from i hi
theorem sliced_zero (p : Option Addr) (n c sz : Nat) : sliced p 0 n c sz = .slice p n c := by
  unfold sliced
  split
  · simp
  · cases p with
    | none => simp
    | some a => simp [Addr.add]

section
variable {P : Program}
theorem wpList_upto {t e : TypeId} {sz bytes : Nat} (hE : Elem P t e sz bytes) (w : World) (p : Option Addr) (n c i : Nat) (hi : i ≤ n) (hnc : n ≤ c)
    {ops : Array Oper} {rest : List Oper} {o : Oper} {a : Act} {Q : Exit → Act → World → Prop} (hgd : Region.wanted o (yielded ops a.tmps) = true) (s x : Operand) (ho : o.op = .slice t s none (some x) none)
    (hs : a.eval s = .slice p n c) (hx : a.eval x = .int .i64 (i : Int))
    (h : wpList P ops Q rest (a.put o.dst (.slice p i c)) w) : wpList P ops Q (o :: rest) a w := by
  obtain ⟨inf, z, hinf, hz, hsize, hby, hzs⟩ := hE.hi
  refine BigFrame.wpList_want hgd fun K hK => ?_
  have helem : P.elem t = e := by simp [Program.elem, hE.ht]
  have hu : P.underlying t = some (.slice (P.elem t)) := by rw [helem]; exact hE.ht
  have hcell : P.cellsOf (P.elem t) = sz := by rw [helem]; simp [Program.cellsOf, hinf, hsize]
  have hr : (Instr.sliceAt t (.slice p n c) none (some (.int .i64 (i : Int))) none).run P w = .ok (.slice p i c) w := by
    have hsz := run_sizeOf (w := w) (show P.info? (P.elem t) = some inf by rw [helem]; exact hinf)
    rw [run_sliceAt_slice (h := hu), run_slice_h (ht := hu) (h0 := by omega) (h2 := by omega), hsz, hcell]
    simp only [Result.andThen, Int.toNat_natCast, sliced_zero]
  unfold Oper.wp execOp
  simp only [ho, Sem.run_bind, Sem.run_pure, Result.andThen_ok, hs, hx, hr, Option.map_some, Option.map_none]
  exact hK _ _ h
theorem wpList_from {t e : TypeId} {sz bytes : Nat} (hE : Elem P t e sz bytes) (w : World) (v : Value) (n i : Nat) (vs : List Value) (h0 : Rd w sz v n vs) (hi : i ≤ n)
    {ops : Array Oper} {rest : List Oper} {o : Oper} {a : Act} {Q : Exit → Act → World → Prop} (hgd : Region.wanted o (yielded ops a.tmps) = true) (s x : Operand) (ho : o.op = .slice t s (some x) none none)
    (hs : a.eval s = v) (hx : a.eval x = .int .i64 (i : Int))
    (h : ∀ p c, Rd w sz (.slice p (n - i) c) (n - i) (vs.drop (i * sz)) → wpList P ops Q rest (a.put o.dst (.slice p (n - i) c)) w) : wpList P ops Q (o :: rest) a w := by
  obtain ⟨inf, z, hinf, hz, hsize, hby, hzs⟩ := hE.hi
  obtain ⟨p, c, hv⟩ := h0.shape
  subst hv
  refine BigFrame.wpList_want hgd fun K hK => ?_
  have helem : P.elem t = e := by simp [Program.elem, hE.ht]
  have hu : P.underlying t = some (.slice (P.elem t)) := by rw [helem]; exact hE.ht
  have hcell : P.cellsOf (P.elem t) = sz := by rw [helem]; simp [Program.cellsOf, hinf, hsize]
  have hr : (Instr.sliceAt t (.slice p n c) (some (.int .i64 (i : Int))) none none).run P w = .ok (sliced p i n c sz) w := by
    have hsz := run_sizeOf (w := w) (show P.info? (P.elem t) = some inf by rw [helem]; exact hinf)
    rw [run_sliceAt_slice (h := hu), run_slice_l (ht := hu) (h0 := by omega) (h1 := by omega), hsz, hcell]
    simp [Result.andThen]
  unfold Oper.wp execOp
  simp only [ho, Sem.run_bind, Sem.run_pure, Result.andThen_ok, hs, hx, hr, Option.map_some, Option.map_none]
  exact hK _ _ (h _ _ (h0.from i hi))
end
end Go.Proofs.YtgpmoimmpbkgfaaGreatDoor

end
