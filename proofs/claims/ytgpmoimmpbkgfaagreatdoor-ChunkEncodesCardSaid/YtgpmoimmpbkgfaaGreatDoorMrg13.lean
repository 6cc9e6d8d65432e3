/- DvA, DvB, DvC, UsedV, DvD, DvE, DvF, in one text. -/
import Derived.Test.YtgpmoimmpbkgfaaGreatDoorMrg10
import Derived.Test.YtgpmoimmpbkgfaaGreatDoorMrg12
import Derived.Test.YtgpmoimmpbkgfaaGreatDoorMrg3
import Derived.Test.YtgpmoimmpbkgfaaGreatDoorMrg2
import Derived.Test.YtgpmoimmpbkgfaaGreatDoorMrg11
import Derived.Test.YtgpmoimmpbkgfaaGreatDoorMrg9
import Derived.Test.YtgpmoimmpbkgfaaGreatDoorMrg7
import Derived.Test.YtgpmoimmpbkgfaaGreatDoorMrg4
import Derived.Maps.RangeWalk

section
/- Layer 8: the program's Dictionary: a set in a map, its keys collected and sorted. -/
set_option linter.unusedVariables false
set_option maxRecDepth 20000
namespace Go.Proofs.YtgpmoimmpbkgfaaGreatDoor
open Go Go.RowKit Go.Maps

set_option maxHeartbeats 8000000 in
theorem dictionary_any (lv : Value) (l : List Nat) (w : World) (hl : Rd w 1 lv l.length (u64s l)) (ok : ∀ t ∈ l, in64u t) (hn : l.length ≤ 1000000000) :
    Calls Tryz.prog 88 #[lv] w fun e w' => ∃ r, e = .returned r ∧ Made w w' 31 1 r (dictD l).length (u64s (dictD l)) := by
  have HL := Lib.hid hl; have HOk := Lib.hid ok; have HNn := Lib.hid hn
  obtain ⟨pl, cl, hv⟩ := hl.shape
  subst hv
  have hni : (l.length : Int) ≤ 1000000000 := by omega
  clear hl ok hn
  have hmm := @run_makeMap Tryz.prog
  have HB0 : Hid (Below w.heap.size w (w.alloc (.map #[] 0))) := (Below.refl _ _).alloc (Nat.le_refl _) _
  have HM0 : Hid ((w.alloc (.map #[] 0)).ownsMap Tryz.prog 31 (plainElem (H := Unit) Tryz.prog 4) w.heap.size 0 (.map [])) := World.ownsMap_made _ _ _ _
  go_enter Tryz.func88, Tryz.ntmps88
  go_wp2_with fail
  clear hmm
  go_loopw [11] (fun iv wr => ∃ (i : Nat) (D : DataW Unit), i ≤ l.length ∧ iv = .int .i64 (i : Int) ∧ Hid (wr.ownsMap Tryz.prog 31 (plainElem (H := Unit) Tryz.prog 4) w.heap.size i D) ∧ Hid (KeysU D (l.take i)) ∧ Hid (Below w.heap.size w wr)) (fun iv _ => l.length - (intOf iv).toNat)
  case atStart => exact ⟨0, _, Nat.zero_le _, rfl, HM0.out, by show KeysU _ _; rw [List.take_zero]; exact KeysU.empty, HB0.out⟩
  case round =>
    obtain ⟨i, D, hi, rfl, HM, HK, HB⟩ := hrel
    clear HM0 HB0
    by_cases hlt : i < l.length
    · have hlti : (i : Int) < (l.length : Int) := by omega
      obtain ⟨b, off, c', e, hnc, hncm, hcell⟩ := (HL.out.below HB.out).at (fun e => by have := congrArg List.length e; rw [u64s_length] at this; simp at this; subst this; simp at hlt)
      simp only [Value.slice.injEq] at e
      obtain ⟨rfl, _, rfl⟩ := e
      obtain ⟨y, hy⟩ : ∃ y, l[i] = y := ⟨_, rfl⟩
      have hct : wr.cell? ⟨b, off + i, none⟩ = some (.int .u64 (y : Int)) := by rw [← hy]; exact hcell i _ (u64s_get l i hlt)
      have HY : Hid (in64u y) := by rw [← hy]; exact HOk.out _ (List.getElem_mem hlt)
      have HT : Hid (l.take (i + 1) = l.take i ++ [y]) := by show _ = _; rw [List.take_add_one, List.getElem?_eq_getElem hlt, hy]; rfl
      have HMx : Hid (i < maxLen) := by show _ < _; have := HNn.out; unfold maxLen; omega
      clear hcell hnc hncm hy
      go_wp2_with (first
        | (at_mapUpdate; refine wpList_mapUpdate_own _ rfl _ _ _ 178 rfl 31 4 law_u64 Tryz.underlying178 _ w.heap.size i _ rfl HM.out HMx.out _ _ _ rfl rfl (keyU_mk HY.out) _ [] (plainElem_bool Tryz.underlying4 true) ?_; intro w1 hown1 hgrow1)
        | go_in)
      have HM1 := Lib.hid hown1
      have HK1 : Hid (KeysU (D.put (.int .u64 (y : Int)) (.lit (.bool true))) (l.take (i + 1))) := by
        show KeysU _ _
        rw [HT.out]
        exact HK.out.put HM.out.isMap y _
      have HB1 := Lib.hid (HB.out.grown hgrow1 HB.out.size (fun j hj => by cases hj; exact Nat.le_refl _))
      clear hown1 hgrow1
      go_round
      case rel => exact ⟨i + 1, _, by omega, by go_num, HM1.out, HK1.out, HB1.out⟩
      case measure => simp [intOf] <;> omega
    · have hlti : ¬ (i : Int) < (l.length : Int) := by omega
      have HK1 : Hid (KeysU D l) := by
        have h := HK.out
        rw [List.take_of_length_le (by omega)] at h
        exact h
      have HSz : Hid (Maps.size D ≤ l.length) := Nat.le_trans HM.out.size_le hi
      clear HK
      go_wp2_with (first
        | (at_range; refine wpList_range_own _ rfl _ 178 rfl 31 4 law_u64 Tryz.underlying178 _ w.heap.size i D rfl HM.out ?_; intro w0 hrg0 hg0 hs0)
        | go_in)
      try go_frame
      have HR0 := Lib.hid hrg0
      have HB2 := Lib.hid (HB.out.grown hg0 HB.out.size (fun j hj => by cases hj))
      have HIt : Hid (w.heap.size ≤ wr.heap.size) := HB.out.size
      clear hrg0 hg0 hs0 HM HB
      generalize wr.heap.size = rb at *
      go_loopw [6] (fun v wr => ∃ (left : Lit → Bool) (cnt : Nat) (ss : List Nat), Hid (wr.ranges Tryz.prog 31 (plainElem (H := Unit) Tryz.prog 4) w.heap.size rb i D left cnt) ∧ Hid (ss.length + cnt ≤ l.length) ∧ Hid (wr.ownsRow 0 31 1 v ss.length (u64s ss)) ∧ Hid (∀ k, v.ownBlock = some k → w.heap.size < k ∧ k ≠ rb) ∧ Hid (ColU D left ss) ∧ Hid (Below w.heap.size w wr)) (fun _ wr => wr.rangeLeft w.heap.size rb)
      case atStart => exact ⟨_, _, [], HR0.out, by show _ ≤ _; simpa using HSz.out, World.ownsRow_nil _ _ _ _, (by show ∀ k, _; intro k e; cases e), ColU.start D, HB2.out⟩
      case round =>
        obtain ⟨left, cnt, ss, HR, HC, HO, HF, HL2, HB⟩ := hrel
        clear HR0 HB2
        go_wp2_with (first
          | (at_next; refine wpList_next_ranges _ rfl _ rfl 31 law_u64 (plainElem (H := Unit) Tryz.prog 4) (fun x : Nat => Value.int .u64 (x : Int)) (fun c : Nat => Value.bool (decide (c = 1))) keyU_shape boolR_nat w.heap.size rb i _ _ _ rfl HR.out ?_ ?_)
          | go_in)
        · intro hc0 hl0
          have HMem := Lib.hid (HL2.out.mem HK1.out hl0)
          clear hc0 hl0
          rcases HO.out.2 with ⟨hnil, hz⟩ | ⟨g, cap, cur, hv, hbase, hb, h1, h2, h3, h4⟩
          · subst hnil
            have HE : Hid (dictD l = []) := by
              have : ss = [] := List.eq_nil_of_length_eq_zero hz
              subst this
              exact dictD_unique l [] List.Pairwise.nil HMem.out
            clear hz
            go_wp2_with fail
            refine (sort_nil wr).mono ?_
            rintro e w5 ⟨rfl, rfl⟩
            go_wp2_with fail
            go_ret
            refine ⟨_, rfl, ?_, HB.out⟩
            rw [HE.out]
            exact World.ownsRow_nil _ _ _ _
          · subst hv
            have hg : g < wr.heap.size := (Array.getElem?_eq_some_iff.1 hb).1
            have hlen : ss.length < 4611686018427387904 := by have := HC.out; omega
            have HSU : Hid (SU wr wr g ss.length cap ss.toArray) := ⟨by simp, by simpa using HO.out, Mods.refl _ _⟩
            have HS := Lib.hid (sort_u64 g ss.length cap ss.toArray wr HSU.out hlen hg)
            clear hbase hb h1 h2 h3 h4 hg HSU
            go_wp2_with fail
            refine HS.out.mono ?_
            rintro e w5 ⟨rfl, z, hz1, hz2, hz3⟩
            have HE := Lib.hid (sorted_dict HL2.out.1 HMem.out hz2 hz3)
            have HZ := Lib.hid hz1
            have HZs : Hid ((dictD l).length = ss.length) := by show _ = _; rw [← HE.out, Array.length_toList]; exact HZ.out.sz
            clear hz1 hz2 hz3 HS
            go_wp2_with fail
            go_ret
            refine ⟨_, rfl, ?_, ?_⟩
            · rw [HZs.out, ← HE.out]
              exact owns_rebase HZ.out.row (fun k hk => by have := (HF.out k hk).1; omega)
            · exact HB.out.trans (HZ.out.mods.below HB.out.size (fun k hk e => by have := (HF.out g rfl).1; omega))
        · intro x c kl yd yp w2 cnt2 hkey hlk hv hat hrg2 hlt hg2 hs2 hen
          obtain ⟨x', ex, rfl, hx64⟩ := keyU_inv _ _ hkey
          have e2 : (x : Int) = (x' : Int) := by simpa using ex
          obtain rfl : x = x' := by omega
          have HR2 := Lib.hid hrg2
          have HG2 := Lib.hid hg2
          have HL3 := Lib.hid (HL2.out.step hlk hat)
          have HLt := Lib.hid hlt
          have HO2 : Hid (w2.ownsRow 0 31 1 u6 ss.length (u64s ss)) := (grown_mods (S := fun k => k = rb) hg2 (fun k e => by cases e; rfl)).owns HO.out (fun k hk e => (HF.out k hk).2 e)
          have HBd : Hid ((ss.length + 1) * 8 ≤ 140737488355328 ∧ ss.length + 1 ≤ maxLen) := by show _ ∧ _; have := HC.out; unfold maxLen; omega
          clear hkey hlk hv hat hrg2 hg2 hs2 hlt ex e2 hx64
          go_wp2_with (first
            | (at_builtin; refine wpList_push Tryz.elemU64 w2 #[.int .u64 (x : Int)] _ _ _ HO2.out rfl (by simp [Value.oneCell']) HBd.out rfl _ _ rfl rfl rfl ?_; intro v5 w5 k1 k2 k3)
            | go_in)
          have HR3 := Lib.hid (HR2.out.kept (mods_grown k2) (fun e => by have := (HF.out _ e.symm).1; omega) (fun e => (HF.out _ e.symm).2 rfl))
          have HO3 : Hid (w5.ownsRow 0 31 1 v5 (ss ++ [x]).length (u64s (ss ++ [x]))) := by
            have h := k1
            rw [show u64s (ss ++ [x]) = u64s ss ++ [.int .u64 (x : Int)] by simp [u64s], List.length_append]
            exact h
          have HF3 : Hid (∀ k, v5.ownBlock = some k → w.heap.size < k ∧ k ≠ rb) := fun k hk => by
            rcases k3 k hk with e | e
            · exact HF.out k e
            · have h1 := HR2.out.lt
              have h2 := HIt.out
              omega
          have HB3 : Hid (Below w.heap.size w w5) := (HB.out.grown HG2.out HB.out.size (fun j hj => by cases hj; exact HIt.out)).grown (mods_grown k2) (Nat.le_trans HB.out.size HG2.out.size) (fun j hj => Nat.le_of_lt (HF.out j hj).1)
          have HC3 : Hid ((ss ++ [x]).length + cnt2 ≤ l.length) := by show _ ≤ _; have := HC.out; have := HLt.out; rw [List.length_append, List.length_singleton]; omega
          clear k1 k2 k3
          go_round
          case rel => exact ⟨_, cnt2, ss ++ [x], HR3.out, HC3.out, HO3.out, HF3.out, HL3.out, HB3.out⟩
          case measure => rw [HR3.out.left_eq, HR.out.left_eq]; exact HLt.out
end Go.Proofs.YtgpmoimmpbkgfaaGreatDoor

end

section
/- Layer 8: the program's Width; the library's search in an ascending list of words. -/
set_option linter.unusedVariables false
set_option maxRecDepth 20000
namespace Go.Proofs.YtgpmoimmpbkgfaaGreatDoor
open Go Go.RowKit

theorem bitLen_width {c : Nat} (h1 : 1 ≤ c) (h : c < 4611686018427387904) : Lib.bitLen (c - 1) = widthD c := by
  by_cases h2 : c ≤ 1
  · obtain rfl : c = 1 := by omega
    rw [widthD, if_pos h2]; rfl
  · have e1 := bitLen_pow (c - 1) (by omega) (by omega)
    rw [widthD, if_neg h2]
    have e2 : 2 ^ (c - 1).log2 ≤ c - 1 := Nat.log2_self_le (by omega)
    have e3 : c - 1 < 2 ^ ((c - 1).log2 + 1) := Nat.lt_log2_self
    obtain ⟨L, hL⟩ : ∃ L, Lib.bitLen (c - 1) = L := ⟨_, rfl⟩
    obtain ⟨k, hk⟩ : ∃ k, (c - 1).log2 = k := ⟨_, rfl⟩
    rw [hL] at e1 ⊢
    rw [hk] at e2 e3 ⊢
    have a1 : 2 ^ k < 2 ^ L := by omega
    have a2 : k < L := (Nat.pow_lt_pow_iff_right (by decide)).1 a1
    have a3 : 2 ^ L < 2 ^ (k + 2) := by
      have : 2 ^ (k + 2) = 2 * 2 ^ (k + 1) := by rw [Nat.pow_succ 2 (k + 1)]; omega
      omega
    have a4 : L < k + 2 := (Nat.pow_lt_pow_iff_right (by decide)).1 a3
    omega

theorem width_any (c : Int) (w : World) (hl : -9223372036854775808 ≤ c) (hc : c ≤ 1152921504606846976) :
    Calls Tryz.prog 89 #[.int .i64 c] w fun e w' => e = .returned (.int .i64 (widthI c)) ∧ w' = w := by
  by_cases h : c < 1
  · have HW : Hid (widthI c = 0) := by
      show _ = _
      rw [widthI, widthD, if_pos (by omega)]; rfl
    go_enter Tryz.func89, Tryz.ntmps89
    go_wp2_with fail
    go_ret
    rw [HW.out]
    exact ⟨rfl, rfl⟩
  · obtain ⟨n, rfl⟩ : ∃ n : Nat, c = (n : Int) + 1 := ⟨(c - 1).toNat, by omega⟩
    have HW : Hid ((Lib.bitLen n : Int) = widthI ((n : Int) + 1)) := by
      show _ = _
      rw [widthI, show ((n : Int) + 1).toNat = n + 1 by omega, ← bitLen_width (by omega) (by omega)]; rfl
    have hc1 : ¬ (n : Int) + 1 < 1 := h
    have hs : (n : Int) + 1 - 1 = (n : Int) := by omega
    have hB := Lib.hid (bits_len n (by omega) w)
    clear hl
    go_enter Tryz.func89, Tryz.ntmps89
    go_wp2_with fail
    refine hB.out.mono ?_
    rintro e w2 ⟨rfl, rfl⟩
    go_wp2_with fail
    go_ret
    rw [HW.out]
    exact ⟨rfl, rfl⟩

/-- Between i and j the value must stand. -/
def BIn (d : List Nat) (x i j : Nat) : Prop := i ≤ j ∧ j ≤ d.length ∧ (∀ k, k < i → d.getD k 0 < x) ∧ (∀ k, j ≤ k → k < d.length → x ≤ d.getD k 0)
theorem BIn.done {d : List Nat} {x i : Nat} (ha : Asc d) (hx : x ∈ d) (h : BIn d x i i) : i < d.length ∧ d.getD i 0 = x ∧ d.idxOf x = i := by
  have hm := List.idxOf_lt_length_of_mem hx
  have he := getD_idxOf hx
  obtain ⟨h1, h2, h3, h4⟩ := h
  have hge : i ≤ d.idxOf x := Nat.le_of_not_lt (fun hlt => by have := h3 _ hlt; omega)
  have heq : d.idxOf x = i := by
    by_cases e : d.idxOf x = i
    · exact e
    · exfalso
      have h5 := h4 i (Nat.le_refl _) (by omega)
      have h6 : d.getD i 0 < d.getD (d.idxOf x) 0 := by
        rw [List.getD_eq_getElem?_getD, List.getD_eq_getElem?_getD, List.getElem?_eq_getElem hm, List.getElem?_eq_getElem (show i < d.length by omega)]
        exact List.pairwise_iff_getElem.1 ha i _ (by omega) hm (by omega)
      omega
  exact ⟨by omega, by rw [← heq]; exact he, heq⟩
theorem asc_getD {d : List Nat} (ha : Asc d) {i j : Nat} (hij : i ≤ j) (hj : j < d.length) : d.getD i 0 ≤ d.getD j 0 := by
  by_cases e : i = j
  · subst e; exact Nat.le_refl _
  · rw [List.getD_eq_getElem?_getD, List.getD_eq_getElem?_getD, List.getElem?_eq_getElem hj, List.getElem?_eq_getElem (show i < d.length by omega)]
    exact Nat.le_of_lt (List.pairwise_iff_getElem.1 ha i j (by omega) hj (by omega))
theorem BIn.up {d : List Nat} {x i j h : Nat} (ha : Asc d) (b : BIn d x i j) (h2 : h < j) (hl : d.getD h 0 < x) : BIn d x (h + 1) j :=
  ⟨h2, b.2.1, fun k hk => Nat.lt_of_le_of_lt (asc_getD ha (by omega) (by have := b.2.1; omega)) hl, b.2.2.2⟩
theorem BIn.down {d : List Nat} {x i j h : Nat} (ha : Asc d) (b : BIn d x i j) (h1 : i ≤ h) (h2 : h < j) (hl : x ≤ d.getD h 0) : BIn d x i h :=
  ⟨h1, by have := b.2.1; omega, b.2.2.1, fun k hk hk2 => Nat.le_trans hl (asc_getD ha hk hk2)⟩

theorem isnan_sl (x : Nat) (w : World) : Calls Tryz.prog 121 #[.int .u64 (x : Int)] w fun e w' => e = .returned (.bool false) ∧ w' = w := by
  go_enter Tryz.func121, Tryz.ntmps121
  go_wp2_with fail
  go_ret
  exact ⟨by simp, rfl⟩

set_option maxHeartbeats 8000000 in
theorem binary_u64 (dv : Value) (d : List Nat) (x : Nat) (w : World) (hd : Rd w 1 dv d.length (u64s d)) (ha : Asc d) (hx : x ∈ d) (hn : d.length ≤ 1000000000) :
    Calls Tryz.prog 112 #[dv, .int .u64 (x : Int)] w fun e w' => e = .returned (.tuple #[.int .i64 (d.idxOf x : Int), .bool true]) ∧ Below w.heap.size w w' := by
  have HD := Lib.hid hd; have HA := Lib.hid ha; have HX := Lib.hid hx; have HNn := Lib.hid hn
  obtain ⟨b, off, c, e, _, _, hcell⟩ := hd.at (fun e => by have := congrArg List.length e; rw [u64s_length] at this; simp at this; subst this; cases hx)
  subst e
  have HCl : Hid (∀ (i : Nat), i < d.length → w.cell? ⟨b, off + i, none⟩ = some (.int .u64 ((d.getD i 0 : Nat) : Int))) := fun i hi => hcell i _ (by rw [u64s_get d i hi, List.getD_eq_getElem?_getD, List.getElem?_eq_getElem hi]; rfl)
  have hni : (d.length : Int) ≤ 1000000000 := by omega
  clear hd ha hx hcell hn
  go_enter Tryz.func112, Tryz.ntmps112
  go_wp2_with fail
  go_loopw [7, 8] (fun iv jv wr => ∃ (i j : Nat), iv = .int .i64 (i : Int) ∧ jv = .int .i64 (j : Int) ∧ Hid (BIn d x i j) ∧ Hid (Below w.heap.size w wr)) (fun iv jv _ => (intOf jv - intOf iv).toNat)
  case atStart => exact ⟨0, d.length, rfl, rfl, ⟨Nat.zero_le _, Nat.le_refl _, fun k hk => by omega, fun k hk hk2 => by omega⟩, Below.refl _ _⟩
  case round =>
    obtain ⟨i, j, rfl, rfl, HB, HW⟩ := hrel
    by_cases hij : i < j
    · have hiji : (i : Int) < (j : Int) := by omega
      obtain ⟨h, hh⟩ : ∃ h, (i + j) / 2 = h := ⟨_, rfl⟩
      have HH : Hid (((i : Int) + (j : Int)) / 2 = (h : Int)) := by show _ = _; omega
      have hj1 := HB.out.2.1
      have hjm : (j : Int) ≤ 1000000000 := by omega
      have h1 : i ≤ h := by omega
      have h2 : h < j := by omega
      clear hh
      have hc1 : wr.cell? ⟨b, off + (i + j) / 2, none⟩ = some (.int .u64 ((d.getD h 0 : Nat) : Int)) := by
        rw [show (i + j) / 2 = h by have := HH.out; omega]
        exact (Mods.of_below HW.out (fun _ => False)).cell (HCl.out h (by omega)) (fun e => e)
      have hhm : ((i : Int) + (j : Int)) / 2 < (d.length : Int) := by rw [HH.out]; omega
      obtain ⟨y, hy⟩ : ∃ y, d.getD h 0 = y := ⟨_, rfl⟩
      rw [hy] at hc1
      have HY := Lib.hid hy
      clear hy
      go_wp2_with fail
      refine (less_u64' y x wr).mono ?_
      rintro e w2 ⟨rfl, rfl⟩
      cases hl : ltU y x with
      | true =>
        have HB2 : Hid (BIn d x (h + 1) j) := HB.out.up HA.out h2 (by rw [HY.out]; simpa [ltU] using hl)
        go_wp2_with fail
        go_round
        case rel => exact ⟨h + 1, j, by rw [HH.out]; go_num, rfl, HB2.out, HW.out⟩
        case measure => simp [intOf]; have := HH.out; omega
      | false =>
        have HB2 : Hid (BIn d x i h) := HB.out.down HA.out h1 h2 (by rw [HY.out]; simpa [ltU] using hl)
        go_wp2_with fail
        go_round
        case rel => exact ⟨i, h, rfl, by rw [HH.out], HB2.out, HW.out⟩
        case measure => simp [intOf]; have := HH.out; omega
    · have hiji : ¬ (i : Int) < (j : Int) := by omega
      obtain rfl : i = j := by have := HB.out.1; omega
      obtain ⟨d1, d2, d3⟩ := HB.out.done HA.out HX.out
      have hc1 : wr.cell? ⟨b, off + i, none⟩ = some (.int .u64 (x : Int)) := by
        have h := (Mods.of_below HW.out (fun _ => False)).cell (HCl.out i d1) (fun e => e)
        rw [d2] at h
        exact h
      have d1i : (i : Int) < (d.length : Int) := by omega
      have HI := Lib.hid d3
      clear d2 d3
      go_wp2_with fail
      go_ret2
      rw [HI.out]
      exact ⟨rfl, HW.out⟩
end Go.Proofs.YtgpmoimmpbkgfaaGreatDoor

end

section
/- Layer 8: the program's Put and Size. -/
set_option linter.unusedVariables false
set_option maxRecDepth 20000
namespace Go.Proofs.YtgpmoimmpbkgfaaGreatDoor
open Go Go.RowKit

theorem upd_of_below {w w' : World} (h : Below w.heap.size w w') (p : Nat) (v : Value) : Upd w w' p v v := ⟨Mods.of_below h _, Fresh.refl _ _⟩
/-- A list that a writer does not touch is what it was. -/
theorem Rd.upd {w w' : World} {p : Nat} {v v' lv : Value} {l : List Nat} (h : Rd w 1 lv l.length (u64s l)) (hu : Upd w w' p v v') (hap : ∀ k, lv.ownBlock = some k → k ≠ p ∧ v.ownBlock ≠ some k) : Rd w' 1 lv l.length (u64s l) :=
  h.mods hu.mods (fun k hk e => e.elim (hap k hk).1 (hap k hk).2)
theorem u64s_ne {l : List Nat} {i : Nat} (h : i < l.length) : u64s l ≠ [] := fun e => by have := congrArg List.length e; rw [u64s_length] at this; simp at this; subst this; simp at h

set_option maxHeartbeats 4000000 in
theorem put_dictionary (p : Nat) (v dv : Value) (bits : List Bool) (d : List Nat) (w : World) (hW : WriterIn w p v bits) (hd : Rd w 1 dv d.length (u64s d)) (h0 : 0 < d.length) (hk : d.length ≤ 128)
    (hap : ∀ k, dv.ownBlock = some k → k ≠ p ∧ v.ownBlock ≠ some k) (hz : bits.length + 9000 ≤ 1125899906842000) :
    Calls Tryz.prog 90 #[.pointer (some ⟨p, 0, none⟩), dv] w fun e w' => e = .returned (.tuple #[]) ∧ BitsPost p v (bits ++ (fieldBits (d.length - 1) 7 ++ wordsBits d)) w w' := by
  have HD := Lib.hid hd; have HAp := Lib.hid hap; have HZ := Lib.hid hz
  have hni : (d.length : Int) ≤ 128 := by omega
  have HB := Lib.hid (wbits p v bits (d.length - 1) 7 w hW (by omega) (by omega))
  have hc : (d.length : Int) - 1 = ((d.length - 1 : Nat) : Int) := by omega
  obtain ⟨m, hm⟩ : ∃ m, d.length - 1 = m := ⟨_, rfl⟩
  rw [hm] at HB hc ⊢
  have hm0 : (m : Int) ≤ 128 := by omega
  obtain ⟨q, c, hv⟩ := hd.shape
  subst hv
  clear hd hap hz hW hm
  go_enter Tryz.func90, Tryz.ntmps90
  go_wp2_with fail
  refine HB.out.mono ?_
  rintro e w2 ⟨rfl, v2, hW2, hU2⟩
  have HW2 := Lib.hid hW2; have HU2 := Lib.hid hU2
  have HR2 := Lib.hid (HD.out.upd hU2 HAp.out)
  clear hW2 hU2 HB
  go_wp2_with fail
  go_loopw [14] (fun kv wr => ∃ (k : Nat) (v' : Value), k ≤ d.length ∧ kv = .int .i64 (k : Int) ∧ Hid (WriterIn wr p v' (bits ++ fieldBits m 7 ++ wordsBits (d.take k))) ∧ Hid (Upd w wr p v v') ∧ Hid (Rd wr 1 (.slice q d.length c) d.length (u64s d))) (fun kv _ => d.length - (intOf kv).toNat)
  case atStart => exact ⟨0, v2, Nat.zero_le _, rfl, by show WriterIn _ _ _ _; rw [List.take_zero]; simpa [wordsBits] using HW2.out, HU2.out, HR2.out⟩
  case round =>
    obtain ⟨k, v', hkm, rfl, HW, HU, HR⟩ := hrel
    clear HW2 HU2 HR2
    by_cases hlt : k < d.length
    · have hlti : (k : Int) < (d.length : Int) := by omega
      obtain ⟨b, off, c', e, _, _, hcell⟩ := HR.out.at (u64s_ne hlt)
      simp only [Value.slice.injEq] at e
      obtain ⟨rfl, _, rfl⟩ := e
      obtain ⟨y, hy⟩ : ∃ y, d[k] = y := ⟨_, rfl⟩
      have hct : wr.cell? ⟨b, off + k, none⟩ = some (.int .u64 (y : Int)) := by rw [← hy]; exact hcell k _ (u64s_get d k hlt)
      have HT : Hid (wordsBits (d.take (k + 1)) = wordsBits (d.take k) ++ fieldBits y 64) := wordsBits_take d k hlt y hy
      have HC := Lib.hid (wbits p v' _ y 64 wr HW.out (by omega) (by
        rw [List.length_append, List.length_append, fieldBits_length, wordsBits_len, List.length_take]; have := HZ.out; omega))
      clear hcell hy
      go_wp2_with fail
      refine HC.out.mono ?_
      rintro e w3 ⟨rfl, v3, hW3, hU3⟩
      have HW3 : Hid (WriterIn w3 p v3 (bits ++ fieldBits m 7 ++ wordsBits (d.take (k + 1)))) := by
        show WriterIn _ _ _ _
        rw [HT.out, ← List.append_assoc]; exact hW3
      have HU3 := Lib.hid (HU.out.trans hU3)
      have HR3 := Lib.hid (HD.out.upd HU3.out HAp.out)
      clear hW3 hU3 HC
      go_wp2_with fail
      go_round
      case rel => exact ⟨k + 1, v3, by omega, by go_num, HW3.out, HU3.out, HR3.out⟩
      case measure => simp [intOf]; omega
    · have hlti : ¬ (k : Int) < (d.length : Int) := by omega
      have HF : Hid (WriterIn wr p v' (bits ++ (fieldBits m 7 ++ wordsBits d))) := by
        have h := HW.out
        rw [List.take_of_length_le (by omega), List.append_assoc] at h
        exact h
      go_wp2_with fail
      go_end0
      exact ⟨rfl, v', HF.out, HU.out⟩

set_option maxHeartbeats 4000000 in
theorem put_indices (p : Nat) (v lv dv : Value) (bits : List Bool) (l d : List Nat) (w : World) (hW : WriterIn w p v bits) (hl : Rd w 1 lv l.length (u64s l)) (hd : Rd w 1 dv d.length (u64s d)) (ha : Asc d) (hin : ∀ x ∈ l, x ∈ d) (hk : d.length ≤ 128)
    (hapl : ∀ k, lv.ownBlock = some k → k ≠ p ∧ v.ownBlock ≠ some k) (hapd : ∀ k, dv.ownBlock = some k → k ≠ p ∧ v.ownBlock ≠ some k) (hn : l.length ≤ 1000000000) (hz : bits.length + 7 * l.length ≤ 70368744177000) :
    Calls Tryz.prog 91 #[.pointer (some ⟨p, 0, none⟩), lv, dv] w fun e w' => e = .returned (.tuple #[]) ∧ BitsPost p v (bits ++ indsBits d.length (l.map fun x => d.idxOf x)) w w' := by
  have HL := Lib.hid hl; have HD := Lib.hid hd; have HAl := Lib.hid hapl; have HAd := Lib.hid hapd; have HZ := Lib.hid hz; have HA := Lib.hid ha; have HIn := Lib.hid hin; have HW0 := Lib.hid hW
  have HK := Lib.hid hk
  have hni : (l.length : Int) ≤ 1000000000 := by omega
  have hdi : (d.length : Int) ≤ 128 := by omega
  obtain ⟨q, c, hv⟩ := hl.shape
  subst hv
  obtain ⟨q2, c2, hv⟩ := hd.shape
  subst hv
  have HC0 := Lib.hid (width_any (d.length : Int) w (by omega) (by omega))
  have HWi : Hid (widthI (d.length : Int) = (widthD d.length : Int)) := by show _ = _; rw [widthI, Int.toNat_natCast]
  have hw7 := width_le hk
  obtain ⟨t, ht⟩ : ∃ t, widthD d.length = t := ⟨_, rfl⟩
  rw [ht] at HWi hw7
  rw [HWi.out] at HC0
  have HTt := Lib.hid ht
  have hti : (t : Int) ≤ 7 := by omega
  clear hl hd hapl hapd hz ha hin hW hk ht hn HWi
  go_enter Tryz.func91, Tryz.ntmps91
  go_wp2_with fail
  refine HC0.out.mono ?_
  rintro e w2 ⟨rfl, rfl⟩
  clear HC0
  go_wp2_with fail
  go_loopw [16] (fun kv wr => ∃ (k : Nat) (v' : Value), k ≤ l.length ∧ kv = .int .i64 (k : Int) ∧ Hid (WriterIn wr p v' (bits ++ indsBits d.length ((l.map fun x => d.idxOf x).take k))) ∧ Hid (Upd w2 wr p v v')) (fun kv _ => l.length - (intOf kv).toNat)
  case atStart => exact ⟨0, v, Nat.zero_le _, rfl, by show WriterIn _ _ _ _; rw [List.take_zero]; simpa [indsBits] using HW0.out, Upd.refl _ _ _⟩
  case round =>
    obtain ⟨k, v', hkm, rfl, HW, HU⟩ := hrel
    by_cases hlt : k < l.length
    · have hlti : (k : Int) < (l.length : Int) := by omega
      have HR := Lib.hid (HL.out.upd HU.out HAl.out)
      have HRd := Lib.hid (HD.out.upd HU.out HAd.out)
      obtain ⟨b, off, c', e, _, _, hcell⟩ := HR.out.at (u64s_ne hlt)
      simp only [Value.slice.injEq] at e
      obtain ⟨rfl, _, rfl⟩ := e
      obtain ⟨y, hy⟩ : ∃ y, l[k] = y := ⟨_, rfl⟩
      have hct : wr.cell? ⟨b, off + k, none⟩ = some (.int .u64 (y : Int)) := by rw [← hy]; exact hcell k _ (u64s_get l k hlt)
      have HY : Hid (y ∈ d) := HIn.out y (by rw [← hy]; exact List.getElem_mem hlt)
      obtain ⟨z, hz⟩ : ∃ z, d.idxOf y = z := ⟨_, rfl⟩
      have hz1 : z < d.length := by rw [← hz]; exact List.idxOf_lt_length_of_mem HY.out
      have hzi : (z : Int) < (d.length : Int) := by omega
      have hlk : k < (l.map fun x => d.idxOf x).length := by rw [List.length_map]; exact hlt
      have HT : Hid (indsBits d.length ((l.map fun x => d.idxOf x).take (k + 1)) = indsBits d.length ((l.map fun x => d.idxOf x).take k) ++ fieldBits z t) := by
        show _ = _
        rw [indsBits_take d.length (l.map fun x => d.idxOf x) k hlk z (by rw [List.getElem_map, hy, hz]), HTt.out]
      have HS := Lib.hid (binary_u64 (.slice q2 d.length c2) d y wr HRd.out HA.out HY.out (by have := HK.out; omega))
      rw [hz] at HS
      have HLen : Hid ((bits ++ indsBits d.length ((l.map fun x => d.idxOf x).take k)).length + 64 ≤ 1125899906842624) := by
        show _ ≤ _
        rw [List.length_append, indsBits_len, List.length_take, List.length_map, HTt.out]
        have h1 := Nat.mul_le_mul hw7 (Nat.min_le_right k l.length)
        have := HZ.out
        omega
      clear hcell hy hlk hz
      go_wp2_with fail
      refine HS.out.mono ?_
      rintro e w3 ⟨rfl, hB3⟩
      have HW3 := Lib.hid (HW.out.below hB3)
      have HU3 := Lib.hid (HU.out.trans (upd_of_below hB3 p v'))
      clear hB3 HS
      have HC := Lib.hid (wbits p v' _ z t w3 HW3.out (by omega) HLen.out)
      go_wp2_with fail
      refine HC.out.mono ?_
      rintro e w4 ⟨rfl, v4, hW4, hU4⟩
      have HW4 : Hid (WriterIn w4 p v4 (bits ++ indsBits d.length ((l.map fun x => d.idxOf x).take (k + 1)))) := by
        show WriterIn _ _ _ _
        rw [HT.out, ← List.append_assoc]; exact hW4
      have HU4 := Lib.hid (HU3.out.trans hU4)
      clear hW4 hU4 HC HW3 HU3
      go_wp2_with fail
      go_round
      case rel => exact ⟨k + 1, v4, by omega, by go_num, HW4.out, HU4.out⟩
      case measure => simp [intOf]; omega
    · have hlti : ¬ (k : Int) < (l.length : Int) := by omega
      have HF : Hid (WriterIn wr p v' (bits ++ indsBits d.length (l.map fun x => d.idxOf x))) := by
        have h := HW.out
        rw [List.take_of_length_le (by rw [List.length_map]; omega)] at h
        exact h
      go_wp2_with fail
      go_end0
      exact ⟨rfl, v', HF.out, HU.out⟩

theorem dictval_put_nilw (lv : Value) (l : List Nat) (w : World) (hl : Rd w 1 lv l.length (u64s l)) : Calls Tryz.prog 55 #[.pointer none, lv] w fun e w' => e = .returned (.int .i64 1) ∧ Below w.heap.size w w' := by
  obtain ⟨q, c, hv⟩ := hl.shape
  subst hv
  clear hl
  go_enter Tryz.func55, Tryz.ntmps55
  go_wp2_with fail
  go_ret
  exact ⟨rfl, Below.refl _ _⟩

set_option maxHeartbeats 4000000 in
theorem dictval_put (p : Nat) (v lv : Value) (bits : List Bool) (l : List Nat) (w : World) (hW : WriterIn w p v bits) (hl : Rd w 1 lv l.length (u64s l)) (ok : ∀ t ∈ l, in64u t)
    (hap : l ≠ [] → ∀ k, lv.ownBlock = some k → k ≠ p ∧ v.ownBlock ≠ some k) (hn : l.length ≤ 1000000000) (hz : bits.length + 8199 + 7 * l.length ≤ 70368744177000) :
    Calls Tryz.prog 55 #[.pointer (some ⟨p, 0, none⟩), lv] w fun e w' => e = .returned (.int .i64 (if okD l then 0 else 7)) ∧ BitsPost p v (bits ++ putD l) w w' := by
  by_cases hnil : l = []
  · subst hnil
    have HE : Hid (okD [] = true ∧ bits ++ putD [] = bits) := by
      show _ ∧ _
      have : okD [] = true := by decide
      exact ⟨this, by rw [putD_ok this]; simp [encD]⟩
    have HW := Lib.hid hW
    obtain ⟨q, c, hv⟩ := hl.shape
    subst hv
    clear hl ok hap hz hW
    rw [HE.out.1, HE.out.2]
    go_enter Tryz.func55, Tryz.ntmps55
    go_wp2_with fail
    go_ret
    exact ⟨by simp, v, HW.out, Upd.refl _ _ _⟩
  · have hpos : 0 < l.length := List.length_pos_iff.2 hnil
    have HAl := Lib.hid (hap hnil)
    have HL := Lib.hid hl; have HOk := Lib.hid ok; have HW := Lib.hid hW; have HZ := Lib.hid hz; have HN := Lib.hid hn
    have HDi := Lib.hid (dictionary_any lv l w hl ok hn)
    have HDl := Lib.hid (dictD_len l)
    have HD0 : Hid (0 < (dictD l).length) := by
      show _ < _
      obtain ⟨x, hx⟩ : ∃ x, x ∈ l := ⟨l[0], List.getElem_mem hpos⟩
      exact List.length_pos_of_mem ((dictD_mem l x).2 hx)
    have HEn : Hid (okD l = true → putD l = fieldBits ((dictD l).length - 1) 7 ++ (wordsBits (dictD l) ++ indsBits (dictD l).length (l.map fun x => (dictD l).idxOf x))) := fun h => by rw [putD_ok h, encD, if_neg hnil]
    have HOd : Hid (okD l = decide ((dictD l).length ≤ 128)) := by show _ = _; rfl
    obtain ⟨q, c, hv⟩ := hl.shape
    subst hv
    have hne : ¬ (l.length : Int) = 0 := by omega
    have hnb : ((l.length : Int) == 0) = false := by rw [beq_eq_false_iff_ne]; exact hne
    obtain ⟨ev, hev⟩ : ∃ ev : Int, (if okD l then 0 else 7) = ev := ⟨_, rfl⟩
    have HEv := Lib.hid hev
    rw [hev]
    clear hl ok hap hz hW hn hnil hpos hev
    go_enter Tryz.func55, Tryz.ntmps55
    go_wp2_with fail
    refine HDi.out.mono ?_
    rintro e w2 ⟨r, rfl, hO, hB⟩
    obtain ⟨qd, cd, hv⟩ := (Rd.of_owns hO).shape
    subst hv
    have HR := Lib.hid (Rd.of_owns hO)
    have HLow : Hid (∀ k, (Value.slice qd (dictD l).length cd).ownBlock = some k → w.heap.size ≤ k) := fun k hk => (hO.lt k hk).1
    have HB := Lib.hid hB
    have HW2 := Lib.hid (HW.out.below hB)
    have HL2 := Lib.hid (HL.out.below hB)
    have HAd : Hid (∀ k, (Value.slice qd (dictD l).length cd).ownBlock = some k → k ≠ p ∧ v.ownBlock ≠ some k) := fun k hk => by
      have h1 := HLow.out k hk
      have h2 := HW.out.blk.lt
      exact ⟨by omega, fun e => by have := owns_lt HW.out.own k e; omega⟩
    clear hO hB HDi
    by_cases hk : (dictD l).length ≤ 128
    · have hki : ¬ (128 : Int) < ((dictD l).length : Int) := by omega
      have HOk1 : Hid (okD l = true) := by show _ = _; rw [HOd.out]; exact decide_eq_true hk
      have HP1 := Lib.hid (put_dictionary p v _ bits (dictD l) w2 HW2.out HR.out HD0.out hk HAd.out (by have := HZ.out; omega))
      go_wp2_with fail
      refine HP1.out.mono ?_
      rintro e w3 ⟨rfl, v3, hW3, hU3⟩
      have HW3 := Lib.hid hW3
      have HU3 := Lib.hid hU3
      have HL3 := Lib.hid (HL2.out.upd hU3 HAl.out)
      have HR3 := Lib.hid (HR.out.upd hU3 HAd.out)
      have HF3 := Lib.hid hU3.fresh
      have hap3 : ∀ (u : Value) (k : Nat), u.ownBlock = some k → k < w2.heap.size → (k ≠ p ∧ v.ownBlock ≠ some k) → k ≠ p ∧ v3.ownBlock ≠ some k := fun u k hk h1 h2 => ⟨h2.1, fun e => (HF3.out k e).elim h2.2 (fun h => by omega)⟩
      have HP2 := Lib.hid (put_indices p v3 (.slice q l.length c) (.slice qd (dictD l).length cd) _ l (dictD l) w3 HW3.out HL3.out HR3.out (dictD_asc l) (fun x hx => (dictD_mem l x).2 hx) hk
        (fun k hk => hap3 _ k hk (u64s_ltD HL2.out (fun e => by have := HD0.out; rw [e] at this; simp [dictD, dictFrom] at this) k hk) (HAl.out k hk))
        (fun k hk => hap3 _ k hk (u64s_ltD HR.out (fun e => by have := HD0.out; rw [e] at this; simp at this) k hk) (HAd.out k hk)) HN.out (by
          rw [List.length_append, List.length_append, fieldBits_length, wordsBits_len]; have := HZ.out; omega))
      clear hW3 hU3 hap3 HP1
      go_wp2_with fail
      refine HP2.out.mono ?_
      rintro e w4 ⟨rfl, v4, hW4, hU4⟩
      have HW4 : Hid (WriterIn w4 p v4 (bits ++ putD l)) := by
        show WriterIn _ _ _ _
        rw [HEn.out HOk1.out]
        simpa [List.append_assoc] using hW4
      have HU4 := Lib.hid (((upd_of_below HB.out p v).trans HU3.out).trans hU4)
      clear hW4 hU4 HP2
      go_wp2_with fail
      go_ret
      rw [← HEv.out, HOk1.out]
      exact ⟨by simp, v4, HW4.out, HU4.out⟩
    · have hki : (128 : Int) < ((dictD l).length : Int) := by omega
      have HOk1 : Hid (okD l = false) := by show _ = _; rw [HOd.out]; exact decide_eq_false hk
      have HP : Hid (bits ++ putD l = bits) := by show _ = _; rw [putD_no HOk1.out, List.append_nil]
      go_wp2_with fail
      go_ret
      rw [← HEv.out, HOk1.out, HP.out]
      exact ⟨by simp, v, HW2.out, upd_of_below HB.out p v⟩

set_option maxHeartbeats 4000000 in
theorem dictval_size (lv : Value) (l : List Nat) (w : World) (hl : Rd w 1 lv l.length (u64s l)) (ok : ∀ t ∈ l, in64u t) (hn : l.length ≤ 1000000000) :
    Calls Tryz.prog 54 #[lv] w fun e w' => e = .returned (.int .i64 (sizeD l)) ∧ Below w.heap.size w w' := by
  by_cases hnil : l = []
  · subst hnil
    have HE : Hid (sizeD [] = 0) := by
      show _ = _
      have : okD [] = true := by decide
      rw [sizeD, if_pos this]; simp [encD]
    obtain ⟨q, c, hv⟩ := hl.shape
    subst hv
    clear hl ok
    rw [HE.out]
    go_enter Tryz.func54, Tryz.ntmps54
    go_wp2_with fail
    go_ret
    exact ⟨rfl, Below.refl _ _⟩
  · have hpos : 0 < l.length := List.length_pos_iff.2 hnil
    have hne : ¬ (l.length : Int) = 0 := by omega
    have hnb : ((l.length : Int) == 0) = false := by rw [beq_eq_false_iff_ne]; exact hne
    have HDi := Lib.hid (dictionary_any lv l w hl ok hn)
    have HEn : Hid (okD l = true → sizeD l = 7 + ((dictD l).length : Int) * 64 + (l.length : Int) * (widthD (dictD l).length : Int)) := fun h => by
      rw [sizeD, if_pos h, encD, if_neg hnil, List.length_append, List.length_append, fieldBits_length, wordsBits_len, indsBits_len, List.length_map]
      simp only [Int.natCast_add, Int.natCast_mul]
      rw [Int.mul_comm (widthD _ : Int)]
      omega
    have HOd : Hid (okD l = decide ((dictD l).length ≤ 128)) := by show _ = _; rfl
    have HN := Lib.hid hn
    obtain ⟨q, c, hv⟩ := hl.shape
    subst hv
    have hli : (l.length : Int) ≤ 1000000000 := by omega
    clear hl ok hn hnil hpos
    go_enter Tryz.func54, Tryz.ntmps54
    go_wp2_with fail
    refine HDi.out.mono ?_
    rintro e w2 ⟨r, rfl, hO, hB⟩
    obtain ⟨qd, cd, hv⟩ := (Rd.of_owns hO).shape
    subst hv
    have HB := Lib.hid hB
    clear hO hB HDi
    by_cases hk : (dictD l).length ≤ 128
    · have hki : ¬ (128 : Int) < ((dictD l).length : Int) := by omega
      have HOk1 : Hid (okD l = true) := by show _ = _; rw [HOd.out]; exact decide_eq_true hk
      have HSz := Lib.hid (HEn.out HOk1.out)
      have hdi : ((dictD l).length : Int) ≤ 128 := by omega
      have HC0 := Lib.hid (width_any ((dictD l).length : Int) w2 (by omega) (by omega))
      have hw7 := width_le hk
      rw [show widthI ((dictD l).length : Int) = (widthD (dictD l).length : Int) by rw [widthI, Int.toNat_natCast]] at HC0
      generalize (dictD l).length = k at *
      generalize widthD k = t at *
      have hti : (t : Int) ≤ 7 := by omega
      have hmb : (l.length : Int) * (t : Int) ≤ 7000000000 := by
        have := Int.mul_le_mul hli hti (by omega) (by omega)
        omega
      have hmp : (0 : Int) ≤ (l.length : Int) * (t : Int) := Int.mul_nonneg (by omega) (by omega)
      clear hk
      go_wp2_with fail
      refine HC0.out.mono ?_
      rintro e w3 ⟨rfl, rfl⟩
      clear HC0
      go_wp2_with fail
      go_ret
      rw [HSz.out]
      exact ⟨by rfl, HB.out⟩
    · have hki : (128 : Int) < ((dictD l).length : Int) := by omega
      have HOk1 : Hid (sizeD l = -1) := by show _ = _; rw [sizeD, HOd.out, decide_eq_false hk]; rfl
      go_wp2_with fail
      go_ret
      rw [HOk1.out]
      exact ⟨by rfl, HB.out⟩
end Go.Proofs.YtgpmoimmpbkgfaaGreatDoor

end

section
/- Layer 8: the flags of the values that are used. -/
set_option linter.unusedVariables false
namespace Go.Proofs.YtgpmoimmpbkgfaaGreatDoor
open Go Go.RowKit

def usedV (N : Nat) (is : List Nat) : List Value := (List.range N).map fun j => .bool (is.contains j)
theorem usedV_length (N : Nat) (is : List Nat) : (usedV N is).length = N := by simp [usedV]
theorem usedV_get (N : Nat) (is : List Nat) (j : Nat) (h : j < N) : (usedV N is)[j]? = some (.bool (is.contains j)) := by simp [usedV, h]
theorem usedV_nil (N : Nat) : usedV N [] = List.replicate N (.bool false) := by
  apply List.ext_getElem?
  intro j
  by_cases h : j < N
  · rw [usedV_get N [] j h]; simp [h]
  · rw [List.getElem?_eq_none (by rw [usedV_length]; omega), List.getElem?_eq_none (by simp; omega)]
theorem usedV_set (N : Nat) (is : List Nat) (x : Nat) (h : x < N) : (usedV N is).set x (.bool true) = usedV N (is ++ [x]) := by
  apply List.ext_getElem?
  intro j
  by_cases hj : j < N
  · rw [usedV_get N _ j hj]
    by_cases hx : x = j
    · subst hx
      rw [List.getElem?_set_self (by rw [usedV_length]; exact h)]
      simp
    · rw [List.getElem?_set_ne hx, usedV_get N is j hj]
      have : (is ++ [x]).contains j = is.contains j := by
        simp [List.contains_eq_mem, List.mem_append]
        omega
      rw [this]
  · rw [List.getElem?_eq_none (by rw [List.length_set, usedV_length]; omega), List.getElem?_eq_none (by rw [usedV_length]; omega)]
end Go.Proofs.YtgpmoimmpbkgfaaGreatDoor

end

section
/- Layer 8: the program's reading of a dictionary. -/
set_option linter.unusedVariables false
set_option maxRecDepth 20000
namespace Go.Proofs.YtgpmoimmpbkgfaaGreatDoor
open Go Go.RowKit

/-- Where the reading of a dictionary stands. -/
structure GDs (w : World) (p : Nat) (v : Value) (bs : List Nat) (bits : List Bool) (acc : List Nat) (dv : Value) (wr : World) : Prop where
  row : wr.ownsRow w.heap.size 31 1 dv acc.length (u64s acc)
  rp : RP p v bs bits w wr
theorem GDs.read {w wr w3 : World} {p : Nat} {v dv : Value} {bs : List Nat} {bits r : List Bool} {acc : List Nat} (h : GDs w p v bs bits acc dv wr) (hp : RP p v bs r wr w3) (hlt : p < w.heap.size) : GDs w p v bs r acc dv w3 :=
  ⟨hp.2.owns h.row (fun k hk e => by have := (h.row.lt k hk).1; omega), rp_trans h.rp hp⟩
theorem GDs.push {w w3 w5 : World} {p x : Nat} {v dv v5 : Value} {bs : List Nat} {bits r0 : List Bool} {acc : List Nat} (h0 : RIs p v bs r0 w) (h : GDs w p v bs bits acc dv w3) (k1 : w5.ownsRow 0 31 1 v5 (acc.length + 1) (u64s acc ++ [.int .u64 (x : Int)]))
    (k2 : Mods (fun k => dv.ownBlock = some k) w3 w5) (k3 : Fresh w3.heap.size dv v5) : GDs w p v bs bits (acc ++ [x]) v5 w5 := by
  refine ⟨?_, rp_more h0 h.rp k2 (fun k hk => (h.row.lt k hk).1)⟩
  rw [List.length_append, List.length_singleton, show u64s (acc ++ [x]) = u64s acc ++ [.int .u64 (x : Int)] by simp [u64s]]
  refine owns_rebase k1 (fun k hk => ?_)
  rcases k3 k hk with e | e
  · exact (h.row.lt k e).1
  · exact Nat.le_trans h.rp.2.size e

/-- What the reading of a dictionary gives. -/
def GotDict (p : Nat) (v : Value) (bs : List Nat) (bits : List Bool) (w : World) (e : Ending) (w' : World) : Prop :=
  (∃ (en : Nat) (r : List Bool), en ≠ 0 ∧ en ≤ 100 ∧ e = .returned (.tuple #[.slice none 0 0, .int .i64 (en : Int)]) ∧ (∀ n, n ≠ 0 → decD n bits = ⟨en, [], r⟩) ∧ RP p v bs r w w') ∨
  (∃ (dv : Value) (d : List Nat) (r : List Bool), e = .returned (.tuple #[dv, .int .i64 0]) ∧ GDs w p v bs r d dv w' ∧ 0 < d.length ∧ d.length ≤ 128 ∧ (∀ n, n ≠ 0 → decD n bits = decIx d n r))

set_option maxHeartbeats 8000000 in
theorem get_dictionary (p : Nat) (v : Value) (bs : List Nat) (bits : List Bool) (w : World) (h : RIs p v bs bits w) :
    Calls Tryz.prog 92 #[.pointer (some ⟨p, 0, none⟩)] w (GotDict p v bs bits w) := by
  have H := Lib.hid h
  have HLt : Hid (p < w.heap.size) := h.1.blk.lt
  have HE := Lib.hid (rfield p v bs bits 7 w h (by decide))
  clear h
  rcases field_two 7 bits with hf | ⟨k, b1, hf, hk⟩
  · rw [hf] at HE
    have HR : Hid (GotDict p v bs bits w (.returned (.tuple #[.slice none 0 0, .int .i64 3])) w → True) := fun _ => trivial
    have HD : Hid (∀ n, n ≠ 0 → decD n bits = ⟨3, [], bits⟩) := fun n hn => getD_eof7 hn (by
      rw [field] at hf
      split at hf
      · assumption
      · cases hf)
    clear hf HR
    go_enter Tryz.func92, Tryz.ntmps92
    go_wp2_with fail
    refine HE.out.mono ?_
    rintro e w2 ⟨rfl, hP⟩
    have HP := Lib.hid hP
    clear hP HE
    go_wp2_with fail
    go_ret2
    exact Or.inl ⟨3, bits, by decide, by decide, rfl, HD.out, HP.out⟩
  · rw [hf] at HE
    have HDW : Hid (∀ n, n ≠ 0 → decD n bits = decWords k n b1) := fun n hn => getD_words hn hf
    have hkb : (k : Int) ≤ 127 := by have : k < 128 := by simpa using hk
                                     omega
    have hwk : IntKind.i64.wrap (k : Int) = (k : Int) := IntWalk.i64_in _ (by omega)
    clear hf hk
    go_enter Tryz.func92, Tryz.ntmps92
    go_wp2_with fail
    refine HE.out.mono ?_
    rintro e w2 ⟨rfl, hP⟩
    have HG0 : Hid (GDs w p v bs b1 [] (.slice none 0 0) w2) := ⟨World.ownsRow_nil _ _ _ _, hP⟩
    clear hP HE
    go_wp2_with fail
    go_loopw [6, 21] (fun dv iv wr => ∃ (acc : List Nat) (c : List Bool), acc.length ≤ k + 1 ∧ iv = .int .i64 (acc.length : Int) ∧ Hid (WAt k b1 acc c) ∧ Hid (GDs w p v bs c acc dv wr)) (fun _ iv _ => k + 1 - (intOf iv).toNat)
    case atStart => exact ⟨[], b1, by simp, rfl, wat_start k b1, HG0.out⟩
    case round =>
      obtain ⟨acc, c, hik, rfl, HA, HG⟩ := hrel
      clear HG0
      obtain ⟨pa, ca, hva⟩ := (Rd.of_owns HG.out.row).shape
      subst hva
      obtain ⟨i, hi⟩ : ∃ i, acc.length = i := ⟨_, rfl⟩
      have HLen := Lib.hid hi
      rw [hi] at hik
      rw [hi] at HG ⊢
      clear hi
      have hib : (i : Int) ≤ 128 := by omega
      by_cases hlt : i < k + 1
      · have hlti : (i : Int) < (k : Int) + 1 := by omega
        have hlti2 : (i : Int) ≤ (k : Int) := by omega
        have HI : Hid (acc.length < k + 1) := by show _ < _; rw [HLen.out]; exact hlt
        have HE := Lib.hid (rfield p v bs c 64 wr HG.out.rp.1 (by decide))
        rcases field_two 64 c with hf | ⟨x, c2, hf, hx⟩
        · rw [hf] at HE
          have HD : Hid (∀ n, n ≠ 0 → decD n bits = ⟨3, [], c⟩) := fun n hn => (HDW.out n hn).trans (getD_weof HA.out HI.out (by
            rw [field] at hf
            split at hf
            · assumption
            · cases hf))
          clear hf
          go_wp2_with fail
          refine HE.out.mono ?_
          rintro e w3 ⟨rfl, hP⟩
          have HP := Lib.hid (rp_trans HG.out.rp hP)
          clear hP HE
          go_wp2_with fail
          go_ret2
          exact Or.inl ⟨3, c, by decide, by decide, rfl, HD.out, HP.out⟩
        · rw [hf] at HE
          have HF := Lib.hid hf
          clear hf hx
          have HBd : Hid ((i + 1) * 8 ≤ 140737488355328 ∧ i + 1 ≤ maxLen) := by show _ ∧ _; unfold maxLen; omega
          go_wp2_with fail
          refine HE.out.mono ?_
          rintro e w3 ⟨rfl, hP⟩
          have HG3 := Lib.hid (HG.out.read hP HLt.out)
          clear hP HE HG
          have HO3 : Hid (w3.ownsRow 0 31 1 (.slice pa i ca) i (u64s acc)) := by
            have h := owns_rebase HG3.out.row (base' := 0) (fun _ _ => Nat.zero_le _)
            rw [HLen.out] at h
            exact h
          by_cases h0 : i = 0
          · have HNx := Lib.hid (getD_wnext HA.out HI.out HF.out (fun hne => absurd (List.eq_nil_of_length_eq_zero (by rw [HLen.out]; exact h0)) hne))
            have hgd : decide (0 < i) = false := decide_eq_false (by omega)
            clear h0
            go_wp2_with (first
              | (at_builtin; refine wpList_push Tryz.elemU64 w3 #[.int .u64 (x : Int)] _ _ _ HO3.out rfl (one_cell _ rfl) HBd.out rfl _ _ rfl rfl rfl ?_; intro v8 w8 k1 k2 k3)
              | go_in)
            have HG8 := Lib.hid (HG3.out.push H.out (by rw [HLen.out]; exact k1) k2 k3)
            clear k1 k2 k3 HG3 HO3
            go_round
            case rel => exact ⟨acc ++ [x], c2, by rw [List.length_append, HLen.out]; exact hlt, by rw [List.length_append, HLen.out]; go_num, HNx.out, HG8.out⟩
            case measure => simp [intOf]; omega
          · obtain ⟨m, rfl⟩ : ∃ m, i = m + 1 := ⟨i - 1, by omega⟩
            have hgd : decide (0 < m + 1) = true := by simp
            have HAne : Hid (acc ≠ []) := fun e => by have := HLen.out; rw [e] at this; cases this
            obtain ⟨y, hy⟩ : ∃ y, acc[m]'(by have := HLen.out; omega) = y := ⟨_, rfl⟩
            have HY : Hid (acc.getLastD 0 = y) := by
              show _ = _
              rw [List.getLastD_eq_getLast?, List.getLast?_eq_getElem?, HLen.out, Nat.add_sub_cancel, List.getElem?_eq_getElem (by have := HLen.out; omega), hy]; rfl
            obtain ⟨bx, ox, cx, e, hmm1, hmm2, hcx⟩ := (Rd.of_owns HG3.out.row).at (fun e => by have := congrArg List.length e; rw [u64s_length, HLen.out] at this; simp at this)
            simp only [Value.slice.injEq] at e
            obtain ⟨rfl, hil, rfl⟩ := e
            have hcl : w3.cell? ⟨bx, ox + m, none⟩ = some (.int .u64 (y : Int)) := by rw [← hy]; exact hcx m _ (u64s_get acc m (by have := HLen.out; omega))
            clear hcx hmm1 hmm2 hil hy h0
            have hmb : (m : Int) < ((m + 1 : Nat) : Int) := by omega
            by_cases hxy : x ≤ y
            · have hxy' : (x : Int) ≤ (y : Int) := by omega
              have HD : Hid (∀ n, n ≠ 0 → decD n bits = ⟨8, [], c2⟩) := fun n hn => (HDW.out n hn).trans (getD_wbad HA.out HI.out HF.out HAne.out (by rw [HY.out]; exact hxy))
              clear hxy
              go_wp2_with fail
              go_ret2
              exact Or.inl ⟨8, c2, by decide, by decide, rfl, HD.out, HG3.out.rp⟩
            · have hxy' : ¬ (x : Int) ≤ (y : Int) := by omega
              have HNx := Lib.hid (getD_wnext HA.out HI.out HF.out (fun _ => by rw [HY.out]; omega))
              clear hxy
              go_wp2_with (first
                | (at_builtin; refine wpList_push Tryz.elemU64 w3 #[.int .u64 (x : Int)] _ _ _ HO3.out rfl (one_cell _ rfl) HBd.out rfl _ _ rfl rfl rfl ?_; intro v8 w8 k1 k2 k3)
                | go_in)
              have HG8 := Lib.hid (HG3.out.push H.out (by rw [HLen.out]; exact k1) k2 k3)
              clear k1 k2 k3 HG3 HO3 hcl
              go_round
              case rel => exact ⟨acc ++ [x], c2, by rw [List.length_append, HLen.out]; exact hlt, by rw [List.length_append, HLen.out]; go_num, HNx.out, HG8.out⟩
              case measure => simp [intOf]; omega
      · have hlti : ¬ (i : Int) < (k : Int) + 1 := by omega
        have hlti2 : ¬ (i : Int) ≤ (k : Int) := by omega
        have HDn : Hid (acc.length = k + 1 ∧ Asc acc ∧ ∀ n, decWords k n b1 = decIx acc n c) := ⟨(getD_wdone (n := 0) HA.out (by rw [HLen.out]; exact hlt)).1, (getD_wdone (n := 0) HA.out (by rw [HLen.out]; exact hlt)).2.1, fun n => (getD_wdone HA.out (by rw [HLen.out]; exact hlt)).2.2⟩
        go_wp2_with fail
        go_ret2
        exact Or.inr ⟨_, acc, c, rfl, HG.out, by rw [HDn.out.1]; omega, by rw [HDn.out.1]; omega, fun n hn => (HDW.out n hn).trans (HDn.out.2.2 n)⟩
end Go.Proofs.YtgpmoimmpbkgfaaGreatDoor

end

section
/- Layer 8: the program's reading of values by a dictionary. -/
set_option linter.unusedVariables false
set_option maxRecDepth 20000
namespace Go.Proofs.YtgpmoimmpbkgfaaGreatDoor
open Go Go.RowKit

set_option maxHeartbeats 8000000 in
theorem index_used (uv : Value) (N : Nat) (is : List Nat) (w : World) (hu : Rd w 1 uv N (usedV N is)) (hN : N ≤ 128) :
    Calls Tryz.prog 122 #[uv, .bool false] w fun e w' => (∃ i : Int, e = .returned (.int .i64 i) ∧ ((i = -1 ∧ ∀ j, j < N → j ∈ is) ∨ (0 ≤ i ∧ ∃ j, j < N ∧ j ∉ is))) ∧ w' = w := by
  have HU0 := Lib.hid hu
  obtain ⟨q, c, hv⟩ := hu.shape
  subst hv
  have hNi : (N : Int) ≤ 128 := by omega
  clear hu
  go_enter Tryz.func122, Tryz.ntmps122
  go_wp2_with fail
  go_loop [8] (fun iv => ∃ (i : Nat), i ≤ N ∧ iv = .int .i64 (i : Int) ∧ Hid (∀ t, t < i → t ∈ is)) (fun iv => N - (intOf iv).toNat)
  case atStart => exact ⟨0, Nat.zero_le _, rfl, fun t ht => absurd ht (Nat.not_lt_zero _)⟩
  case round =>
    obtain ⟨i, hi, rfl, HU⟩ := hrel
    have hib : (i : Int) ≤ 128 := by omega
    by_cases hlt : i < N
    · have hlti : (i : Int) < (N : Int) := by omega
      obtain ⟨b, off, c', e, _, _, hcell⟩ := HU0.out.at (fun e => by have := usedV_get N is i hlt; rw [e] at this; cases this)
      simp only [Value.slice.injEq] at e
      obtain ⟨rfl, _, rfl⟩ := e
      have hci : w.cell? ⟨b, off + i, none⟩ = some (.bool (is.contains i)) := hcell i _ (usedV_get N is i hlt)
      clear hcell
      by_cases hin : i ∈ is
      · have hct : is.contains i = true := List.contains_iff_mem.2 hin
        rw [hct] at hci
        have HU2 : Hid (∀ t, t < i + 1 → t ∈ is) := fun t ht => by
          by_cases e : t = i
          · rw [e]; exact hin
          · exact HU.out t (by omega)
        clear hct hin
        go_wp2_with fail
        go_round
        case rel => exact ⟨i + 1, by omega, by go_num, HU2.out⟩
        case measure => simp [intOf]; omega
      · have hct : is.contains i = false := by rw [← Bool.not_eq_true]; exact fun e => hin (List.contains_iff_mem.1 e)
        rw [hct] at hci
        have HX : Hid (∃ j, j < N ∧ j ∉ is) := ⟨i, hlt, hin⟩
        clear hct hin
        go_wp2_with fail
        go_ret
        exact ⟨⟨_, rfl, Or.inr ⟨by omega, HX.out⟩⟩, rfl⟩
    · have hlti : ¬ (i : Int) < (N : Int) := by omega
      have HX : Hid (∀ j, j < N → j ∈ is) := fun j hj => HU.out j (by omega)
      go_wp2_with fail
      go_ret
      exact ⟨⟨_, rfl, Or.inl ⟨rfl, HX.out⟩⟩, rfl⟩
theorem contains_used (uv : Value) (N : Nat) (is : List Nat) (w : World) (hu : Rd w 1 uv N (usedV N is)) (hN : N ≤ 128) :
    Calls Tryz.prog 113 #[uv, .bool false] w fun e w' => (∃ b : Bool, e = .returned (.bool b) ∧ (b = false → ∀ j, j < N → j ∈ is) ∧ (b = true → ∃ j, j < N ∧ j ∉ is)) ∧ w' = w := by
  have HI := Lib.hid (index_used uv N is w hu hN)
  obtain ⟨q, c, hv⟩ := hu.shape
  subst hv
  clear hu
  go_enter Tryz.func113, Tryz.ntmps113
  go_wp2_with fail
  refine HI.out.mono ?_
  rintro e w2 ⟨⟨i, rfl, hi⟩, rfl⟩
  clear HI
  rcases hi with ⟨rfl, h⟩ | ⟨h0, h⟩
  · have HX := Lib.hid h
    clear h
    go_wp2_with fail
    go_ret
    exact ⟨⟨false, by simp, fun _ => HX.out, fun e => by cases e⟩, rfl⟩
  · have HX := Lib.hid h
    clear h
    go_wp2_with fail
    go_ret
    exact ⟨⟨true, by simp, (fun e => by cases e), fun _ => HX.out⟩, rfl⟩

/-- Where the reading of values stands. -/
structure GVs (w : World) (p : Nat) (v : Value) (bs : List Nat) (bits : List Bool) (gu N : Nat) (d is : List Nat) (lv : Value) (wr : World) : Prop where
  rp : RP p v bs bits w wr
  lr : wr.ownsRow w.heap.size 31 1 lv is.length (u64s (valsD d is))
  ur : wr.ownsRow w.heap.size 4 1 (.slice (some ⟨gu, 0, none⟩) N N) N (usedV N is)
  lu : lv.ownBlock ≠ some gu
theorem GVs.read {w wr w3 : World} {p gu N : Nat} {v lv : Value} {bs : List Nat} {bits r : List Bool} {d is : List Nat} (h : GVs w p v bs bits gu N d is lv wr) (hp : RP p v bs r wr w3) (hlt : p < w.heap.size) : GVs w p v bs r gu N d is lv w3 :=
  ⟨rp_trans h.rp hp, hp.2.owns h.lr (fun k hk e => by have := (h.lr.lt k hk).1; omega), hp.2.owns h.ur (fun k hk e => by have := (h.ur.lt k hk).1; omega), h.lu⟩
/-- Behind a read value: its index is marked, the value pushed. -/
theorem GVs.push {w w3 w5 : World} {p gu N x y : Nat} {v lv v5 : Value} {bs : List Nat} {bits r0 : List Bool} {d is : List Nat} (h0 : RIs p v bs r0 w) (h : GVs w p v bs bits gu N d is lv w3) (hx : x < N) (hy : d.getD x 0 = y)
    (k1 : w5.ownsRow 0 31 1 v5 (is.length + 1) (u64s (valsD d is) ++ [.int .u64 (y : Int)])) (k2 : Mods (fun k => lv.ownBlock = some k) (w3.setCell ⟨gu, x, none⟩ (.bool true)) w5) (k3 : Fresh w3.heap.size lv v5) : GVs w p v bs bits gu N d (is ++ [x]) v5 w5 := by
  have hm : Mods (fun k => k = gu) w3 (w3.setCell ⟨gu, x, none⟩ (.bool true)) := Mods.set _ _ _ _ (fun _ => rfl)
  have hgu := h.ur.lt gu rfl
  refine ⟨?_, ?_, ?_, fun e => ?_⟩
  · have h1 := rp_more h0 h.rp hm (fun k e => by subst e; exact hgu.1)
    exact rp_more h0 h1 k2 (fun k hk => (h.lr.lt k hk).1)
  · rw [List.length_append, List.length_singleton, valsD_snoc, hy, show u64s (valsD d is ++ [y]) = u64s (valsD d is) ++ [.int .u64 (y : Int)] by simp [u64s]]
    refine owns_rebase k1 (fun k hk => ?_)
    rcases k3 k hk with e | e
    · exact (h.lr.lt k e).1
    · exact Nat.le_trans h.rp.2.size e
  · rw [← usedV_set N is x hx]
    exact k2.owns (h.ur.stored x _).1 (fun k hk e => h.lu (by rw [e, ← hk]; rfl))
  · rcases k3 gu e with e | e
    · exact h.lu e
    · have := hgu.2; omega

set_option maxHeartbeats 8000000 in
theorem get_values (p : Nat) (v dv : Value) (n : Nat) (bs : List Nat) (bits : List Bool) (d : List Nat) (w : World) (h : RIs p v bs bits w) (hd : Rd w 1 dv d.length (u64s d)) (hdp : ∀ k, dv.ownBlock = some k → k ≠ p) (h0 : 0 < d.length) (hk : d.length ≤ 128) (hn : n ≤ 1000000) :
    Calls Tryz.prog 93 #[.pointer (some ⟨p, 0, none⟩), .int .i64 (n : Int), dv] w fun e w' => (∃ r, e = .returned (.tuple #[r, .int .i64 ((decIx d n bits).e : Int)]) ∧ Rd w' 1 r (decIx d n bits).x.length (u64s (decIx d n bits).x) ∧ (∀ k, r.ownBlock = some k → w.heap.size ≤ k)) ∧ RP p v bs (decIx d n bits).r w w' := by
  have H := Lib.hid h; have HD := Lib.hid hd; have HDp := Lib.hid hdp
  have HLt : Hid (p < w.heap.size) := h.1.blk.lt
  obtain ⟨qd, cd, hv⟩ := hd.shape
  subst hv
  obtain ⟨o, ho⟩ : ∃ o, decIx d n bits = o := ⟨_, rfl⟩
  have HO := Lib.hid ho
  rw [ho]
  obtain ⟨N, hN⟩ : ∃ N, d.length = N := ⟨_, rfl⟩
  have HN := Lib.hid hN
  rw [hN] at h0 hk
  rw [hN] at HD HDp ⊢
  have hnb : (n : Int) ≤ 1000000 := by omega
  have hNb : (N : Int) ≤ 128 := by omega
  have HWd := Lib.hid (width_any (N : Int) w (by omega) (by omega))
  have HWb : Hid (widthD N ≤ 7) := width_le hk
  have HWe : Hid (widthD d.length = widthD N) := by show _ = _; rw [HN.out]
  rw [show widthI (N : Int) = ((widthD N : Nat) : Int) by rw [widthI, Int.toNat_natCast]] at HWd
  generalize widthD N = W at *
  have hwb : (W : Int) ≤ 7 := by have := HWb.out; omega
  obtain ⟨i0, hi0, hz0, hz1, hz2⟩ := info_parts Tryz.infoBool
  have HI := Lib.hid hi0; have HZ := Lib.hid hz0; have HZ1 := Lib.hid hz1
  have HZ2 : Hid (i0.bytes * N ≤ 281474976710656 ∧ N ≤ maxLen) := by show _ ∧ _; unfold maxLen; rw [hz2]; omega
  clear hi0 hz0 hz1 hz2 h hd hdp ho hN h0 hk hn
  go_enter Tryz.func93, Tryz.ntmps93
  go_wp2_with fail
  refine HWd.out.mono ?_
  rintro e w2 ⟨rfl, rfl⟩
  clear HWd
  go_wp2_with (first
    | (at_make; refine wpList_make_full _ rfl _ _ _ rfl w2.heap.size 4 i0 (.bool false) 1 Tryz.underlying51 HI.out HZ.out HZ1.out _ _ _ _ N rfl rfl rfl rfl HZ2.out.1 HZ2.out.2 (Nat.le_refl _) ?_; intro w4 hown hgr)
    | go_in)
  have HG0 : Hid (GVs w2 p v bs bits w2.heap.size N d [] (.slice none 0 0) w4) := by
    have hb4 : Below w2.heap.size w2 w4 := (Mods.of_grown hgr).below (Nat.le_refl _) (fun k _ e => by cases e)
    refine ⟨H.out.start.below hb4, World.ownsRow_nil _ _ _ _, ?_, (fun e => by cases e)⟩
    have e : (madeCells (Value.bool false).cells N).toList = usedV N [] := by rw [usedV_nil]; exact toList_madeCells_one _ _
    rw [← e]
    simpa using hown
  have HA0 := Lib.hid (iat_start d.length n bits)
  clear hown hgr HZ2 HZ1 HZ HI
  try go_frame
  go_wp2_with fail
  go_loopw [10, 20] (fun lv iv wr => ∃ (j : Nat) (is : List Nat) (c : List Bool), j ≤ n ∧ iv = .int .i64 (j : Int) ∧ Hid (is.length = j) ∧ Hid (IAt d.length n bits is c) ∧ Hid (GVs w2 p v bs c w2.heap.size N d is lv wr)) (fun _ iv _ => n - (intOf iv).toNat)
  case atStart => exact ⟨0, [], bits, Nat.zero_le _, rfl, rfl, HA0.out, HG0.out⟩
  case round =>
    obtain ⟨j, is, c, hjn, rfl, HJl, HA, HG⟩ := hrel
    clear HG0 HA0
    obtain ⟨pl, cl, hvl⟩ := (Rd.of_owns HG.out.lr).shape
    rw [HJl.out] at hvl
    subst hvl
    have hjb : (j : Int) ≤ 1000000 := by omega
    by_cases hj : j < n
    · have hji : (j : Int) < (n : Int) := by omega
      have HJ : Hid (is.length < n) := by show _ < _; rw [HJl.out]; exact hj
      have HE := Lib.hid (rfield p v bs c W wr HG.out.rp.1 (by omega))
      rcases field_two W c with hf | ⟨x, c2, hf, hx⟩
      · rw [hf] at HE
        have HD3 : Hid (o = ⟨3, [], c⟩) := by
          show _ = _
          rw [← HO.out]
          exact getD_ieof HA.out HJ.out (by
            rw [HWe.out]
            rw [field] at hf
            split at hf
            · assumption
            · cases hf)
        clear hf
        go_wp2_with fail
        refine HE.out.mono ?_
        rintro e w3 ⟨rfl, hP⟩
        have HP := Lib.hid (rp_trans HG.out.rp hP)
        clear hP HE
        go_wp2_with fail
        go_ret2
        rw [HD3.out]
        exact ⟨⟨_, rfl, Rd.nil _ _, fun k e => by cases e⟩, HP.out⟩
      · rw [hf] at HE
        rw [← HWe.out] at hf
        have HF := Lib.hid hf
        have hx7 := Nat.lt_of_lt_of_le hx (Nat.pow_le_pow_right (by decide) HWb.out : 2 ^ W ≤ 2 ^ 7)
        have hxb : (x : Int) < 128 := by have : x < 128 := by simpa using hx7
                                         omega
        clear hf hx hx7
        have HBd : Hid ((j + 1) * 8 ≤ 140737488355328 ∧ j + 1 ≤ maxLen) := by show _ ∧ _; unfold maxLen; omega
        go_wp2_with fail
        refine HE.out.mono ?_
        rintro e w3 ⟨rfl, hP⟩
        have HG3 := Lib.hid (HG.out.read hP HLt.out)
        have HRd3 := Lib.hid (HD.out.mods HG3.out.rp.2 (fun k hk e => HDp.out k hk e))
        clear hP HE HG
        by_cases hN2 : N ≤ x
        · have hNi : (N : Int) ≤ (x : Int) := by omega
          have HD8 : Hid (o = ⟨8, [], c2⟩) := by
            show _ = _
            rw [← HO.out]
            exact getD_ibad HA.out HJ.out HF.out (by rw [HN.out]; exact hN2)
          clear hN2
          go_wp2_with fail
          go_ret2
          rw [HD8.out]
          exact ⟨⟨_, rfl, Rd.nil _ _, fun k e => by cases e⟩, HG3.out.rp⟩
        · have hNi : ¬ (N : Int) ≤ (x : Int) := by omega
          have hxN : x < N := by omega
          have hxi : (x : Int) < (N : Int) := by omega
          have HNx := Lib.hid (getD_inext HA.out HJ.out HF.out (by rw [HN.out]; exact hxN))
          obtain ⟨y, hy⟩ : ∃ y, d.getD x 0 = y := ⟨_, rfl⟩
          have HY := Lib.hid hy
          have HXN := Lib.hid hxN
          have hfu := HG3.out.ur.frozenAt x
          have hcu : w3.cell? ⟨w2.heap.size, x, none⟩ = some (.bool (is.contains x)) := by rw [HG3.out.ur.cellAt x (by omega)]; exact usedV_get N is x hxN
          have hgu := HG3.out.ur.lt w2.heap.size rfl
          have hM : Mods (fun k => k = w2.heap.size) w3 (w3.setCell ⟨w2.heap.size, x, none⟩ (.bool true)) := Mods.set _ _ _ _ (fun _ => rfl)
          obtain ⟨bx, ox, cx, e, hmm1, hmm2, hcx⟩ := HRd3.out.at (fun e => by have := congrArg List.length e; rw [u64s_length, HN.out] at this; simp at this; omega)
          simp only [Value.slice.injEq] at e
          obtain ⟨rfl, _, rfl⟩ := e
          have hne : bx ≠ w2.heap.size := fun e => by
            have h1 := (HD.out.lt (fun e => by have := congrArg List.length e; rw [u64s_length, HN.out] at this; simp at this; omega)) bx rfl
            have h2 := hgu.1
            omega
          have hcd : (w3.setCell ⟨w2.heap.size, x, none⟩ (.bool true)).cell? ⟨bx, ox + x, none⟩ = some (.int .u64 (y : Int)) := hM.cell (hcx x _ (by rw [u64s_get d x (by rw [HN.out]; exact hxN), ← hy, List.getD_eq_getElem?_getD, List.getElem?_eq_getElem (by rw [HN.out]; exact hxN)]; rfl)) hne
          have HSz8 : Hid ((w3.setCell ⟨w2.heap.size, x, none⟩ (.bool true)).heap.size = w3.heap.size) := by show _ = _; exact World.size_setCell ..
          have HO3 : Hid ((w3.setCell ⟨w2.heap.size, x, none⟩ (.bool true)).ownsRow 0 31 1 (.slice pl j cl) j (u64s (valsD d is))) := by
            have h := owns_rebase (hM.owns HG3.out.lr (fun k hk e => HG3.out.lu (by rw [← e]; exact hk))) (base' := 0) (fun _ _ => Nat.zero_le _)
            rw [HJl.out] at h
            exact h
          clear hN2 hxN hy hcx hmm1 hmm2 hgu hM hne
          go_wp2_with (first
            | (at_builtin; refine wpList_push Tryz.elemU64 (w3.setCell ⟨w2.heap.size, x, none⟩ (.bool true)) #[.int .u64 (y : Int)] _ _ _ HO3.out rfl (one_cell _ rfl) HBd.out rfl _ _ rfl rfl (by show _ = Value.slice (some ⟨_, 0, none⟩) 1 1; rw [HSz8.out]; rfl) ?_; intro v8 w8 k1 k2 k3)
            | go_in)
          rw [HSz8.out] at k3
          have HG8 : Hid (GVs w2 p v bs c2 w2.heap.size N d (is ++ [x]) v8 w8) := HG3.out.push H.out HXN.out HY.out (by rw [HJl.out]; exact k1) k2 k3
          clear k1 k2 k3 HO3 hcd hcu hfu HSz8 HG3
          go_round
          case rel => exact ⟨j + 1, is ++ [x], c2, by omega, by go_num, by show _ = _; rw [List.length_append, HJl.out]; rfl, HNx.out, HG8.out⟩
          case measure => simp [intOf]; omega
    · have hji : ¬ (j : Int) < (n : Int) := by omega
      have HNj : Hid (¬ is.length < n) := by show ¬ _; rw [HJl.out]; exact hj
      have HC := Lib.hid (contains_used (.slice (some ⟨w2.heap.size, 0, none⟩) N N) N is wr (Rd.of_owns HG.out.ur) (by omega))
      go_wp2_with fail
      refine HC.out.mono ?_
      rintro e w5 ⟨⟨b, rfl, hb1, hb2⟩, rfl⟩
      have HB1 := Lib.hid hb1; have HB2 := Lib.hid hb2
      clear hb1 hb2 HC
      cases b with
      | true =>
        have HD8 : Hid (o = ⟨8, [], c⟩) := by
          show _ = _
          obtain ⟨t, ht1, ht2⟩ := HB2.out rfl
          rw [← HO.out]
          exact getD_unused HA.out HNj.out (by rw [HN.out]; exact ht1) ht2
        clear HB1 HB2
        go_wp2_with fail
        go_ret2
        rw [HD8.out]
        exact ⟨⟨_, rfl, Rd.nil _ _, fun k e => by cases e⟩, HG.out.rp⟩
      | false =>
        have HD0 : Hid (o = ⟨0, valsD d is, c⟩) := by
          show _ = _
          rw [← HO.out]
          exact getD_used HA.out HNj.out (fun t ht => HB1.out rfl t (by have := HN.out; omega))
        have HVl : Hid ((valsD d is).length = j) := by show _ = _; rw [valsD, List.length_map, HJl.out]
        clear HB1 HB2
        go_wp2_with fail
        go_ret2
        rw [HD0.out]
        refine ⟨⟨_, rfl, ?_, fun k hk => (HG.out.lr.lt k hk).1⟩, HG.out.rp⟩
        show Rd _ _ _ (valsD d is).length _
        rw [HVl.out]
        have := Rd.of_owns HG.out.lr
        rw [HJl.out] at this
        exact this
end Go.Proofs.YtgpmoimmpbkgfaaGreatDoor

end

section
/- Layer 8: the program's Get. -/
set_option linter.unusedVariables false
set_option maxRecDepth 20000
namespace Go.Proofs.YtgpmoimmpbkgfaaGreatDoor
open Go Go.RowKit

theorem dictval_get_nil (n : Int) (w : World) : Calls Tryz.prog 56 #[.pointer none, .int .i64 n] w fun e w' => (∃ r, e = .returned (.tuple #[r, .int .i64 1])) ∧ Below w.heap.size w w' := by
  go_enter Tryz.func56, Tryz.ntmps56
  go_wp2_with fail
  go_ret2
  exact ⟨⟨_, rfl⟩, Below.refl _ _⟩
theorem dictval_get_neg (p : Nat) (v : Value) (i : Nat) (n : Int) (bs : List Nat) (w : World) (h : ReaderIn w p v i bs) (hn : n < 0) (hm : -9223372036854775808 ≤ n) :
    Calls Tryz.prog 56 #[.pointer (some ⟨p, 0, none⟩), .int .i64 n] w fun e w' => (∃ r, e = .returned (.tuple #[r, .int .i64 2]) ∧ Rd w' 1 r 0 []) ∧ RBitsPost p v i bs w w' := by
  have H := Lib.hid h
  clear h
  go_enter Tryz.func56, Tryz.ntmps56
  go_wp2_with fail
  go_ret2
  exact ⟨⟨_, rfl, Rd.nil _ _⟩, H.out, Mods.refl _ _⟩

theorem RP.qd {p : Nat} {v : Value} {bs : List Nat} {o : Res (List Nat)} {w w' : World} {e : Ending} (h : RP p v bs o.r w w') (hr : ∃ r, e = .returned (.tuple #[r, .int .i64 (o.e : Int)]) ∧ Rd w' 1 r o.x.length (u64s o.x) ∧ (∀ k, r.ownBlock = some k → w.heap.size ≤ k)) : GetQD p v bs w o e w' :=
  ⟨hr, h.1.1, h.2⟩

set_option maxHeartbeats 4000000 in
theorem dictval_get (p : Nat) (v : Value) (n : Nat) (bs : List Nat) (bits : List Bool) (w : World) (h : RIs p v bs bits w) (hn : n ≤ 1000000) :
    Calls Tryz.prog 56 #[.pointer (some ⟨p, 0, none⟩), .int .i64 (n : Int)] w (GetQD p v bs w (decD n bits)) := by
  have H := Lib.hid h
  have hnn : ¬ (n : Int) < 0 := by omega
  have hnb : (n : Int) ≤ 1000000 := by omega
  have HNn := Lib.hid hn
  by_cases h0 : n = 0
  · subst h0
    have HE := Lib.hid (getD_none bits)
    clear h hn
    go_enter Tryz.func56, Tryz.ntmps56
    go_wp2_with fail
    go_ret2
    rw [HE.out]
    exact H.out.start.qd ⟨_, rfl, Rd.nil _ _, fun k e => by cases e⟩
  · have HG := Lib.hid (get_dictionary p v bs bits w h)
    have hnz : ¬ (n : Int) = 0 := by omega
    have hnzb : ((n : Int) == 0) = false := by rw [beq_eq_false_iff_ne]; exact hnz
    have hbig : ¬ (2147483647 : Int) < (n : Int) := by omega
    have H0 := Lib.hid h0
    obtain ⟨o, ho⟩ : ∃ o, decD n bits = o := ⟨_, rfl⟩
    have HO := Lib.hid ho
    rw [ho]
    clear h hn h0 ho
    go_enter Tryz.func56, Tryz.ntmps56
    go_wp2_with fail
    refine HG.out.mono ?_
    rintro e w2 (⟨en, r, hen, hen2, rfl, hD, hP⟩ | ⟨dv, d, r, rfl, hG, hd1, hd2, hD⟩)
    · have HD : Hid (o = ⟨en, [], r⟩) := by show _ = _; rw [← HO.out]; exact hD n H0.out
      have HP := Lib.hid hP
      have hei : ¬ (en : Int) = 0 := by omega
      have heb : ((en : Int) == 0) = false := by rw [beq_eq_false_iff_ne]; exact hei
      have hem : (en : Int) ≤ 100 := by omega
      clear hD hP hen HG hen2
      go_wp2_with fail
      go_ret2
      rw [HD.out]
      exact HP.out.qd ⟨_, rfl, Rd.nil _ _, fun k e => by cases e⟩
    · have HD : Hid (o = decIx d n r) := by show _ = _; rw [← HO.out]; exact hD n H0.out
      have HGs := Lib.hid hG
      obtain ⟨pd, cd, hv⟩ := (Rd.of_owns hG.row).shape
      subst hv
      have HLt : Hid (p < w.heap.size) := H.out.1.blk.lt
      have HV := Lib.hid (get_values p v (.slice pd d.length cd) n bs r d w2 hG.rp.1 (Rd.of_owns hG.row) (fun k hk => by have h1 := (hG.row.lt k hk).1; have h2 := HLt.out; omega) hd1 hd2 HNn.out)
      have hdi : (d.length : Int) ≤ 128 := by omega
      clear hD hG HG hd1 hd2
      generalize decIx d n r = o2 at *
      generalize d.length = N at *
      by_cases hN1 : N = 1
      · subst hN1
        go_wp2_with fail
        refine HV.out.mono ?_
        rintro e w3 ⟨⟨rv, rfl, hR, hRo⟩, hP⟩
        obtain ⟨p3, c3, hv⟩ := hR.shape
        subst hv
        have HR := Lib.hid hR
        have HP := Lib.hid (rp_trans HGs.out.rp hP)
        have HOw : Hid (∀ k, (Value.slice p3 o2.x.length c3).ownBlock = some k → w.heap.size ≤ k) := fun k hk => Nat.le_trans HGs.out.rp.2.size (hRo k hk)
        clear hR hRo hP HV
        go_wp2_with fail
        go_ret2
        rw [HD.out]
        exact HP.out.qd ⟨_, rfl, HR.out, HOw.out⟩
      · have hN1i : ¬ (N : Int) = 1 := by omega
        have hN1b : ((N : Int) == 1) = false := by rw [beq_eq_false_iff_ne]; exact hN1i
        go_wp2_with fail
        refine HV.out.mono ?_
        rintro e w3 ⟨⟨rv, rfl, hR, hRo⟩, hP⟩
        obtain ⟨p3, c3, hv⟩ := hR.shape
        subst hv
        have HR := Lib.hid hR
        have HP := Lib.hid (rp_trans HGs.out.rp hP)
        have HOw : Hid (∀ k, (Value.slice p3 o2.x.length c3).ownBlock = some k → w.heap.size ≤ k) := fun k hk => Nat.le_trans HGs.out.rp.2.size (hRo k hk)
        clear hR hRo hP HV
        go_wp2_with fail
        go_ret2
        rw [HD.out]
        exact HP.out.qd ⟨_, rfl, HR.out, HOw.out⟩
end Go.Proofs.YtgpmoimmpbkgfaaGreatDoor

end
