/- Layer 14: the program's Intersect and Union: halves are combined. -/
import Derived.Test.YtdhcfgbnjnidfaaLsC
import Derived.Test.YtdhcfgbnjnidfaaRdLL
import Derived.Test.YtdhcfgbnjnidfaaFrom
import Derived.Test.YtdhcfgbnjnidfaaTakeH
import Derived.Test.YtdhcfgbnjnidfaaLarge14
set_option linter.unusedVariables false
set_option maxRecDepth 20000
namespace Go.Proofs.Ytdhcfgbnjnidfaa
open Go Go.RowKit

theorem RdLL.upto {w : World} {p : Option Addr} {n c : Nat} {m : List (List Int)} (k : RdLL w (.slice p n c) m) (hn : n = m.length) (i : Nat) (hi : i ≤ m.length) : RdLL w (.slice p i c) (m.take i) := by
  obtain ⟨hs, h1, h2, h3⟩ := k.ex
  subst hn
  rw [h2] at h1
  have h := h1.upto i hi
  rw [Nat.mul_one] at h
  have hl : (hs.take i).length = i := by rw [List.length_take]; omega
  refine ⟨hs.take i, by rw [hl]; exact h, by rw [hl, List.length_take]; omega, fun j g l hg hl => ?_⟩
  rw [List.getElem?_take] at hg hl
  split at hg
  · next hj => rw [if_pos hj] at hl; exact h3 j g l hg hl
  · cases hg
theorem RdLL.from {w : World} {p : Option Addr} {n c : Nat} {m : List (List Int)} (k : RdLL w (.slice p n c) m) (hn : n = m.length) (i : Nat) (hi : i ≤ m.length) : RdLL w (sliced p i n c 1) (m.drop i) := by
  obtain ⟨hs, h1, h2, h3⟩ := k.ex
  subst hn
  rw [h2] at h1
  have h := h1.from i hi
  rw [Nat.mul_one] at h
  have hl : (hs.drop i).length = m.length - i := by rw [List.length_drop]; omega
  refine ⟨hs.drop i, by rw [hl]; exact h, by rw [hl, List.length_drop], fun j g l hg hl => ?_⟩
  rw [List.getElem?_drop] at hg hl
  exact h3 _ g l hg hl
theorem RdLL.cap {w : World} {p : Option Addr} {n c : Nat} {m : List (List Int)} (k : RdLL w (.slice p n c) m) : n ≤ c := by
  obtain ⟨hs, h1, _, _⟩ := k.ex
  obtain ⟨_, _, e, _, h2, _⟩ := h1
  simp only [Value.slice.injEq] at e
  obtain ⟨_, rfl, rfl⟩ := e
  exact h2
theorem OwnI.later {w w1 w2 : World} {d : List Int} {v : Value} (hb : Below w.heap.size w w1) (h : OwnI w1 w2 d v) : OwnI w w2 d v :=
  ⟨owns_rebase h.row (fun k hk => by have h1 := (h.row.lt k hk).1; have h2 := hb.size; omega), hb.trans (h.bel.mono hb.size)⟩

set_option maxHeartbeats 4000000 in
theorem combine_any (O : Int) (hO : O = 4 ∨ O = 7) : ∀ (N : Nat) (mv : Value) (m : List (List Int)) (w : World), m.length ≤ N → RdLL w mv m → (∀ l ∈ m, AscB ltI l) → m.flatten.length ≤ 1000 →
    Calls Try.prog 25 #[mv, .int .i64 O] w fun e w' => ∃ v, e = .returned v ∧ OwnI w w' (cmbZ O m) v := by
  intro N
  induction N using Nat.strongRecOn with
  | _ N ih =>
  intro mv m w hN hm ha hf
  have HM := Lib.hid hm; have HA := Lib.hid ha; have HF := Lib.hid hf
  obtain ⟨p, c, hv⟩ := hm.shape
  subst hv
  have HCap := Lib.hid hm.cap
  have hcase : m = [] ∨ (∃ a, m = [a]) ∨ 2 ≤ m.length := by
    match m with
    | [] => exact Or.inl rfl
    | [a] => exact Or.inr (Or.inl ⟨a, rfl⟩)
    | _ :: _ :: r => exact Or.inr (Or.inr (by simp))
  clear hm ha hf
  rcases hcase with hmm | ⟨a, hmm⟩ | h2
  · subst hmm
    have HE := Lib.hid (cmbZ_nil O)
    rw [HE.out]
    clear HM HA HF hN ih HCap
    simp only [List.length_nil]
    go_enter Try.func25, Try.ntmps25
    go_wp2_with fail
    go_ret
    exact ⟨_, rfl, Own1.nil w⟩
  · subst hmm
    have HE := Lib.hid (cmbZ_one O (HA.out a (by simp)))
    rw [HE.out]
    have HLa : Hid (a.length ≤ 17592186044416) := by show _ ≤ _; have := HF.out; simp at this; omega
    obtain ⟨blk, off, pa, ca, e, hal⟩ := HM.out.always (i := 0) (l := a) rfl
    subst e
    obtain ⟨c0', hR⟩ := hal w (Below.refl _ _)
    have c0 : w.cell? ⟨blk, off, none⟩ = some (.slice pa a.length ca) := c0'
    clear c0'
    have HC := Lib.hid (clone_int _ a w hR HLa.out)
    clear HM HA HF hN ih HCap hal hR
    simp only [List.length_cons, List.length_nil, Nat.zero_add]
    go_enter Try.func25, Try.ntmps25
    go_wp2_with fail
    refine HC.out.mono ?_
    rintro e w1 ⟨r, rfl, hO, hB⟩
    have HO1 : Hid (OwnI w w1 a r) := ⟨hO, hB⟩
    clear hO hB HC
    go_wp2_with fail
    go_ret
    exact ⟨_, rfl, HO1.out⟩
  · obtain ⟨k, hk⟩ : ∃ k, m.length / 2 = k := ⟨_, rfl⟩
    have hk1 : 1 ≤ k ∧ k < m.length := by omega
    have HK := Lib.hid hk1
    have HS := Lib.hid (cmbZ_split hO (m := m.take k) (k := m.drop k) (fun e => by have := congrArg List.length e; rw [List.length_take, List.length_nil] at this; omega) (fun e => by have := congrArg List.length e; rw [List.length_drop, List.length_nil] at this; omega) (by rw [List.take_append_drop]; exact HA.out))
    rw [List.take_append_drop] at HS
    have HFl : Hid ((m.take k).flatten.length ≤ 1000 ∧ (m.drop k).flatten.length ≤ 1000) := by
      have h := HF.out
      rw [← List.take_append_drop k m, List.flatten_append, List.length_append] at h
      show _ ∧ _
      omega
    have HI1 := Lib.hid (fun w' (hb : Below w.heap.size w w') => ih k (by omega) _ (m.take k) w' (by rw [List.length_take]; omega) ((HM.out.upto rfl k (by omega)).below hb) (fun l hl => HA.out l (List.mem_of_mem_take hl)) HFl.out.1)
    have hRf := HM.out.from rfl k (by omega)
    obtain ⟨pf, cf, hsl⟩ := hRf.shape
    have HI2 := Lib.hid (fun w' (hb : Below w.heap.size w w') => ih (m.length - k) (by omega) _ (m.drop k) w' (by rw [List.length_drop]; omega) (hRf.below hb) (fun l hl => HA.out l (List.mem_of_mem_drop hl)) HFl.out.2)
    rw [hsl] at HI2
    obtain ⟨ld, hld⟩ : ∃ ld, (m.drop k).length = ld := ⟨_, rfl⟩
    rw [hld] at HI2 hsl
    clear hld
    have HSl := Lib.hid hsl
    have HZ1 := Lib.hid (cmbZ_len O (m.take k)); have HZ2 := Lib.hid (cmbZ_len O (m.drop k))
    have hkq : ((m.length : Nat) : Int).tdiv 2 = (k : Int) := by rw [Int.tdiv_eq_ediv_of_nonneg (by omega)]; omega
    have hmx : (m.length : Int) ≤ 9223372036854775807 := by have := HM.out.le; unfold maxLen at this; omega
    have hwk : wrap64 (k : Int) = (k : Int) := by unfold RowKit.wrap64; omega
    have hne0 : ((m.length : Int) == 0) = false := by rw [beq_eq_false_iff_ne]; omega
    have hne1 : ((m.length : Int) == 1) = false := by rw [beq_eq_false_iff_ne]; omega
    have hO' := hO
    clear hRf hsl HM HA HF hN ih hO
    go_enter Try.func25, Try.ntmps25
    go_wp2_with fail
    have HD : Hid (Below w.heap.size w w.drew) := ⟨rfl, rfl, rfl, Nat.le_refl _, fun _ _ => rfl⟩
    refine wp_region_take [4, 9, 11] [0, 1, 2, 3, 5, 6, 7, 8, 10, 4, 9, 11, 12] (by kernel_rfl) (by kernel_rfl) (by kernel_rfl) ?_ ?_
    · intro c a a' w hd h
      exact ⟨hd ▸ h.1, h.2⟩
    simp only [taken, List.map_cons, List.map_nil, List.getElem?_cons_succ, List.getElem?_cons_zero, Option.getD_some]
    repeat (first
        | (refine take_skip rfl ?_; simp only [Act.put, List.setIfInBounds_toArray, List.set_cons_succ, List.set_cons_zero])
        | (refine take_blind rfl rfl ?_; apply Exists.intro; refine ⟨fun w => ?_, ?_⟩; (go_simp; try with_reducible rfl); simp only [Act.put, List.setIfInBounds_toArray, List.set_cons_succ, List.set_cons_zero]))
    refine take_blind rfl rfl ⟨_, fun w' => exec_upto elemLL14 w' p m.length c k (Nat.le_of_lt HK.out.2) HCap.out _ _ rfl rfl rfl, ?_⟩
    simp only [Act.put, List.setIfInBounds_toArray, List.set_cons_succ, List.set_cons_zero]
    repeat (first
        | (refine take_skip rfl ?_; simp only [Act.put, List.setIfInBounds_toArray, List.set_cons_succ, List.set_cons_zero])
        | (refine take_blind rfl rfl ?_; apply Exists.intro; refine ⟨fun w => ?_, ?_⟩; (go_simp; try with_reducible rfl); simp only [Act.put, List.setIfInBounds_toArray, List.set_cons_succ, List.set_cons_zero]))
    refine take_blind rfl rfl ⟨_, fun w' => (exec_from elemLL14 w' p m.length c k (Nat.le_of_lt HK.out.2) _ _ rfl rfl rfl).trans (by rw [HSl.out]), ?_⟩
    simp only [Act.put, List.setIfInBounds_toArray, List.set_cons_succ, List.set_cons_zero]
    repeat (first
        | (refine take_skip rfl ?_; simp only [Act.put, List.setIfInBounds_toArray, List.set_cons_succ, List.set_cons_zero])
        | (refine take_blind rfl rfl ?_; apply Exists.intro; refine ⟨fun w => ?_, ?_⟩; (go_simp; try with_reducible rfl); simp only [Act.put, List.setIfInBounds_toArray, List.set_cons_succ, List.set_cons_zero]))
    refine take_call rfl rfl (fun K hK => ?_)
    go_wp2_with fail
    refine (HI1.out _ HD.out).mono ?_
    rintro e w1 ⟨v1, rfl, hO⟩
    obtain ⟨p1, c1, hv1⟩ := hO.shape
    subst hv1
    have HB1 : Hid (Below w.heap.size w w1) := HD.out.trans hO.bel
    have HR1 := Lib.hid hO.rd
    have HO1 := Lib.hid hO
    clear hO HI1
    refine hK _ _ ?_
    clear hK K
    repeat (first
        | (refine take_skip rfl ?_; simp only [Act.put, List.setIfInBounds_toArray, List.set_cons_succ, List.set_cons_zero])
        | (refine take_blind rfl rfl ?_; apply Exists.intro; refine ⟨fun w => ?_, ?_⟩; (go_simp; try with_reducible rfl); simp only [Act.put, List.setIfInBounds_toArray, List.set_cons_succ, List.set_cons_zero]))
    refine take_call rfl rfl (fun K hK => ?_)
    go_wp2_with fail
    refine (HI2.out _ HB1.out).mono ?_
    rintro e w2 ⟨v2, rfl, hO⟩
    obtain ⟨p2, c2, hv2⟩ := hO.shape
    subst hv2
    have HB2 : Hid (Below w.heap.size w w2) := HB1.out.trans (hO.bel.mono HB1.out.size)
    have HC := Lib.hid (choose_any _ _ _ _ O (Or.inr hO') w2 (HR1.out.below hO.bel) hO.rd (by have := HZ1.out; have := HZ2.out; have := HFl.out; omega))
    rw [HS.out] at HC
    clear hO HI2 HB1 HO1 HR1
    refine hK _ _ ?_
    clear hK K
    repeat (first
        | (refine take_skip rfl ?_; simp only [Act.put, List.setIfInBounds_toArray, List.set_cons_succ, List.set_cons_zero])
        | (refine take_blind rfl rfl ?_; apply Exists.intro; refine ⟨fun w => ?_, ?_⟩; (go_simp; try with_reducible rfl); simp only [Act.put, List.setIfInBounds_toArray, List.set_cons_succ, List.set_cons_zero]))
    refine take_call rfl rfl (fun K hK => ?_)
    go_wp2_with fail
    refine HC.out.mono ?_
    rintro e w3 ⟨v3, rfl, hO⟩
    have HO3 := Lib.hid (OwnI.later HB2.out hO)
    clear hO HC
    refine hK _ _ ?_
    clear hK K
    repeat (first
        | (refine take_skip rfl ?_; simp only [Act.put, List.setIfInBounds_toArray, List.set_cons_succ, List.set_cons_zero])
        | (refine take_blind rfl rfl ?_; apply Exists.intro; refine ⟨fun w => ?_, ?_⟩; (go_simp; try with_reducible rfl); simp only [Act.put, List.setIfInBounds_toArray, List.set_cons_succ, List.set_cons_zero]))
    refine take_nil ?_
    go_wp2_with fail
    go_ret
    exact ⟨_, rfl, HO3.out⟩

theorem lists_inter (mv : Value) (m : List (List Int)) (w : World) (hm : RdLL w mv m) (ha : ∀ l ∈ m, AscB ltI l) (hf : m.flatten.length ≤ 1000) :
    Calls Try.prog 14 #[mv] w fun e w' => ∃ v, e = .returned v ∧ OwnI w w' (interZ m) v := by
  have HC := Lib.hid (combine_any 4 (Or.inl rfl) _ mv m w (Nat.le_refl _) hm ha hf)
  have HE : Hid (cmbZ 4 m = interZ m) := by show _ = _; unfold cmbZ; rw [if_pos rfl]
  rw [HE.out] at HC
  clear hm ha hf HE
  go_enter Try.func14, Try.ntmps14
  go_wp2_with fail
  refine HC.out.mono ?_
  rintro e w1 ⟨v, rfl, hO⟩
  have HO := Lib.hid hO
  clear hO HC
  go_wp2_with fail
  go_ret
  exact ⟨_, rfl, HO.out⟩

theorem lists_union (mv : Value) (m : List (List Int)) (w : World) (hm : RdLL w mv m) (ha : ∀ l ∈ m, AscB ltI l) (hf : m.flatten.length ≤ 1000) :
    Calls Try.prog 16 #[mv] w fun e w' => ∃ v, e = .returned v ∧ OwnI w w' (unionZ m) v := by
  have HC := Lib.hid (combine_any 7 (Or.inr rfl) _ mv m w (Nat.le_refl _) hm ha hf)
  have HE : Hid (cmbZ 7 m = unionZ m) := by show _ = _; unfold cmbZ; rw [if_neg (by omega)]
  rw [HE.out] at HC
  clear hm ha hf HE
  go_enter Try.func16, Try.ntmps16
  go_wp2_with fail
  refine HC.out.mono ?_
  rintro e w1 ⟨v, rfl, hO⟩
  have HO := Lib.hid hO
  clear hO HC
  go_wp2_with fail
  go_ret
  exact ⟨_, rfl, HO.out⟩
end Go.Proofs.Ytdhcfgbnjnidfaa
