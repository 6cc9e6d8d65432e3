/- Layer 2: VarintIsCanonical, walked. -/
import Derived.Test.YtejaacejlbhndaaAlive02
import Derived.Test.YtejaacejlbhndaaGroupsB
import Derived.Test.YtejaacejlbhndaaTake
set_option linter.unusedVariables false
namespace Go.Proofs.Ytejaacejlbhndaa.varintIsCanonical
open Go Go.RowKit

set_option maxHeartbeats 1000000 in
theorem walk (w : World) (v : Value) (l : List Nat) (ok : ∀ a ∈ l, a < 256) (hl : Rd w 1 v l.length (u8s l)) (hz : l.length * 1 ≤ 140737488351232) (a : Nat) (ha : a < 256) :
    Calls Try.prog 7 #[v, .int .u8 a] w fun e w' => e = .returned (.bool true) ∧ Below w.heap.size w w' := by
  have HL := Lib.hid hl
  have HK := Lib.hid ok
  obtain ⟨q, c, hv⟩ := hl.shape
  subst hv
  have hnc : l.length ≤ c := by obtain ⟨_, _, e, _, h, _⟩ := hl; cases e; exact h
  clear hl ok
  by_cases hlt : 5000 < l.length
  · have hlt' : (5000 : Int) < (l.length : Int) := by omega
    go_enter Try.func7, Try.ntmps7
    go_wp2_with fail
    refine (alive_any _).mono ?_
    rintro e w1 ⟨rfl, hB⟩
    go_wp2_with fail
    go_ret
    exact ⟨rfl, hB⟩
  · have hlt' : ¬ (5000 : Int) < (l.length : Int) := by omega
    obtain ⟨i, hi⟩ : ∃ i, a % (l.length + 1) = i := ⟨_, rfl⟩
    have hil : i ≤ l.length := by have := Nat.mod_lt a (show 0 < l.length + 1 by omega); omega
    have HI : Hid ((a : Int) % ((l.length : Int) + 1) = (i : Int)) := by show _ = _; rw [← hi]; simp
    have hcs := readAt_cases HK.out hil
    clear hi
    go_enter Try.func7, Try.ntmps7
    go_wp2_with fail
    rw [HI.out]
    refine (get_any _ l i _ HL.out HK.out).mono ?_
    rintro e w1 ⟨rfl, rfl⟩
    rcases hcs with ⟨e, he, hr⟩ | ⟨x, n, hr, hn, hin, hg, hx⟩
    · rw [hr]
      have he' : ¬ (e : Int) = 0 := by omega
      clear hr
      go_wp2_with fail
      refine (alive_any _).mono ?_
      rintro e w2 ⟨rfl, hB⟩
      go_wp2_with fail
      go_ret
      exact ⟨rfl, hB⟩
    · have hlen := groups_ten hx
      obtain ⟨N, hN⟩ : ∃ N, i + n = N := ⟨_, rfl⟩
      rw [hN] at hr hin hg
      rw [hr]
      have hiN : i < N := by omega
      clear hr hN hn n
      obtain ⟨b, off, c', e, _, _, _⟩ := HL.out.at (fun e => by have := congrArg List.length e; rw [u8s_length] at this; simp at this; subst this; simp at hin; omega)
      simp only [Value.slice.injEq] at e
      obtain ⟨rfl, _, rfl⟩ := e
      have hci : ¬ c = i := by omega
      have hiN' : (i : Int) < (N : Int) := by omega
      have hNl' : (N : Int) ≤ (l.length : Int) := by omega
      have hil' : (i : Int) ≤ (l.length : Int) := by omega
      have HG := Lib.hid hg
      have HS : ∀ (w' : World), Rd w' 1 (.slice (some ⟨b, off, none⟩) l.length c) l.length (u8s l) → Rd w' 1 (.slice (some ⟨b, off + i, none⟩) (N - i) (c - i)) (N - i) (u8s (groups x)) := fun w' h => by
        have h2 := h.fromTo i N (by omega) hin
        unfold sliced at h2
        rw [if_neg hci] at h2
        have e1 : ((u8s l).take (N * 1)).drop (i * 1) = u8s (groups x) := by
          rw [← hg, Nat.mul_one, Nat.mul_one]; simp [u8s, List.map_take, List.map_drop]
        rw [e1] at h2
        have e2 : (some ⟨b, off, none⟩ : Option Addr).map (·.add (i * 1)) = some ⟨b, off + i, none⟩ := by
          rw [Nat.mul_one]
          unfold Addr.add
          split
          · next h0 => simp [h0]
          · rfl
        rwa [e2] at h2
      have HS := Lib.hid HS
      clear hg
      go_wp2_with fail
      refine wp_region_take [0, 14, 24] [0, 1, 2, 3, 4, 5, 6, 7, 8, 9, 10, 11, 12, 13, 15, 16, 17, 18, 19, 20, 21, 22, 23, 14, 24, 25, 26] (by kernel_rfl) (by kernel_rfl) (by kernel_rfl) ?_ ?_
      · intro c a a' w hd h
        exact ⟨hd ▸ h.1, h.2⟩
      simp only [taken, List.map_cons, List.map_nil, List.getElem?_cons_succ, List.getElem?_cons_zero, Option.getD_some]
      refine take_call rfl rfl (fun K hK => ?_)
      go_wp2_with fail
      refine (alive_any _).mono ?_
      rintro e w2 ⟨rfl, hB⟩
      have hNi : (N < i) = False := eq_false (by omega)
      have hlN : (l.length < N) = False := eq_false (by omega)
      have hiN2 : (i ≤ N) = True := eq_true (by omega)
      have hNc : (N ≤ c) = True := eq_true (by omega)
      refine hK _ _ ?_
      clear hK K
      repeat (first
        | (refine take_skip rfl ?_; simp only [Act.put, List.setIfInBounds_toArray, List.set_cons_succ, List.set_cons_zero])
        | (refine take_blind rfl rfl ?_; apply Exists.intro; refine ⟨fun w => ?_, ?_⟩; (go_simp; try with_reducible rfl); simp only [Act.put, List.setIfInBounds_toArray, List.set_cons_succ, List.set_cons_zero]))
      have hB : Below w.heap.size w w2 := ⟨hB.os, hB.tape, hB.output, hB.size, hB.block⟩
      have HB2 := Lib.hid hB
      have HS2 := Lib.hid (HS.out _ (HL.out.below hB))
      clear hB hNi hlN hiN2 hNc
      refine take_call rfl rfl (fun K hK => ?_)
      go_wp2_with fail
      refine (ref_encode x hx _).mono ?_
      rintro e w3 ⟨r, rfl, hM⟩
      obtain ⟨rp, rc, hr⟩ := (Rd.of_owns hM.1).shape
      subst hr
      have HB3 := Lib.hid (HB2.out.trans (hM.2.mono HB2.out.size))
      have HS3 := Lib.hid (HS2.out.below hM.2)
      have HR3 := Lib.hid (Rd.of_owns hM.1)
      clear hM
      refine hK _ _ ?_
      clear hK K
      repeat (first
        | (refine take_skip rfl ?_; simp only [Act.put, List.setIfInBounds_toArray, List.set_cons_succ, List.set_cons_zero])
        | (refine take_blind rfl rfl ?_; apply Exists.intro; refine ⟨fun w => ?_, ?_⟩; (go_simp; try with_reducible rfl); simp only [Act.put, List.setIfInBounds_toArray, List.set_cons_succ, List.set_cons_zero]))
      refine take_call rfl rfl (fun K hK => ?_)
      go_wp2_with fail
      refine (equal_any _ _ _ _ _ _ _ HR3.out HS3.out (groups_lt x) (groups_lt x)).mono ?_
      rintro e w4 ⟨rfl, rfl⟩
      rw [decide_eq_true rfl]
      refine hK _ _ ?_
      clear hK K
      repeat (first
        | (refine take_skip rfl ?_; simp only [Act.put, List.setIfInBounds_toArray, List.set_cons_succ, List.set_cons_zero])
        | (refine take_blind rfl rfl ?_; apply Exists.intro; refine ⟨fun w => ?_, ?_⟩; (go_simp; try with_reducible rfl); simp only [Act.put, List.setIfInBounds_toArray, List.set_cons_succ, List.set_cons_zero]))
      refine take_nil ?_
      go_wp2_with fail
      go_ret
      exact ⟨rfl, HB3.out⟩
end Go.Proofs.Ytejaacejlbhndaa.varintIsCanonical
