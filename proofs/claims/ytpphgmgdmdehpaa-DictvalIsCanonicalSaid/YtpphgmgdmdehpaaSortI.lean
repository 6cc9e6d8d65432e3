/- slices.Sort of words: breakPatternsOrdered. -/
import Derived.Test.YtpphgmgdmdehpaaSortH
set_option linter.unusedVariables false
set_option maxRecDepth 20000
namespace Go.Proofs.Ytpphgmgdmdehpaa
open Go Go.RowKit

set_option maxHeartbeats 8000000 in
theorem break_u64 (g n c a b : Nat) (d : Array Nat) (w : World) (h : SU w w g n c d) (hab : a + 12 < b) (hb : b ≤ n) (hn : n < 4611686018427387904) (hg : g < w.heap.size) :
    Calls Try.prog 61 #[.slice (some ⟨g, 0, none⟩) n c, .int .i64 (a : Int), .int .i64 (b : Int)] w fun e w' => e = .returned (.tuple #[]) ∧ ∃ d', SU w w' g n c d' ∧ Sort.PermIn a b d d' := by
  have HS := Lib.hid h
  clear h
  obtain ⟨m, hm0⟩ : ∃ m, b - a = m := ⟨_, rfl⟩
  have hsub : (b : Int) - (a : Int) = (m : Int) := by omega
  obtain ⟨t, ht⟩ : ∃ t, m / 4 = t := ⟨_, rfl⟩
  have HDV : Hid ((m : Int) / 4 = (t : Int)) := by show _ = _; omega
  have h12 : (8 : Int) ≤ (m : Int) := by omega
  have HI : Hid (12 < m ∧ a + m ≤ n ∧ b = a + m ∧ 4 * t ≤ m ∧ m < 4 * t + 4) := by show _ ∧ _ ∧ _ ∧ _ ∧ _; omega
  have hmn : (m : Int) ≤ 4611686018427387904 := by omega
  have han : (a : Int) ≤ 4611686018427387904 := by omega
  have htn : (t : Int) ≤ 4611686018427387904 := by omega
  have hbl : Below w.heap.size w (w.alloc (.cells #[.int .u64 (m : Int)] 103)) := (Below.refl _ _).alloc (Nat.le_refl _) _
  have HX0 : Hid (SU w (w.alloc (.cells #[.int .u64 (m : Int)] 103)) g n c d) := ⟨HS.out.sz, (Mods.of_below hbl (fun _ => False)).owns HS.out.row (fun _ _ e => e), Mods.of_below hbl _⟩
  have HB0 : Hid (Blk (w.alloc (.cells #[.int .u64 (m : Int)] 103)) w.heap.size [.int .u64 (m : Int)]) := Blk.new _ _ _
  clear hm0 ht hab hbl
  go_enter Try.func61, Try.ntmps61
  go_wp2_with fail
  generalize w.alloc (.cells #[.int .u64 (m : Int)] 103) = w0 at *
  refine (next_pow m (by have := HI.out; omega) (by have := HI.out; omega) w0).mono ?_
  rintro e w1 ⟨rfl, rfl⟩
  have HBL := Lib.hid (bitLen_pow m (by have := HI.out; omega) (by have := HI.out; omega))
  generalize Lib.bitLen m = L at *
  go_wp2_with fail
  go_loopw [9] (fun iv wr => ∃ (i : Nat) (x : Array Nat) (r : Nat), a ≤ i ∧ i ≤ a + t * 2 + 2 ∧ iv = .int .i64 (i : Int) ∧ Hid (SU w wr g n c x) ∧ Hid (Sort.PermIn a b d x) ∧ Hid (Blk wr w.heap.size [.int .u64 (r : Int)])) (fun iv _ => a + t * 2 + 2 - (intOf iv).toNat)
  case atStart => exact ⟨a + t * 2 - 1, d, m, by have := HI.out; omega, by omega, by rw [HDV.out]; have := HI.out; go_num, HX0.out, Sort.permIn_refl _ _ _, HB0.out⟩
  case round =>
    obtain ⟨i, x, r, hai, hit, rfl, HX, HP, HB⟩ := hrel
    clear HX0 HB0
    by_cases hle : i ≤ a + t * 2 + 1
    · have hlei : (i : Int) ≤ (a : Int) + (m : Int) / 4 * 2 + 1 := by rw [HDV.out]; omega
      go_wp2_with fail
      refine (xor_next w.heap.size r wr HB.out).mono ?_
      rintro e w2 ⟨r2, rfl, hr2, hb2, hm2⟩
      have HB2 := Lib.hid hb2
      have HQ : Hid (w.heap.size ≠ g) := by show _ ≠ _; omega
      have HX2 : Hid (SU w w2 g n c x) := ⟨HX.out.sz, hm2.owns HX.out.row (fun k hk e => by simp [Value.ownBlock] at hk; omega), HX.out.mods.trans hm2 (fun k hk e => by omega)⟩
      have hmask := mask_u64' r2 L hr2 HBL.out.2.2
      obtain ⟨o, ho⟩ : ∃ o, r2 % 2 ^ L = o := ⟨_, rfl⟩
      have hol : o < 2 ^ L := by rw [← ho]; exact Nat.mod_lt _ (Nat.two_pow_pos _)
      have hom : o < 2 * m := by have := HBL.out.2.1; omega
      rw [ho] at hmask
      have hoi : (o : Int) ≤ 9223372036854775807 := by have := HI.out; omega
      clear ho hol hb2 hm2 HB HX
      by_cases hge : m ≤ o
      · obtain ⟨o2, rfl⟩ : ∃ o2, o = m + o2 := ⟨o - m, by omega⟩
        have hgei : (m : Int) ≤ ((m + o2 : Nat) : Int) := by omega
        have ho2 : o2 < m := by omega
        have hsub2 : (m : Int) + (o2 : Int) - (m : Int) = (o2 : Int) := by omega
        by_cases hij : i = a + o2
        · subst hij
          have hci := HX2.out.cell (i := a + o2) (by have := HI.out; omega)
          have hfi := HX2.out.free (a + o2)
          have hin : (a : Int) + (o2 : Int) < (n : Int) := by have := HI.out; omega
          have HS2 := Lib.hid (HX2.out.swp (i := a + o2) (j := a + o2) (by have := HI.out; omega) (by have := HI.out; omega))
          have HP2 : Hid (Sort.PermIn a b d (Sort.swp x (a + o2) (a + o2))) := Sort.permIn_trans _ _ _ _ _ HP.out (Sort.swp_permIn x a b _ _ (by omega) (by have := HI.out; omega) (by omega) (by have := HI.out; omega) (by rw [HX2.out.sz]; exact hb))
          generalize x[a + o2]! = p at *
          go_wp2_with fail
          go_big_region
          have HB3 := Lib.hid ((((HB2.out.set_other (a := ⟨g, a + o2, none⟩) HQ.out (.int .u64 (p : Int))).set_other (a := ⟨g, a + o2, none⟩) HQ.out (.int .u64 (p : Int)))).drew)
          go_wp2_with fail
          go_round
          case rel => exact ⟨a + o2 + 1, _, r2, by omega, by omega, by go_num, HS2.out, HP2.out, HB3.out⟩
          case measure => simp [intOf] <;> omega
        · have hci := HX2.out.cell (i := i) (by have := HI.out; omega)
          have hfi := HX2.out.free i
          have hcj := HX2.out.cell (i := a + o2) (by have := HI.out; omega)
          have hfj := HX2.out.free (a + o2)
          have hin : (i : Int) < (n : Int) := by have := HI.out; omega
          have hjn : (a : Int) + (o2 : Int) < (n : Int) := by have := HI.out; omega
          have HS2 := Lib.hid (HX2.out.swp (i := i) (j := a + o2) (by have := HI.out; omega) (by have := HI.out; omega))
          have HP2 : Hid (Sort.PermIn a b d (Sort.swp x i (a + o2))) := Sort.permIn_trans _ _ _ _ _ HP.out (Sort.swp_permIn x a b _ _ hai (by have := HI.out; omega) (by omega) (by have := HI.out; omega) (by rw [HX2.out.sz]; exact hb))
          generalize Sort.swp x i (a + o2) = y at *
          generalize x[i]! = p at *
          generalize x[a + o2]! = q at *
          go_wp2_with fail
          go_big_region
          have HB3 := Lib.hid ((((HB2.out.set_other (a := ⟨g, i, none⟩) HQ.out (.int .u64 (q : Int))).set_other (a := ⟨g, a + o2, none⟩) HQ.out (.int .u64 (p : Int)))).drew)
          go_wp2_with fail
          go_round
          case rel => exact ⟨i + 1, _, r2, by omega, by omega, by go_num, HS2.out, HP2.out, HB3.out⟩
          case measure => simp [intOf] <;> omega
      · have hgei : ¬ (m : Int) ≤ (o : Int) := by omega
        have ho2 : o < m := by omega
        by_cases hij : i = a + o
        · subst hij
          have hci := HX2.out.cell (i := a + o) (by have := HI.out; omega)
          have hfi := HX2.out.free (a + o)
          have hin : (a : Int) + (o : Int) < (n : Int) := by have := HI.out; omega
          have HS2 := Lib.hid (HX2.out.swp (i := a + o) (j := a + o) (by have := HI.out; omega) (by have := HI.out; omega))
          have HP2 : Hid (Sort.PermIn a b d (Sort.swp x (a + o) (a + o))) := Sort.permIn_trans _ _ _ _ _ HP.out (Sort.swp_permIn x a b _ _ (by omega) (by have := HI.out; omega) (by omega) (by have := HI.out; omega) (by rw [HX2.out.sz]; exact hb))
          generalize x[a + o]! = p at *
          go_wp2_with fail
          go_big_region
          have HB3 := Lib.hid ((((HB2.out.set_other (a := ⟨g, a + o, none⟩) HQ.out (.int .u64 (p : Int))).set_other (a := ⟨g, a + o, none⟩) HQ.out (.int .u64 (p : Int)))).drew)
          go_wp2_with fail
          go_round
          case rel => exact ⟨a + o + 1, _, r2, by omega, by omega, by go_num, HS2.out, HP2.out, HB3.out⟩
          case measure => simp [intOf] <;> omega
        · have hci := HX2.out.cell (i := i) (by have := HI.out; omega)
          have hfi := HX2.out.free i
          have hcj := HX2.out.cell (i := a + o) (by have := HI.out; omega)
          have hfj := HX2.out.free (a + o)
          have hin : (i : Int) < (n : Int) := by have := HI.out; omega
          have hjn : (a : Int) + (o : Int) < (n : Int) := by have := HI.out; omega
          have HS2 := Lib.hid (HX2.out.swp (i := i) (j := a + o) (by have := HI.out; omega) (by have := HI.out; omega))
          have HP2 : Hid (Sort.PermIn a b d (Sort.swp x i (a + o))) := Sort.permIn_trans _ _ _ _ _ HP.out (Sort.swp_permIn x a b _ _ hai (by have := HI.out; omega) (by omega) (by have := HI.out; omega) (by rw [HX2.out.sz]; exact hb))
          generalize Sort.swp x i (a + o) = y at *
          generalize x[i]! = p at *
          generalize x[a + o]! = q at *
          go_wp2_with fail
          go_big_region
          have HB3 := Lib.hid ((((HB2.out.set_other (a := ⟨g, i, none⟩) HQ.out (.int .u64 (q : Int))).set_other (a := ⟨g, a + o, none⟩) HQ.out (.int .u64 (p : Int)))).drew)
          go_wp2_with fail
          go_round
          case rel => exact ⟨i + 1, _, r2, by omega, by omega, by go_num, HS2.out, HP2.out, HB3.out⟩
          case measure => simp [intOf] <;> omega
    · have hlei : ¬ (i : Int) ≤ (a : Int) + (m : Int) / 4 * 2 + 1 := by rw [HDV.out]; omega
      go_wp2_with fail
      go_end0
      exact ⟨rfl, x, HX.out, HP.out⟩
end Go.Proofs.Ytpphgmgdmdehpaa
