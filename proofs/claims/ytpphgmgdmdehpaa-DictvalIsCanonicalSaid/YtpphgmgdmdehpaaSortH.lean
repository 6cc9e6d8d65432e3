/- slices.Sort of words: nextPowerOfTwo, xorshift.Next, breakPatternsOrdered. -/
import Derived.Test.YtpphgmgdmdehpaaSortA
import Derived.Test.YtpphgmgdmdehpaaBitsLen
import Derived.Test.YtpphgmgdmdehpaaBitsB
import Derived.Lib.BitFns
set_option linter.unusedVariables false
set_option maxRecDepth 20000
namespace Go.Proofs.Ytpphgmgdmdehpaa
open Go Go.RowKit

theorem bits_u64_nat (op : BinOp) (x y : Int) : ∃ t : Nat, bits op .u64 x y = (t : Int) ∧ t < 18446744073709551616 := by
  unfold bits
  simp only [IntKind.wrap_u64]
  generalize ((match op with
    | .and => BitVec.ofInt IntKind.u64.bits x &&& BitVec.ofInt IntKind.u64.bits y
    | .or => BitVec.ofInt IntKind.u64.bits x ||| BitVec.ofInt IntKind.u64.bits y
    | .xor => BitVec.ofInt IntKind.u64.bits x ^^^ BitVec.ofInt IntKind.u64.bits y
    | _ => BitVec.ofInt IntKind.u64.bits x &&& ~~~BitVec.ofInt IntKind.u64.bits y : BitVec IntKind.u64.bits)).toNat = z
  exact ⟨z % 18446744073709551616, by omega, Nat.mod_lt _ (by decide)⟩
/-- How many bits a number has. -/
theorem bitLen_pow (n : Nat) (h0 : 0 < n) (hn : n < 4611686018427387904) : n < 2 ^ Lib.bitLen n ∧ 2 ^ Lib.bitLen n ≤ 2 * n ∧ Lib.bitLen n < 64 := by
  have h1 : 2 ^ n.log2 ≤ n := Nat.log2_self_le (by omega)
  have h2 : n < 2 ^ (n.log2 + 1) := Nat.lt_log2_self
  have hb : Lib.bitLen n = n.log2 + 1 := by
    rw [Lib.bitLen_shift n.log2 n h1 (by omega)]
    have e : n / 2 ^ n.log2 = 1 := by
      have hp := Nat.two_pow_pos n.log2
      rw [Nat.pow_succ] at h2
      exact Nat.div_eq_of_lt_le (by omega) (by omega)
    rw [e]; rfl
  have h3 : Lib.bitLen n ≤ 62 := Lib.bitLen_le n 62 (by omega) (by omega)
  rw [hb] at h3 ⊢
  refine ⟨h2, ?_, by omega⟩
  rw [Nat.pow_succ]; omega

set_option maxHeartbeats 4000000 in
theorem next_pow (n : Nat) (h0 : 0 < n) (hn : n < 4611686018427387904) (w : World) : Calls Try.prog 70 #[.int .i64 (n : Int)] w fun e w' => e = .returned (.int .u64 (IntKind.u64.wrap (2 ^ Lib.bitLen n))) ∧ w' = w := by
  go_enter Try.func70, Try.ntmps70
  go_wp2_with fail
  refine (bits_len n (by omega) w).mono ?_
  rintro e w1 ⟨rfl, rfl⟩
  have hm : min (Lib.bitLen n) 64 = Lib.bitLen n := by have := (bitLen_pow n h0 hn).2.2; omega
  go_wp2_with fail
  go_ret
  exact ⟨rfl, rfl⟩

set_option maxHeartbeats 4000000 in
theorem xor_next (q r : Nat) (w : World) (hb : Blk w q [.int .u64 (r : Int)]) : Calls Try.prog 71 #[.pointer (some ⟨q, 0, none⟩)] w fun e w' => ∃ t : Nat, e = .returned (.int .u64 (t : Int)) ∧ t < 18446744073709551616 ∧ Blk w' q [.int .u64 (t : Int)] ∧ Mods (fun k => k = q) w w' := by
  have HB := Lib.hid hb
  have hc : w.cell? ⟨q, 0, none⟩ = some (.int .u64 (r : Int)) := hb.cell 0
  have hf := hb.free 0
  have HM : Hid (Mods (fun k => k = q) w w) := Mods.refl _ _
  have step : ∀ (w0 : World) (x : Int) (t : Nat), Blk w0 q [.int .u64 x] → Mods (fun k => k = q) w w0 → Blk ((w0.setCell ⟨q, 0, none⟩ (.int .u64 (t : Int))).drew) q [.int .u64 (t : Int)] ∧ Mods (fun k => k = q) w ((w0.setCell ⟨q, 0, none⟩ (.int .u64 (t : Int))).drew) := fun w0 x t h m =>
    ⟨((h.set 0 (.int .u64 (t : Int)))).drew, (m.trans (Mods.set (fun k => k = q) w0 ⟨q, 0, none⟩ (.int .u64 (t : Int)) (fun _ => rfl)) (fun _ _ e => e)).trans (Mods.drew _ _) (fun _ _ e => e)⟩
  have HSt := Lib.hid step
  clear hb step
  go_enter Try.func71, Try.ntmps71
  go_wp2_with fail
  go_big_region
  obtain ⟨t1, ht1, hlt1⟩ := bits_u64_nat .xor ((r : Nat) : Int) (IntKind.u64.wrap (↑r * 8192))
  rw [ht1]
  obtain ⟨HB', HM'⟩ := HSt.out w _ t1 HB.out HM.out
  clear HB HM hc hf ht1
  have HB := Lib.hid HB'; have HM := Lib.hid HM'
  clear HB' HM'
  generalize (w.setCell ⟨q, 0, none⟩ (.int .u64 (t1 : Int))).drew = w1 at *
  have hc : w1.cell? ⟨q, 0, none⟩ = some (.int .u64 (t1 : Int)) := HB.out.cell 0
  have hf := HB.out.free 0
  go_wp2_with fail
  go_big_region
  obtain ⟨t2, ht2, hlt2⟩ := bits_u64_nat .xor ((t1 : Nat) : Int) (↑t1 / 128)
  rw [ht2]
  obtain ⟨HB', HM'⟩ := HSt.out w1 _ t2 HB.out HM.out
  clear HB HM hc hf ht2
  have HB := Lib.hid HB'; have HM := Lib.hid HM'
  clear HB' HM'
  generalize (w1.setCell ⟨q, 0, none⟩ (.int .u64 (t2 : Int))).drew = w2 at *
  have hc : w2.cell? ⟨q, 0, none⟩ = some (.int .u64 (t2 : Int)) := HB.out.cell 0
  have hf := HB.out.free 0
  go_wp2_with fail
  go_big_region
  obtain ⟨t3, ht3, hlt3⟩ := bits_u64_nat .xor ((t2 : Nat) : Int) (IntKind.u64.wrap (↑t2 * 131072))
  rw [ht3]
  obtain ⟨HB', HM'⟩ := HSt.out w2 _ t3 HB.out HM.out
  clear HB HM hc hf ht3
  have HB := Lib.hid HB'; have HM := Lib.hid HM'
  clear HB' HM'
  generalize (w2.setCell ⟨q, 0, none⟩ (.int .u64 (t3 : Int))).drew = w3 at *
  have hc : w3.cell? ⟨q, 0, none⟩ = some (.int .u64 (t3 : Int)) := HB.out.cell 0
  have hf := HB.out.free 0
  go_wp2_with fail
  go_ret
  exact ⟨t3, rfl, hlt3, HB.out, HM.out⟩
end Go.Proofs.Ytpphgmgdmdehpaa
