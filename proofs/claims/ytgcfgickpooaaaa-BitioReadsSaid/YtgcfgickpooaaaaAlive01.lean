/- Layer 1: the example of the chapter holds. -/
import Derived.Test.YtgcfgickpooaaaaBitioD
namespace Go.Proofs.Ytgcfgickpooaaaa
open Go Go.RowKit

theorem Upd.below {w w' : World} {p : Nat} {v v' : Value} {B : Nat} (h : Upd w w' p v v') (hB : B ≤ w.heap.size) (hp : B ≤ p) (hv : ∀ k, v.ownBlock = some k → B ≤ k) : Below B w w' :=
  h.mods.below hB (fun k hk e => by rcases e with e | e; omega; have := hv k e; omega)
theorem Upd.fresh' {w w' : World} {p : Nat} {v v' : Value} {B : Nat} (h : Upd w w' p v v') (hB : B ≤ w.heap.size) (hv : ∀ k, v.ownBlock = some k → B ≤ k) : ∀ k, v'.ownBlock = some k → B ≤ k :=
  fun k hk => by rcases h.fresh k hk with e | e; exact hv k e; omega

set_option maxHeartbeats 1000000 in
theorem alive_any (w : World) : Calls Try.prog 9 #[] w fun e w' => e = .returned (.bool true) ∧ Below w.heap.size w w' := by
  go_enter Try.func9, Try.ntmps9
  go_wp2_with fail
  refine (new_writer _).mono ?_
  rintro e w1 ⟨rfl, hW1, hB1⟩
  go_wp2_with fail
  refine (new_reader _ [] _ (Rd.nil _ _) (by decide) (by simp)).mono ?_
  rintro e w2 ⟨q, u, rfl, _, hB2, _, _⟩
  have hW2 := hW1.below hB2
  have hB12 := hB1.trans (hB2.mono hB1.size)
  clear hW1 hB1 hB2
  go_wp2_with fail
  refine (wbits _ _ _ 5 3 _ hW2 (by decide) (by decide)).mono ?_
  rintro e w3 ⟨rfl, v3, hW3, hU3⟩
  have hB3 := hB12.trans (hU3.below hB12.size (Nat.le_refl _) (fun k hk => by simp [Value.ownBlock] at hk))
  have hf3 := hU3.fresh' hB12.size (fun k hk => by simp [Value.ownBlock] at hk)
  clear hW2 hB12 hU3
  go_wp2_with fail
  refine (wbits _ _ _ 1 2 _ hW3 (by decide) (by decide)).mono ?_
  rintro e w4 ⟨rfl, v4, hW4, hU4⟩
  have hB4 := hB3.trans (hU4.below hB3.size (Nat.le_refl _) hf3)
  clear hW3 hB3 hU4 hf3
  go_wp2_with fail
  refine (wlen _ _ _ _ hW4).mono ?_
  rintro e w5 ⟨rfl, rfl⟩
  go_wp2_with fail
  refine (wbytes _ _ _ _ hW4 (by decide)).mono ?_
  rintro e w5 ⟨r, rfl, hM⟩
  have hr : Rd (w5.alloc (.cells #[.int .u8 168] 5)) 1 r _ _ := (Rd.of_owns hM.1).below ((Below.refl _ _).alloc (Nat.le_refl _) _)
  have hB5 : Below w.heap.size w (w5.alloc (.cells #[.int .u8 168] 5)) := (hB4.trans (hM.2.mono hB4.size)).alloc (Nat.le_trans hB4.size hM.2.size) _
  have hl : Rd (w5.alloc (.cells #[.int .u8 168] 5)) 1 (.slice (some ⟨w5.heap.size, 0, none⟩) 1 1) 1 (u8s [168]) := Rd.of_owns (World.ownsRow_lit (base := 0) w5 #[.int .u8 168] 1 (Nat.zero_le _) (by decide) (by simp))
  clear hM hW4 hB4
  have HB := Lib.hid hB5; clear hB5
  go_wp2_with fail
  refine (equal_any _ _ _ _ _ [168] _ hr hl (pack_lt _) (by decide)).mono ?_
  rintro e w6 ⟨rfl, rfl⟩
  have hd : decide (pack (([] ++ fieldBits 5 3) ++ fieldBits 1 2) = [168]) = true := by decide
  rw [hd]
  go_wp2_with fail
  go_ret
  exact ⟨rfl, HB.out⟩
end Go.Proofs.Ytgcfgickpooaaaa
