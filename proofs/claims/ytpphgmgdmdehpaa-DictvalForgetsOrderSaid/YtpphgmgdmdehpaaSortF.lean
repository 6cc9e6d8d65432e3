/- slices.Sort of words: order2Ordered, medianOrdered, medianAdjacentOrdered. -/
import Derived.Test.YtpphgmgdmdehpaaSortA
set_option linter.unusedVariables false
set_option maxRecDepth 20000
namespace Go.Proofs.Ytpphgmgdmdehpaa
open Go Go.RowKit

/-- The row that is only read, and the counter's box. -/
structure PV (w : World) (g n c q : Nat) (d : Array Nat) (s : Nat) : Prop where
  su : SU w w g n c d
  ne : q ≠ g
  box : Blk w q [.int .i64 (s : Int)]
theorem PV.mods {w w' : World} {g n c q : Nat} {d : Array Nat} {s t : Nat} (h : PV w g n c q d s) (m : Mods (fun k => k = q) w w') (hb : Blk w' q [.int .i64 (t : Int)]) : PV w' g n c q d t :=
  ⟨⟨h.su.sz, m.owns h.su.row (fun k hk e => h.ne (by simp [Value.ownBlock] at hk; omega)), Mods.refl _ _⟩, h.ne, hb⟩
/-- What a call that only counts leaves. -/
structure PVd (w w' : World) (g n c q : Nat) (d : Array Nat) (s m : Nat) : Prop where
  mods : Mods (fun k => k = q) w w'
  pv : ∃ t, t ≤ s + m ∧ PV w' g n c q d t

set_option maxHeartbeats 4000000 in
theorem order2_u64 (g n c q a b s : Nat) (d : Array Nat) (w : World) (h : PV w g n c q d s) (ha : a < n) (hb : b < n) (hn : n < 4611686018427387904) (hs : s ≤ 1000) :
    Calls Try.prog 74 #[.slice (some ⟨g, 0, none⟩) n c, .int .i64 (a : Int), .int .i64 (b : Int), .pointer (some ⟨q, 0, none⟩)] w fun e w' =>
      ∃ x y : Nat, e = .returned (.tuple #[.int .i64 (x : Int), .int .i64 (y : Int)]) ∧ ((x = a ∧ y = b) ∨ (x = b ∧ y = a)) ∧ PVd w w' g n c q d s 1 := by
  have HP := Lib.hid h
  have hca := h.su.cell ha
  have hcb := h.su.cell hb
  have hcq : w.cell? ⟨q, 0, none⟩ = some (.int .i64 (s : Int)) := h.box.cell 0
  have hfq := h.box.free 0
  have hai : (a : Int) < (n : Int) := by omega
  have hbi : (b : Int) < (n : Int) := by omega
  clear h
  generalize d[a]! = p at *
  generalize d[b]! = r at *
  go_enter Try.func74, Try.ntmps74
  go_wp2_with fail
  go_quiet ((go_at_call 50; refine Calls.quiet_of_same (less_u64' _ _ _)))
  have hm : Mods (fun k => k = q) w (w.drewN nq) := Mods.drewN _ _ _
  have HM := Lib.hid hm
  have HB : Hid (Blk (w.drewN nq) q [.int .i64 (s : Int)]) := HP.out.box
  have hcq : (w.drewN nq).cell? ⟨q, 0, none⟩ = some (.int .i64 (s : Int)) := hcq
  have hfq : (w.drewN nq).frozen? ⟨q, 0, none⟩ = false := hfq
  clear hm hca hcb
  generalize w.drewN nq = w1 at *
  cases hl : ltU r p with
  | true =>
    go_wp2_with fail
    go_ret2
    refine ⟨b, a, rfl, Or.inr ⟨rfl, rfl⟩, ?_⟩
    have m2 : Mods (fun k => k = q) w1 (w1.setCell ⟨q, 0, none⟩ (.int .i64 ((s : Int) + 1))) := Mods.set _ _ _ _ (fun _ => rfl)
    have hb2 : Blk (w1.setCell ⟨q, 0, none⟩ (.int .i64 ((s : Int) + 1))) q [.int .i64 ((s + 1 : Nat) : Int)] := HB.out.set 0 _
    have m3 := HM.out.trans m2 (fun _ _ e => e)
    exact ⟨m3, s + 1, Nat.le_refl _, HP.out.mods m3 hb2⟩
  | false =>
    go_wp2_with fail
    go_ret2
    exact ⟨a, b, rfl, Or.inl ⟨rfl, rfl⟩, HM.out, s, by omega, HP.out.mods HM.out HB.out⟩

set_option maxHeartbeats 4000000 in
theorem median_u64 (g n c q a b k s : Nat) (d : Array Nat) (w : World) (h : PV w g n c q d s) (ha : a < n) (hb : b < n) (hk : k < n) (hn : n < 4611686018427387904) (hs : s ≤ 900) :
    Calls Try.prog 73 #[.slice (some ⟨g, 0, none⟩) n c, .int .i64 (a : Int), .int .i64 (b : Int), .int .i64 (k : Int), .pointer (some ⟨q, 0, none⟩)] w fun e w' =>
      ∃ x : Nat, e = .returned (.int .i64 (x : Int)) ∧ (x = a ∨ x = b ∨ x = k) ∧ PVd w w' g n c q d s 3 := by
  have HP := Lib.hid h
  clear h
  go_enter Try.func73, Try.ntmps73
  go_wp2_with fail
  refine (order2_u64 g n c q a b s d w HP.out ha hb hn (by omega)).mono ?_
  rintro e w1 ⟨x1, y1, rfl, hxy, h1⟩
  obtain ⟨hm1, t1, ht1, hp1⟩ := h1
  have HM1 := Lib.hid hm1; have HP1 := Lib.hid hp1; have HX1 := Lib.hid hxy
  have hx1 : x1 < n := by omega
  have hy1 : y1 < n := by omega
  clear hm1 hp1 hxy
  go_wp2_with fail
  refine (order2_u64 g n c q y1 k t1 d w1 HP1.out hy1 hk hn (by omega)).mono ?_
  rintro e w2 ⟨x2, y2, rfl, hxy, h2⟩
  obtain ⟨hm2, t2, ht2, hp2⟩ := h2
  have HM2 := Lib.hid (HM1.out.trans hm2 (fun _ _ e => e)); have HP2 := Lib.hid hp2; have HX2 := Lib.hid hxy
  have hx2 : x2 < n := by omega
  clear hm2 hp2 hxy
  go_wp2_with fail
  refine (order2_u64 g n c q x1 x2 t2 d w2 HP2.out hx1 hx2 hn (by omega)).mono ?_
  rintro e w3 ⟨x3, y3, rfl, hxy, h3⟩
  obtain ⟨hm3, t3, ht3, hp3⟩ := h3
  have HM3 := Lib.hid (HM2.out.trans hm3 (fun _ _ e => e)); have HP3 := Lib.hid hp3; have HX3 := Lib.hid hxy
  clear hm3 hp3 hxy
  go_wp2_with fail
  go_ret
  refine ⟨y3, rfl, ?_, HM3.out, t3, by omega, HP3.out⟩
  have := HX1.out; have := HX2.out; have := HX3.out
  omega

set_option maxHeartbeats 4000000 in
theorem median_adjacent_u64 (g n c q a s : Nat) (d : Array Nat) (w : World) (h : PV w g n c q d s) (ha : a + 1 < n) (h0 : 0 < a) (hn : n < 4611686018427387904) (hs : s ≤ 900) :
    Calls Try.prog 72 #[.slice (some ⟨g, 0, none⟩) n c, .int .i64 (a : Int), .pointer (some ⟨q, 0, none⟩)] w fun e w' =>
      ∃ x : Nat, e = .returned (.int .i64 (x : Int)) ∧ (a ≤ x + 1 ∧ x ≤ a + 1) ∧ PVd w w' g n c q d s 3 := by
  have HP := Lib.hid h
  clear h
  obtain ⟨z, rfl⟩ : ∃ z, a = z + 1 := ⟨a - 1, by omega⟩
  have HC := Lib.hid (median_u64 g n c q z (z + 1) (z + 1 + 1) s d w HP.out (by omega) (by omega) (by omega) hn hs)
  go_enter Try.func72, Try.ntmps72
  go_wp2_with fail
  refine HC.out.mono ?_
  rintro e w1 ⟨x, rfl, hx, hp⟩
  have HP1 := Lib.hid hp; have HX := Lib.hid hx
  clear hp hx
  go_wp2_with fail
  go_ret
  exact ⟨x, rfl, by have := HX.out; omega, HP1.out⟩
end Go.Proofs.Ytpphgmgdmdehpaa
