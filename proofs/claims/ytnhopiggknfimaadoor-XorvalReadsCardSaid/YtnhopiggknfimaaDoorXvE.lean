/- Layer 6: the program writes a step. -/
import Derived.Test.YtnhopiggknfimaaDoorXvD
set_option linter.unusedVariables false
set_option maxRecDepth 20000
namespace Go.Proofs.YtnhopiggknfimaaDoor
open Go Go.RowKit

theorem Upd.of_below {w w' : World} (h : Below w.heap.size w w') (p : Nat) (v : Value) : Upd w w' p v v := ⟨Mods.of_below h _, Fresh.refl _ _⟩
theorem Upd.keep {w w' : World} {p : Nat} {v v' : Value} (h : Upd w w' p v v') {a : Addr} {u : Value} (hc : w.cell? a = some u) (h1 : a.block ≠ p) (h2 : v.ownBlock ≠ some a.block) : w'.cell? a = some u ∧ v'.ownBlock ≠ some a.block :=
  ⟨h.mods.cell hc (fun e => e.elim h1 h2), fun e => (h.fresh _ e).elim h2 (fun k => by have := World.block_lt_of_cell? w a hc; omega)⟩

/-- The bits ahead of those inside the window. -/
def headS (a b : Nat) (c : Bool) : List Bool := if a = 0 ∧ b = 0 then [false] else if c then [true, true] ++ (fieldBits a 6 ++ fieldBits (b - 1) 6) else [true, false]

/-- Where the writing of a step stands: g: the encoder's block, B: the step's. -/
structure HeadAt (g p B a b : Nat) (c : Bool) (w : World) (v : Value) (out : List Bool) (w' : World) (v' : Value) : Prop where
  wr : WriterIn w' p v' out
  upd : Upd w w' p v v'
  c3 : w'.cell? ⟨g, 3, none⟩ = some (.pointer (some ⟨p, 0, none⟩))
  b0 : w'.cell? ⟨B, 0, none⟩ = some (.int .i64 (a : Int))
  b1 : w'.cell? ⟨B, 1, none⟩ = some (.int .i64 (b : Int))
  b2 : w'.cell? ⟨B, 2, none⟩ = some (.bool c)
  gp : g ≠ p
  gv : v'.ownBlock ≠ some g
  bp : B ≠ p
  bv : v'.ownBlock ≠ some B
theorem HeadAt.next {g p B a b : Nat} {c : Bool} {w w1 w2 : World} {v v1 v2 : Value} {out out2 : List Bool} (h : HeadAt g p B a b c w v out w1 v1) (hw : WriterIn w2 p v2 out2) (hu : Upd w1 w2 p v1 v2) : HeadAt g p B a b c w v out2 w2 v2 := by
  obtain ⟨k1, k2⟩ := hu.keep h.c3 h.gp h.gv
  obtain ⟨k3, k4⟩ := hu.keep h.b0 h.bp h.bv
  obtain ⟨k5, _⟩ := hu.keep h.b1 h.bp h.bv
  obtain ⟨k6, _⟩ := hu.keep h.b2 h.bp h.bv
  exact ⟨hw, h.upd.trans hu, k1, k3, k5, k6, h.gp, k2, h.bp, k4⟩
theorem HeadAt.drew {g p B a b : Nat} {c : Bool} {w w1 : World} {v v1 : Value} {out : List Bool} (h : HeadAt g p B a b c w v out w1 v1) : HeadAt g p B a b c w v out w1.drew v1 :=
  h.next (h.wr.mods (Mods.drew (fun _ => False) w1) (fun e => e) (fun _ _ e => e)) ⟨Mods.drew _ _, Fresh.refl _ _⟩
theorem HeadAt.bits {g p B a b : Nat} {c : Bool} {w w1 : World} {v v1 : Value} {out : List Bool} (h : HeadAt g p B a b c w v out w1 v1) (x n : Nat) (hn : n ≤ 64) (hb : out.length + 64 ≤ 1125899906842624) :
    Calls Tryd.prog 11 #[.pointer (some ⟨p, 0, none⟩), .int .u64 (x : Int), .int .i64 (n : Int)] w1 fun e w2 => e = .returned (.int .i64 0) ∧ ∃ v2, HeadAt g p B a b c w v (out ++ fieldBits x n) w2 v2 ∧ w2.heap[g]? = w1.heap[g]? :=
  (wbits p v1 out x n w1 h.wr hn hb).mono fun e w2 hp => by
    obtain ⟨he, v2, hw, hu⟩ := hp
    exact ⟨he, v2, h.next hw hu, hu.mods.block _ (World.block_lt_of_cell? w1 _ h.c3) (fun e => e.elim h.gp h.gv)⟩

set_option maxHeartbeats 2000000 in
theorem putStep_any (g p a b : Nat) (c : Bool) (v : Value) (bits : List Bool) (w : World) (hW : WriterIn w p v bits) (h3 : w.cell? ⟨g, 3, none⟩ = some (.pointer (some ⟨p, 0, none⟩))) (hgp : g ≠ p) (hgv : v.ownBlock ≠ some g) (hab : (a = 0 ∧ b = 0) ∨ 1 ≤ b) (ha : a ≤ 63) (hb : b ≤ 64) (hz : bits.length + 100 ≤ 1125899906842624) :
    Calls Tryd.prog 45 #[.pointer (some ⟨g, 0, none⟩), .agg #[.int .i64 (a : Int), .int .i64 (b : Int), .bool c]] w fun e w' => e = .returned (.tuple #[]) ∧ BitsPost p v (bits ++ headS a b c) w w' := by
  have hb' : (b : Int) ≤ 64 := by omega
  have ha' : (a : Int) ≤ 63 := by omega
  have HZ : Hid (bits.length + 100 ≤ 1125899906842624) := hz
  obtain ⟨w1, hw1⟩ : ∃ w1, w.alloc (.cells #[.int .i64 (a : Int), .int .i64 (b : Int), .bool c] 76) = w1 := ⟨_, rfl⟩
  have HK1 : Hid (Blk w1 w.heap.size [.int .i64 (a : Int), .int .i64 (b : Int), .bool c]) := by rw [← hw1]; exact Blk.new w _ _
  have HB1 : Hid (Below w.heap.size w w1) := by rw [← hw1]; exact (Below.refl _ w).alloc (Nat.le_refl _) _
  have HH1 : Hid (HeadAt g p w.heap.size a b c w v bits w1 v) := by
    have hpl := hW.blk.lt
    exact ⟨hW.below HB1.out, Upd.of_below HB1.out _ _, (HB1.out.cell (World.block_lt_of_cell? w _ h3)).trans h3, HK1.out.three.1.1, HK1.out.three.1.2.1, HK1.out.three.1.2.2, hgp, hgv, by omega, fun e => by have := owns_lt hW.own _ e; omega⟩
  have d2 : w1.cell? ⟨w.heap.size, 2, none⟩ = some (.bool c) := HK1.out.three.1.2.2
  have d0 := HH1.out.b0
  have d1 := HH1.out.b1
  have d3 := HH1.out.c3
  clear hW h3 hz
  rcases hab with ⟨rfl, rfl⟩ | h1
  · have hz0 : ((0 : Nat) : Int) = 0 := rfl
    rw [hz0] at hw1 d0 d1 ⊢
    clear hz0
    have HBt := Lib.hid (HH1.out.bits 0 1 (by omega) (by have := HZ.out; omega))
    go_enter Tryd.func45, Tryd.ntmps45
    go_wp2_with fail
    refine HBt.out.mono ?_
    rintro e w2 ⟨rfl, v2, hH2, _⟩
    have HH2 := Lib.hid hH2
    clear hH2
    go_wp2_with fail
    go_end0
    exact ⟨rfl, v2, HH2.out.wr, HH2.out.upd⟩
  · have hbb : ((b : Int) == 0) = false := by rw [beq_eq_false_iff_ne]; omega
    have hb1 : (1 : Int) ≤ (b : Int) := by omega
    have HN : Hid ¬ (a = 0 ∧ b = 0) := by show ¬ _; omega
    cases c with
    | false =>
      go_enter Tryd.func45, Tryd.ntmps45
      have HBt := Lib.hid (HH1.out.bits 2 2 (by omega) (by have := HZ.out; omega))
      go_wp2_with fail
      refine HBt.out.mono ?_
      rintro e w2 ⟨rfl, v2, hH2, _⟩
      have HH2 := Lib.hid hH2
      clear hH2
      go_wp2_with fail
      go_end0
      refine ⟨rfl, v2, ?_, HH2.out.upd⟩
      rw [headS, if_neg HN.out, if_neg (by decide)]
      exact HH2.out.wr
    | true =>
      go_enter Tryd.func45, Tryd.ntmps45
      have HBt := Lib.hid (HH1.out.bits 3 2 (by omega) (by have := HZ.out; omega))
      go_wp2_with fail
      refine HBt.out.mono ?_
      rintro e w2 ⟨rfl, v2, hH2, _⟩
      have HH2 := Lib.hid hH2.drew
      clear hH2 HBt
      have HC : Hid (∀ w' : World, (w'.cell? ⟨g, 3, none⟩ = some (.pointer (some ⟨p, 0, none⟩)) ∧ w'.cell? ⟨w.heap.size, 0, none⟩ = some (.int .i64 (a : Int)) ∧ w'.cell? ⟨w.heap.size, 1, none⟩ = some (.int .i64 (b : Int))) → (w'.cell? ⟨g, 3, none⟩ = some (.pointer (some ⟨p, 0, none⟩)) ∧ w'.cell? ⟨w.heap.size, 0, none⟩ = some (.int .i64 (a : Int)) ∧ w'.cell? ⟨w.heap.size, 1, none⟩ = some (.int .i64 (b : Int)))) := fun _ h => h
      go_wp2_with fail
      refine wp_region_takeH (fun w' : World => w'.cell? ⟨g, 3, none⟩ = some (.pointer (some ⟨p, 0, none⟩)) ∧ w'.cell? ⟨w.heap.size, 0, none⟩ = some (.int .i64 (a : Int)) ∧ w'.cell? ⟨w.heap.size, 1, none⟩ = some (.int .i64 (b : Int))) [8] [0, 1, 2, 3, 4, 5, 6, 7, 8] (by kernel_rfl) (by kernel_rfl) (by kernel_rfl) ?_ ?_ ?_
      · intro c a a' w hd h; exact ⟨hd ▸ h.1, h.2⟩
      · exact ⟨HH2.out.c3, HH2.out.b0, HH2.out.b1⟩
      simp only [taken, List.map_cons, List.map_nil, List.getElem?_cons_succ, List.getElem?_cons_zero, Option.getD_some]
      repeat (first
        | (refine takeH_skip rfl ?_; simp only [Act.put, List.setIfInBounds_toArray, List.set_cons_succ, List.set_cons_zero])
        | (refine takeH_blind rfl rfl ?_; apply Exists.intro; refine ⟨fun w => ?_, ?_⟩; (go_simp; try with_reducible rfl); simp only [Act.put, List.setIfInBounds_toArray, List.set_cons_succ, List.set_cons_zero])
        | (refine takeH_reads rfl rfl ?_; apply Exists.intro; refine ⟨fun w' hS => ?_, ?_⟩; (obtain ⟨d0, d1, d2⟩ := HC.out w' hS; go_simp; try with_reducible rfl); simp only [Act.put, List.setIfInBounds_toArray, List.set_cons_succ, List.set_cons_zero]))
      refine takeH_call rfl rfl (fun K' hK => ?_)
      go_wp2_with fail
      have HBt := Lib.hid (HH2.out.bits a 6 (by omega) (by have := HZ.out; rw [List.length_append, fieldBits_length]; omega))
      refine HBt.out.mono ?_
      rintro e w3 ⟨rfl, v3, hH3, _⟩
      refine hK _ _ ⟨hH3.c3, hH3.b0, hH3.b1⟩ ?_
      have HH3 := Lib.hid hH3.drew
      clear hH3 HBt HH2 hK K'
      refine takeH_nil ?_
      have e1 : (b : Int) - 1 = ((b - 1 : Nat) : Int) := by omega
      have hb2 : ((b - 1 : Nat) : Int) ≤ 63 := by omega
      have HBt := Lib.hid (HH3.out.bits (b - 1) 6 (by omega) (by have := HZ.out; rw [List.length_append, List.length_append, fieldBits_length, fieldBits_length]; omega))
      have HB2 : Hid (headS a b true = [true, true] ++ (fieldBits a 6 ++ fieldBits (b - 1) 6)) := by show _ = _; rw [headS, if_neg HN.out, if_pos rfl]
      generalize b - 1 = bm at *
      go_wp2_with fail
      refine wp_region_takeH (fun w' : World => w'.cell? ⟨g, 3, none⟩ = some (.pointer (some ⟨p, 0, none⟩)) ∧ w'.cell? ⟨w.heap.size, 0, none⟩ = some (.int .i64 (a : Int)) ∧ w'.cell? ⟨w.heap.size, 1, none⟩ = some (.int .i64 (b : Int))) [9] [0, 1, 2, 3, 4, 5, 6, 7, 8, 9] (by kernel_rfl) (by kernel_rfl) (by kernel_rfl) ?_ ?_ ?_
      · intro c a a' w hd h; exact ⟨hd ▸ h.1, h.2⟩
      · exact ⟨HH3.out.c3, HH3.out.b0, HH3.out.b1⟩
      simp only [taken, List.map_cons, List.map_nil, List.getElem?_cons_succ, List.getElem?_cons_zero, Option.getD_some]
      repeat (first
        | (refine takeH_skip rfl ?_; simp only [Act.put, List.setIfInBounds_toArray, List.set_cons_succ, List.set_cons_zero])
        | (refine takeH_blind rfl rfl ?_; apply Exists.intro; refine ⟨fun w => ?_, ?_⟩; (go_simp; try with_reducible rfl); simp only [Act.put, List.setIfInBounds_toArray, List.set_cons_succ, List.set_cons_zero])
        | (refine takeH_reads rfl rfl ?_; apply Exists.intro; refine ⟨fun w' hS => ?_, ?_⟩; (obtain ⟨d0, d1, d2⟩ := HC.out w' hS; go_simp; try with_reducible rfl); simp only [Act.put, List.setIfInBounds_toArray, List.set_cons_succ, List.set_cons_zero]))
      refine takeH_call rfl rfl (fun K' hK => ?_)
      go_wp2_with fail
      refine HBt.out.mono ?_
      rintro e w4 ⟨rfl, v4, hH4, _⟩
      refine hK _ _ ⟨hH4.c3, hH4.b0, hH4.b1⟩ ?_
      have HH4 := Lib.hid hH4
      clear hH4 HBt HH3 hK K'
      refine takeH_nil ?_
      go_wp2_with fail
      go_end0
      refine ⟨rfl, v4, ?_, HH4.out.upd⟩
      rw [HB2.out, ← List.append_assoc, ← List.append_assoc]
      exact HH4.out.wr
end Go.Proofs.YtnhopiggknfimaaDoor
