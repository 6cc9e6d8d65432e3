/- XvC, XvD, XvE, XvF, FromO, XvG, XvH, Ris2, XvI, XvJ, in one text. -/
import Derived.Test.YtgpmoimmpbkgfaaGreatDoorMrg6
import Derived.Test.YtgpmoimmpbkgfaaGreatDoorMrg3
import Derived.Test.YtgpmoimmpbkgfaaGreatDoorMrg5

section
/- Layer 6: the program's next step. -/
set_option linter.unusedVariables false
set_option maxRecDepth 20000
namespace Go.Proofs.YtgpmoimmpbkgfaaGreatDoor
open Go Go.RowKit

set_option maxHeartbeats 1000000 in
theorem stepFor_any (g : Nat) (win : Option (Nat × Nat)) (x : Nat) (ho : okW win) (hx : x < 18446744073709551616) (w : World) (hT : TabZ w) (c1 : w.cell? ⟨g, 1, none⟩ = some (.int .i64 (wl win : Int))) (c2 : w.cell? ⟨g, 2, none⟩ = some (.int .i64 (ww win : Int))) :
    Calls Tryz.prog 80 #[.pointer (some ⟨g, 0, none⟩), .int .u64 (x : Int)] w fun e w' => e = .returned (.agg #[.int .i64 (sL win x : Int), .int .i64 (sW win x : Int), .bool (sN win x)]) ∧ Below w.heap.size w w' := by
  have HT := Lib.hid hT
  have HG : Hid (g < w.heap.size) := World.block_lt_of_cell? w _ c1
  obtain ⟨w1, hw1⟩ : ∃ w1, w.alloc (.cells #[.int .i64 0, .int .i64 0, .bool false] 136) = w1 := ⟨_, rfl⟩
  have HK1 : Hid (Blk w1 w.heap.size [.int .i64 0, .int .i64 0, .bool false]) := by rw [← hw1]; exact Blk.new w _ _
  have HB1 : Hid (Below w.heap.size w w1) := by rw [← hw1]; exact (Below.refl _ w).alloc (Nat.le_refl _) _
  have HC1 : Hid (w1.cell? ⟨g, 1, none⟩ = some (.int .i64 (wl win : Int)) ∧ w1.cell? ⟨g, 2, none⟩ = some (.int .i64 (ww win : Int))) := ⟨(HB1.out.cell HG.out).trans c1, (HB1.out.cell HG.out).trans c2⟩
  obtain ⟨⟨d0, d1, d2⟩, f0, f1, f2⟩ := HK1.out.three
  clear hT c1 c2
  go_enter Tryz.func80, Tryz.ntmps80
  by_cases h0 : x = 0
  · subst h0
    go_wp2_with fail
    refine bodyPost_ret (resultsS (p := 4) strStep (by kernel_rfl) _ w.heap.size rfl [.int .i64 0, .int .i64 0, .bool false] (HK1.out.set3 _ _ _) rfl) rfl ⟨rfl, ?_⟩
    exact HB1.out.trans ((mods_set3 _ _ _ _ _).below HB1.out.size (fun j hj e => by omega))
  · have h0b : ((x : Int) == 0) = false := by rw [beq_eq_false_iff_ne]; omega
    have HT1 := Lib.hid (HT.out.below HB1.out (Nat.le_refl _))
    have HWo : ∀ w2, Hid (Below w1.heap.size w1 w2) → Hid (Calls Tryz.prog 101 #[.int .u64 (x : Int)] w2 fun e w' => e = .returned (.agg #[.int .i64 (leadV x : Int), .int .i64 ((64 - leadV x - trailV x : Nat) : Int)]) ∧ Below w2.heap.size w2 w') := fun w2 h => windowOf_any x hx h0 w2 (HT1.out.block (h.out.block _ HT1.out.lt))
    match win, ho, HC1 with
    | none, ho, HC1 =>
      obtain ⟨e1, e2⟩ := HC1.out
      simp only [wl, ww] at e1 e2
      go_wp2_with fail
      have HI : Hid (Below w1.heap.size w1 w1) := Below.refl _ _
      refine (HWo _ HI).out.mono ?_
      rintro e w3 ⟨rfl, hB3⟩
      have HK3 := Lib.hid (HK1.out.of_same (hB3.block _ HK1.out.lt))
      have HB3 : Hid (Below w.heap.size w w3) := HB1.out.trans (hB3.mono HB1.out.size)
      clear hB3 d0 d1 d2 f0 f1 f2
      obtain ⟨⟨d0, d1, d2⟩, f0, f1, f2⟩ := HK3.out.three
      obtain ⟨wd, hwd⟩ : ∃ wd, 64 - leadV x - trailV x = wd := ⟨_, rfl⟩
      have HWd := Lib.hid hwd
      rw [hwd]
      clear hwd
      go_wp2_with fail
      have hs : sL none x = leadV x ∧ sW none x = wd ∧ sN none x = true := by simp only [sL, sW, sN, h0, fits, HWd.out, if_false, Bool.false_eq_true]; exact ⟨trivial, trivial, trivial⟩
      refine bodyPost_ret (resultsS (p := 4) strStep (by kernel_rfl) _ w.heap.size rfl [.int .i64 (leadV x : Int), .int .i64 (wd : Int), .bool true] (HK3.out.set3 _ _ _) rfl) rfl ⟨by rw [hs.1, hs.2.1, hs.2.2], ?_⟩
      exact HB3.out.trans ((mods_set3 _ _ _ _ _).below HB3.out.size (fun j hj e => by omega))
    | some (L, t), ho, HC1 =>
      have hle := ho L t rfl
      obtain ⟨e1, e2⟩ := HC1.out
      simp only [wl, ww] at e1 e2
      have HF := Lib.hid (fits_any L (64 - L - t) x (by omega) hx h0 w1 HT1.out)
      have hwb : (((64 - L - t : Nat) : Int) == 0) = false := by rw [beq_eq_false_iff_ne]; omega
      rw [show 64 - L - (64 - L - t) = t by omega] at HF
      have HFt : Hid (fits (some (L, t)) x = (decide (L ≤ leadV x) && decide (t ≤ trailV x))) := rfl
      rw [← HFt.out] at HF
      have HWd : Hid (ww (some (L, t)) = 64 - L - t) := rfl
      clear HFt
      generalize 64 - L - t = wd at *
      go_wp2_with fail
      refine HF.out.mono ?_
      rintro e w2 ⟨rfl, hB2⟩
      have HK2 := Lib.hid (HK1.out.of_same (hB2.block _ HK1.out.lt))
      have HB2 := Lib.hid hB2
      have HC2 : Hid (w2.cell? ⟨g, 1, none⟩ = some (.int .i64 (L : Int)) ∧ w2.cell? ⟨g, 2, none⟩ = some (.int .i64 (wd : Int))) := ⟨(hB2.cell (World.block_lt_of_cell? w1 _ e1)).trans e1, (hB2.cell (World.block_lt_of_cell? w1 _ e2)).trans e2⟩
      clear hB2 d0 d1 d2 f0 f1 f2 e1 e2
      obtain ⟨⟨d0, d1, d2⟩, f0, f1, f2⟩ := HK2.out.three
      obtain ⟨e1, e2⟩ := HC2.out
      by_cases hf : fits (some (L, t)) x = true
      · rw [hf]
        have HFf := Lib.hid hf
        clear hf
        go_wp2_with fail
        have hs : sL (some (L, t)) x = L ∧ sW (some (L, t)) x = wd ∧ sN (some (L, t)) x = false := by simp only [sL, sW, sN, h0, HFf.out, HWd.out, wl, if_false, if_true]; exact ⟨trivial, trivial, trivial⟩
        refine bodyPost_ret (resultsS (p := 4) strStep (by kernel_rfl) _ w.heap.size rfl [.int .i64 (L : Int), .int .i64 (wd : Int), .bool false] (HK2.out.set3 _ _ _) rfl) rfl ⟨by rw [hs.1, hs.2.1, hs.2.2], ?_⟩
        exact (HB1.out.trans (HB2.out.mono HB1.out.size)).trans ((mods_set3 _ _ _ _ _).below (Nat.le_trans HB1.out.size HB2.out.size) (fun j hj e => by omega))
      · have hf : fits (some (L, t)) x = false := by simpa using hf
        rw [hf]
        have HFf := Lib.hid hf
        clear hf
        go_wp2_with fail
        refine (HWo _ HB2).out.mono ?_
        rintro e w3 ⟨rfl, hB3⟩
        have HK3 := Lib.hid (HK2.out.of_same (hB3.block _ HK2.out.lt))
        have HB3 : Hid (Below w.heap.size w w3) := (HB1.out.trans (HB2.out.mono HB1.out.size)).trans (hB3.mono (Nat.le_trans HB1.out.size HB2.out.size))
        clear hB3 d0 d1 d2 f0 f1 f2
        obtain ⟨⟨d0, d1, d2⟩, f0, f1, f2⟩ := HK3.out.three
        obtain ⟨wd2, hwd⟩ : ∃ wd2, 64 - leadV x - trailV x = wd2 := ⟨_, rfl⟩
        have HWd2 := Lib.hid hwd
        rw [hwd]
        clear hwd
        go_wp2_with fail
        have hs : sL (some (L, t)) x = leadV x ∧ sW (some (L, t)) x = wd2 ∧ sN (some (L, t)) x = true := by simp only [sL, sW, sN, h0, HFf.out, HWd2.out, if_false, Bool.false_eq_true]; exact ⟨trivial, trivial, trivial⟩
        refine bodyPost_ret (resultsS (p := 4) strStep (by kernel_rfl) _ w.heap.size rfl [.int .i64 (leadV x : Int), .int .i64 (wd2 : Int), .bool true] (HK3.out.set3 _ _ _) rfl) rfl ⟨by rw [hs.1, hs.2.1, hs.2.2], ?_⟩
        exact HB3.out.trans ((mods_set3 _ _ _ _ _).below HB3.out.size (fun j hj e => by omega))
end Go.Proofs.YtgpmoimmpbkgfaaGreatDoor

end

section
/- Layer 6: the program's state moves on; the bits of a step. -/
set_option linter.unusedVariables false
set_option maxRecDepth 20000
namespace Go.Proofs.YtgpmoimmpbkgfaaGreatDoor
open Go Go.RowKit

/-- The cells of a state behind a step. -/
def advC (last x L wd a b : Nat) (c : Bool) : List Value := [.int .u64 ((last ^^^ x : Nat) : Int), .int .i64 ((if c then a else L : Nat) : Int), .int .i64 ((if c then b else wd : Nat) : Int)]

theorem Blk.facts4 {w : World} {g : Nat} {a b c : Value} {rest : List Value} (h : Blk w g (a :: b :: c :: rest)) : (w.cell? ⟨g, 0, none⟩ = some a ∧ w.cell? ⟨g, 1, none⟩ = some b ∧ w.cell? ⟨g, 2, none⟩ = some c) ∧ (w.frozen? ⟨g, 0, none⟩ = false ∧ w.frozen? ⟨g, 1, none⟩ = false ∧ w.frozen? ⟨g, 2, none⟩ = false) :=
  ⟨⟨by rw [h.cell]; rfl, by rw [h.cell]; rfl, by rw [h.cell]; rfl⟩, h.free 0, h.free 1, h.free 2⟩

set_option maxHeartbeats 1000000 in
theorem advance_any (g last x L wd a b : Nat) (c : Bool) (rest : List Value) (hla : last < 18446744073709551616) (hx : x < 18446744073709551616) (w : World) (h : Blk w g ([.int .u64 (last : Int), .int .i64 (L : Int), .int .i64 (wd : Int)] ++ rest)) :
    Calls Tryz.prog 81 #[.pointer (some ⟨g, 0, none⟩), .int .u64 (x : Int), .agg #[.int .i64 (a : Int), .int .i64 (b : Int), .bool c]] w fun e w' => e = .returned (.tuple #[]) ∧ Blk w' g (advC last x L wd a b c ++ rest) ∧ Mods (fun k => k = g) w w' := by
  have HX : Hid (bits .xor .u64 (last : Int) (x : Int) = ((last ^^^ x : Nat) : Int)) := bits_xor_u64_nat last x hla hx
  obtain ⟨w1, hw1⟩ : ∃ w1, w.alloc (.cells #[.int .i64 (a : Int), .int .i64 (b : Int), .bool c] 136) = w1 := ⟨_, rfl⟩
  have HK1 : Hid (Blk w1 w.heap.size [.int .i64 (a : Int), .int .i64 (b : Int), .bool c]) := by rw [← hw1]; exact Blk.new w _ _
  have HB1 : Hid (Below w.heap.size w w1) := by rw [← hw1]; exact (Below.refl _ w).alloc (Nat.le_refl _) _
  have HG : Hid (g < w.heap.size) := h.lt
  have HS1 : Hid (Blk w1 g (.int .u64 (last : Int) :: .int .i64 (L : Int) :: .int .i64 (wd : Int) :: rest)) := h.of_same (HB1.out.block _ HG.out)
  obtain ⟨⟨d0, d1, d2⟩, _⟩ := HK1.out.three
  obtain ⟨⟨s0, s1, s2⟩, f0, f1, f2⟩ := HS1.out.facts4
  have hne : w.heap.size ≠ g := by have := HG.out; omega
  have hne' : g ≠ w.heap.size := by have := HG.out; omega
  clear h
  cases c with
  | true =>
    go_enter Tryz.func81, Tryz.ntmps81
    go_wp2_with fail
    go_end0
    rw [HX.out]
    refine ⟨rfl, ?_, ?_⟩
    · simpa [advC] using ((HS1.out.set 0 (.int .u64 ((last ^^^ x : Nat) : Int))).set 1 (.int .i64 (a : Int))).set 2 (.int .i64 (b : Int))
    · exact (Mods.of_below HB1.out _).trans (mods_set3 w1 g _ _ _) (fun _ _ e => e)
  | false =>
    go_enter Tryz.func81, Tryz.ntmps81
    go_wp2_with fail
    go_end0
    rw [HX.out]
    refine ⟨rfl, ?_, ?_⟩
    · simpa [advC] using HS1.out.set 0 (.int .u64 ((last ^^^ x : Nat) : Int))
    · exact (Mods.of_below HB1.out _).trans (Mods.set (fun k => k = g) w1 ⟨g, 0, none⟩ _ (fun _ => rfl)) (fun _ _ e => e)

/-- The bits of a step of this kind. -/
def stepN (a b : Nat) (c : Bool) : Nat := if a = 0 ∧ b = 0 then 1 else if c then 14 + b else 2 + b
theorem size_any (a b : Nat) (c : Bool) (hab : (a = 0 ∧ b = 0) ∨ 1 ≤ b) (hb : b ≤ 1000) (ha : a ≤ 1000) (w : World) :
    Calls Tryz.prog 82 #[.agg #[.int .i64 (a : Int), .int .i64 (b : Int), .bool c]] w fun e w' => e = .returned (.int .i64 (stepN a b c : Int)) ∧ Below w.heap.size w w' := by
  have hb' : (b : Int) ≤ 1000 := by omega
  rcases hab with ⟨rfl, rfl⟩ | h1
  · go_enter Tryz.func82, Tryz.ntmps82
    go_wp2_with fail
    go_ret
    exact ⟨rfl, (Below.refl _ w).alloc (Nat.le_refl _) _⟩
  · have hbb : ((b : Int) == 0) = false := by rw [beq_eq_false_iff_ne]; omega
    have hb1 : (1 : Int) ≤ (b : Int) := by omega
    have HN : Hid ¬ (a = 0 ∧ b = 0) := by show ¬ _; omega
    have HNt : Hid (stepN a b true = 14 + b) := by show _ = _; rw [stepN, if_neg HN.out, if_pos rfl]
    have HNf : Hid (stepN a b false = 2 + b) := by show _ = _; rw [stepN, if_neg HN.out, if_neg (by decide)]
    cases c with
    | true =>
      go_enter Tryz.func82, Tryz.ntmps82
      go_wp2_with fail
      go_ret
      exact ⟨by rw [HNt.out]; go_num, (Below.refl _ w).alloc (Nat.le_refl _) _⟩
    | false =>
      go_enter Tryz.func82, Tryz.ntmps82
      go_wp2_with fail
      go_ret
      exact ⟨by rw [HNf.out]; go_num, (Below.refl _ w).alloc (Nat.le_refl _) _⟩
end Go.Proofs.YtgpmoimmpbkgfaaGreatDoor

end

section
/- Layer 6: the program writes a step. -/
set_option linter.unusedVariables false
set_option maxRecDepth 20000
namespace Go.Proofs.YtgpmoimmpbkgfaaGreatDoor
open Go Go.RowKit

theorem Upd.of_below {w w' : World} (h : Below w.heap.size w w') (p : Nat) (v : Value) : Upd w w' p v v := ⟨Mods.of_below h _, Fresh.refl _ _⟩
theorem Upd.keep {w w' : World} {p : Nat} {v v' : Value} (h : Upd w w' p v v') {a : Addr} {u : Value} (hc : w.cell? a = some u) (h1 : a.block ≠ p) (h2 : v.ownBlock ≠ some a.block) : w'.cell? a = some u ∧ v'.ownBlock ≠ some a.block :=
  ⟨h.mods.cell hc (fun e => e.elim h1 h2), fun e => (h.fresh _ e).elim h2 (fun k => by have := World.block_lt_of_cell? w a hc; omega)⟩

/-- The bits ahead of those inside the window. -/
def headS (a b : Nat) (c : Bool) : List Bool := if a = 0 ∧ b = 0 then [false] else if c then [true, true] ++ (fieldBits a 6 ++ fieldBits (b - 1) 6) else [true, false]

/-- Where the writing of a step stands: g: the encoder's block, B: the step's. -/
structure HeadAt (g p B a b : Nat) (c : Bool) (w : World) (v : Value) (out : List Bool) (w' : World) (v' : Value) : Prop where
  wr : WriterIn w' p v' out
  upd : Upd w w' p v v'
  c3 : w'.cell? ⟨g, 3, none⟩ = some (.pointer (some ⟨p, 0, none⟩))
  b0 : w'.cell? ⟨B, 0, none⟩ = some (.int .i64 (a : Int))
  b1 : w'.cell? ⟨B, 1, none⟩ = some (.int .i64 (b : Int))
  b2 : w'.cell? ⟨B, 2, none⟩ = some (.bool c)
  gp : g ≠ p
  gv : v'.ownBlock ≠ some g
  bp : B ≠ p
  bv : v'.ownBlock ≠ some B
theorem HeadAt.next {g p B a b : Nat} {c : Bool} {w w1 w2 : World} {v v1 v2 : Value} {out out2 : List Bool} (h : HeadAt g p B a b c w v out w1 v1) (hw : WriterIn w2 p v2 out2) (hu : Upd w1 w2 p v1 v2) : HeadAt g p B a b c w v out2 w2 v2 := by
  obtain ⟨k1, k2⟩ := hu.keep h.c3 h.gp h.gv
  obtain ⟨k3, k4⟩ := hu.keep h.b0 h.bp h.bv
  obtain ⟨k5, _⟩ := hu.keep h.b1 h.bp h.bv
  obtain ⟨k6, _⟩ := hu.keep h.b2 h.bp h.bv
  exact ⟨hw, h.upd.trans hu, k1, k3, k5, k6, h.gp, k2, h.bp, k4⟩
theorem HeadAt.drew {g p B a b : Nat} {c : Bool} {w w1 : World} {v v1 : Value} {out : List Bool} (h : HeadAt g p B a b c w v out w1 v1) : HeadAt g p B a b c w v out w1.drew v1 :=
  h.next (h.wr.mods (Mods.drew (fun _ => False) w1) (fun e => e) (fun _ _ e => e)) ⟨Mods.drew _ _, Fresh.refl _ _⟩
theorem HeadAt.bits {g p B a b : Nat} {c : Bool} {w w1 : World} {v v1 : Value} {out : List Bool} (h : HeadAt g p B a b c w v out w1 v1) (x n : Nat) (hn : n ≤ 64) (hb : out.length + 64 ≤ 1125899906842624) :
    Calls Tryz.prog 28 #[.pointer (some ⟨p, 0, none⟩), .int .u64 (x : Int), .int .i64 (n : Int)] w1 fun e w2 => e = .returned (.int .i64 0) ∧ ∃ v2, HeadAt g p B a b c w v (out ++ fieldBits x n) w2 v2 ∧ w2.heap[g]? = w1.heap[g]? :=
  (wbits p v1 out x n w1 h.wr hn hb).mono fun e w2 hp => by
    obtain ⟨he, v2, hw, hu⟩ := hp
    exact ⟨he, v2, h.next hw hu, hu.mods.block _ (World.block_lt_of_cell? w1 _ h.c3) (fun e => e.elim h.gp h.gv)⟩

set_option maxHeartbeats 2000000 in
theorem putStep_any (g p a b : Nat) (c : Bool) (v : Value) (bits : List Bool) (w : World) (hW : WriterIn w p v bits) (h3 : w.cell? ⟨g, 3, none⟩ = some (.pointer (some ⟨p, 0, none⟩))) (hgp : g ≠ p) (hgv : v.ownBlock ≠ some g) (hab : (a = 0 ∧ b = 0) ∨ 1 ≤ b) (ha : a ≤ 63) (hb : b ≤ 64) (hz : bits.length + 100 ≤ 1125899906842624) :
    Calls Tryz.prog 102 #[.pointer (some ⟨g, 0, none⟩), .agg #[.int .i64 (a : Int), .int .i64 (b : Int), .bool c]] w fun e w' => e = .returned (.tuple #[]) ∧ BitsPost p v (bits ++ headS a b c) w w' := by
  have hb' : (b : Int) ≤ 64 := by omega
  have ha' : (a : Int) ≤ 63 := by omega
  have HZ : Hid (bits.length + 100 ≤ 1125899906842624) := hz
  obtain ⟨w1, hw1⟩ : ∃ w1, w.alloc (.cells #[.int .i64 (a : Int), .int .i64 (b : Int), .bool c] 136) = w1 := ⟨_, rfl⟩
  have HK1 : Hid (Blk w1 w.heap.size [.int .i64 (a : Int), .int .i64 (b : Int), .bool c]) := by rw [← hw1]; exact Blk.new w _ _
  have HB1 : Hid (Below w.heap.size w w1) := by rw [← hw1]; exact (Below.refl _ w).alloc (Nat.le_refl _) _
  have HH1 : Hid (HeadAt g p w.heap.size a b c w v bits w1 v) := by
    have hpl := hW.blk.lt
    exact ⟨hW.below HB1.out, Upd.of_below HB1.out _ _, (HB1.out.cell (World.block_lt_of_cell? w _ h3)).trans h3, HK1.out.three.1.1, HK1.out.three.1.2.1, HK1.out.three.1.2.2, hgp, hgv, by omega, fun e => by have := owns_lt hW.own _ e; omega⟩
  have d2 : w1.cell? ⟨w.heap.size, 2, none⟩ = some (.bool c) := HK1.out.three.1.2.2
  have d0 := HH1.out.b0
  have d1 := HH1.out.b1
  have d3 := HH1.out.c3
  clear hW h3 hz
  rcases hab with ⟨rfl, rfl⟩ | h1
  · have hz0 : ((0 : Nat) : Int) = 0 := rfl
    rw [hz0] at hw1 d0 d1 ⊢
    clear hz0
    have HBt := Lib.hid (HH1.out.bits 0 1 (by omega) (by have := HZ.out; omega))
    go_enter Tryz.func102, Tryz.ntmps102
    go_wp2_with fail
    refine HBt.out.mono ?_
    rintro e w2 ⟨rfl, v2, hH2, _⟩
    have HH2 := Lib.hid hH2
    clear hH2
    go_wp2_with fail
    go_end0
    exact ⟨rfl, v2, HH2.out.wr, HH2.out.upd⟩
  · have hbb : ((b : Int) == 0) = false := by rw [beq_eq_false_iff_ne]; omega
    have hb1 : (1 : Int) ≤ (b : Int) := by omega
    have HN : Hid ¬ (a = 0 ∧ b = 0) := by show ¬ _; omega
    cases c with
    | false =>
      go_enter Tryz.func102, Tryz.ntmps102
      have HBt := Lib.hid (HH1.out.bits 2 2 (by omega) (by have := HZ.out; omega))
      go_wp2_with fail
      refine HBt.out.mono ?_
      rintro e w2 ⟨rfl, v2, hH2, _⟩
      have HH2 := Lib.hid hH2
      clear hH2
      go_wp2_with fail
      go_end0
      refine ⟨rfl, v2, ?_, HH2.out.upd⟩
      rw [headS, if_neg HN.out, if_neg (by decide)]
      exact HH2.out.wr
    | true =>
      go_enter Tryz.func102, Tryz.ntmps102
      have HBt := Lib.hid (HH1.out.bits 3 2 (by omega) (by have := HZ.out; omega))
      go_wp2_with fail
      refine HBt.out.mono ?_
      rintro e w2 ⟨rfl, v2, hH2, _⟩
      have HH2 := Lib.hid hH2.drew
      clear hH2 HBt
      have HC : Hid (∀ w' : World, (w'.cell? ⟨g, 3, none⟩ = some (.pointer (some ⟨p, 0, none⟩)) ∧ w'.cell? ⟨w.heap.size, 0, none⟩ = some (.int .i64 (a : Int)) ∧ w'.cell? ⟨w.heap.size, 1, none⟩ = some (.int .i64 (b : Int))) → (w'.cell? ⟨g, 3, none⟩ = some (.pointer (some ⟨p, 0, none⟩)) ∧ w'.cell? ⟨w.heap.size, 0, none⟩ = some (.int .i64 (a : Int)) ∧ w'.cell? ⟨w.heap.size, 1, none⟩ = some (.int .i64 (b : Int)))) := fun _ h => h
      go_wp2_with fail
      refine wp_region_takeH (fun w' : World => w'.cell? ⟨g, 3, none⟩ = some (.pointer (some ⟨p, 0, none⟩)) ∧ w'.cell? ⟨w.heap.size, 0, none⟩ = some (.int .i64 (a : Int)) ∧ w'.cell? ⟨w.heap.size, 1, none⟩ = some (.int .i64 (b : Int))) [8] [0, 1, 2, 3, 4, 5, 6, 7, 8] (by kernel_rfl) (by kernel_rfl) (by kernel_rfl) ?_ ?_ ?_
      · intro c a a' w hd h; exact ⟨hd ▸ h.1, h.2⟩
      · exact ⟨HH2.out.c3, HH2.out.b0, HH2.out.b1⟩
      simp only [taken, List.map_cons, List.map_nil, List.getElem?_cons_succ, List.getElem?_cons_zero, Option.getD_some]
      repeat (first
        | (refine takeH_skip rfl ?_; simp only [Act.put, List.setIfInBounds_toArray, List.set_cons_succ, List.set_cons_zero])
        | (refine takeH_blind rfl rfl ?_; apply Exists.intro; refine ⟨fun w => ?_, ?_⟩; (go_simp; try with_reducible rfl); simp only [Act.put, List.setIfInBounds_toArray, List.set_cons_succ, List.set_cons_zero])
        | (refine takeH_reads rfl rfl ?_; apply Exists.intro; refine ⟨fun w' hS => ?_, ?_⟩; (obtain ⟨d0, d1, d2⟩ := HC.out w' hS; go_simp; try with_reducible rfl); simp only [Act.put, List.setIfInBounds_toArray, List.set_cons_succ, List.set_cons_zero]))
      refine takeH_call rfl rfl (fun K' hK => ?_)
      go_wp2_with fail
      have HBt := Lib.hid (HH2.out.bits a 6 (by omega) (by have := HZ.out; rw [List.length_append, fieldBits_length]; omega))
      refine HBt.out.mono ?_
      rintro e w3 ⟨rfl, v3, hH3, _⟩
      refine hK _ _ ⟨hH3.c3, hH3.b0, hH3.b1⟩ ?_
      have HH3 := Lib.hid hH3.drew
      clear hH3 HBt HH2 hK K'
      refine takeH_nil ?_
      have e1 : (b : Int) - 1 = ((b - 1 : Nat) : Int) := by omega
      have hb2 : ((b - 1 : Nat) : Int) ≤ 63 := by omega
      have HBt := Lib.hid (HH3.out.bits (b - 1) 6 (by omega) (by have := HZ.out; rw [List.length_append, List.length_append, fieldBits_length, fieldBits_length]; omega))
      have HB2 : Hid (headS a b true = [true, true] ++ (fieldBits a 6 ++ fieldBits (b - 1) 6)) := by show _ = _; rw [headS, if_neg HN.out, if_pos rfl]
      generalize b - 1 = bm at *
      go_wp2_with fail
      refine wp_region_takeH (fun w' : World => w'.cell? ⟨g, 3, none⟩ = some (.pointer (some ⟨p, 0, none⟩)) ∧ w'.cell? ⟨w.heap.size, 0, none⟩ = some (.int .i64 (a : Int)) ∧ w'.cell? ⟨w.heap.size, 1, none⟩ = some (.int .i64 (b : Int))) [9] [0, 1, 2, 3, 4, 5, 6, 7, 8, 9] (by kernel_rfl) (by kernel_rfl) (by kernel_rfl) ?_ ?_ ?_
      · intro c a a' w hd h; exact ⟨hd ▸ h.1, h.2⟩
      · exact ⟨HH3.out.c3, HH3.out.b0, HH3.out.b1⟩
      simp only [taken, List.map_cons, List.map_nil, List.getElem?_cons_succ, List.getElem?_cons_zero, Option.getD_some]
      repeat (first
        | (refine takeH_skip rfl ?_; simp only [Act.put, List.setIfInBounds_toArray, List.set_cons_succ, List.set_cons_zero])
        | (refine takeH_blind rfl rfl ?_; apply Exists.intro; refine ⟨fun w => ?_, ?_⟩; (go_simp; try with_reducible rfl); simp only [Act.put, List.setIfInBounds_toArray, List.set_cons_succ, List.set_cons_zero])
        | (refine takeH_reads rfl rfl ?_; apply Exists.intro; refine ⟨fun w' hS => ?_, ?_⟩; (obtain ⟨d0, d1, d2⟩ := HC.out w' hS; go_simp; try with_reducible rfl); simp only [Act.put, List.setIfInBounds_toArray, List.set_cons_succ, List.set_cons_zero]))
      refine takeH_call rfl rfl (fun K' hK => ?_)
      go_wp2_with fail
      refine HBt.out.mono ?_
      rintro e w4 ⟨rfl, v4, hH4, _⟩
      refine hK _ _ ⟨hH4.c3, hH4.b0, hH4.b1⟩ ?_
      have HH4 := Lib.hid hH4
      clear hH4 HBt HH3 hK K'
      refine takeH_nil ?_
      go_wp2_with fail
      go_end0
      refine ⟨rfl, v4, ?_, HH4.out.upd⟩
      rw [HB2.out, ← List.append_assoc, ← List.append_assoc]
      exact HH4.out.wr
end Go.Proofs.YtgpmoimmpbkgfaaGreatDoor

end

section
/- Layer 6: the program writes one value. -/
set_option linter.unusedVariables false
set_option maxRecDepth 20000
namespace Go.Proofs.YtgpmoimmpbkgfaaGreatDoor
open Go Go.RowKit

theorem step_cells (win : Option (Nat × Nat)) (last value : Nat) : advC last (value ^^^ last) (wl win) (ww win) (sL win (value ^^^ last)) (sW win (value ^^^ last)) (sN win (value ^^^ last)) = [.int .u64 (value : Int), .int .i64 (wl (nextW win (value ^^^ last)) : Int), .int .i64 (ww (nextW win (value ^^^ last)) : Int)] := by
  have e : last ^^^ (value ^^^ last) = value := by rw [Nat.xor_comm value, ← Nat.xor_assoc, Nat.xor_self, Nat.zero_xor]
  rw [advC, e, nextW, sL, sW, sN]
  by_cases h0 : value ^^^ last = 0
  · simp only [h0, if_true, Bool.false_eq_true, if_false]
  · by_cases hf : fits win (value ^^^ last) = true
    · simp only [h0, hf, if_true, Bool.false_eq_true, if_false]
    · simp only [h0, hf, if_true, Bool.false_eq_true, if_false]; rfl
theorem step_form {win : Option (Nat × Nat)} (ho : okW win) {x : Nat} (hx : x < 18446744073709551616) : ((sL win x = 0 ∧ sW win x = 0) ∨ 1 ≤ sW win x) ∧ sL win x ≤ 63 ∧ sW win x ≤ 64 ∧ sL win x + sW win x ≤ 64 := by
  rw [sL, sW]
  by_cases h0 : x = 0
  · simp only [h0, if_true]; exact ⟨Or.inl ⟨trivial, trivial⟩, by omega, by omega, by omega⟩
  · by_cases hf : fits win x = true
    · simp only [h0, hf, if_true, if_false]
      cases win with
      | none => cases hf
      | some w => obtain ⟨L, t⟩ := w; have := ho L t rfl; simp only [wl, ww]; omega
    · simp only [h0, hf, if_false, Bool.false_eq_true]
      have := window hx h0; omega
theorem step_bits {win : Option (Nat × Nat)} (ho : okW win) {x : Nat} (hx : x < 18446744073709551616) : headS (sL win x) (sW win x) (sN win x) ++ fieldBits (x / 2 ^ (64 - sL win x - sW win x)) (sW win x) = encW win x := by
  unfold sL sW sN encW
  by_cases h0 : x = 0
  · simp only [h0, if_true, headS, and_self, Nat.zero_div]; rfl
  · by_cases hf : fits win x = true
    · simp only [h0, hf, if_true, if_false]
      cases win with
      | none => cases hf
      | some w =>
        obtain ⟨L, t⟩ := w
        have := ho L t rfl
        simp only [wl, ww]
        rw [headS, if_neg (by omega), if_neg (by decide), show 64 - L - (64 - L - t) = t by omega]
    · have hff : fits win x = false := by simpa using hf
      have hw := window hx h0
      simp only [h0, hff, if_false, Bool.false_eq_true]
      rw [headS, if_neg (by omega), if_pos rfl, show 64 - leadV x - (64 - leadV x - trailV x) = trailV x by omega, show 64 - leadV x - trailV x - 1 = 63 - leadV x - trailV x by omega, List.append_assoc, List.append_assoc]
      cases win with
      | none => rfl
      | some w => obtain ⟨L, t⟩ := w; rfl

theorem headS_len (a b : Nat) (c : Bool) : (headS a b c).length ≤ 14 := by
  unfold headS
  split
  · simp
  · split
    · simp only [List.length_append, fieldBits_length, List.length_cons, List.length_nil]; omega
    · simp

/-- An encoder at g, over the writer at p. -/
structure EncIs (g p : Nat) (v : Value) (bits : List Bool) (last : Nat) (win : Option (Nat × Nat)) (w : World) : Prop where
  blk : Blk w g [.int .u64 (last : Int), .int .i64 (wl win : Int), .int .i64 (ww win : Int), .pointer (some ⟨p, 0, none⟩)]
  wr : WriterIn w p v bits
  gp : g ≠ p
  gv : v.ownBlock ≠ some g
  tab : TabZ w
  tg : 1 ≠ g
  tp : 1 ≠ p
  tv : v.ownBlock ≠ some 1
  la : last < 18446744073709551616
  ok : okW win

set_option maxHeartbeats 4000000 in
theorem put_any (g p : Nat) (v : Value) (bs : List Bool) (last value : Nat) (win : Option (Nat × Nat)) (w : World) (h : EncIs g p v bs last win w) (hv : value < 18446744073709551616) (hz : bs.length + 200 ≤ 1125899906842624) :
    Calls Tryz.prog 83 #[.pointer (some ⟨g, 0, none⟩), .int .u64 (value : Int)] w fun e w' => e = .returned (.tuple #[]) ∧ ∃ v', EncIs g p v' (bs ++ encW win (value ^^^ last)) value (nextW win (value ^^^ last)) w' ∧ Mods (fun k => k = g ∨ k = p ∨ v.ownBlock = some k) w w' ∧ Fresh w.heap.size v v' := by
  have H := Lib.hid h
  have HX : Hid (bits .xor .u64 (value : Int) (last : Int) = ((value ^^^ last : Nat) : Int)) := bits_xor_u64_nat value last hv h.la
  have hx : value ^^^ last < 18446744073709551616 := xor_lt64 hv h.la
  have c0 : w.cell? ⟨g, 0, none⟩ = some (.int .u64 (last : Int)) := by rw [h.blk.cell]; rfl
  have HSt := Lib.hid (stepFor_any g win (value ^^^ last) h.ok hx w h.tab (by rw [h.blk.cell]; rfl) (by rw [h.blk.cell]; rfl))
  have HCe := Lib.hid (step_cells win last value)
  have HFo := Lib.hid (step_form h.ok hx)
  have HBi := Lib.hid (step_bits h.ok hx)
  have HHx := Lib.hid hx
  have HZ := Lib.hid hz
  have HV := Lib.hid hv
  have HNx : Hid (okW (nextW win (value ^^^ last))) := okW_next h.ok hx
  clear h hx hz hv
  generalize value ^^^ last = x at *
  generalize sL win x = a at *
  generalize sW win x = b at *
  generalize sN win x = c at *
  generalize encW win x = E at *
  generalize nextW win x = win' at *
  go_enter Tryz.func83, Tryz.ntmps83
  go_wp2_with fail
  rw [HX.out]
  go_wp2_with fail
  refine HSt.out.mono ?_
  rintro e w2 ⟨rfl, hB2⟩
  obtain ⟨w3, hw3⟩ : ∃ w3, w2.alloc (.cells #[.int .i64 (a : Int), .int .i64 (b : Int), .bool c] 136) = w3 := ⟨_, rfl⟩
  have hK3 : Blk w3 w2.heap.size [.int .i64 (a : Int), .int .i64 (b : Int), .bool c] := by rw [← hw3]; exact Blk.new w2 _ _
  have HB3 : Hid (Below w.heap.size w w3) := by rw [← hw3]; exact hB2.alloc hB2.size _
  have HG : Hid (Blk w3 g [.int .u64 (last : Int), .int .i64 (wl win : Int), .int .i64 (ww win : Int), .pointer (some ⟨p, 0, none⟩)]) := H.out.blk.of_same (HB3.out.block _ H.out.blk.lt)
  have hsz := hB2.size
  have HSz := Lib.hid hsz
  have HH3 : Hid (HeadAt g p w2.heap.size a b c w v bs w3 v) :=
    ⟨H.out.wr.below HB3.out, Upd.of_below HB3.out _ _, by rw [HG.out.cell]; rfl, hK3.three.1.1, hK3.three.1.2.1, hK3.three.1.2.2, H.out.gp, H.out.gv, by have := H.out.wr.blk.lt; omega, fun e => by have := owns_lt H.out.wr.own _ e; omega⟩
  clear HSt HX c0 hB2 hK3 hsz
  have d0 := HH3.out.b0
  have d1 := HH3.out.b1
  have d2 := HH3.out.b2
  have HPs := Lib.hid (putStep_any g p a b c v bs w3 HH3.out.wr HH3.out.c3 HH3.out.gp HH3.out.gv HFo.out.1 HFo.out.2.1 HFo.out.2.2.1 (by have := HZ.out; omega))
  go_wp2_with fail
  refine HPs.out.mono ?_
  rintro e w4 ⟨rfl, v4, hW4, hU4⟩
  have HH4 := Lib.hid (HH3.out.next hW4 hU4).drew
  have HG4 : Hid (Blk w4.drew g [.int .u64 (last : Int), .int .i64 (wl win : Int), .int .i64 (ww win : Int), .pointer (some ⟨p, 0, none⟩)]) := (HG.out.of_same (hU4.mods.block _ HG.out.lt (fun e => e.elim H.out.gp H.out.gv)))
  clear hW4 hU4 HPs HG HH3 d0 d1 d2 hw3
  have HC : Hid (∀ w' : World, (w'.cell? ⟨g, 3, none⟩ = some (.pointer (some ⟨p, 0, none⟩)) ∧ w'.cell? ⟨w2.heap.size, 0, none⟩ = some (.int .i64 (a : Int)) ∧ w'.cell? ⟨w2.heap.size, 1, none⟩ = some (.int .i64 (b : Int))) → (w'.cell? ⟨g, 3, none⟩ = some (.pointer (some ⟨p, 0, none⟩)) ∧ w'.cell? ⟨w2.heap.size, 0, none⟩ = some (.int .i64 (a : Int)) ∧ w'.cell? ⟨w2.heap.size, 1, none⟩ = some (.int .i64 (b : Int)))) := fun _ h => h
  go_wp2_with fail
  refine wp_region_takeH (fun w' : World => w'.cell? ⟨g, 3, none⟩ = some (.pointer (some ⟨p, 0, none⟩)) ∧ w'.cell? ⟨w2.heap.size, 0, none⟩ = some (.int .i64 (a : Int)) ∧ w'.cell? ⟨w2.heap.size, 1, none⟩ = some (.int .i64 (b : Int))) [7, 12] [0, 1, 2, 3, 4, 5, 6, 9, 10, 11, 7, 8, 12] (by kernel_rfl) (by kernel_rfl) (by kernel_rfl) ?_ ?_ ?_
  · intro c a a' w hd h; exact ⟨hd ▸ h.1, h.2⟩
  · exact ⟨HH4.out.c3, HH4.out.b0, HH4.out.b1⟩
  simp only [taken, List.map_cons, List.map_nil, List.getElem?_cons_succ, List.getElem?_cons_zero, Option.getD_some]
  repeat (first
        | (refine takeH_skip rfl ?_; simp only [Act.put, List.setIfInBounds_toArray, List.set_cons_succ, List.set_cons_zero])
        | (refine takeH_blind rfl rfl ?_; apply Exists.intro; refine ⟨fun w => ?_, ?_⟩; (go_simp; try with_reducible rfl); simp only [Act.put, List.setIfInBounds_toArray, List.set_cons_succ, List.set_cons_zero])
        | (refine takeH_reads rfl rfl ?_; apply Exists.intro; refine ⟨fun w' hS => ?_, ?_⟩; (obtain ⟨d0, d1, d2⟩ := HC.out w' hS; go_simp; try with_reducible rfl); simp only [Act.put, List.setIfInBounds_toArray, List.set_cons_succ, List.set_cons_zero]))
  refine takeH_call rfl rfl (fun K' hK => ?_)
  go_wp2_with fail
  refine (trailing_any a b (by have := HFo.out.2.1; omega) (by have := HFo.out.2.2.1; omega) w4.drew).mono ?_
  rintro e w5 ⟨rfl, hB5⟩
  have HH5 := Lib.hid (HH4.out.next (HH4.out.wr.below hB5) (Upd.of_below hB5 p _))
  have HG5 := Lib.hid (HG4.out.of_same (hB5.block _ HG4.out.lt))
  refine hK _ _ ⟨HH5.out.c3, HH5.out.b0, HH5.out.b1⟩ ?_
  clear hK K' hB5 HH4 HG4
  have e1 : (64 : Int) - (a : Int) - (b : Int) = ((64 - a - b : Nat) : Int) := by have := HFo.out.2.2.2; omega
  rw [e1]
  clear e1
  have hT64 : ((64 - a - b : Nat) : Int) ≤ 64 := by omega
  generalize 64 - a - b = T at *
  repeat (first
        | (refine takeH_skip rfl ?_; simp only [Act.put, List.setIfInBounds_toArray, List.set_cons_succ, List.set_cons_zero])
        | (refine takeH_blind rfl rfl ?_; apply Exists.intro; refine ⟨fun w => ?_, ?_⟩; (go_simp; try with_reducible rfl); simp only [Act.put, List.setIfInBounds_toArray, List.set_cons_succ, List.set_cons_zero])
        | (refine takeH_reads rfl rfl ?_; apply Exists.intro; refine ⟨fun w' hS => ?_, ?_⟩; (obtain ⟨d0, d1, d2⟩ := HC.out w' hS; go_simp; try with_reducible rfl); simp only [Act.put, List.setIfInBounds_toArray, List.set_cons_succ, List.set_cons_zero]))
  have e2 : (x : Int) / 2 ^ T = ((x / 2 ^ T : Nat) : Int) := by simp
  rw [e2]
  clear e2
  have HBt := Lib.hid (HH5.out.bits (x / 2 ^ T) b (by have := HFo.out.2.2.1; omega) (by
    have h1 := HZ.out
    rw [List.length_append]
    have := headS_len a b c
    omega))
  refine takeH_call rfl rfl (fun K' hK => ?_)
  go_wp2_with fail
  refine HBt.out.mono ?_
  rintro e w6 ⟨rfl, v6, hH6, hg6⟩
  refine hK _ _ ⟨hH6.c3, hH6.b0, hH6.b1⟩ ?_
  have HH6 := Lib.hid hH6.drew
  have HG6 : Hid (Blk w6.drew g [.int .u64 (last : Int), .int .i64 (wl win : Int), .int .i64 (ww win : Int), .pointer (some ⟨p, 0, none⟩)]) := HG5.out.of_same hg6
  rw [List.append_assoc, HBi.out] at HH6
  clear hH6 hg6 HBt HH5 HG5 hK K' HC
  have HC : Hid (∀ w' : World, (w'.cell? ⟨w2.heap.size, 0, none⟩ = some (.int .i64 (a : Int)) ∧ w'.cell? ⟨w2.heap.size, 1, none⟩ = some (.int .i64 (b : Int)) ∧ w'.cell? ⟨w2.heap.size, 2, none⟩ = some (.bool c)) → (w'.cell? ⟨w2.heap.size, 0, none⟩ = some (.int .i64 (a : Int)) ∧ w'.cell? ⟨w2.heap.size, 1, none⟩ = some (.int .i64 (b : Int)) ∧ w'.cell? ⟨w2.heap.size, 2, none⟩ = some (.bool c))) := fun _ h => h
  refine takeH_nil ?_
  go_wp2_with fail
  refine wp_region_takeH (fun w' : World => w'.cell? ⟨w2.heap.size, 0, none⟩ = some (.int .i64 (a : Int)) ∧ w'.cell? ⟨w2.heap.size, 1, none⟩ = some (.int .i64 (b : Int)) ∧ w'.cell? ⟨w2.heap.size, 2, none⟩ = some (.bool c)) [5] [0, 1, 2, 3, 4, 5] (by kernel_rfl) (by kernel_rfl) (by kernel_rfl) ?_ ?_ ?_
  · intro c a a' w hd h; exact ⟨hd ▸ h.1, h.2⟩
  · exact ⟨HH6.out.b0, HH6.out.b1, HH6.out.b2⟩
  simp only [taken, List.map_cons, List.map_nil, List.getElem?_cons_succ, List.getElem?_cons_zero, Option.getD_some]
  repeat (first
        | (refine takeH_skip rfl ?_; simp only [Act.put, List.setIfInBounds_toArray, List.set_cons_succ, List.set_cons_zero])
        | (refine takeH_blind rfl rfl ?_; apply Exists.intro; refine ⟨fun w => ?_, ?_⟩; (go_simp; try with_reducible rfl); simp only [Act.put, List.setIfInBounds_toArray, List.set_cons_succ, List.set_cons_zero])
        | (refine takeH_reads rfl rfl ?_; apply Exists.intro; refine ⟨fun w' hS => ?_, ?_⟩; (obtain ⟨d0, d1, d2⟩ := HC.out w' hS; go_simp; try with_reducible rfl); simp only [Act.put, List.setIfInBounds_toArray, List.set_cons_succ, List.set_cons_zero]))
  refine takeH_call rfl rfl (fun K' hK => ?_)
  go_wp2_with fail
  refine (advance_any g last x (wl win) (ww win) a b c [.pointer (some ⟨p, 0, none⟩)] H.out.la HHx.out w6.drew HG6.out).mono ?_
  rintro e w7 ⟨rfl, hG7, hM7⟩
  have hne : w2.heap.size ≠ g := by have := HSz.out; have := H.out.blk.lt; omega
  refine hK _ _ ⟨hM7.cell HH6.out.b0 hne, hM7.cell HH6.out.b1 hne, hM7.cell HH6.out.b2 hne⟩ ?_
  refine takeH_nil ?_
  go_wp2_with fail
  go_end0
  have hU := HH6.out.upd.mods
  have hM : Mods (fun k => k = g ∨ k = p ∨ v.ownBlock = some k) w w7 := (hU.mono (fun j _ e => Or.inr e)).trans hM7 (fun j _ e => Or.inl e)
  refine ⟨rfl, v6, ⟨?_, ?_, H.out.gp, HH6.out.gv, ?_, H.out.tg, H.out.tp, ?_, ?_, HNx.out⟩, hM, HH6.out.upd.fresh⟩
  · rw [HCe.out] at hG7; exact hG7
  · exact HH6.out.wr.mods hM7 (fun e => H.out.gp e.symm) (fun k hk e => HH6.out.gv (e ▸ hk))
  · exact H.out.tab.block (hM.block _ H.out.tab.lt (fun e => e.elim H.out.tg (fun e => e.elim H.out.tp H.out.tv)))
  · intro e
    rcases HH6.out.upd.fresh _ e with e | e
    · exact H.out.tv e
    · have := H.out.tab.lt; omega
  · exact HV.out
end Go.Proofs.YtgpmoimmpbkgfaaGreatDoor

end

section
/- 's[i:]' of a slice that is read: the block is the slice's own. No program in sight. -/
namespace Go.Proofs.YtgpmoimmpbkgfaaGreatDoor
open Go Go.RowKit

theorem own_sliced {p : Option Addr} {i n c sz k : Nat} (h : (sliced p i n c sz).ownBlock = some k) : (Value.slice p n c).ownBlock = some k := by
  unfold sliced at h
  cases p with
  | none => split at h <;> simp [Value.ownBlock] at h
  | some a =>
    split at h <;> simp_all [Value.ownBlock, Addr.add]
    all_goals (try split at h) <;> simp_all
section
variable {P : Program}
theorem wpList_fromO {t e : TypeId} {sz bytes : Nat} (hE : Elem P t e sz bytes) (w : World) (v : Value) (n i : Nat) (vs : List Value) (h0 : Rd w sz v n vs) (hi : i ≤ n)
    {ops : Array Oper} {rest : List Oper} {o : Oper} {a : Act} {Q : Exit → Act → World → Prop} (hgd : Region.wanted o (yielded ops a.tmps) = true) (s x : Operand) (ho : o.op = .slice t s (some x) none none)
    (hs : a.eval s = v) (hx : a.eval x = .int .i64 (i : Int))
    (h : ∀ p c, Rd w sz (.slice p (n - i) c) (n - i) (vs.drop (i * sz)) → (∀ k, (Value.slice p (n - i) c).ownBlock = some k → v.ownBlock = some k) → wpList P ops Q rest (a.put o.dst (.slice p (n - i) c)) w) : wpList P ops Q (o :: rest) a w := by
  obtain ⟨inf, z, hinf, hz, hsize, hby, hzs⟩ := hE.hi
  obtain ⟨p, c, hv⟩ := h0.shape
  subst hv
  refine BigFrame.wpList_want hgd fun K hK => ?_
  have helem : P.elem t = e := by simp [Program.elem, hE.ht]
  have hu : P.underlying t = some (.slice (P.elem t)) := by rw [helem]; exact hE.ht
  have hcell : P.cellsOf (P.elem t) = sz := by rw [helem]; simp [Program.cellsOf, hinf, hsize]
  have hr : (Instr.sliceAt t (.slice p n c) (some (.int .i64 (i : Int))) none none).run P w = .ok (sliced p i n c sz) w := by
    have hsz := run_sizeOf (w := w) (show P.info? (P.elem t) = some inf by rw [helem]; exact hinf)
    rw [run_sliceAt_slice (h := hu), run_slice_l (ht := hu) (h0 := by omega) (h1 := by omega), hsz, hcell]
    simp [Result.andThen]
  unfold Oper.wp execOp
  simp only [ho, Sem.run_bind, Sem.run_pure, Result.andThen_ok, hs, hx, hr, Option.map_some, Option.map_none]
  exact hK _ _ (h _ _ (h0.from i hi) (fun k hk => own_sliced hk))
end
end Go.Proofs.YtgpmoimmpbkgfaaGreatDoor

end

section
/- Layer 6: the program's Put. -/
set_option linter.unusedVariables false
set_option maxRecDepth 20000
namespace Go.Proofs.YtgpmoimmpbkgfaaGreatDoor
open Go Go.RowKit

theorem xorval_put_nil (p : Nat) (v lv : Value) (bs : List Bool) (w : World) (hW : WriterIn w p v bs) (h : Rd w 1 lv 0 []) :
    Calls Tryz.prog 49 #[.pointer (some ⟨p, 0, none⟩), lv] w fun e w' => e = .returned (.int .i64 0) ∧ BitsPost p v bs w w' := by
  have HW := Lib.hid hW
  clear hW
  obtain ⟨q, c, hv⟩ := h.shape
  subst hv
  go_enter Tryz.func49, Tryz.ntmps49
  go_wp2_with fail
  go_ret
  exact ⟨rfl, v, HW.out, Upd.refl _ _ _⟩
theorem xorval_put_nilw (w : World) : Calls Tryz.prog 49 #[.pointer none, .slice none 0 0] w fun e w' => e = .returned (.int .i64 1) ∧ Below w.heap.size w w' := by
  go_enter Tryz.func49, Tryz.ntmps49
  go_wp2_with fail
  go_ret
  exact ⟨rfl, Below.refl _ _⟩

/-- Where Put stands between two rounds. -/
structure PutInV (g p : Nat) (v : Value) (bs : List Bool) (ls tl : List Nat) (lv : Value) (w : World) (k : Nat) (v' : Value) (last : Nat) (win : Option (Nat × Nat)) (out : List Bool) (wr : World) : Prop where
  enc : EncIs g p v' out last win wr
  left : bs ++ encV ls = out ++ encFromV win last (tl.drop k)
  upd : Upd w wr p v v'
  row : Rd wr 1 lv tl.length (u64s tl)

set_option maxHeartbeats 4000000 in
theorem xorval_put_cons (p : Nat) (v lv : Value) (bs : List Bool) (ls : List Nat) (t0 : Nat) (tl : List Nat) (els : ls = t0 :: tl) (w : World) (hT : TabZ w) (hW : WriterIn w p v bs) (htp : 1 ≠ p) (htv : v.ownBlock ≠ some 1)
    (hl : Rd w 1 lv ls.length (u64s ls)) (ok : ∀ t ∈ ls, in64u t) (hap : ∀ k, lv.ownBlock = some k → k ≠ p ∧ v.ownBlock ≠ some k) (hz : bs.length + 78 * ls.length ≤ 70368744177000) :
    Calls Tryz.prog 49 #[.pointer (some ⟨p, 0, none⟩), lv] w fun e w' => e = .returned (.int .i64 0) ∧ BitsPost p v (bs ++ encV ls) w w' := by
  obtain ⟨b0, off, c, e, hm1, hm2, hcl⟩ := hl.at (by rw [els]; simp [u64s])
  subst e
  have HT := Lib.hid hT; have HW := Lib.hid hW; have HEL := Lib.hid els; have HOk := Lib.hid ok; have HZ := Lib.hid hz
  have hne : (ls.length : Int) ≠ 0 := by rw [els]; simp only [List.length_cons]; omega
  have hpos : (0 : Int) < (ls.length : Int) := by omega
  have hone : (1 : Int) ≤ (ls.length : Int) := by omega
  have hnb : ((ls.length : Int) == 0) = false := by rw [beq_eq_false_iff_ne]; exact hne
  have hc0 : w.cell? ⟨b0, off, none⟩ = some (.int .u64 (t0 : Int)) := by have := hcl 0 (.int .u64 (t0 : Int)) (by rw [els]; rfl); simpa using this
  have HAp : Hid (b0 ≠ p ∧ v.ownBlock ≠ some b0 ∧ b0 < w.heap.size) := ⟨(hap b0 rfl).1, (hap b0 rfl).2, World.block_lt_of_cell? w _ hc0⟩
  have HCl : Hid (∀ (i t : Nat), ls[i]? = some t → w.cell? ⟨b0, off + i, none⟩ = some (.int .u64 (t : Int))) := fun i t h => hcl i _ (by rw [u64s, List.getElem?_map, h]; rfl)
  have HB := Lib.hid (wbits p v bs t0 64 w hW (by omega) (by omega))
  have HRd := Lib.hid hl
  have hpos1 : 1 ≤ ls.length := by omega
  clear hT hW els ok hz hcl hap hl
  go_enter Tryz.func49, Tryz.ntmps49
  go_wp2_with fail
  refine HB.out.mono ?_
  rintro e w2 ⟨rfl, v2, hW2, hU2⟩
  have HW2 := Lib.hid hW2
  have HU2 := Lib.hid hU2
  have hc2 : w2.cell? ⟨b0, off, none⟩ = some (.int .u64 (t0 : Int)) := (hU2.keep hc0 HAp.out.1 HAp.out.2.1).1
  clear hW2 hU2 HB hc0
  have hsub : ls.length - 1 = tl.length := by rw [HEL.out]; rfl
  have hrow : Rd w2 1 (.slice (some ⟨b0, off, none⟩) ls.length c) ls.length (u64s ls) := HRd.out.mods HU2.out.mods (fun k hk e => by cases hk; exact e.elim HAp.out.1 HAp.out.2.1)
  obtain ⟨w3, hw3⟩ : ∃ w3, w2.alloc (.cells #[.int .u64 (t0 : Int), .int .i64 0, .int .i64 0, .pointer (some ⟨p, 0, none⟩)] 140) = w3 := ⟨_, rfl⟩
  have hB3 : Below w2.heap.size w2 w3 := by rw [← hw3]; exact (Below.refl _ w2).alloc (Nat.le_refl _) _
  have hK3 : Blk w3 w2.heap.size [.int .u64 (t0 : Int), .int .i64 0, .int .i64 0, .pointer (some ⟨p, 0, none⟩)] := by rw [← hw3]; exact Blk.new w2 _ _
  have HR3 := Lib.hid (hrow.below hB3)
  have hpl := HW.out.blk.lt
  have hs2 := HU2.out.mods.size
  have HE3 : Hid (EncIs w2.heap.size p v2 (bs ++ fieldBits t0 64) t0 none w3) := by
    have hvn : v2.ownBlock ≠ some 1 := fun e => (HU2.out.fresh _ e).elim htv (fun k => by have := HT.out.lt; omega)
    refine ⟨hK3, HW2.out.below hB3, by omega, fun e => by have := owns_lt HW2.out.own _ e; omega, ?_, by have := HT.out.lt; omega, htp, hvn, HOk.out t0 (by rw [HEL.out]; simp), fun _ _ e => by cases e⟩
    exact (HT.out.block (HU2.out.mods.block _ HT.out.lt (fun e => e.elim htp htv))).below hB3 (Nat.le_refl _)
  have HU3 : Hid (Upd w w3 p v v2) := HU2.out.trans (Upd.of_below hB3 p v2)
  have HL3 : Hid (bs ++ encV ls = (bs ++ fieldBits t0 64) ++ encFromV none t0 tl) := by show _ = _; rw [HEL.out, encV, List.append_assoc]
  have HG : Hid (w.heap.size ≤ w2.heap.size) := hs2
  clear hB3 hK3 hrow hpl hs2 HW2 HU2 htp htv HRd
  go_wp2_with (refine wpList_fromO Tryz.elemU64 _ _ _ 1 _ HR3.out hpos1 rfl _ _ rfl rfl rfl ?_; intro q c2 h2 hown)
  rw [hsub] at *
  have HOwn : Hid (∀ k, (Value.slice q tl.length c2).ownBlock = some k → k = b0) := fun k hk => by have := hown k hk; cases this; rfl
  have HR4 : Hid (Rd w3 1 (.slice q tl.length c2) tl.length (u64s tl)) := by
    show Rd _ _ _ _ _
    have : List.drop (1 * 1) (u64s ls) = u64s tl := by rw [HEL.out]; rfl
    rw [← this]; exact h2
  have HLn : Hid (ls.length = tl.length + 1) := by show _ = _; rw [HEL.out]; rfl
  have hmb : (tl.length : Int) ≤ 1000000000000 := by have h1 := HLn.out; have h2 := HZ.out; omega
  have HI0 : Hid (PutInV w2.heap.size p v bs ls tl (.slice q tl.length c2) w 0 v2 t0 none (bs ++ fieldBits t0 64) w3) := ⟨HE3.out, HL3.out, HU3.out, HR4.out⟩
  clear hsub h2 hown HR3 HR4 HE3 HL3 HU3 hw3 hc2 hne hpos hone hnb hpos1
  generalize w2.heap.size = g at *
  go_loopw [7, 27] (fun xv kv wr => ∃ (k : Nat) (v' : Value) (last : Nat) (win : Option (Nat × Nat)) (out : List Bool), k ≤ tl.length ∧ kv = .int .i64 (k : Int) ∧ Hid (PutInV g p v bs ls tl (.slice q tl.length c2) w k v' last win out wr)) (fun _ kv _ => tl.length - (intOf kv).toNat)
  case atStart => exact ⟨0, v2, t0, none, _, by omega, rfl, HI0.out⟩
  case round =>
    obtain ⟨k, v', last, win, out, hkm, rfl, HI⟩ := hrel
    by_cases hk : k < tl.length
    · have hk' : (k : Int) < (tl.length : Int) := by omega
      have hkb : (k : Int) ≤ 1000000000000 := by omega
      obtain ⟨b1, o1, c1, e1, _, _, hcl1⟩ := HI.out.row.at (by intro e; have := congrArg List.length e; rw [u64s, List.length_map, List.length_nil] at this; omega)
      cases e1
      obtain ⟨t, ht⟩ : ∃ t, tl[k]? = some t := ⟨_, List.getElem?_eq_getElem hk⟩
      have hc1 : wr.cell? ⟨b1, o1 + k, none⟩ = some (.int .u64 (t : Int)) := hcl1 k _ (by rw [u64s, List.getElem?_map, ht]; rfl)
      have hti : in64u t := HOk.out t (by rw [HEL.out]; exact List.mem_cons_of_mem _ (List.mem_of_getElem? ht))
      have hdr : tl.drop k = t :: tl.drop (k + 1) := by rw [List.drop_eq_getElem_cons hk]; rw [List.getElem?_eq_getElem hk] at ht; cases ht; rfl
      have hlen : out.length ≤ bs.length + 78 * ls.length := by
        have h1 := congrArg List.length HI.out.left
        rw [List.length_append, List.length_append] at h1
        have h2 := encV_len ls
        omega
      have HP := Lib.hid (put_any g p v' out last t win wr HI.out.enc hti (by have := HZ.out; omega))
      have HT1 := Lib.hid ht; have HD := Lib.hid hdr
      clear hcl1 ht hti hdr hlen
      go_wp2_with fail
      refine HP.out.mono ?_
      rintro e w5 ⟨rfl, v5, hE5, hM5, hF5⟩
      have HI5 : Hid (PutInV g p v bs ls tl (.slice (some ⟨b1, o1, none⟩) tl.length c2) w (k + 1) v5 t (nextW win (t ^^^ last)) (out ++ encW win (t ^^^ last)) w5) := by
        have hb : b1 = b0 := HOwn.out b1 rfl
        have hfr := HI.out.upd.fresh
        have hsz := HI.out.upd.mods.size
        have hg := HG.out; have hpl := HW.out.blk.lt; have hap := HAp.out
        refine ⟨hE5, ?_, ⟨HI.out.upd.mods.trans hM5 (fun j hj e => ?_), hfr.trans hF5 hsz⟩, HI.out.row.mods hM5 (fun j hj e => ?_)⟩
        · rw [HI.out.left, HD.out, encFromV, List.append_assoc]
        · rcases e with e | e | e
          · omega
          · exact Or.inl e
          · exact (hfr j e).elim Or.inr (fun h => by omega)
        · cases hj
          rw [hb] at e
          change b0 = g ∨ b0 = p ∨ v'.ownBlock = some b0 at e
          rcases e with e | e | e
          · omega
          · exact hap.1 e
          · exact (hfr _ e).elim hap.2.1 (fun h => by omega)
      clear hE5 hM5 hF5 HI HP
      go_wp2_with fail
      go_round
      case rel => exact ⟨k + 1, _, _, _, _, by omega, by go_num, HI5.out⟩
      case measure => simp [intOf]; omega
    · have hk' : ¬ (k : Int) < (tl.length : Int) := by omega
      have HLeft : Hid (bs ++ encV ls = out) := by
        have h := HI.out.left
        rw [List.drop_eq_nil_of_le (by omega), encFromV, List.append_nil] at h
        exact h
      go_wp2_with fail
      go_ret
      rw [HLeft.out]
      exact ⟨rfl, v', HI.out.enc.wr, HI.out.upd⟩
end Go.Proofs.YtgpmoimmpbkgfaaGreatDoor

end

section
/- Layer 6: the program's Size. -/
set_option linter.unusedVariables false
set_option maxRecDepth 20000
namespace Go.Proofs.YtgpmoimmpbkgfaaGreatDoor
open Go Go.RowKit

theorem xorval_size_nil (w : World) (v : Value) (h : Rd w 1 v 0 []) : Calls Tryz.prog 48 #[v] w fun e w' => e = .returned (.int .i64 0) ∧ Below w.heap.size w w' := by
  obtain ⟨p, c, hv⟩ := h.shape
  subst hv
  go_enter Tryz.func48, Tryz.ntmps48
  go_wp2_with fail
  go_ret
  exact ⟨rfl, Below.refl _ _⟩

theorem stepN_len {win : Option (Nat × Nat)} (ho : okW win) {x : Nat} (hx : x < 18446744073709551616) : stepN (sL win x) (sW win x) (sN win x) = (encW win x).length := by
  rw [← step_bits ho hx, List.length_append, fieldBits_length, stepN, headS]
  by_cases h : sL win x = 0 ∧ sW win x = 0
  · rw [if_pos h, if_pos h, h.2]; rfl
  · rw [if_neg h, if_neg h]
    split
    · simp only [List.length_append, fieldBits_length, List.length_cons, List.length_nil]
    · rfl

/-- Where Size stands between two rounds. -/
structure SizeIn (g : Nat) (ls tl : List Nat) (lv : Value) (w : World) (k last : Nat) (win : Option (Nat × Nat)) (n : Nat) (wr : World) : Prop where
  blk : Blk wr g [.int .u64 (last : Int), .int .i64 (wl win : Int), .int .i64 (ww win : Int)]
  below : Below w.heap.size w wr
  left : (encV ls).length = n + (encFromV win last (tl.drop k)).length
  la : last < 18446744073709551616
  ok : okW win
  row : Rd wr 1 lv tl.length (u64s tl)

set_option maxHeartbeats 4000000 in
theorem xorval_size_cons (lv : Value) (ls : List Nat) (t0 : Nat) (tl : List Nat) (els : ls = t0 :: tl) (w : World) (hT : TabZ w) (hl : Rd w 1 lv ls.length (u64s ls)) (ok : ∀ t ∈ ls, in64u t) (hz : 78 * ls.length ≤ 70368744177000) :
    Calls Tryz.prog 48 #[lv] w fun e w' => e = .returned (.int .i64 ((encV ls).length : Int)) ∧ Below w.heap.size w w' := by
  obtain ⟨b0, off, c, e, hm1, hm2, hcl⟩ := hl.at (by rw [els]; simp [u64s])
  subst e
  have HT := Lib.hid hT; have HEL := Lib.hid els; have HOk := Lib.hid ok; have HZ := Lib.hid hz
  have hne : (ls.length : Int) ≠ 0 := by rw [els]; simp only [List.length_cons]; omega
  have hpos : (0 : Int) < (ls.length : Int) := by omega
  have hnb : ((ls.length : Int) == 0) = false := by rw [beq_eq_false_iff_ne]; exact hne
  have hc0 : w.cell? ⟨b0, off, none⟩ = some (.int .u64 (t0 : Int)) := by have := hcl 0 (.int .u64 (t0 : Int)) (by rw [els]; rfl); simpa using this
  have HAp : Hid (b0 < w.heap.size) := World.block_lt_of_cell? w _ hc0
  have HRd := Lib.hid hl
  have hpos1 : 1 ≤ ls.length := by omega
  have hsub : ls.length - 1 = tl.length := by rw [els]; rfl
  have HB3 : Hid (Below w.heap.size w (w.alloc (.cells #[.int .u64 (t0 : Int), .int .i64 0, .int .i64 0] 134))) := (Below.refl _ w).alloc (Nat.le_refl _) _
  have HK3 : Hid (Blk (w.alloc (.cells #[.int .u64 (t0 : Int), .int .i64 0, .int .i64 0] 134)) w.heap.size [.int .u64 (t0 : Int), .int .i64 0, .int .i64 0]) := Blk.new w _ _
  have HR3 := Lib.hid (hl.below HB3.out)
  have HL3 : Hid ((encV ls).length = 64 + (encFromV none t0 tl).length) := by show _ = _; rw [HEL.out, encV, List.length_append, fieldBits_length]
  have HLn : Hid (ls.length = tl.length + 1) := by show _ = _; rw [HEL.out]; rfl
  clear hT els ok hz hcl hl
  go_enter Tryz.func48, Tryz.ntmps48
  go_wp2_with (refine wpList_fromO Tryz.elemU64 _ _ _ 1 _ HR3.out hpos1 rfl _ _ rfl rfl rfl ?_; intro q c2 h2 hown)
  rw [hsub] at *
  have HOwn : Hid (∀ k, (Value.slice q tl.length c2).ownBlock = some k → k = b0) := fun k hk => by have := hown k hk; cases this; rfl
  have HI0 : Hid (SizeIn w.heap.size ls tl (.slice q tl.length c2) w 0 t0 none 64 (w.alloc (.cells #[.int .u64 (t0 : Int), .int .i64 0, .int .i64 0] 134))) := by
    refine ⟨HK3.out, HB3.out, HL3.out, HOk.out t0 (by rw [HEL.out]; simp), fun _ _ e => (by cases e), ?_⟩
    have : List.drop (1 * 1) (u64s ls) = u64s tl := by rw [HEL.out]; rfl
    rw [← this]; exact h2
  have hmb : (tl.length : Int) ≤ 1000000000000 := by have h1 := HLn.out; have h2 := HZ.out; omega
  generalize w.alloc (.cells #[.int .u64 (t0 : Int), .int .i64 0, .int .i64 0] 134) = w3 at *
  clear hsub h2 hown HR3 HL3 hne hpos hnb hpos1 hc0 HK3
  have HG : Hid (∃ g, g = w.heap.size) := ⟨_, rfl⟩
  obtain ⟨g, hg⟩ := HG.out
  clear HG
  rw [← hg] at HI0 ⊢
  have HGe : Hid (g = w.heap.size) := hg
  clear hg
  go_loopw [3, 6, 7, 8, 19] (fun nv vv xv pv kv wr => ∃ (k last : Nat) (win : Option (Nat × Nat)) (n : Nat), k ≤ tl.length ∧ kv = .int .i64 (k : Int) ∧ nv = .int .i64 (n : Int) ∧ Hid (SizeIn g ls tl (.slice q tl.length c2) w k last win n wr)) (fun _ _ _ _ kv _ => tl.length - (intOf kv).toNat)
  case atStart => exact ⟨0, t0, none, 64, by omega, rfl, rfl, HI0.out⟩
  case round =>
    obtain ⟨k, last, win, n, hkm, rfl, rfl, HI⟩ := hrel
    by_cases hk : k < tl.length
    · have hk' : (k : Int) < (tl.length : Int) := by omega
      have hkb : (k : Int) ≤ 1000000000000 := by omega
      have HN : Hid ((encV ls).length ≤ 78 * ls.length) := encV_len ls
      have hnb2 : (n : Int) ≤ 70368744177000 := by have h1 := HI.out.left; have h2 := HN.out; have h3 := HZ.out; omega
      obtain ⟨b1, o1, c1, e1, _, _, hcl1⟩ := HI.out.row.at (by intro e; have := congrArg List.length e; rw [u64s, List.length_map, List.length_nil] at this; omega)
      cases e1
      obtain ⟨t, ht⟩ : ∃ t, tl[k]? = some t := ⟨_, List.getElem?_eq_getElem hk⟩
      have hc1 : wr.cell? ⟨b1, o1 + k, none⟩ = some (.int .u64 (t : Int)) := hcl1 k _ (by rw [u64s, List.getElem?_map, ht]; rfl)
      have hti : in64u t := HOk.out t (by rw [HEL.out]; exact List.mem_cons_of_mem _ (List.mem_of_getElem? ht))
      have hdr : tl.drop k = t :: tl.drop (k + 1) := by rw [List.drop_eq_getElem_cons hk]; rw [List.getElem?_eq_getElem hk] at ht; cases ht; rfl
      have HX : Hid (bits .xor .u64 (t : Int) (last : Int) = ((t ^^^ last : Nat) : Int)) := bits_xor_u64_nat t last hti HI.out.la
      have hx : t ^^^ last < 18446744073709551616 := xor_lt64 hti HI.out.la
      have c0 : wr.cell? ⟨g, 0, none⟩ = some (.int .u64 (last : Int)) := by rw [HI.out.blk.cell]; rfl
      have HTr : Hid (TabZ wr) := HT.out.below HI.out.below (Nat.le_refl _)
      have HSt := Lib.hid (stepFor_any g win (t ^^^ last) HI.out.ok hx wr HTr.out (by rw [HI.out.blk.cell]; rfl) (by rw [HI.out.blk.cell]; rfl))
      have HCe := Lib.hid (step_cells win last t)
      have HFo := Lib.hid (step_form HI.out.ok hx)
      have HSz := Lib.hid (stepN_len HI.out.ok hx)
      have HNx : Hid (okW (nextW win (t ^^^ last))) := okW_next HI.out.ok hx
      have HTi := Lib.hid hti; have HD := Lib.hid hdr; have HHx := Lib.hid hx
      have HEn : Hid (encFromV win last (tl.drop k) = encW win (t ^^^ last) ++ encFromV (nextW win (t ^^^ last)) t (tl.drop (k + 1))) := by show _ = _; rw [HD.out]; rfl
      clear hcl1 ht hti hdr hx
      generalize t ^^^ last = x at *
      generalize sL win x = a at *
      generalize sW win x = b at *
      generalize sN win x = c at *
      generalize encW win x = E at *
      generalize nextW win x = win' at *
      go_wp2_with fail
      rw [HX.out]
      go_wp2_with fail
      refine HSt.out.mono ?_
      rintro e w2 ⟨rfl, hB2⟩
      obtain ⟨w4, hw4⟩ : ∃ w4, w2.alloc (.cells #[.int .i64 (a : Int), .int .i64 (b : Int), .bool c] 136) = w4 := ⟨_, rfl⟩
      have HK4 : Hid (Blk w4 w2.heap.size [.int .i64 (a : Int), .int .i64 (b : Int), .bool c]) := by rw [← hw4]; exact Blk.new w2 _ _
      have HB4 : Hid (Below wr.heap.size wr w4) := by rw [← hw4]; exact hB2.alloc hB2.size _
      have HS2 : Hid (wr.heap.size ≤ w2.heap.size) := hB2.size
      have HBk4 : Hid (Blk w4 g ([.int .u64 (last : Int), .int .i64 (wl win : Int), .int .i64 (ww win : Int)] ++ [])) := HI.out.blk.of_same (HB4.out.block _ HI.out.blk.lt)
      have hgl := HI.out.blk.lt
      have hs2 := HS2.out
      have hgB : g ≠ w2.heap.size := by omega
      obtain ⟨⟨d0, d1, d2⟩, _⟩ := HK4.out.three
      have HAd := Lib.hid (advance_any g last x (wl win) (ww win) a b c [] HI.out.la HHx.out w4 HBk4.out)
      clear HSt HX c0 hB2 hs2
      go_wp2_with fail
      refine HAd.out.mono ?_
      rintro e w5 ⟨rfl, hG5, hM5⟩
      rw [HCe.out] at hG5
      obtain ⟨⟨d0, d1, d2⟩, _⟩ := (hM5.blk HK4.out (fun e => hgB e.symm)).three
      have HG5 := Lib.hid hG5; have HM5 := Lib.hid hM5
      have hab1 := HFo.out.2.1; have hab2 := HFo.out.2.2.1
      have HSi := Lib.hid (size_any a b c HFo.out.1 (by omega) (by omega) w5)
      rw [HSz.out] at HSi
      have hEl : (E.length : Int) ≤ 70368744177000 := by have h1 := HI.out.left; have h2 := HN.out; have h3 := HZ.out; rw [HEn.out, List.length_append] at h1; omega
      clear hG5 hM5 HAd hab1 hab2
      go_wp2_with fail
      refine HSi.out.mono ?_
      rintro e w6 ⟨rfl, hB6⟩
      have HI6 : Hid (SizeIn g ls tl (.slice (some ⟨b1, o1, none⟩) tl.length c2) w (k + 1) t win' (n + E.length) w6) := by
        have hb : b1 = b0 := HOwn.out b1 rfl
        have hap := HAp.out; have hge := HGe.out
        have hMall : Mods (fun k => k = g) wr w6 := ((Mods.of_below HB4.out _).trans HM5.out (fun _ _ e => e)).trans (Mods.of_below hB6 _) (fun _ _ e => e)
        refine ⟨HG5.out.of_same (hB6.block _ HG5.out.lt), HI.out.below.trans (hMall.below HI.out.below.size (fun j hj e => by omega)), ?_, HTi.out, HNx.out, HI.out.row.mods hMall (fun j hj e => ?_)⟩
        · rw [HI.out.left, HEn.out, List.length_append]; omega
        · cases hj
          change b1 = g at e
          omega
      clear HG5 HM5 hB6 HI HSi HBk4 HB4 HK4 d0 d1 d2
      go_wp2_with fail
      go_round
      case rel => exact ⟨k + 1, _, _, _, by omega, by go_num, by go_num, HI6.out⟩
      case measure => simp [intOf]; omega
    · have hk' : ¬ (k : Int) < (tl.length : Int) := by omega
      have HLeft : Hid ((encV ls).length = n) := by
        have h := HI.out.left
        rw [List.drop_eq_nil_of_le (by omega), encFromV] at h
        exact h
      go_wp2_with fail
      go_ret
      rw [HLeft.out]
      exact ⟨rfl, HI.out.below⟩
end Go.Proofs.YtgpmoimmpbkgfaaGreatDoor

end

section
/- A reader and variables of two cells. -/
set_option linter.unusedVariables false
namespace Go.Proofs.YtgpmoimmpbkgfaaGreatDoor
open Go Go.RowKit

theorem field_two (n : Nat) (bs : List Bool) : field n bs = ⟨3, 0, bs⟩ ∨ ∃ x c, field n bs = ⟨0, x, c⟩ ∧ x < 2 ^ n := by
  have := field_lt n bs
  rw [field] at this ⊢
  split
  · exact Or.inl rfl
  · next h => rw [if_neg h] at this; exact Or.inr ⟨_, _, rfl, this⟩

/-- A variable of the call's own of two cells is stored into behind the reads. -/
theorem rp_set2 {p : Nat} {v : Value} {bs : List Nat} {r0 r : List Bool} {w w1 : World} {B : Nat} (h0 : RIs p v bs r0 w) (h : RP p v bs r w w1) (hB : w.heap.size ≤ B) (x y : Value) : RP p v bs r w ((w1.setCell ⟨B, 0, none⟩ x).setCell ⟨B, 1, none⟩ y) :=
  rp_more h0 h ((Mods.set (fun k => k = B) w1 ⟨B, 0, none⟩ x (fun _ => rfl)).trans (Mods.set (fun k => k = B) _ ⟨B, 1, none⟩ y (fun _ => rfl)) (fun _ _ e => e)) (fun k e => by omega)
theorem Blk.set2 {w : World} {g : Nat} {a b : Value} (h : Blk w g [a, b]) (x y : Value) : Blk ((w.setCell ⟨g, 0, none⟩ x).setCell ⟨g, 1, none⟩ y) g [x, y] := by
  simpa using (h.set 0 x).set 1 y
theorem Blk.two {w : World} {g : Nat} {a b : Value} (h : Blk w g [a, b]) : (w.cell? ⟨g, 0, none⟩ = some a ∧ w.cell? ⟨g, 1, none⟩ = some b) ∧ (w.frozen? ⟨g, 0, none⟩ = false ∧ w.frozen? ⟨g, 1, none⟩ = false) :=
  ⟨⟨by rw [h.cell]; rfl, by rw [h.cell]; rfl⟩, h.free 0, h.free 1⟩
end Go.Proofs.YtgpmoimmpbkgfaaGreatDoor

end

section
/- Layer 6: the program reads a step. -/
set_option linter.unusedVariables false
set_option maxRecDepth 20000
namespace Go.Proofs.YtgpmoimmpbkgfaaGreatDoor
open Go Go.RowKit

/-- The numbers that tell a window. -/
def winD (bs : List Bool) : Res (Nat × Nat) :=
  if (field 6 bs).e ≠ 0 then ⟨(field 6 bs).e, (0, 0), (field 6 bs).r⟩ else
  let y := field 6 (field 6 bs).r
  if y.e ≠ 0 then ⟨y.e, (0, 0), y.r⟩ else
  if 63 < (field 6 bs).x + y.x then ⟨8, (0, 0), y.r⟩ else ⟨0, ((field 6 bs).x, y.x + 1), y.r⟩
/-- What comes ahead of the bits inside the window. -/
def headD (win : Option (Nat × Nat)) : List Bool → Res (Nat × Nat × Bool)
  | [] => ⟨3, (0, 0, false), []⟩
  | false :: c => ⟨0, (0, 0, false), c⟩
  | [true] => ⟨3, (0, 0, false), []⟩
  | true :: false :: c => match win with
    | none => ⟨8, (0, 0, false), c⟩
    | some (L, t) => ⟨0, (L, 64 - L - t, false), c⟩
  | true :: true :: c => ⟨(winD c).e, ((winD c).x.1, (winD c).x.2, true), (winD c).r⟩

set_option maxHeartbeats 2000000 in
theorem getWindow_any (g p : Nat) (v : Value) (bs : List Nat) (r : List Bool) (w : World) (h : RIs p v bs r w) (c3 : w.cell? ⟨g, 3, none⟩ = some (.pointer (some ⟨p, 0, none⟩))) (hgp : g ≠ p) :
    Calls Tryz.prog 116 #[.pointer (some ⟨g, 0, none⟩)] w fun e w' => e = .returned (.tuple #[.agg #[.int .i64 ((winD r).x.1 : Int), .int .i64 ((winD r).x.2 : Int)], .int .i64 ((winD r).e : Int)]) ∧ RP p v bs (winD r).r w w' := by
  obtain ⟨w1, hw1⟩ : ∃ w1, w.alloc (.cells #[.int .i64 0, .int .i64 0] 132) = w1 := ⟨_, rfl⟩
  have HK1 : Hid (Blk w1 w.heap.size [.int .i64 0, .int .i64 0]) := by rw [← hw1]; exact Blk.new w _ _
  have HB1 : Hid (Below w.heap.size w w1) := by rw [← hw1]; exact (Below.refl _ w).alloc (Nat.le_refl _) _
  have HP1 : Hid (RP p v bs r w w1) := h.start.below HB1.out
  have hgl := World.block_lt_of_cell? w _ c3
  have HG : Hid (w.heap.size ≠ p ∧ g ≠ p) := ⟨by have := h.1.blk.lt; omega, hgp⟩
  have c3 : w1.cell? ⟨g, 3, none⟩ = some (.pointer (some ⟨p, 0, none⟩)) := (HB1.out.cell (World.block_lt_of_cell? w _ c3)).trans c3
  have HC3 := Lib.hid c3
  have HF := Lib.hid (rfield p v bs r 6 w1 HP1.out.1 (by omega))
  have H := Lib.hid h
  clear h hgl hgp
  rcases field_two 6 r with hf | ⟨a, r1, hf, ha⟩
  · have HD : Hid (winD r = ⟨3, (0, 0), r⟩) := by show _ = _; rw [winD, hf]; rfl
    rw [hf] at HF
    clear hf
    go_enter Tryz.func116, Tryz.ntmps116
    go_wp2_with fail
    refine HF.out.mono ?_
    rintro e w2 ⟨rfl, hP2⟩
    have HP2 := Lib.hid (rp_trans HP1.out hP2)
    have HK2 := Lib.hid (hP2.2.blk HK1.out HG.out.1)
    obtain ⟨⟨d0, d1⟩, f0, f1⟩ := HK2.out.two
    clear hP2
    go_wp2_with fail
    rw [HD.out]
    refine bodyPost_ret (resultsS2 (p := 2) (u := 3) strWin (by kernel_rfl) _ w.heap.size rfl [.int .i64 0, .int .i64 0] (HK2.out.set2 _ _) rfl) rfl ⟨rfl, ?_⟩
    exact rp_set2 H.out HP2.out (Nat.le_refl _) _ _
  · rw [hf] at HF
    have HA : Hid (a < 64) := ha
    have HF1 := Lib.hid hf
    clear hf ha
    go_enter Tryz.func116, Tryz.ntmps116
    go_wp2_with fail
    refine HF.out.mono ?_
    rintro e w2 ⟨rfl, hP2⟩
    have HP2 := Lib.hid (rp_trans HP1.out hP2)
    have HK2 := Lib.hid (hP2.2.blk HK1.out HG.out.1)
    have c3 : w2.cell? ⟨g, 3, none⟩ = some (.pointer (some ⟨p, 0, none⟩)) := hP2.2.cell HC3.out HG.out.2
    have HC3 := Lib.hid c3
    have HF2 := Lib.hid (rfield p v bs r1 6 w2 hP2.1 (by omega))
    clear hP2 HF
    rcases field_two 6 r1 with hf | ⟨y, r2, hf, hy⟩
    · have HD : Hid (winD r = ⟨3, (0, 0), r1⟩) := by show _ = _; rw [winD, HF1.out]; simp only [hf, ne_eq, not_true_eq_false, if_false]; rfl
      rw [hf] at HF2
      clear hf
      go_wp2_with fail
      refine HF2.out.mono ?_
      rintro e w3 ⟨rfl, hP3⟩
      have HP3 := Lib.hid (rp_trans HP2.out hP3)
      have HK3 := Lib.hid (hP3.2.blk HK2.out HG.out.1)
      obtain ⟨⟨d0, d1⟩, f0, f1⟩ := HK3.out.two
      clear hP3
      go_wp2_with fail
      rw [HD.out]
      refine bodyPost_ret (resultsS2 (p := 2) (u := 3) strWin (by kernel_rfl) _ w.heap.size rfl [.int .i64 0, .int .i64 0] (HK3.out.set2 _ _) rfl) rfl ⟨rfl, ?_⟩
      exact rp_set2 H.out HP3.out (Nat.le_refl _) _ _
    · rw [hf] at HF2
      have HY : Hid (y < 64) := hy
      have HFe := Lib.hid hf
      clear hf hy
      have ha64 : (a : Int) < 64 := by have := HA.out; omega
      have hy64 : (y : Int) < 64 := by have := HY.out; omega
      go_wp2_with fail
      refine HF2.out.mono ?_
      rintro e w3 ⟨rfl, hP3⟩
      have HP3 := Lib.hid (rp_trans HP2.out hP3)
      have HK3 := Lib.hid (hP3.2.blk HK2.out HG.out.1)
      have HT4 := Lib.hid (trailing_any a (y + 1) (by have := HA.out; omega) (by have := HY.out; omega))
      clear hP3 HF2
      rw [show ((y + 1 : Nat) : Int) = (y : Int) + 1 from rfl] at HT4
      obtain ⟨w4, hw4⟩ : ∃ w4, w3.alloc (.cells #[.int .i64 (a : Int), .int .i64 ((y : Int) + 1)] 132) = w4 := ⟨_, rfl⟩
      have hK4 : Blk w4 w3.heap.size [.int .i64 (a : Int), .int .i64 ((y : Int) + 1)] := by rw [← hw4]; exact Blk.new w3 _ _
      have hB4 : Below w3.heap.size w3 w4 := by rw [← hw4]; exact (Below.refl _ w3).alloc (Nat.le_refl _) _
      have HT4 := Lib.hid (HT4.out w4)
      obtain ⟨⟨k0, k1⟩, _⟩ := hK4.two
      go_wp2_with fail
      refine HT4.out.mono ?_
      rintro e w5 ⟨rfl, hB5⟩
      have hB35 : Below w3.heap.size w3 w5 := hB4.trans (hB5.mono hB4.size)
      have HP5 := Lib.hid (HP3.out.below hB35)
      have HK5 := Lib.hid (HK3.out.of_same (hB35.block _ HK3.out.lt))
      have hK5 := hK4.of_same (hB5.block _ hK4.lt)
      obtain ⟨⟨d0, d1⟩, f0, f1⟩ := HK5.out.two
      clear k0 k1
      obtain ⟨⟨k0, k1⟩, _⟩ := hK5.two
      clear hK4 hB4 hB5 hB35 hw4 HK3 HP3 HT4 hK5
      by_cases hs : 63 < a + y
      · have hs' : (64 : Int) - (a : Int) - ((y : Int) + 1) < 0 := by omega
        have HD : Hid (winD r = ⟨8, (0, 0), r2⟩) := by show _ = _; rw [winD, HF1.out]; simp only [HFe.out, ne_eq, not_true_eq_false, if_false, hs, if_true]
        clear hs
        go_wp2_with fail
        rw [HD.out]
        refine bodyPost_ret (resultsS2 (p := 2) (u := 3) strWin (by kernel_rfl) _ w.heap.size rfl [.int .i64 0, .int .i64 0] (HK5.out.set2 _ _) rfl) rfl ⟨rfl, ?_⟩
        exact rp_set2 H.out HP5.out (Nat.le_refl _) _ _
      · have hs' : ¬ (64 : Int) - (a : Int) - ((y : Int) + 1) < 0 := by omega
        have HD : Hid (winD r = ⟨0, (a, y + 1), r2⟩) := by show _ = _; rw [winD, HF1.out]; simp only [HFe.out, ne_eq, not_true_eq_false, if_false, hs]
        clear hs
        go_wp2_with fail
        rw [HD.out]
        refine bodyPost_ret (resultsS2 (p := 2) (u := 3) strWin (by kernel_rfl) _ w.heap.size rfl [.int .i64 (a : Int), .int .i64 ((y : Int) + 1)] (HK5.out.set2 _ _) rfl) rfl ⟨rfl, ?_⟩
        exact rp_set2 H.out HP5.out (Nat.le_refl _) _ _
end Go.Proofs.YtgpmoimmpbkgfaaGreatDoor

end

section
/- Layer 6: the program reads what comes ahead of the bits inside the window. -/
set_option linter.unusedVariables false
set_option maxRecDepth 20000
namespace Go.Proofs.YtgpmoimmpbkgfaaGreatDoor
open Go Go.RowKit

theorem rp_set3 {p : Nat} {v : Value} {bs : List Nat} {r0 r : List Bool} {w w1 : World} {B : Nat} (h0 : RIs p v bs r0 w) (h : RP p v bs r w w1) (hB : w.heap.size ≤ B) (x y z : Value) : RP p v bs r w (((w1.setCell ⟨B, 0, none⟩ x).setCell ⟨B, 1, none⟩ y).setCell ⟨B, 2, none⟩ z) :=
  rp_more h0 h (mods_set3 w1 B x y z) (fun k e => by omega)

/-- A decoder's cells that a read leaves as they are. -/
structure DecC (g p : Nat) (win : Option (Nat × Nat)) (w : World) : Prop where
  c1 : w.cell? ⟨g, 1, none⟩ = some (.int .i64 (wl win : Int))
  c2 : w.cell? ⟨g, 2, none⟩ = some (.int .i64 (ww win : Int))
  c3 : w.cell? ⟨g, 3, none⟩ = some (.pointer (some ⟨p, 0, none⟩))
  gp : g ≠ p
theorem DecC.mods {g p : Nat} {win : Option (Nat × Nat)} {w w' : World} (h : DecC g p win w) (hm : Mods (fun k => k = p) w w') : DecC g p win w' := ⟨hm.cell h.c1 h.gp, hm.cell h.c2 h.gp, hm.cell h.c3 h.gp, h.gp⟩

/-- What getStep leaves. -/
def StepPost (p : Nat) (v : Value) (bs : List Nat) (w : World) (o : Res (Nat × Nat × Bool)) (e : Ending) (w' : World) : Prop :=
  e = .returned (.tuple #[.agg #[.int .i64 (o.x.1 : Int), .int .i64 (o.x.2.1 : Int), .bool o.x.2.2], .int .i64 (o.e : Int)]) ∧ RP p v bs o.r w w'

set_option maxHeartbeats 4000000 in
theorem getStep_any (g p : Nat) (v : Value) (bs : List Nat) (r : List Bool) (win : Option (Nat × Nat)) (ho : okW win) (w : World) (h : RIs p v bs r w) (hc : DecC g p win w) :
    Calls Tryz.prog 104 #[.pointer (some ⟨g, 0, none⟩)] w (StepPost p v bs w (headD win r)) := by
  obtain ⟨w1, hw1⟩ : ∃ w1, w.alloc (.cells #[.int .i64 0, .int .i64 0, .bool false] 136) = w1 := ⟨_, rfl⟩
  have HK1 : Hid (Blk w1 w.heap.size [.int .i64 0, .int .i64 0, .bool false]) := by rw [← hw1]; exact Blk.new w _ _
  have HB1 : Hid (Below w.heap.size w w1) := by rw [← hw1]; exact (Below.refl _ w).alloc (Nat.le_refl _) _
  have HP1 : Hid (RP p v bs r w w1) := h.start.below HB1.out
  have HG : Hid (w.heap.size ≠ p) := by have := h.1.blk.lt; show _ ≠ _; omega
  have HC1 := Lib.hid (hc.mods (Mods.of_below HB1.out _))
  have HO := Lib.hid ho
  have c3 := HC1.out.c3
  have HF := Lib.hid (rfield p v bs r 1 w1 HP1.out.1 (by omega))
  have H := Lib.hid h
  clear h hc ho
  match r, HP1, HF, H with
  | [], HP1, HF, H =>
    rw [field_none] at HF
    go_enter Tryz.func104, Tryz.ntmps104
    go_wp2_with fail
    refine HF.out.mono ?_
    rintro e w2 ⟨rfl, hP2⟩
    have HP2 := Lib.hid (rp_trans HP1.out hP2)
    have HK2 := Lib.hid (hP2.2.blk HK1.out HG.out)
    obtain ⟨⟨d0, d1, d2⟩, f0, f1, f2⟩ := HK2.out.three
    clear hP2
    go_wp2_with fail
    refine bodyPost_ret (resultsS2 (p := 2) (u := 3) strStep (by kernel_rfl) _ w.heap.size rfl [.int .i64 0, .int .i64 0, .bool false] (HK2.out.set3 _ _ _) rfl) rfl ⟨rfl, ?_⟩
    exact rp_set3 H.out HP2.out (Nat.le_refl _) _ _ _
  | false :: r1, HP1, HF, H =>
    rw [field_one] at HF
    go_enter Tryz.func104, Tryz.ntmps104
    go_wp2_with fail
    refine HF.out.mono ?_
    rintro e w2 ⟨rfl, hP2⟩
    have HP2 := Lib.hid (rp_trans HP1.out hP2)
    have HK2 := Lib.hid (hP2.2.blk HK1.out HG.out)
    obtain ⟨⟨d0, d1, d2⟩, f0, f1, f2⟩ := HK2.out.three
    clear hP2
    go_wp2_with fail
    refine bodyPost_ret (resultsS2 (p := 2) (u := 3) strStep (by kernel_rfl) _ w.heap.size rfl [.int .i64 0, .int .i64 0, .bool false] (HK2.out.set3 _ _ _) rfl) rfl ⟨rfl, ?_⟩
    exact rp_set3 H.out HP2.out (Nat.le_refl _) _ _ _
  | true :: r1, HP1, HF, H =>
    rw [field_one] at HF
    go_enter Tryz.func104, Tryz.ntmps104
    go_wp2_with fail
    refine HF.out.mono ?_
    rintro e w2 ⟨rfl, hP2⟩
    have HP2 := Lib.hid (rp_trans HP1.out hP2)
    have HK2 := Lib.hid (hP2.2.blk HK1.out HG.out)
    have HC2 := Lib.hid (HC1.out.mods hP2.2)
    have HF2 := Lib.hid (rfield p v bs r1 1 w2 hP2.1 (by omega))
    clear c3
    have c3 := HC2.out.c3
    clear hP2 HF
    match r1, HP1, HP2, HF2, H with
    | [], HP1, HP2, HF2, H =>
      rw [field_none] at HF2
      go_wp2_with fail
      refine HF2.out.mono ?_
      rintro e w3 ⟨rfl, hP3⟩
      have HP3 := Lib.hid (rp_trans HP2.out hP3)
      have HK3 := Lib.hid (hP3.2.blk HK2.out HG.out)
      obtain ⟨⟨d0, d1, d2⟩, f0, f1, f2⟩ := HK3.out.three
      clear hP3
      go_wp2_with fail
      refine bodyPost_ret (resultsS2 (p := 2) (u := 3) strStep (by kernel_rfl) _ w.heap.size rfl [.int .i64 0, .int .i64 0, .bool false] (HK3.out.set3 _ _ _) rfl) rfl ⟨rfl, ?_⟩
      exact rp_set3 H.out HP3.out (Nat.le_refl _) _ _ _
    | true :: r2, HP1, HP2, HF2, H =>
      rw [field_one] at HF2
      go_wp2_with fail
      refine HF2.out.mono ?_
      rintro e w3 ⟨rfl, hP3⟩
      have HP3 := Lib.hid (rp_trans HP2.out hP3)
      have HK3 := Lib.hid (hP3.2.blk HK2.out HG.out)
      have HC3 := Lib.hid (HC2.out.mods hP3.2)
      have HW := Lib.hid (getWindow_any g p v bs r2 w3 hP3.1 HC3.out.c3 HC3.out.gp)
      have HD : Hid (headD win (true :: true :: r2) = ⟨(winD r2).e, ((winD r2).x.1, (winD r2).x.2, true), (winD r2).r⟩) := rfl
      generalize (winD r2).x.1 = a at *
      generalize (winD r2).x.2 = b at *
      generalize (winD r2).e = en at *
      generalize (winD r2).r = r3 at *
      clear hP3
      go_wp2_with fail
      refine HW.out.mono ?_
      rintro e w4 ⟨rfl, hP4⟩
      have HP4 := Lib.hid (rp_trans HP3.out hP4)
      have hK4 := hP4.2.blk HK3.out HG.out
      obtain ⟨w5, hw5⟩ : ∃ w5, w4.alloc (.cells #[.int .i64 (a : Int), .int .i64 (b : Int)] 132) = w5 := ⟨_, rfl⟩
      have hB5 : Below w4.heap.size w4 w5 := by rw [← hw5]; exact (Below.refl _ w4).alloc (Nat.le_refl _) _
      have hN5 : Blk w5 w4.heap.size [.int .i64 (a : Int), .int .i64 (b : Int)] := by rw [← hw5]; exact Blk.new w4 _ _
      have HK5 := Lib.hid (hK4.of_same (hB5.block _ hK4.lt))
      have HP5 := Lib.hid (HP4.out.below hB5)
      obtain ⟨⟨d0, d1, d2⟩, f0, f1, f2⟩ := HK5.out.three
      obtain ⟨⟨k0, k1⟩, _⟩ := hN5.two
      clear hP4 HW hB5 hN5 hK4
      go_wp2_with fail
      rw [HD.out]
      refine bodyPost_ret (resultsS2 (p := 2) (u := 3) strStep (by kernel_rfl) _ w.heap.size rfl [.int .i64 (a : Int), .int .i64 (b : Int), .bool true] (HK5.out.set3 _ _ _) rfl) rfl ⟨rfl, ?_⟩
      exact rp_set3 H.out HP5.out (Nat.le_refl _) _ _ _
    | false :: r2, HP1, HP2, HF2, H =>
      rw [field_one] at HF2
      go_wp2_with fail
      refine HF2.out.mono ?_
      rintro e w3 ⟨rfl, hP3⟩
      have HP3 := Lib.hid (rp_trans HP2.out hP3)
      have HK3 := Lib.hid (hP3.2.blk HK2.out HG.out)
      have HC3 := Lib.hid (HC2.out.mods hP3.2)
      clear hP3
      have hwin : ∀ a b : Int, ∃ w5, w3.alloc (.cells #[.int .i64 a, .int .i64 b] 132) = w5 ∧ Hid (Blk w5 w.heap.size [.int .i64 0, .int .i64 0, .bool false]) ∧ Hid (Blk w5 w3.heap.size [.int .i64 a, .int .i64 b]) ∧ Hid (RP p v bs r2 w w5) := fun a b => by
        have hB5 : Below w3.heap.size w3 (w3.alloc (.cells #[.int .i64 a, .int .i64 b] 132)) := (Below.refl _ w3).alloc (Nat.le_refl _) _
        exact ⟨_, rfl, HK3.out.of_same (hB5.block _ HK3.out.lt), Blk.new w3 _ _, HP3.out.below hB5⟩
      match win, HO, HC3 with
      | none, HO, HC3 =>
        clear hwin
        have e1 : w3.cell? ⟨g, 1, none⟩ = some (.int .i64 0) := HC3.out.c1
        have e2 : w3.cell? ⟨g, 2, none⟩ = some (.int .i64 0) := HC3.out.c2
        have hB5 : Below w3.heap.size w3 (w3.alloc (.cells #[.int .i64 0, .int .i64 0] 132)) := (Below.refl _ w3).alloc (Nat.le_refl _) _
        have HK5 := Lib.hid (HK3.out.of_same (hB5.block _ HK3.out.lt))
        have HP5 := Lib.hid (HP3.out.below hB5)
        obtain ⟨⟨d0, d1, d2⟩, f0, f1, f2⟩ := HK5.out.three
        clear hB5
        go_wp2_with fail
        refine bodyPost_ret (resultsS2 (p := 2) (u := 3) strStep (by kernel_rfl) _ w.heap.size rfl [.int .i64 0, .int .i64 0, .bool false] (HK5.out.set3 _ _ _) rfl) rfl ⟨rfl, ?_⟩
        exact rp_set3 H.out HP5.out (Nat.le_refl _) _ _ _
      | some (L, t), HO, HC3 =>
        have hle := HO.out L t rfl
        have HD : Hid (headD (some (L, t)) (true :: false :: r2) = ⟨0, (L, 64 - L - t, false), r2⟩) := rfl
        have e1 : w3.cell? ⟨g, 1, none⟩ = some (.int .i64 (L : Int)) := HC3.out.c1
        have e2 : w3.cell? ⟨g, 2, none⟩ = some (.int .i64 ((64 - L - t : Nat) : Int)) := HC3.out.c2
        have hwb : (((64 - L - t : Nat) : Int) == 0) = false := by rw [beq_eq_false_iff_ne]; omega
        generalize 64 - L - t = wd at *
        obtain ⟨w5, hw5, HK5, HN5, HP5⟩ := hwin L wd
        clear hwin
        obtain ⟨⟨d0, d1, d2⟩, f0, f1, f2⟩ := HK5.out.three
        obtain ⟨⟨k0, k1⟩, _⟩ := HN5.out.two
        go_wp2_with fail
        rw [HD.out]
        refine bodyPost_ret (resultsS2 (p := 2) (u := 3) strStep (by kernel_rfl) _ w.heap.size rfl [.int .i64 (L : Int), .int .i64 (wd : Int), .bool false] (HK5.out.set3 _ _ _) rfl) rfl ⟨rfl, ?_⟩
        exact rp_set3 H.out HP5.out (Nat.le_refl _) _ _ _
end Go.Proofs.YtgpmoimmpbkgfaaGreatDoor

end
