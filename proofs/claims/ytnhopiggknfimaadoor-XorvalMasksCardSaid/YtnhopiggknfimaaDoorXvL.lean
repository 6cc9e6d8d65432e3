/- Layer 6: the program reads one value. -/
import Derived.Test.YtnhopiggknfimaaDoorXvK
set_option linter.unusedVariables false
set_option maxRecDepth 20000
namespace Go.Proofs.YtnhopiggknfimaaDoor
open Go Go.RowKit

theorem step_cells2 (win : Option (Nat × Nat)) (last x : Nat) : advC last x (wl win) (ww win) (sL win x) (sW win x) (sN win x) = [.int .u64 ((last ^^^ x : Nat) : Int), .int .i64 (wl (nextW win x) : Int), .int .i64 (ww (nextW win x) : Int)] := by
  rw [advC, nextW, sL, sW, sN]
  by_cases h0 : x = 0
  · simp only [h0, if_true, Bool.false_eq_true, if_false]
  · by_cases hf : fits win x = true
    · simp only [h0, hf, if_true, Bool.false_eq_true, if_false]
    · simp only [h0, hf, if_true, Bool.false_eq_true, if_false]; rfl

/-- A decoder at g over the reader at p, of a call that began at w0. -/
structure DecIs (w0 W : World) (g p : Nat) (v : Value) (bs : List Nat) (r : List Bool) (last : Nat) (win : Option (Nat × Nat)) (w : World) : Prop where
  blk : Blk w g [.int .u64 (last : Int), .int .i64 (wl win : Int), .int .i64 (ww win : Int), .pointer (some ⟨p, 0, none⟩)]
  rp : RP p v bs r w0 w
  far : w0.heap.size ≤ g
  gp : g ≠ p
  tab : TabZ w
  tg : 0 ≠ g
  tp : 0 ≠ p
  la : last < 18446744073709551616
  ok : okW win
  md : Mods (fun k => k = p ∨ k = g) W w
theorem DecIs.decC {w0 W : World} {g p : Nat} {v : Value} {bs : List Nat} {r : List Bool} {last : Nat} {win : Option (Nat × Nat)} {w : World} (h : DecIs w0 W g p v bs r last win w) : DecC g p win w := ⟨by rw [h.blk.cell]; rfl, by rw [h.blk.cell]; rfl, by rw [h.blk.cell]; rfl, h.gp⟩
theorem DecIs.step {w0 W : World} {g p : Nat} {v : Value} {bs : List Nat} {r r' : List Bool} {last : Nat} {win : Option (Nat × Nat)} {w w' : World} (h : DecIs w0 W g p v bs r last win w) (k : RP p v bs r' w w') : DecIs w0 W g p v bs r' last win w' :=
  ⟨k.2.blk h.blk h.gp, rp_trans h.rp k, h.far, h.gp, h.tab.block (k.2.block _ h.tab.lt h.tp), h.tg, h.tp, h.la, h.ok, h.md.trans k.2 (fun _ _ e => Or.inl e)⟩
theorem DecIs.below {w0 W : World} {g p : Nat} {v : Value} {bs : List Nat} {r : List Bool} {last : Nat} {win : Option (Nat × Nat)} {w w' : World} (h : DecIs w0 W g p v bs r last win w) (hb : Below w.heap.size w w') : DecIs w0 W g p v bs r last win w' :=
  h.step (h.rp.1.start.below hb)

theorem DecIs.here {w0 W : World} {g p : Nat} {v : Value} {bs : List Nat} {r : List Bool} {last : Nat} {win : Option (Nat × Nat)} {w : World} (h : DecIs w0 W g p v bs r last win w) : DecIs w0 w g p v bs r last win w :=
  ⟨h.blk, h.rp, h.far, h.gp, h.tab, h.tg, h.tp, h.la, h.ok, Mods.refl _ _⟩
/-- What get leaves. -/
def GetPost1 (w0 W : World) (g p : Nat) (v : Value) (bs : List Nat) (last : Nat) (win : Option (Nat × Nat)) (o : Res Nat) (e : Ending) (w' : World) : Prop :=
  (∃ x : Int, e = .returned (.tuple #[.int .u64 x, .int .i64 (o.e : Int)]) ∧ (o.e = 0 → x = ((last ^^^ o.x : Nat) : Int))) ∧ (RP p v bs o.r w0 w' ∧ Mods (fun k => k = p ∨ k = g) W w') ∧ (o.e = 0 → DecIs w0 W g p v bs o.r (last ^^^ o.x) (nextW win o.x) w')

set_option maxHeartbeats 4000000 in
theorem get_any6 (w0 W : World) (g p : Nat) (v : Value) (bs : List Nat) (r0 r : List Bool) (last : Nat) (win : Option (Nat × Nat)) (w : World) (h0 : RIs p v bs r0 w0) (h : DecIs w0 W g p v bs r last win w) :
    Calls Tryd.prog 39 #[.pointer (some ⟨g, 0, none⟩)] w (GetPost1 w0 W g p v bs last win (stepD win r)) := by
  have H := Lib.hid h; have H0 := Lib.hid h0
  have HSt := Lib.hid (getStep_any g p v bs r win h.ok w h.rp.1 h.decC)
  have HFo := Lib.hid (headD_form h.ok r)
  have HSd : Hid (stepD win r = stepD win r) := rfl
  clear h h0 HSd
  obtain ⟨en, ⟨a, b, c⟩, r1, hh⟩ : ∃ en x r1, headD win r = ⟨en, x, r1⟩ := ⟨_, _, _, rfl⟩
  have HH := Lib.hid hh
  rw [hh] at HSt HFo
  clear hh
  unfold StepPost at HSt
  simp only at HSt HFo
  by_cases he : en = 0
  · subst he
    have HD := Lib.hid (stepD_of HH.out)
    go_enter Tryd.func39, Tryd.ntmps39
    go_wp2_with fail
    refine HSt.out.mono ?_
    rintro e w2 ⟨rfl, hP2⟩
    obtain ⟨w3, hw3⟩ : ∃ w3, w2.alloc (.cells #[.int .i64 (a : Int), .int .i64 (b : Int), .bool c] 76) = w3 := ⟨_, rfl⟩
    have hB3 : Below w2.heap.size w2 w3 := by rw [← hw3]; exact (Below.refl _ w2).alloc (Nat.le_refl _) _
    have HN3 : Hid (Blk w3 w2.heap.size [.int .i64 (a : Int), .int .i64 (b : Int), .bool c]) := by rw [← hw3]; exact Blk.new w2 _ _
    have HD3 := Lib.hid ((H.out.step hP2).below hB3)
    have HB : Hid (w2.heap.size ≠ p ∧ w2.heap.size ≠ g ∧ w0.heap.size ≤ w2.heap.size) := ⟨by have := hP2.1.1.blk.lt; omega, by have := (H.out.step hP2).blk.lt; omega, (H.out.step hP2).rp.2.size⟩
    clear hP2 hB3 HSt
    obtain ⟨⟨d0, d1, d2⟩, _⟩ := HN3.out.three
    have HC : Hid (∀ w' : World, (w'.cell? ⟨g, 3, none⟩ = some (.pointer (some ⟨p, 0, none⟩)) ∧ w'.cell? ⟨w2.heap.size, 1, none⟩ = some (.int .i64 (b : Int)) ∧ True) → (w'.cell? ⟨g, 3, none⟩ = some (.pointer (some ⟨p, 0, none⟩)) ∧ w'.cell? ⟨w2.heap.size, 1, none⟩ = some (.int .i64 (b : Int)) ∧ True)) := fun _ h => h
    have HRf := fun W (h : RIs p v bs r1 W) => Lib.hid (rfield p v bs r1 b W h (HFo.out trivial).2.1)
    have HS3 : Hid (w3.cell? ⟨g, 3, none⟩ = some (.pointer (some ⟨p, 0, none⟩)) ∧ w3.cell? ⟨w2.heap.size, 1, none⟩ = some (.int .i64 (b : Int))) := ⟨HD3.out.decC.c3, d1⟩
    clear d0 d1 d2
    go_wp2_with fail
    refine wp_region_takeH (fun w' : World => w'.cell? ⟨g, 3, none⟩ = some (.pointer (some ⟨p, 0, none⟩)) ∧ w'.cell? ⟨w2.heap.size, 1, none⟩ = some (.int .i64 (b : Int)) ∧ True) [7] [0, 1, 2, 3, 4, 5, 6, 7, 8, 9, 10, 11, 12] (by kernel_rfl) (by kernel_rfl) (by kernel_rfl) ?_ ?_ ?_
    · intro c a a' w hd h; exact ⟨hd ▸ h.1, h.2⟩
    · exact ⟨(World.cell?_drew _ _).trans HS3.out.1, (World.cell?_drew _ _).trans HS3.out.2, trivial⟩
    simp only [taken, List.map_cons, List.map_nil, List.getElem?_cons_succ, List.getElem?_cons_zero, Option.getD_some]
    repeat (first
        | (refine takeH_skip rfl ?_; simp only [Act.put, List.setIfInBounds_toArray, List.set_cons_succ, List.set_cons_zero])
        | (refine takeH_blind rfl rfl ?_; apply Exists.intro; refine ⟨fun w => ?_, ?_⟩; (go_simp; try with_reducible rfl); simp only [Act.put, List.setIfInBounds_toArray, List.set_cons_succ, List.set_cons_zero])
        | (refine takeH_reads rfl rfl ?_; apply Exists.intro; refine ⟨fun w' hS => ?_, ?_⟩; (obtain ⟨d0, d1, d2⟩ := HC.out w' hS; go_simp; try with_reducible rfl); simp only [Act.put, List.setIfInBounds_toArray, List.set_cons_succ, List.set_cons_zero]))
    have hD3 : DecIs w0 W g p v bs r1 last win w3.drew := HD3.out.step ⟨HD3.out.rp.1.mods (Mods.drew (fun _ => False) w3) (fun e => e) (fun _ _ e => e), Mods.drew _ _⟩
    have HN3d : Hid (Blk w3.drew w2.heap.size [.int .i64 (a : Int), .int .i64 (b : Int), .bool c]) := HN3.out.of_same rfl
    refine takeH_call rfl rfl (fun K' hK => ?_)
    go_wp2_with fail
    refine (HRf w3.drew hD3.rp.1).out.mono ?_
    rintro e w4 ⟨rfl, hP4⟩
    have HD4 := Lib.hid (hD3.step hP4)
    have HN4 := Lib.hid (hP4.2.blk HN3d.out HB.out.1)
    refine hK _ _ ⟨HD4.out.decC.c3, HN4.out.three.1.2.1, trivial⟩ ?_
    clear hK K' hP4 hD3 HN3d HN3 HD3 HS3 hw3 HRf
    have HXl := field_lt b r1
    have HXl := Lib.hid HXl
    by_cases he : (field b r1).e = 0
    · rw [if_neg (fun h => h he)] at HD
      rw [he]
      clear he
      generalize (field b r1).x = u at *
      generalize (field b r1).r = r2 at *
      repeat (first
        | (refine takeH_skip rfl ?_; simp only [Act.put, List.setIfInBounds_toArray, List.set_cons_succ, List.set_cons_zero])
        | (refine takeH_blind rfl rfl ?_; apply Exists.intro; refine ⟨fun w => ?_, ?_⟩; (go_simp; try with_reducible rfl); simp only [Act.put, List.setIfInBounds_toArray, List.set_cons_succ, List.set_cons_zero])
        | (refine takeH_reads rfl rfl ?_; apply Exists.intro; refine ⟨fun w' hS => ?_, ?_⟩; (obtain ⟨d0, d1, d2⟩ := HC.out w' hS; go_simp; try with_reducible rfl); simp only [Act.put, List.setIfInBounds_toArray, List.set_cons_succ, List.set_cons_zero]))
      refine takeH_nil ?_
      obtain ⟨⟨d0, d1, d2⟩, _⟩ := HN4.out.three
      have HTr := Lib.hid (trailing_any a b (by have := (HFo.out trivial).1; omega) (by have := (HFo.out trivial).2.1; omega) w4)
      clear HC
      go_wp2_with fail
      refine HTr.out.mono ?_
      rintro e w5 ⟨rfl, hB5⟩
      have HD5 := Lib.hid (HD4.out.below hB5)
      have HN5 := Lib.hid (HN4.out.of_same (hB5.block _ HN4.out.lt))
      have e1 : (64 : Int) - (a : Int) - (b : Int) = ((64 - a - b : Nat) : Int) := by have := (HFo.out trivial).2.2; omega
      have hT64 : ((64 - a - b : Nat) : Int) ≤ 64 := by omega
      have HXb : Hid (u * 2 ^ (64 - a - b) < 18446744073709551616) := by
        have h1 := HXl.out
        have h2 := (HFo.out trivial).2.2
        have h3 : u * 2 ^ (64 - a - b) < 2 ^ b * 2 ^ (64 - a - b) := Nat.mul_lt_mul_of_pos_right h1 (Nat.two_pow_pos _)
        rw [← Nat.pow_add, show b + (64 - a - b) = 64 - a by omega] at h3
        exact Nat.lt_of_lt_of_le h3 (pow_le64 a)
      rw [e1]
      clear e1 hB5 HN4 HD4 HTr d0 d1 d2
      have HTe : Hid (64 - a - b = 64 - a - b) := rfl
      generalize hT : 64 - a - b = T at *
      go_wp2_with fail
      have e2 : IntKind.u64.wrap ((u : Int) * 2 ^ T) = ((u * 2 ^ T : Nat) : Int) := by
        have h := HXb.out
        have e3 : (u : Int) * 2 ^ T = ((u * 2 ^ T : Nat) : Int) := by simp
        rw [e3, IntKind.wrap_u64]
        generalize u * 2 ^ T = z at *
        omega
      rw [e2]
      clear e2 hT64
      generalize u * 2 ^ T = x at *
      have HSf := Lib.hid (stepFor_any g win x H.out.ok HXb.out w5.drew (HD5.out.tab.block rfl) HD5.out.decC.c1 HD5.out.decC.c2)
      have HC : Hid (∀ w' : World, (w'.cell? ⟨w2.heap.size, 0, none⟩ = some (.int .i64 (a : Int)) ∧ w'.cell? ⟨w2.heap.size, 1, none⟩ = some (.int .i64 (b : Int)) ∧ w'.cell? ⟨w2.heap.size, 2, none⟩ = some (.bool c)) → (w'.cell? ⟨w2.heap.size, 0, none⟩ = some (.int .i64 (a : Int)) ∧ w'.cell? ⟨w2.heap.size, 1, none⟩ = some (.int .i64 (b : Int)) ∧ w'.cell? ⟨w2.heap.size, 2, none⟩ = some (.bool c))) := fun _ h => h
      refine wp_region_takeH (fun w' : World => w'.cell? ⟨w2.heap.size, 0, none⟩ = some (.int .i64 (a : Int)) ∧ w'.cell? ⟨w2.heap.size, 1, none⟩ = some (.int .i64 (b : Int)) ∧ w'.cell? ⟨w2.heap.size, 2, none⟩ = some (.bool c)) [4] [0, 1, 2, 3, 5, 4, 6] (by kernel_rfl) (by kernel_rfl) (by kernel_rfl) ?_ ?_ ?_
      · intro c a a' w hd h; exact ⟨hd ▸ h.1, h.2⟩
      · exact ⟨(World.cell?_drew _ _).trans HN5.out.three.1.1, (World.cell?_drew _ _).trans HN5.out.three.1.2.1, (World.cell?_drew _ _).trans HN5.out.three.1.2.2⟩
      simp only [taken, List.map_cons, List.map_nil, List.getElem?_cons_succ, List.getElem?_cons_zero, Option.getD_some]
      repeat (first
        | (refine takeH_skip rfl ?_; simp only [Act.put, List.setIfInBounds_toArray, List.set_cons_succ, List.set_cons_zero])
        | (refine takeH_blind rfl rfl ?_; apply Exists.intro; refine ⟨fun w => ?_, ?_⟩; (go_simp; try with_reducible rfl); simp only [Act.put, List.setIfInBounds_toArray, List.set_cons_succ, List.set_cons_zero])
        | (refine takeH_reads rfl rfl ?_; apply Exists.intro; refine ⟨fun w' hS => ?_, ?_⟩; (obtain ⟨d0, d1, d2⟩ := HC.out w' hS; go_simp; try with_reducible rfl); simp only [Act.put, List.setIfInBounds_toArray, List.set_cons_succ, List.set_cons_zero]))
      refine takeH_call rfl rfl (fun K' hK => ?_)
      go_wp2_with fail
      refine HSf.out.mono ?_
      rintro e w6 ⟨rfl, hB6⟩
      have hB56 : Below w5.heap.size w5 w6 := ⟨hB6.os, hB6.tape, hB6.output, hB6.size, hB6.block⟩
      have HD6 := Lib.hid (HD5.out.below hB56)
      have HN6 := Lib.hid (HN5.out.of_same (hB56.block _ HN5.out.lt))
      refine hK _ _ HN6.out.three.1 ?_
      have HCe := Lib.hid (step_cells2 win last x)
      clear hK K' hB6 hB56 HSf HD5 HN5
      by_cases hq : sL win x = a ∧ sW win x = b ∧ sN win x = c
      · rw [if_pos hq] at HD
        obtain ⟨q1, q2, q3⟩ := hq
        rw [q1, q2, q3] at HCe ⊢
        clear q1 q2 q3
        repeat (first
        | (refine takeH_skip rfl ?_; simp only [Act.put, List.setIfInBounds_toArray, List.set_cons_succ, List.set_cons_zero])
        | (refine takeH_blind rfl rfl ?_; apply Exists.intro; refine ⟨fun w => ?_, ?_⟩; (go_simp; try with_reducible rfl); simp only [Act.put, List.setIfInBounds_toArray, List.set_cons_succ, List.set_cons_zero])
        | (refine takeH_reads rfl rfl ?_; apply Exists.intro; refine ⟨fun w' hS => ?_, ?_⟩; (obtain ⟨d0, d1, d2⟩ := HC.out w' hS; go_simp; try with_reducible rfl); simp only [Act.put, List.setIfInBounds_toArray, List.set_cons_succ, List.set_cons_zero]))
        refine takeH_nil ?_
        go_wp2_with fail
        refine wp_region_takeH (fun w' : World => w'.cell? ⟨w2.heap.size, 0, none⟩ = some (.int .i64 (a : Int)) ∧ w'.cell? ⟨w2.heap.size, 1, none⟩ = some (.int .i64 (b : Int)) ∧ w'.cell? ⟨w2.heap.size, 2, none⟩ = some (.bool c)) [5] [0, 1, 2, 3, 4, 5] (by kernel_rfl) (by kernel_rfl) (by kernel_rfl) ?_ ?_ ?_
        · intro c a a' w hd h; exact ⟨hd ▸ h.1, h.2⟩
        · exact ⟨(World.cell?_drew _ _).trans HN6.out.three.1.1, (World.cell?_drew _ _).trans HN6.out.three.1.2.1, (World.cell?_drew _ _).trans HN6.out.three.1.2.2⟩
        simp only [taken, List.map_cons, List.map_nil, List.getElem?_cons_succ, List.getElem?_cons_zero, Option.getD_some]
        repeat (first
        | (refine takeH_skip rfl ?_; simp only [Act.put, List.setIfInBounds_toArray, List.set_cons_succ, List.set_cons_zero])
        | (refine takeH_blind rfl rfl ?_; apply Exists.intro; refine ⟨fun w => ?_, ?_⟩; (go_simp; try with_reducible rfl); simp only [Act.put, List.setIfInBounds_toArray, List.set_cons_succ, List.set_cons_zero])
        | (refine takeH_reads rfl rfl ?_; apply Exists.intro; refine ⟨fun w' hS => ?_, ?_⟩; (obtain ⟨d0, d1, d2⟩ := HC.out w' hS; go_simp; try with_reducible rfl); simp only [Act.put, List.setIfInBounds_toArray, List.set_cons_succ, List.set_cons_zero]))
        refine takeH_call rfl rfl (fun K' hK => ?_)
        go_wp2_with fail
        refine (advance_any g last x (wl win) (ww win) a b c [.pointer (some ⟨p, 0, none⟩)] H.out.la HXb.out w6.drew (HD6.out.blk.of_same rfl)).mono ?_
        rintro e w7 ⟨rfl, hG7, hM7⟩
        rw [HCe.out] at hG7
        have hM67 : Mods (fun k => k = g) w6 w7 := (Mods.drew (fun k => k = g) w6).trans hM7 (fun _ _ e => e)
        refine hK _ _ ⟨hM67.cell HN6.out.three.1.1 HB.out.2.1, hM67.cell HN6.out.three.1.2.1 HB.out.2.1, hM67.cell HN6.out.three.1.2.2 HB.out.2.1⟩ ?_
        have HD7 : Hid (DecIs w0 W g p v bs r2 (last ^^^ x) (nextW win x) w7) :=
          ⟨hG7, rp_more H0.out HD6.out.rp hM67 (fun k e => by rw [e]; exact H.out.far), H.out.far, H.out.gp, HD6.out.tab.block (hM67.block _ HD6.out.tab.lt H.out.tg), H.out.tg, H.out.tp, xor_lt64 H.out.la HXb.out, okW_next H.out.ok HXb.out, HD6.out.md.trans hM67 (fun _ _ e => Or.inr e)⟩
        have c0 : w7.cell? ⟨g, 0, none⟩ = some (.int .u64 ((last ^^^ x : Nat) : Int)) := by rw [HD7.out.blk.cell]; rfl
        clear hK K' hG7 hM7 hM67 HD6 HN6 HCe
        refine takeH_nil ?_
        go_wp2_with fail
        go_ret2
        rw [HD.out]
        exact ⟨⟨_, rfl, fun _ => rfl⟩, ⟨HD7.out.rp, HD7.out.md⟩, fun _ => HD7.out⟩
      · rw [if_neg hq] at HD
        generalize sL win x = a2 at *
        generalize sW win x = b2 at *
        generalize sN win x = c2 at *
        have hq2 : a2 ≠ a ∨ (a2 = a ∧ b2 ≠ b) ∨ (a2 = a ∧ b2 = b ∧ c2 = !c) := by
          by_cases h1 : a2 = a
          · by_cases h2 : b2 = b
            · refine Or.inr (Or.inr ⟨h1, h2, ?_⟩)
              cases c2 <;> cases c <;> simp_all
            · exact Or.inr (Or.inl ⟨h1, h2⟩)
          · exact Or.inl h1
        clear hq HCe
        rcases hq2 with h1 | ⟨rfl, h1⟩ | ⟨rfl, rfl, rfl⟩
        · have h1' : ((a2 : Int) == (a : Int)) = false := by rw [beq_eq_false_iff_ne]; omega
          clear h1
          repeat (first
        | (refine takeH_skip rfl ?_; simp only [Act.put, List.setIfInBounds_toArray, List.set_cons_succ, List.set_cons_zero])
        | (refine takeH_blind rfl rfl ?_; apply Exists.intro; refine ⟨fun w => ?_, ?_⟩; (go_simp; try with_reducible rfl); simp only [Act.put, List.setIfInBounds_toArray, List.set_cons_succ, List.set_cons_zero])
        | (refine takeH_reads rfl rfl ?_; apply Exists.intro; refine ⟨fun w' hS => ?_, ?_⟩; (obtain ⟨d0, d1, d2⟩ := HC.out w' hS; go_simp; try with_reducible rfl); simp only [Act.put, List.setIfInBounds_toArray, List.set_cons_succ, List.set_cons_zero]))
          refine takeH_nil ?_
          go_wp2_with fail
          go_ret2
          rw [HD.out]
          exact ⟨⟨_, rfl, fun h => by cases h⟩, ⟨HD6.out.rp, HD6.out.md⟩, fun h => by cases h⟩
        · have h1' : ((b2 : Int) == (b : Int)) = false := by rw [beq_eq_false_iff_ne]; omega
          clear h1
          repeat (first
        | (refine takeH_skip rfl ?_; simp only [Act.put, List.setIfInBounds_toArray, List.set_cons_succ, List.set_cons_zero])
        | (refine takeH_blind rfl rfl ?_; apply Exists.intro; refine ⟨fun w => ?_, ?_⟩; (go_simp; try with_reducible rfl); simp only [Act.put, List.setIfInBounds_toArray, List.set_cons_succ, List.set_cons_zero])
        | (refine takeH_reads rfl rfl ?_; apply Exists.intro; refine ⟨fun w' hS => ?_, ?_⟩; (obtain ⟨d0, d1, d2⟩ := HC.out w' hS; go_simp; try with_reducible rfl); simp only [Act.put, List.setIfInBounds_toArray, List.set_cons_succ, List.set_cons_zero]))
          refine takeH_nil ?_
          go_wp2_with fail
          go_ret2
          rw [HD.out]
          exact ⟨⟨_, rfl, fun h => by cases h⟩, ⟨HD6.out.rp, HD6.out.md⟩, fun h => by cases h⟩
        · cases c with
          | true =>
            repeat (first
        | (refine takeH_skip rfl ?_; simp only [Act.put, List.setIfInBounds_toArray, List.set_cons_succ, List.set_cons_zero])
        | (refine takeH_blind rfl rfl ?_; apply Exists.intro; refine ⟨fun w => ?_, ?_⟩; (go_simp; try with_reducible rfl); simp only [Act.put, List.setIfInBounds_toArray, List.set_cons_succ, List.set_cons_zero])
        | (refine takeH_reads rfl rfl ?_; apply Exists.intro; refine ⟨fun w' hS => ?_, ?_⟩; (obtain ⟨d0, d1, d2⟩ := HC.out w' hS; go_simp; try with_reducible rfl); simp only [Act.put, List.setIfInBounds_toArray, List.set_cons_succ, List.set_cons_zero]))
            refine takeH_nil ?_
            go_wp2_with fail
            go_ret2
            rw [HD.out]
            exact ⟨⟨_, rfl, fun h => by cases h⟩, ⟨HD6.out.rp, HD6.out.md⟩, fun h => by cases h⟩
          | false =>
            repeat (first
        | (refine takeH_skip rfl ?_; simp only [Act.put, List.setIfInBounds_toArray, List.set_cons_succ, List.set_cons_zero])
        | (refine takeH_blind rfl rfl ?_; apply Exists.intro; refine ⟨fun w => ?_, ?_⟩; (go_simp; try with_reducible rfl); simp only [Act.put, List.setIfInBounds_toArray, List.set_cons_succ, List.set_cons_zero])
        | (refine takeH_reads rfl rfl ?_; apply Exists.intro; refine ⟨fun w' hS => ?_, ?_⟩; (obtain ⟨d0, d1, d2⟩ := HC.out w' hS; go_simp; try with_reducible rfl); simp only [Act.put, List.setIfInBounds_toArray, List.set_cons_succ, List.set_cons_zero]))
            refine takeH_nil ?_
            go_wp2_with fail
            go_ret2
            rw [HD.out]
            exact ⟨⟨_, rfl, fun h => by cases h⟩, ⟨HD6.out.rp, HD6.out.md⟩, fun h => by cases h⟩
    · rw [if_pos he] at HD
      have hne : ¬ ((field b r1).e : Int) = 0 := by omega
      have hneb : (((field b r1).e : Int) == 0) = false := by rw [beq_eq_false_iff_ne]; omega
      have HE := Lib.hid he
      clear he
      generalize (field b r1).x = u at *
      generalize (field b r1).r = r2 at *
      generalize (field b r1).e = en at *
      repeat (first
        | (refine takeH_skip rfl ?_; simp only [Act.put, List.setIfInBounds_toArray, List.set_cons_succ, List.set_cons_zero])
        | (refine takeH_blind rfl rfl ?_; apply Exists.intro; refine ⟨fun w => ?_, ?_⟩; (go_simp; try with_reducible rfl); simp only [Act.put, List.setIfInBounds_toArray, List.set_cons_succ, List.set_cons_zero])
        | (refine takeH_reads rfl rfl ?_; apply Exists.intro; refine ⟨fun w' hS => ?_, ?_⟩; (obtain ⟨d0, d1, d2⟩ := HC.out w' hS; go_simp; try with_reducible rfl); simp only [Act.put, List.setIfInBounds_toArray, List.set_cons_succ, List.set_cons_zero]))
      refine takeH_nil ?_
      go_wp2_with fail
      go_ret2
      rw [HD.out]
      exact ⟨⟨_, rfl, fun h => absurd h HE.out⟩, ⟨HD4.out.rp, HD4.out.md⟩, fun h => absurd h HE.out⟩
  · have hne : ¬ (en : Int) = 0 := by omega
    have hneb : ((en : Int) == 0) = false := by rw [beq_eq_false_iff_ne]; omega
    have HD := Lib.hid (stepD_bad he HH.out)
    go_enter Tryd.func39, Tryd.ntmps39
    go_wp2_with fail
    refine HSt.out.mono ?_
    rintro e w2 ⟨rfl, hP2⟩
    have HD2 := Lib.hid ((H.out.step hP2).below ((Below.refl _ w2).alloc (Nat.le_refl _) (.cells #[.int .i64 (a : Int), .int .i64 (b : Int), .bool c] 76)))
    clear hP2
    go_wp2_with fail
    go_ret2
    rw [HD.out]
    refine ⟨⟨0, rfl, fun h => absurd h he⟩, ⟨HD2.out.rp, HD2.out.md⟩, fun h => absurd h he⟩
end Go.Proofs.YtnhopiggknfimaaDoor
