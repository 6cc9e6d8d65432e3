/- XvK, XvL, XvM, RunQ, RnA, RnB, RnC, in one text. -/
import Derived.Test.YtgpmoimmpbkgfaaGreatDoorMrg7
import Derived.Test.YtgpmoimmpbkgfaaGreatDoorMrg2
import Derived.Test.YtgpmoimmpbkgfaaGreatDoorMrg3
import Derived.Test.YtgpmoimmpbkgfaaGreatDoorMrg5
import Derived.Test.YtgpmoimmpbkgfaaGreatDoorMrg4

section
/- Layer 6: the reading of a word as the program takes it: a step, the bits inside, and whether the step is the word's. No program in sight. -/
set_option linter.unusedVariables false
namespace Go.Proofs.YtgpmoimmpbkgfaaGreatDoor

def stepD (win : Option (Nat × Nat)) (bits : List Bool) : Res Nat :=
  if (headD win bits).e ≠ 0 then ⟨(headD win bits).e, 0, (headD win bits).r⟩ else
  let u := field (headD win bits).x.2.1 (headD win bits).r
  if u.e ≠ 0 then ⟨u.e, 0, u.r⟩ else
  let x := u.x * 2 ^ (64 - (headD win bits).x.1 - (headD win bits).x.2.1)
  if sL win x = (headD win bits).x.1 ∧ sW win x = (headD win bits).x.2.1 ∧ sN win x = (headD win bits).x.2.2 then ⟨0, x, u.r⟩ else ⟨8, 0, u.r⟩

theorem stepD_of {win : Option (Nat × Nat)} {bits c : List Bool} {a b : Nat} {n : Bool} (h : headD win bits = ⟨0, (a, b, n), c⟩) :
    stepD win bits = (if (field b c).e ≠ 0 then ⟨(field b c).e, 0, (field b c).r⟩ else if sL win ((field b c).x * 2 ^ (64 - a - b)) = a ∧ sW win ((field b c).x * 2 ^ (64 - a - b)) = b ∧ sN win ((field b c).x * 2 ^ (64 - a - b)) = n then ⟨0, (field b c).x * 2 ^ (64 - a - b), (field b c).r⟩ else ⟨8, 0, (field b c).r⟩) := by
  rw [stepD, h]; simp only [ne_eq, not_true_eq_false, if_false]
theorem stepD_bad {win : Option (Nat × Nat)} {bits c : List Bool} {e : Nat} {x : Nat × Nat × Bool} (he : e ≠ 0) (h : headD win bits = ⟨e, x, c⟩) : stepD win bits = ⟨e, 0, c⟩ := by
  rw [stepD, h, if_pos he]

theorem headD_form {win : Option (Nat × Nat)} (ho : okW win) (bits : List Bool) : (headD win bits).e = 0 → (headD win bits).x.1 ≤ 63 ∧ (headD win bits).x.2.1 ≤ 64 ∧ (headD win bits).x.1 + (headD win bits).x.2.1 ≤ 64 := by
  match bits with
  | [] => intro h; cases h
  | false :: c => intro _; exact ⟨by show 0 ≤ 63; omega, by show 0 ≤ 64; omega, by show 0 + 0 ≤ 64; omega⟩
  | [true] => intro h; cases h
  | true :: false :: c =>
    cases win with
    | none => intro h; cases h
    | some w => obtain ⟨L, t⟩ := w; have := ho L t rfl; intro _; exact ⟨by show L ≤ 63; omega, by show 64 - L - t ≤ 64; omega, by show L + (64 - L - t) ≤ 64; omega⟩
  | true :: true :: c =>
    intro h
    change (winD c).e = 0 at h
    show (winD c).x.1 ≤ 63 ∧ (winD c).x.2 ≤ 64 ∧ (winD c).x.1 + (winD c).x.2 ≤ 64
    rw [winD] at h ⊢
    split at h
    · next hn => exact absurd h hn
    · next h1 =>
      rw [if_neg h1]
      simp only at h ⊢
      split at h
      · next hn => exact absurd h hn
      · next h2 =>
        rw [if_neg h2]
        split at h
        · cases h
        · next h3 => rw [if_neg h3]; simp only; omega

theorem fits_of {L t x : Nat} (h0 : x ≠ 0) (hL : L ≤ 63) (ht : t ≤ 64) (hx : x < 2 ^ (64 - L)) (hd : 2 ^ t ∣ x) : fits (some (L, t)) x = true := by
  simp only [fits, Bool.and_eq_true, decide_eq_true_eq]
  exact ⟨le_lead h0 hL hx, le_tz 64 t x ht hd⟩

theorem decW_step {win : Option (Nat × Nat)} (ho : okW win) (bits : List Bool) :
    ∃ y, decW win bits = ⟨(stepD win bits).e, y, (stepD win bits).r⟩ ∧ ((stepD win bits).e = 0 → y = ((stepD win bits).x, nextW win (stepD win bits).x)) := by
  match bits with
  | [] => exact ⟨_, decW_nil win, fun h => by cases h⟩
  | false :: c =>
    have hs : stepD win (false :: c) = ⟨0, 0, c⟩ := by
      rw [stepD_of (a := 0) (b := 0) (n := false) (c := c) rfl]
      have hf : field 0 c = ⟨0, 0, c⟩ := by rw [field, if_neg (by omega)]; rfl
      rw [hf]
      simp only [ne_eq, not_true_eq_false, if_false, Nat.zero_mul, sL, sW, sN, if_true, and_self]
    rw [hs]
    exact ⟨_, decW_same win c, fun _ => by rw [nextW, if_pos rfl]⟩
  | [true] => exact ⟨_, decW_half win, fun h => by cases h⟩
  | true :: false :: c =>
    cases win with
    | none => exact ⟨_, decW_none c, fun h => by cases h⟩
    | some w =>
      obtain ⟨L, t⟩ := w
      have hw := ho L t rfl
      rw [stepD_of (a := L) (b := 64 - L - t) (n := false) (c := c) rfl, show 64 - L - (64 - L - t) = t by omega]
      by_cases hs : c.length < 64 - L - t
      · rw [field_short hs]
        exact ⟨_, decOld_short hs, fun h => by cases h⟩
      · have hlt := take_lt hs
        rw [field_full hs]
        simp only [ne_eq, not_true_eq_false, if_false]
        generalize hu : numOf (c.take (64 - L - t)) = u at *
        by_cases h0 : u * 2 ^ t = 0
        · rw [if_neg (by rw [h0, sW, if_pos rfl]; omega)]
          exact ⟨_, decOld_zero hs (by rw [hu]; exact h0), fun h => by cases h⟩
        · have hx := outside_lt hlt hw
          have hf := fits_of h0 (by omega) (by omega) hx ⟨u, Nat.mul_comm _ _⟩
          rw [if_pos (by rw [sL, sW, sN]; simp only [h0, hf, if_true, if_false, wl, ww, and_self])]
          refine ⟨_, by rw [decOld_right hs (by rw [hu]; exact h0), hu], fun _ => ?_⟩
          rw [nextW, if_neg h0, if_pos hf]
  | true :: true :: c =>
    by_cases h1 : c.length < 6
    · have hw : headD win (true :: true :: c) = ⟨3, (0, 0, true), c⟩ := by
        show (⟨_, _, _⟩ : Res _) = _
        rw [winD, field_short h1]; rfl
      rw [stepD_bad (by decide) hw]
      exact ⟨_, decNew_short1 h1, fun h => by cases h⟩
    · obtain ⟨a, c1, hf1, ha⟩ : ∃ a c1, field 6 c = ⟨0, a, c1⟩ ∧ a < 64 := ⟨_, _, field_full h1, take_lt h1⟩
      by_cases h2 : c1.length < 6
      · have hw : headD win (true :: true :: c) = ⟨3, (0, 0, true), c1⟩ := by
          show (⟨_, _, _⟩ : Res _) = _
          rw [winD, hf1]; simp only [field_short h2, ne_eq, not_true_eq_false, if_false]; rfl
        rw [stepD_bad (by decide) hw]
        exact ⟨_, decNew_short2 hf1 h2, fun h => by cases h⟩
      · obtain ⟨y, c2, hf2, hy⟩ : ∃ y c2, field 6 c1 = ⟨0, y, c2⟩ ∧ y < 64 := ⟨_, _, field_full h2, take_lt h2⟩
        by_cases h3 : 63 < a + y
        · have hw : headD win (true :: true :: c) = ⟨8, (0, 0, true), c2⟩ := by
            show (⟨_, _, _⟩ : Res _) = _
            rw [winD, hf1]; simp only [hf2, ne_eq, not_true_eq_false, if_false, h3, if_true]
          rw [stepD_bad (by decide) hw]
          exact ⟨_, decNew_wide hf1 hf2 h3, fun h => by cases h⟩
        · have hw : headD win (true :: true :: c) = ⟨0, (a, y + 1, true), c2⟩ := by
            show (⟨_, _, _⟩ : Res _) = _
            rw [winD, hf1]; simp only [hf2, ne_eq, not_true_eq_false, if_false, h3]
          rw [stepD_of hw, show 64 - a - (y + 1) = 63 - a - y by omega]
          have e1 : 64 - a - (63 - a - y) = y + 1 := by omega
          by_cases hs : c2.length < y + 1
          · rw [field_short hs]
            exact ⟨_, decNew_short3 hf1 hf2 h3 (by rw [e1]; exact hs), fun h => by cases h⟩
          · have hlt := take_lt hs
            have hff : field (64 - a - (63 - a - y)) c2 = ⟨0, numOf (c2.take (y + 1)), c2.drop (y + 1)⟩ := by rw [e1]; exact field_full hs
            rw [field_full hs]
            simp only [ne_eq, not_true_eq_false, if_false]
            generalize numOf (c2.take (y + 1)) = u at *
            generalize c2.drop (y + 1) = c3 at *
            have hx : u * 2 ^ (63 - a - y) < 18446744073709551616 := by
              have := outside_lt (L := a) (t := 63 - a - y) (u := u) (by rw [show 64 - a - (63 - a - y) = y + 1 by omega]; exact hlt) (by omega)
              exact Nat.lt_of_lt_of_le this (pow_le64 a)
            generalize hxx : u * 2 ^ (63 - a - y) = x at *
            by_cases h0 : x = 0
            · rw [if_neg (by rw [h0, sW, if_pos rfl]; omega)]
              exact ⟨_, decNew_zero hf1 hf2 h3 hff (by rw [hxx]; exact h0), fun h => by cases h⟩
            · have hwx := window hx h0
              by_cases hg : leadV x ≠ a ∨ trailV x ≠ 63 - a - y ∨ fits win x = true
              · rw [if_neg]
                · exact ⟨_, decNew_wrong hf1 hf2 h3 hff (by rw [hxx]; exact h0) (by rw [hxx]; exact hg), fun h => by cases h⟩
                · rw [sL, sW, sN]
                  by_cases hf : fits win x = true
                  · simp only [h0, hf, if_true, if_false, Bool.false_eq_true, and_false, not_false_eq_true]
                  · have hff2 : fits win x = false := by simpa using hf
                    simp only [h0, hff2, if_false, Bool.false_eq_true, and_true]
                    rcases hg with h | h | h
                    · exact fun k => h k.1
                    · exact fun k => h (by omega)
                    · exact absurd h hf
              · have h1 : leadV x = a := Decidable.not_not.1 (fun h => hg (Or.inl h))
                have h2 : trailV x = 63 - a - y := Decidable.not_not.1 (fun h => hg (Or.inr (Or.inl h)))
                have h3' : fits win x = false := by
                  cases hb : fits win x with
                  | true => exact absurd (Or.inr (Or.inr hb)) hg
                  | false => rfl
                rw [if_pos]
                · refine ⟨_, by rw [decNew_right hf1 hf2 h3 hff (by rw [hxx]; exact h0) (by rw [hxx]; exact hg), hxx], fun _ => ?_⟩
                  rw [nextW, if_neg h0, if_neg (by rw [h3']; decide), h1, h2]
                · rw [sL, sW, sN]
                  simp only [h0, h3', if_false, Bool.false_eq_true, and_true]
                  omega
end Go.Proofs.YtgpmoimmpbkgfaaGreatDoor

end

section
/- Layer 6: the program reads one value. -/
set_option linter.unusedVariables false
set_option maxRecDepth 20000
namespace Go.Proofs.YtgpmoimmpbkgfaaGreatDoor
open Go Go.RowKit

theorem step_cells2 (win : Option (Nat × Nat)) (last x : Nat) : advC last x (wl win) (ww win) (sL win x) (sW win x) (sN win x) = [.int .u64 ((last ^^^ x : Nat) : Int), .int .i64 (wl (nextW win x) : Int), .int .i64 (ww (nextW win x) : Int)] := by
  rw [advC, nextW, sL, sW, sN]
  by_cases h0 : x = 0
  · simp only [h0, if_true, Bool.false_eq_true, if_false]
  · by_cases hf : fits win x = true
    · simp only [h0, hf, if_true, Bool.false_eq_true, if_false]
    · simp only [h0, hf, if_true, Bool.false_eq_true, if_false]; rfl

/-- A decoder at g over the reader at p, of a call that began at w0. -/
structure DecIs (w0 W : World) (g p : Nat) (v : Value) (bs : List Nat) (r : List Bool) (last : Nat) (win : Option (Nat × Nat)) (w : World) : Prop where
  blk : Blk w g [.int .u64 (last : Int), .int .i64 (wl win : Int), .int .i64 (ww win : Int), .pointer (some ⟨p, 0, none⟩)]
  rp : RP p v bs r w0 w
  far : w0.heap.size ≤ g
  gp : g ≠ p
  tab : TabZ w
  tg : 1 ≠ g
  tp : 1 ≠ p
  la : last < 18446744073709551616
  ok : okW win
  md : Mods (fun k => k = p ∨ k = g) W w
theorem DecIs.decC {w0 W : World} {g p : Nat} {v : Value} {bs : List Nat} {r : List Bool} {last : Nat} {win : Option (Nat × Nat)} {w : World} (h : DecIs w0 W g p v bs r last win w) : DecC g p win w := ⟨by rw [h.blk.cell]; rfl, by rw [h.blk.cell]; rfl, by rw [h.blk.cell]; rfl, h.gp⟩
theorem DecIs.step {w0 W : World} {g p : Nat} {v : Value} {bs : List Nat} {r r' : List Bool} {last : Nat} {win : Option (Nat × Nat)} {w w' : World} (h : DecIs w0 W g p v bs r last win w) (k : RP p v bs r' w w') : DecIs w0 W g p v bs r' last win w' :=
  ⟨k.2.blk h.blk h.gp, rp_trans h.rp k, h.far, h.gp, h.tab.block (k.2.block _ h.tab.lt h.tp), h.tg, h.tp, h.la, h.ok, h.md.trans k.2 (fun _ _ e => Or.inl e)⟩
theorem DecIs.below {w0 W : World} {g p : Nat} {v : Value} {bs : List Nat} {r : List Bool} {last : Nat} {win : Option (Nat × Nat)} {w w' : World} (h : DecIs w0 W g p v bs r last win w) (hb : Below w.heap.size w w') : DecIs w0 W g p v bs r last win w' :=
  h.step (h.rp.1.start.below hb)

theorem DecIs.here {w0 W : World} {g p : Nat} {v : Value} {bs : List Nat} {r : List Bool} {last : Nat} {win : Option (Nat × Nat)} {w : World} (h : DecIs w0 W g p v bs r last win w) : DecIs w0 w g p v bs r last win w :=
  ⟨h.blk, h.rp, h.far, h.gp, h.tab, h.tg, h.tp, h.la, h.ok, Mods.refl _ _⟩
/-- What get leaves. -/
def GetPost1 (w0 W : World) (g p : Nat) (v : Value) (bs : List Nat) (last : Nat) (win : Option (Nat × Nat)) (o : Res Nat) (e : Ending) (w' : World) : Prop :=
  (∃ x : Int, e = .returned (.tuple #[.int .u64 x, .int .i64 (o.e : Int)]) ∧ (o.e = 0 → x = ((last ^^^ o.x : Nat) : Int))) ∧ (RP p v bs o.r w0 w' ∧ Mods (fun k => k = p ∨ k = g) W w') ∧ (o.e = 0 → DecIs w0 W g p v bs o.r (last ^^^ o.x) (nextW win o.x) w')

set_option maxHeartbeats 4000000 in
theorem get_any6 (w0 W : World) (g p : Nat) (v : Value) (bs : List Nat) (r0 r : List Bool) (last : Nat) (win : Option (Nat × Nat)) (w : World) (h0 : RIs p v bs r0 w0) (h : DecIs w0 W g p v bs r last win w) :
    Calls Tryz.prog 84 #[.pointer (some ⟨g, 0, none⟩)] w (GetPost1 w0 W g p v bs last win (stepD win r)) := by
  have H := Lib.hid h; have H0 := Lib.hid h0
  have HSt := Lib.hid (getStep_any g p v bs r win h.ok w h.rp.1 h.decC)
  have HFo := Lib.hid (headD_form h.ok r)
  have HSd : Hid (stepD win r = stepD win r) := rfl
  clear h h0 HSd
  obtain ⟨en, ⟨a, b, c⟩, r1, hh⟩ : ∃ en x r1, headD win r = ⟨en, x, r1⟩ := ⟨_, _, _, rfl⟩
  have HH := Lib.hid hh
  rw [hh] at HSt HFo
  clear hh
  unfold StepPost at HSt
  simp only at HSt HFo
  by_cases he : en = 0
  · subst he
    have HD := Lib.hid (stepD_of HH.out)
    go_enter Tryz.func84, Tryz.ntmps84
    go_wp2_with fail
    refine HSt.out.mono ?_
    rintro e w2 ⟨rfl, hP2⟩
    obtain ⟨w3, hw3⟩ : ∃ w3, w2.alloc (.cells #[.int .i64 (a : Int), .int .i64 (b : Int), .bool c] 136) = w3 := ⟨_, rfl⟩
    have hB3 : Below w2.heap.size w2 w3 := by rw [← hw3]; exact (Below.refl _ w2).alloc (Nat.le_refl _) _
    have HN3 : Hid (Blk w3 w2.heap.size [.int .i64 (a : Int), .int .i64 (b : Int), .bool c]) := by rw [← hw3]; exact Blk.new w2 _ _
    have HD3 := Lib.hid ((H.out.step hP2).below hB3)
    have HB : Hid (w2.heap.size ≠ p ∧ w2.heap.size ≠ g ∧ w0.heap.size ≤ w2.heap.size) := ⟨by have := hP2.1.1.blk.lt; omega, by have := (H.out.step hP2).blk.lt; omega, (H.out.step hP2).rp.2.size⟩
    clear hP2 hB3 HSt
    obtain ⟨⟨d0, d1, d2⟩, _⟩ := HN3.out.three
    have HC : Hid (∀ w' : World, (w'.cell? ⟨g, 3, none⟩ = some (.pointer (some ⟨p, 0, none⟩)) ∧ w'.cell? ⟨w2.heap.size, 1, none⟩ = some (.int .i64 (b : Int)) ∧ True) → (w'.cell? ⟨g, 3, none⟩ = some (.pointer (some ⟨p, 0, none⟩)) ∧ w'.cell? ⟨w2.heap.size, 1, none⟩ = some (.int .i64 (b : Int)) ∧ True)) := fun _ h => h
    have HRf := fun W (h : RIs p v bs r1 W) => Lib.hid (rfield p v bs r1 b W h (HFo.out trivial).2.1)
    have HS3 : Hid (w3.cell? ⟨g, 3, none⟩ = some (.pointer (some ⟨p, 0, none⟩)) ∧ w3.cell? ⟨w2.heap.size, 1, none⟩ = some (.int .i64 (b : Int))) := ⟨HD3.out.decC.c3, d1⟩
    clear d0 d1 d2
    go_wp2_with fail
    refine wp_region_takeH (fun w' : World => w'.cell? ⟨g, 3, none⟩ = some (.pointer (some ⟨p, 0, none⟩)) ∧ w'.cell? ⟨w2.heap.size, 1, none⟩ = some (.int .i64 (b : Int)) ∧ True) [7] [0, 1, 2, 3, 4, 5, 6, 7, 8, 9, 10, 11, 12] (by kernel_rfl) (by kernel_rfl) (by kernel_rfl) ?_ ?_ ?_
    · intro c a a' w hd h; exact ⟨hd ▸ h.1, h.2⟩
    · exact ⟨(World.cell?_drew _ _).trans HS3.out.1, (World.cell?_drew _ _).trans HS3.out.2, trivial⟩
    simp only [taken, List.map_cons, List.map_nil, List.getElem?_cons_succ, List.getElem?_cons_zero, Option.getD_some]
    repeat (first
        | (refine takeH_skip rfl ?_; simp only [Act.put, List.setIfInBounds_toArray, List.set_cons_succ, List.set_cons_zero])
        | (refine takeH_blind rfl rfl ?_; apply Exists.intro; refine ⟨fun w => ?_, ?_⟩; (go_simp; try with_reducible rfl); simp only [Act.put, List.setIfInBounds_toArray, List.set_cons_succ, List.set_cons_zero])
        | (refine takeH_reads rfl rfl ?_; apply Exists.intro; refine ⟨fun w' hS => ?_, ?_⟩; (obtain ⟨d0, d1, d2⟩ := HC.out w' hS; go_simp; try with_reducible rfl); simp only [Act.put, List.setIfInBounds_toArray, List.set_cons_succ, List.set_cons_zero]))
    have hD3 : DecIs w0 W g p v bs r1 last win w3.drew := HD3.out.step ⟨HD3.out.rp.1.mods (Mods.drew (fun _ => False) w3) (fun e => e) (fun _ _ e => e), Mods.drew _ _⟩
    have HN3d : Hid (Blk w3.drew w2.heap.size [.int .i64 (a : Int), .int .i64 (b : Int), .bool c]) := HN3.out.of_same rfl
    refine takeH_call rfl rfl (fun K' hK => ?_)
    go_wp2_with fail
    refine (HRf w3.drew hD3.rp.1).out.mono ?_
    rintro e w4 ⟨rfl, hP4⟩
    have HD4 := Lib.hid (hD3.step hP4)
    have HN4 := Lib.hid (hP4.2.blk HN3d.out HB.out.1)
    refine hK _ _ ⟨HD4.out.decC.c3, HN4.out.three.1.2.1, trivial⟩ ?_
    clear hK K' hP4 hD3 HN3d HN3 HD3 HS3 hw3 HRf
    have HXl := field_lt b r1
    have HXl := Lib.hid HXl
    by_cases he : (field b r1).e = 0
    · rw [if_neg (fun h => h he)] at HD
      rw [he]
      clear he
      generalize (field b r1).x = u at *
      generalize (field b r1).r = r2 at *
      repeat (first
        | (refine takeH_skip rfl ?_; simp only [Act.put, List.setIfInBounds_toArray, List.set_cons_succ, List.set_cons_zero])
        | (refine takeH_blind rfl rfl ?_; apply Exists.intro; refine ⟨fun w => ?_, ?_⟩; (go_simp; try with_reducible rfl); simp only [Act.put, List.setIfInBounds_toArray, List.set_cons_succ, List.set_cons_zero])
        | (refine takeH_reads rfl rfl ?_; apply Exists.intro; refine ⟨fun w' hS => ?_, ?_⟩; (obtain ⟨d0, d1, d2⟩ := HC.out w' hS; go_simp; try with_reducible rfl); simp only [Act.put, List.setIfInBounds_toArray, List.set_cons_succ, List.set_cons_zero]))
      refine takeH_nil ?_
      obtain ⟨⟨d0, d1, d2⟩, _⟩ := HN4.out.three
      have HTr := Lib.hid (trailing_any a b (by have := (HFo.out trivial).1; omega) (by have := (HFo.out trivial).2.1; omega) w4)
      clear HC
      go_wp2_with fail
      refine HTr.out.mono ?_
      rintro e w5 ⟨rfl, hB5⟩
      have HD5 := Lib.hid (HD4.out.below hB5)
      have HN5 := Lib.hid (HN4.out.of_same (hB5.block _ HN4.out.lt))
      have e1 : (64 : Int) - (a : Int) - (b : Int) = ((64 - a - b : Nat) : Int) := by have := (HFo.out trivial).2.2; omega
      have hT64 : ((64 - a - b : Nat) : Int) ≤ 64 := by omega
      have HXb : Hid (u * 2 ^ (64 - a - b) < 18446744073709551616) := by
        have h1 := HXl.out
        have h2 := (HFo.out trivial).2.2
        have h3 : u * 2 ^ (64 - a - b) < 2 ^ b * 2 ^ (64 - a - b) := Nat.mul_lt_mul_of_pos_right h1 (Nat.two_pow_pos _)
        rw [← Nat.pow_add, show b + (64 - a - b) = 64 - a by omega] at h3
        exact Nat.lt_of_lt_of_le h3 (pow_le64 a)
      rw [e1]
      clear e1 hB5 HN4 HD4 HTr d0 d1 d2
      have HTe : Hid (64 - a - b = 64 - a - b) := rfl
      generalize hT : 64 - a - b = T at *
      go_wp2_with fail
      have e2 : IntKind.u64.wrap ((u : Int) * 2 ^ T) = ((u * 2 ^ T : Nat) : Int) := by
        have h := HXb.out
        have e3 : (u : Int) * 2 ^ T = ((u * 2 ^ T : Nat) : Int) := by simp
        rw [e3, IntKind.wrap_u64]
        generalize u * 2 ^ T = z at *
        omega
      rw [e2]
      clear e2 hT64
      generalize u * 2 ^ T = x at *
      have HSf := Lib.hid (stepFor_any g win x H.out.ok HXb.out w5.drew (HD5.out.tab.block rfl) HD5.out.decC.c1 HD5.out.decC.c2)
      have HC : Hid (∀ w' : World, (w'.cell? ⟨w2.heap.size, 0, none⟩ = some (.int .i64 (a : Int)) ∧ w'.cell? ⟨w2.heap.size, 1, none⟩ = some (.int .i64 (b : Int)) ∧ w'.cell? ⟨w2.heap.size, 2, none⟩ = some (.bool c)) → (w'.cell? ⟨w2.heap.size, 0, none⟩ = some (.int .i64 (a : Int)) ∧ w'.cell? ⟨w2.heap.size, 1, none⟩ = some (.int .i64 (b : Int)) ∧ w'.cell? ⟨w2.heap.size, 2, none⟩ = some (.bool c))) := fun _ h => h
      refine wp_region_takeH (fun w' : World => w'.cell? ⟨w2.heap.size, 0, none⟩ = some (.int .i64 (a : Int)) ∧ w'.cell? ⟨w2.heap.size, 1, none⟩ = some (.int .i64 (b : Int)) ∧ w'.cell? ⟨w2.heap.size, 2, none⟩ = some (.bool c)) [4] [0, 1, 2, 3, 5, 4, 6] (by kernel_rfl) (by kernel_rfl) (by kernel_rfl) ?_ ?_ ?_
      · intro c a a' w hd h; exact ⟨hd ▸ h.1, h.2⟩
      · exact ⟨(World.cell?_drew _ _).trans HN5.out.three.1.1, (World.cell?_drew _ _).trans HN5.out.three.1.2.1, (World.cell?_drew _ _).trans HN5.out.three.1.2.2⟩
      simp only [taken, List.map_cons, List.map_nil, List.getElem?_cons_succ, List.getElem?_cons_zero, Option.getD_some]
      repeat (first
        | (refine takeH_skip rfl ?_; simp only [Act.put, List.setIfInBounds_toArray, List.set_cons_succ, List.set_cons_zero])
        | (refine takeH_blind rfl rfl ?_; apply Exists.intro; refine ⟨fun w => ?_, ?_⟩; (go_simp; try with_reducible rfl); simp only [Act.put, List.setIfInBounds_toArray, List.set_cons_succ, List.set_cons_zero])
        | (refine takeH_reads rfl rfl ?_; apply Exists.intro; refine ⟨fun w' hS => ?_, ?_⟩; (obtain ⟨d0, d1, d2⟩ := HC.out w' hS; go_simp; try with_reducible rfl); simp only [Act.put, List.setIfInBounds_toArray, List.set_cons_succ, List.set_cons_zero]))
      refine takeH_call rfl rfl (fun K' hK => ?_)
      go_wp2_with fail
      refine HSf.out.mono ?_
      rintro e w6 ⟨rfl, hB6⟩
      have hB56 : Below w5.heap.size w5 w6 := ⟨hB6.os, hB6.tape, hB6.output, hB6.size, hB6.block⟩
      have HD6 := Lib.hid (HD5.out.below hB56)
      have HN6 := Lib.hid (HN5.out.of_same (hB56.block _ HN5.out.lt))
      refine hK _ _ HN6.out.three.1 ?_
      have HCe := Lib.hid (step_cells2 win last x)
      clear hK K' hB6 hB56 HSf HD5 HN5
      by_cases hq : sL win x = a ∧ sW win x = b ∧ sN win x = c
      · rw [if_pos hq] at HD
        obtain ⟨q1, q2, q3⟩ := hq
        rw [q1, q2, q3] at HCe ⊢
        clear q1 q2 q3
        repeat (first
        | (refine takeH_skip rfl ?_; simp only [Act.put, List.setIfInBounds_toArray, List.set_cons_succ, List.set_cons_zero])
        | (refine takeH_blind rfl rfl ?_; apply Exists.intro; refine ⟨fun w => ?_, ?_⟩; (go_simp; try with_reducible rfl); simp only [Act.put, List.setIfInBounds_toArray, List.set_cons_succ, List.set_cons_zero])
        | (refine takeH_reads rfl rfl ?_; apply Exists.intro; refine ⟨fun w' hS => ?_, ?_⟩; (obtain ⟨d0, d1, d2⟩ := HC.out w' hS; go_simp; try with_reducible rfl); simp only [Act.put, List.setIfInBounds_toArray, List.set_cons_succ, List.set_cons_zero]))
        refine takeH_nil ?_
        go_wp2_with fail
        refine wp_region_takeH (fun w' : World => w'.cell? ⟨w2.heap.size, 0, none⟩ = some (.int .i64 (a : Int)) ∧ w'.cell? ⟨w2.heap.size, 1, none⟩ = some (.int .i64 (b : Int)) ∧ w'.cell? ⟨w2.heap.size, 2, none⟩ = some (.bool c)) [5] [0, 1, 2, 3, 4, 5] (by kernel_rfl) (by kernel_rfl) (by kernel_rfl) ?_ ?_ ?_
        · intro c a a' w hd h; exact ⟨hd ▸ h.1, h.2⟩
        · exact ⟨(World.cell?_drew _ _).trans HN6.out.three.1.1, (World.cell?_drew _ _).trans HN6.out.three.1.2.1, (World.cell?_drew _ _).trans HN6.out.three.1.2.2⟩
        simp only [taken, List.map_cons, List.map_nil, List.getElem?_cons_succ, List.getElem?_cons_zero, Option.getD_some]
        repeat (first
        | (refine takeH_skip rfl ?_; simp only [Act.put, List.setIfInBounds_toArray, List.set_cons_succ, List.set_cons_zero])
        | (refine takeH_blind rfl rfl ?_; apply Exists.intro; refine ⟨fun w => ?_, ?_⟩; (go_simp; try with_reducible rfl); simp only [Act.put, List.setIfInBounds_toArray, List.set_cons_succ, List.set_cons_zero])
        | (refine takeH_reads rfl rfl ?_; apply Exists.intro; refine ⟨fun w' hS => ?_, ?_⟩; (obtain ⟨d0, d1, d2⟩ := HC.out w' hS; go_simp; try with_reducible rfl); simp only [Act.put, List.setIfInBounds_toArray, List.set_cons_succ, List.set_cons_zero]))
        refine takeH_call rfl rfl (fun K' hK => ?_)
        go_wp2_with fail
        refine (advance_any g last x (wl win) (ww win) a b c [.pointer (some ⟨p, 0, none⟩)] H.out.la HXb.out w6.drew (HD6.out.blk.of_same rfl)).mono ?_
        rintro e w7 ⟨rfl, hG7, hM7⟩
        rw [HCe.out] at hG7
        have hM67 : Mods (fun k => k = g) w6 w7 := (Mods.drew (fun k => k = g) w6).trans hM7 (fun _ _ e => e)
        refine hK _ _ ⟨hM67.cell HN6.out.three.1.1 HB.out.2.1, hM67.cell HN6.out.three.1.2.1 HB.out.2.1, hM67.cell HN6.out.three.1.2.2 HB.out.2.1⟩ ?_
        have HD7 : Hid (DecIs w0 W g p v bs r2 (last ^^^ x) (nextW win x) w7) :=
          ⟨hG7, rp_more H0.out HD6.out.rp hM67 (fun k e => by rw [e]; exact H.out.far), H.out.far, H.out.gp, HD6.out.tab.block (hM67.block _ HD6.out.tab.lt H.out.tg), H.out.tg, H.out.tp, xor_lt64 H.out.la HXb.out, okW_next H.out.ok HXb.out, HD6.out.md.trans hM67 (fun _ _ e => Or.inr e)⟩
        have c0 : w7.cell? ⟨g, 0, none⟩ = some (.int .u64 ((last ^^^ x : Nat) : Int)) := by rw [HD7.out.blk.cell]; rfl
        clear hK K' hG7 hM7 hM67 HD6 HN6 HCe
        refine takeH_nil ?_
        go_wp2_with fail
        go_ret2
        rw [HD.out]
        exact ⟨⟨_, rfl, fun _ => rfl⟩, ⟨HD7.out.rp, HD7.out.md⟩, fun _ => HD7.out⟩
      · rw [if_neg hq] at HD
        generalize sL win x = a2 at *
        generalize sW win x = b2 at *
        generalize sN win x = c2 at *
        have hq2 : a2 ≠ a ∨ (a2 = a ∧ b2 ≠ b) ∨ (a2 = a ∧ b2 = b ∧ c2 = !c) := by
          by_cases h1 : a2 = a
          · by_cases h2 : b2 = b
            · refine Or.inr (Or.inr ⟨h1, h2, ?_⟩)
              cases c2 <;> cases c <;> simp_all
            · exact Or.inr (Or.inl ⟨h1, h2⟩)
          · exact Or.inl h1
        clear hq HCe
        rcases hq2 with h1 | ⟨rfl, h1⟩ | ⟨rfl, rfl, rfl⟩
        · have h1' : ((a2 : Int) == (a : Int)) = false := by rw [beq_eq_false_iff_ne]; omega
          clear h1
          repeat (first
        | (refine takeH_skip rfl ?_; simp only [Act.put, List.setIfInBounds_toArray, List.set_cons_succ, List.set_cons_zero])
        | (refine takeH_blind rfl rfl ?_; apply Exists.intro; refine ⟨fun w => ?_, ?_⟩; (go_simp; try with_reducible rfl); simp only [Act.put, List.setIfInBounds_toArray, List.set_cons_succ, List.set_cons_zero])
        | (refine takeH_reads rfl rfl ?_; apply Exists.intro; refine ⟨fun w' hS => ?_, ?_⟩; (obtain ⟨d0, d1, d2⟩ := HC.out w' hS; go_simp; try with_reducible rfl); simp only [Act.put, List.setIfInBounds_toArray, List.set_cons_succ, List.set_cons_zero]))
          refine takeH_nil ?_
          go_wp2_with fail
          go_ret2
          rw [HD.out]
          exact ⟨⟨_, rfl, fun h => by cases h⟩, ⟨HD6.out.rp, HD6.out.md⟩, fun h => by cases h⟩
        · have h1' : ((b2 : Int) == (b : Int)) = false := by rw [beq_eq_false_iff_ne]; omega
          clear h1
          repeat (first
        | (refine takeH_skip rfl ?_; simp only [Act.put, List.setIfInBounds_toArray, List.set_cons_succ, List.set_cons_zero])
        | (refine takeH_blind rfl rfl ?_; apply Exists.intro; refine ⟨fun w => ?_, ?_⟩; (go_simp; try with_reducible rfl); simp only [Act.put, List.setIfInBounds_toArray, List.set_cons_succ, List.set_cons_zero])
        | (refine takeH_reads rfl rfl ?_; apply Exists.intro; refine ⟨fun w' hS => ?_, ?_⟩; (obtain ⟨d0, d1, d2⟩ := HC.out w' hS; go_simp; try with_reducible rfl); simp only [Act.put, List.setIfInBounds_toArray, List.set_cons_succ, List.set_cons_zero]))
          refine takeH_nil ?_
          go_wp2_with fail
          go_ret2
          rw [HD.out]
          exact ⟨⟨_, rfl, fun h => by cases h⟩, ⟨HD6.out.rp, HD6.out.md⟩, fun h => by cases h⟩
        · cases c with
          | true =>
            repeat (first
        | (refine takeH_skip rfl ?_; simp only [Act.put, List.setIfInBounds_toArray, List.set_cons_succ, List.set_cons_zero])
        | (refine takeH_blind rfl rfl ?_; apply Exists.intro; refine ⟨fun w => ?_, ?_⟩; (go_simp; try with_reducible rfl); simp only [Act.put, List.setIfInBounds_toArray, List.set_cons_succ, List.set_cons_zero])
        | (refine takeH_reads rfl rfl ?_; apply Exists.intro; refine ⟨fun w' hS => ?_, ?_⟩; (obtain ⟨d0, d1, d2⟩ := HC.out w' hS; go_simp; try with_reducible rfl); simp only [Act.put, List.setIfInBounds_toArray, List.set_cons_succ, List.set_cons_zero]))
            refine takeH_nil ?_
            go_wp2_with fail
            go_ret2
            rw [HD.out]
            exact ⟨⟨_, rfl, fun h => by cases h⟩, ⟨HD6.out.rp, HD6.out.md⟩, fun h => by cases h⟩
          | false =>
            repeat (first
        | (refine takeH_skip rfl ?_; simp only [Act.put, List.setIfInBounds_toArray, List.set_cons_succ, List.set_cons_zero])
        | (refine takeH_blind rfl rfl ?_; apply Exists.intro; refine ⟨fun w => ?_, ?_⟩; (go_simp; try with_reducible rfl); simp only [Act.put, List.setIfInBounds_toArray, List.set_cons_succ, List.set_cons_zero])
        | (refine takeH_reads rfl rfl ?_; apply Exists.intro; refine ⟨fun w' hS => ?_, ?_⟩; (obtain ⟨d0, d1, d2⟩ := HC.out w' hS; go_simp; try with_reducible rfl); simp only [Act.put, List.setIfInBounds_toArray, List.set_cons_succ, List.set_cons_zero]))
            refine takeH_nil ?_
            go_wp2_with fail
            go_ret2
            rw [HD.out]
            exact ⟨⟨_, rfl, fun h => by cases h⟩, ⟨HD6.out.rp, HD6.out.md⟩, fun h => by cases h⟩
    · rw [if_pos he] at HD
      have hne : ¬ ((field b r1).e : Int) = 0 := by omega
      have hneb : (((field b r1).e : Int) == 0) = false := by rw [beq_eq_false_iff_ne]; omega
      have HE := Lib.hid he
      clear he
      generalize (field b r1).x = u at *
      generalize (field b r1).r = r2 at *
      generalize (field b r1).e = en at *
      repeat (first
        | (refine takeH_skip rfl ?_; simp only [Act.put, List.setIfInBounds_toArray, List.set_cons_succ, List.set_cons_zero])
        | (refine takeH_blind rfl rfl ?_; apply Exists.intro; refine ⟨fun w => ?_, ?_⟩; (go_simp; try with_reducible rfl); simp only [Act.put, List.setIfInBounds_toArray, List.set_cons_succ, List.set_cons_zero])
        | (refine takeH_reads rfl rfl ?_; apply Exists.intro; refine ⟨fun w' hS => ?_, ?_⟩; (obtain ⟨d0, d1, d2⟩ := HC.out w' hS; go_simp; try with_reducible rfl); simp only [Act.put, List.setIfInBounds_toArray, List.set_cons_succ, List.set_cons_zero]))
      refine takeH_nil ?_
      go_wp2_with fail
      go_ret2
      rw [HD.out]
      exact ⟨⟨_, rfl, fun h => absurd h HE.out⟩, ⟨HD4.out.rp, HD4.out.md⟩, fun h => absurd h HE.out⟩
  · have hne : ¬ (en : Int) = 0 := by omega
    have hneb : ((en : Int) == 0) = false := by rw [beq_eq_false_iff_ne]; omega
    have HD := Lib.hid (stepD_bad he HH.out)
    go_enter Tryz.func84, Tryz.ntmps84
    go_wp2_with fail
    refine HSt.out.mono ?_
    rintro e w2 ⟨rfl, hP2⟩
    have HD2 := Lib.hid ((H.out.step hP2).below ((Below.refl _ w2).alloc (Nat.le_refl _) (.cells #[.int .i64 (a : Int), .int .i64 (b : Int), .bool c] 136)))
    clear hP2
    go_wp2_with fail
    go_ret2
    rw [HD.out]
    refine ⟨⟨0, rfl, fun h => absurd h he⟩, ⟨HD2.out.rp, HD2.out.md⟩, fun h => absurd h he⟩
end Go.Proofs.YtgpmoimmpbkgfaaGreatDoor

end

section
/- Layer 6: the program's Get. -/
set_option linter.unusedVariables false
namespace Go.Proofs.YtgpmoimmpbkgfaaGreatDoor
open Go Go.RowKit

theorem RP.qv {p : Nat} {v : Value} {bs : List Nat} {o : Res (List Nat)} {w w' : World} {e : Ending} (h : RP p v bs o.r w w') (hr : ∃ r, e = .returned (.tuple #[r, .int .i64 (o.e : Int)]) ∧ Rd w' 1 r o.x.length (u64s o.x) ∧ (∀ k, r.ownBlock = some k → w.heap.size ≤ k)) : GetQV p v bs w o e w' :=
  ⟨hr, h.1.1, h.2⟩
theorem RP.failsV {p : Nat} {v : Value} {bs : List Nat} {r : List Bool} {o : Res (List Nat)} {w w' : World} {en : Nat} (h : RP p v bs r w w') (ho : o = ⟨en, [], r⟩) : GetQV p v bs w o (.returned (.tuple #[.slice none 0 0, .int .i64 (en : Int)])) w' := by
  subst ho
  exact h.qv ⟨_, rfl, Rd.nil _ _, fun k e => by cases e⟩

/-- Where Get stands between two rounds. -/
structure GetInV (g p : Nat) (v : Value) (bs : List Nat) (w : World) (n : Nat) (bits : List Bool) (k : Nat) (acc : List Nat) (last : Nat) (win : Option (Nat × Nat)) (cur : List Bool) (lv : Value) (wr : World) : Prop where
  len : acc.length = k + 1
  lst : acc[k]? = some last
  at_ : GetAtV n bits (k + 1) acc win cur
  row : wr.ownsRow w.heap.size 31 1 lv acc.length (u64s acc)
  rg : lv.ownBlock ≠ some g
  dec : DecIs w wr g p v bs cur last win wr

theorem atV_dec {n k : Nat} {bits cur : List Bool} {acc : List Nat} {win : Option (Nat × Nat)} {last : Nat} (h : GetAtV n bits (k + 1) acc win cur) (hl : acc[k]? = some last) : decV n bits = extV acc (decFromV (n - (k + 1)) win last cur) := by
  rcases h with ⟨h, _⟩ | ⟨k', last', hk, _, hl', _, _, hd⟩
  · cases h
  · obtain rfl : k = k' := by omega
    rw [hl] at hl'
    obtain rfl := Option.some.inj hl'
    exact hd

theorem xorval_get_neg (p : Nat) (v : Value) (i : Nat) (n : Int) (bs : List Nat) (w : World) (h : ReaderIn w p v i bs) (hn : n < 0) (hm : -9223372036854775808 ≤ n) :
    Calls Tryz.prog 50 #[.pointer (some ⟨p, 0, none⟩), .int .i64 n] w fun e w' => (∃ r, e = .returned (.tuple #[r, .int .i64 2]) ∧ Rd w' 1 r 0 []) ∧ RBitsPost p v i bs w w' := by
  have H := Lib.hid h
  clear h
  go_enter Tryz.func50, Tryz.ntmps50
  go_wp2_with fail
  go_ret2
  exact ⟨⟨_, rfl, Rd.nil _ _⟩, H.out, Mods.refl _ _⟩

set_option maxRecDepth 20000 in
set_option maxHeartbeats 4000000 in
theorem xorval_get (p : Nat) (v : Value) (n : Nat) (bs : List Nat) (bits : List Bool) (w : World) (h : RIs p v bs bits w) (hT : TabZ w) (htp : 1 ≠ p) (hn : n ≤ 1000000) :
    Calls Tryz.prog 50 #[.pointer (some ⟨p, 0, none⟩), .int .i64 (n : Int)] w (GetQV p v bs w (decV n bits)) := by
  have HT := Lib.hid hT; have H := Lib.hid h
  clear hT h
  by_cases h0 : n = 0
  · subst h0
    go_enter Tryz.func50, Tryz.ntmps50
    go_wp2_with fail
    go_ret2
    exact H.out.start.failsV (o := decV 0 bits) rfl
  · obtain ⟨m, hm⟩ : ∃ m, n = m + 1 := ⟨n - 1, by omega⟩
    have hn1 : (n : Int) - 1 = (m : Int) := by omega
    have hnb : ((n : Int) == 0) = false := by rw [beq_eq_false_iff_ne]; omega
    have hnn : ¬ (n : Int) < 0 := by omega
    have hmb : (m : Int) ≤ 1000000 := by omega
    have HNM : Hid (n = m + 1) := hm
    have HTp : Hid (1 ≠ p) := htp
    have HN := Lib.hid (rfield p v bs bits 64 w H.out (by omega))
    have HPl : Hid (p < w.heap.size) := H.out.1.blk.lt
    clear hm htp
    by_cases h64 : bits.length < 64
    · have hf : field 64 bits = ⟨3, 0, bits⟩ := by rw [field, if_pos h64]
      rw [hf] at HN
      have HD := Lib.hid (getV_first_eof (n := n) (by omega) h64)
      clear hf h64
      go_enter Tryz.func50, Tryz.ntmps50
      go_wp2_with fail
      refine HN.out.mono ?_
      rintro e w2 ⟨rfl, hP⟩
      have HP := Lib.hid hP
      clear hP
      go_wp2_with fail
      go_ret2
      exact HP.out.failsV HD.out
    · have hf : field 64 bits = ⟨0, numOf (bits.take 64), bits.drop 64⟩ := by rw [field, if_neg h64]
      have hlt : numOf (bits.take 64) < 18446744073709551616 := by simpa using take_lt h64
      have HLt := Lib.hid hlt
      have HG1 := Lib.hid (getV_first (n := n) (by omega) h64)
      rw [hf] at HN
      simp only at HN
      generalize numOf (bits.take 64) = t at *
      clear hf hlt h64
      generalize bits.drop 64 = cur1 at *
      go_enter Tryz.func50, Tryz.ntmps50
      go_wp2_with fail
      refine HN.out.mono ?_
      rintro e w2 ⟨rfl, hP⟩
      have HP := Lib.hid hP
      clear hP HN
      go_wp2_with fail
      have HB0 : Hid (w.heap.size ≤ w2.heap.size) := HP.out.2.size
      have HG0 : Hid (GetInV (w2.heap.size + 1) p v bs w n bits 0 [t] t none cur1 (.slice (some ⟨w2.heap.size, 0, none⟩) 1 1) ((w2.alloc (.cells #[.int .u64 t] 31)).alloc (.cells #[.int .u64 t, .int .i64 0, .int .i64 0, .pointer (some ⟨p, 0, none⟩)] 143))) := by
        have hB1 : Below w2.heap.size w2 (w2.alloc (.cells #[.int .u64 t] 31)) := (Below.refl _ w2).alloc (Nat.le_refl _) _
        have hB2 : Below w2.heap.size w2 ((w2.alloc (.cells #[.int .u64 t] 31)).alloc (.cells #[.int .u64 t, .int .i64 0, .int .i64 0, .pointer (some ⟨p, 0, none⟩)] 143)) := hB1.alloc (by rw [World.size_alloc]; omega) _
        have hR := HP.out.below hB2
        have hs : (w2.alloc (.cells #[.int .u64 t] 31)).heap.size = w2.heap.size + 1 := World.size_alloc ..
        have hb := Blk.new (w2.alloc (.cells #[.int .u64 t] 31)) #[.int .u64 t, .int .i64 0, .int .i64 0, .pointer (some ⟨p, 0, none⟩)] 143
        rw [hs] at hb
        have hl := HPl.out
        have hz := HB0.out
        have hTt := HT.out.lt
        refine ⟨rfl, rfl, HG1.out, (Mods.alloc (fun _ => False) _ _).owns (World.ownsRow_lit (base := w.heap.size) w2 #[.int .u64 t] 1 hz (by simp [maxLen]) (by simp)) (fun j _ e => e), by intro e; have e2 : w2.heap.size = w2.heap.size + 1 := Option.some.inj e; omega, ⟨hb, hR, by omega, by omega, ?_, by omega, HTp.out, HLt.out, (fun _ _ e => by cases e), Mods.refl _ _⟩⟩
        exact HT.out.block (hR.2.block _ HT.out.lt HTp.out)
      clear HP HG1 HLt HB0
      generalize ((w2.alloc (.cells #[.int .u64 t] 31)).alloc (.cells #[.int .u64 t, .int .i64 0, .int .i64 0, .pointer (some ⟨p, 0, none⟩)] 143)) = w3 at *
      generalize hgg : w2.heap.size + 1 = g at *
      go_loopw [8, 34] (fun lv kv wr => ∃ (k : Nat) (acc : List Nat) (last : Nat) (win : Option (Nat × Nat)) (cur : List Bool), k ≤ m ∧ kv = .int .i64 (k : Int) ∧ Hid (GetInV g p v bs w n bits k acc last win cur lv wr)) (fun _ kv _ => m - (intOf kv).toNat)
      case atStart => exact ⟨0, [t], t, none, cur1, by omega, rfl, HG0.out⟩
      case round =>
        obtain ⟨k, acc, last, win, cur, hkm, rfl, HG⟩ := hrel
        obtain ⟨pa, ca, hva⟩ := (Rd.of_owns HG.out.row).shape
        rw [HG.out.len] at hva
        subst hva
        by_cases hk : k < m
        · have hk' : (k : Int) < (m : Int) := by omega
          have HC := Lib.hid (get_any6 w wr g p v bs bits cur last win wr H.out HG.out.dec)
          have HY := Lib.hid (decW_step HG.out.dec.ok cur)
          have HDd := Lib.hid (atV_dec HG.out.at_ HG.out.lst)
          by_cases he : (stepD win cur).e = 0
          · have HNx : Hid (GetAtV n bits (k + 1 + 1) (acc ++ [last ^^^ (stepD win cur).x]) (nextW win (stepD win cur).x) (stepD win cur).r) := by
              obtain ⟨y, hd, hy⟩ := HY.out
              rw [he, hy he] at hd
              exact getV_next (by have := HNM.out; omega) HG.out.len HG.out.dec.la HG.out.dec.ok HDd.out hd
            unfold GetPost1 at HC
            rw [he] at HC
            clear he HY HDd
            generalize (stepD win cur).x = x at *
            generalize (stepD win cur).r = cur2 at *
            go_wp2_with fail
            refine HC.out.mono ?_
            rintro e w4 ⟨⟨xx, rfl, hxx⟩, ⟨hP, hM⟩, hD⟩
            obtain rfl := hxx trivial
            have HO4 := Lib.hid (hM.owns HG.out.row (fun j hj e => by
              have h1 := (HG.out.row.lt j hj).1; have h2 := HPl.out
              rcases e with e | e
              · omega
              · exact HG.out.rg (e ▸ hj)))
            have HD4 := Lib.hid (hD trivial)
            have HLb : Hid ((k + 1 + 1) * 8 ≤ 140737488355328 ∧ k + 1 + 1 ≤ maxLen) := by show _ ∧ _; unfold maxLen; omega
            have HLen := Lib.hid HG.out.len
            have HRg := Lib.hid HG.out.rg
            have HO5 : Hid (w4.ownsRow 0 31 1 (.slice pa (k + 1) ca) (k + 1) (u64s acc)) := by
              have h := owns_rebase HO4.out (base' := 0) (fun _ _ => Nat.zero_le _)
              rw [HLen.out] at h
              exact h
            clear hP hM hD hxx HC
            go_wp2_with (at_builtin; refine wpList_push Tryz.elemU64 w4 #[.int .u64 ((last ^^^ x : Nat) : Int)] _ _ _ HO5.out rfl (one_cell _ rfl) HLb.out rfl _ _ rfl rfl rfl ?_)
            intro v8 w8 hown hmods hfr
            have HG8 : Hid (GetInV g p v bs w n bits (k + 1) (acc ++ [last ^^^ x]) (last ^^^ x) (nextW win x) cur2 v8 w8) := by
              have hD4 := HD4.out
              have hsz := hD4.rp.2.size
              have hgo : ¬ (Value.slice pa (k + 1) ca).ownBlock = some g := HRg.out
              have hto : ¬ (Value.slice pa (k + 1) ca).ownBlock = some 1 := fun e => by have := (HO4.out.lt _ e).1; have := HT.out.lt; omega
              refine ⟨by rw [List.length_append, HLen.out]; rfl, by rw [List.getElem?_append_right (by rw [HLen.out]; omega), HLen.out]; simp, HNx.out, ?_, ?_, ⟨?_, ?_, hD4.far, hD4.gp, ?_, hD4.tg, hD4.tp, hD4.la, hD4.ok, Mods.refl _ _⟩⟩
              · rw [List.length_append, u64s_append, HLen.out]
                refine owns_rebase hown (fun j hj => ?_)
                rcases hfr j hj with e | e
                · exact (HO4.out.lt j e).1
                · omega
              · intro e
                rcases hfr g e with e | e
                · exact hgo e
                · have := hD4.blk.lt; omega
              · exact hmods.blk hD4.blk hgo
              · exact rp_more H.out hD4.rp hmods (fun j e => (HO4.out.lt j e).1)
              · exact hD4.tab.block (hmods.block _ hD4.tab.lt hto)
            obtain ⟨p8, c8, hv8⟩ : ∃ p c, v8 = .slice p (k + 2) c := by have := (Rd.of_owns HG8.out.row).shape; rwa [List.length_append, HLen.out] at this
            subst hv8
            clear hown hmods hfr HO5 HO4 HNx HD4
            go_wp2_with fail
            go_round
            case rel => exact ⟨k + 1, _, _, _, cur2, by omega, by go_num, HG8.out⟩
            case measure => simp [intOf]; omega
          · have HB : Hid (decV n bits = ⟨(stepD win cur).e, [], (stepD win cur).r⟩) := by
              obtain ⟨y, hd, hy⟩ := HY.out
              exact getV_bad (by have := HNM.out; omega) HDd.out he hd
            have hne : ((stepD win cur).e : Int) ≠ 0 := by omega
            have hneb : (((stepD win cur).e : Int) == 0) = false := by rw [beq_eq_false_iff_ne]; exact hne
            unfold GetPost1 at HC
            clear he HY HDd
            generalize (stepD win cur).x = x at *
            generalize (stepD win cur).r = cur2 at *
            generalize (stepD win cur).e = en at *
            go_wp2_with fail
            refine HC.out.mono ?_
            rintro e w4 ⟨⟨xx, rfl, hxx⟩, ⟨hP, hM⟩, hD⟩
            have HP4 := Lib.hid hP
            clear hP hM hD hxx HC
            go_wp2_with fail
            go_ret2
            exact HP4.out.failsV HB.out
        · have hk' : ¬ (k : Int) < (m : Int) := by omega
          have HD : Hid (decV n bits = ⟨0, acc, cur⟩) := by
            show _ = _
            have h := HG.out.at_
            rw [show k + 1 = n by have := HNM.out; omega] at h
            exact getV_done h
          go_wp2_with fail
          go_ret2
          rw [HD.out]
          exact HG.out.dec.rp.qv ⟨_, rfl, Rd.of_owns (by have := HG.out.row; exact this), fun j hj => (HG.out.row.lt j hj).1⟩
end Go.Proofs.YtgpmoimmpbkgfaaGreatDoor

end

section
/- Layer 7: Runs as cells; what Get leaves. -/
set_option linter.unusedVariables false
namespace Go.Proofs.YtgpmoimmpbkgfaaGreatDoor
open Go Go.RowKit

theorem below_drewR (w : World) : Below w.heap.size w w.drew := ⟨rfl, rfl, rfl, Nat.le_refl _, fun _ _ => rfl⟩
/-- Runs as cells; Runs whose counts are whatever. -/
def runCells (rs : List (Nat × Int)) : List Value := rs.flatMap fun r => [.int .u64 (r.1 : Int), .int .i64 r.2]
def runsI (rs : List (Nat × Nat)) : List (Nat × Int) := rs.map fun r => (r.1, (r.2 : Int))
def joinI (rs : List (Nat × Int)) : List Nat := rs.flatMap fun r => if 1 ≤ r.2 ∧ r.2 ≤ 128 then List.replicate r.2.toNat r.1 else []
theorem joinI_runs {rs : List (Nat × Nat)} (h : ∀ r ∈ rs, runOk r) : joinI (runsI rs) = joinR rs := by
  induction rs with
  | nil => rfl
  | cons r rs ih =>
    have h1 := h r (by simp)
    have h2 := ih (fun s hs => h s (by simp [hs]))
    unfold runOk at h1
    simp only [joinI, runsI, List.map_cons, List.flatMap_cons, joinR] at h2 ⊢
    rw [h2, if_pos (by omega)]
    simp
theorem runsI_length (rs : List (Nat × Nat)) : (runsI rs).length = rs.length := by simp [runsI]
/-- What Get leaves. -/
structure GetQR (p : Nat) (v : Value) (bs : List Nat) (w : World) (o : Res (List Nat)) (e : Ending) (w' : World) : Prop where
  res : ∃ r, e = .returned (.tuple #[r, .int .i64 (o.e : Int)]) ∧ Rd w' 1 r o.x.length (u64s o.x) ∧ (∀ k, r.ownBlock = some k → w.heap.size ≤ k)
  rd : RBitsPost p v (8 * bs.length - o.r.length) bs w w'
end Go.Proofs.YtgpmoimmpbkgfaaGreatDoor

end

section
/- Layer 7: the first run of some values; the function that yields the runs. -/
set_option linter.unusedVariables false
namespace Go.Proofs.YtgpmoimmpbkgfaaGreatDoor
open Go Go.RowKit Go.Shelf
attribute [local go_sem] Oper.semAt_some

/-- The first run of l: n times x. -/
structure HeadR (l : List Nat) (x n : Nat) : Prop where
  one : 1 ≤ n
  most : n ≤ 128
  le : n ≤ l.length
  all : l.take n = List.replicate n x
  stop : ∀ y, l[n]? = some y → ¬ (x = y ∧ n < 128)

theorem addR_front (ps rs : List (Nat × Nat)) (h : rs ≠ []) (x : Nat) : addR (ps ++ rs) x = ps ++ addR rs x ∧ addR rs x ≠ [] := by
  rcases cases_last rs with rfl | ⟨p, v, c, rfl⟩
  · exact absurd rfl h
  · rw [← List.append_assoc, addR_last, addR_last]
    split <;> simp
theorem splitFrom_front (ps : List (Nat × Nat)) (l : List Nat) : ∀ (rs : List (Nat × Nat)), rs ≠ [] → splitFrom (ps ++ rs) l = ps ++ splitFrom rs l := by
  induction l with
  | nil => intro rs _; rfl
  | cons x l ih =>
    intro rs h
    obtain ⟨h1, h2⟩ := addR_front ps rs h x
    show splitFrom (addR (ps ++ rs) x) l = ps ++ splitFrom (addR rs x) l
    rw [h1, ih _ h2]
theorem split_head {l : List Nat} {x n : Nat} (h : HeadR l x n) : splitR l = (x, n) :: splitR (l.drop n) := by
  have e : splitR l = splitFrom (splitFrom [] (l.take n)) (l.drop n) := by rw [← splitFrom_append, List.take_append_drop]; rfl
  obtain ⟨k, hk⟩ : ∃ k, n = k + 1 := ⟨n - 1, by have := h.one; omega⟩
  have e2 : splitFrom [] (l.take n) = [(x, n)] := by
    rw [h.all, hk, split_run [] x k (by have := h.most; omega) (fun _ _ e => by cases e)]; rfl
  rw [e, e2]
  cases hd : l.drop n with
  | nil => rfl
  | cons y r =>
    have hy : l[n]? = some y := by
      have : (l.drop n)[0]? = some y := by rw [hd]; rfl
      rwa [List.getElem?_drop] at this
    have ha : addR [(x, n)] y = [(x, n)] ++ [(y, 1)] := by
      rw [show [(x, n)] = [] ++ [(x, n)] from rfl, addR_last, if_neg (h.stop y hy)]
    show splitFrom (addR [(x, n)] y) r = (x, n) :: splitFrom (addR [] y) r
    rw [ha, splitFrom_front _ _ _ (by simp)]
    rfl

theorem strRun : Str Tryz.prog 149 2 [.int .u64 0, .int .i64 0] := Str.mk' Tryz.underlying149 rfl (by kernel_rfl) rfl

set_option maxRecDepth 20000 in
set_option maxHeartbeats 2000000 in
theorem firstRun_any (lv : Value) (l : List Nat) (w : World) (hl : Rd w 1 lv l.length (u64s l)) (hne : l ≠ []) :
    Calls Tryz.prog 106 #[lv] w fun e w' => ∃ x n, HeadR l x n ∧ e = .returned (.agg #[.int .u64 (x : Int), .int .i64 (n : Int)]) ∧ Below w.heap.size w w' := by
  obtain ⟨x0, tl, hx0⟩ := List.exists_cons_of_ne_nil hne
  obtain ⟨b, off, c, e, hnc, hncm, hcell⟩ := hl.at (by rw [hx0]; simp [u64s])
  subst e
  have HCl : Hid (∀ (i t : Nat), l[i]? = some t → w.cell? ⟨b, off + i, none⟩ = some (.int .u64 (t : Int))) := fun i t h => hcell i _ (by rw [u64s, List.getElem?_map, h]; rfl)
  have HLe := Lib.hid hl.le
  have hc0 : w.cell? ⟨b, off, none⟩ = some (.int .u64 (x0 : Int)) := by have := HCl.out 0 x0 (by rw [hx0]; rfl); simpa using this
  have HX : Hid (l[0]? = some x0) := by show _ = _; rw [hx0]; rfl
  have hpos : (0 : Int) < (l.length : Int) := by rw [hx0]; simp only [List.length_cons]; omega
  have hpos1 : 1 ≤ l.length := by omega
  have hlm : (l.length : Int) ≤ 9223372036854775807 := by have := HLe.out; unfold maxLen at this; omega
  clear hl hne hx0 hnc hncm hcell
  have HC0 := Lib.hid hc0
  clear hc0
  go_enter Tryz.func106, Tryz.ntmps106
  go_wp2_with fail
  obtain ⟨w1, hw1⟩ : ∃ w1, w.alloc (.cells #[.int .u64 0, .int .i64 0] 149) = w1 := ⟨_, rfl⟩
  have HK1 : Hid (Blk w1 w.heap.size [.int .u64 0, .int .i64 0]) := by rw [← hw1]; exact Blk.new w _ _
  have HB1 : Hid (Below w.heap.size w w1) := by rw [← hw1]; exact (Below.refl _ w).alloc (Nat.le_refl _) _
  rw [hw1]
  clear hw1
  go_loopw [3] (fun nv wr => ∃ (n : Nat), 1 ≤ n ∧ n ≤ l.length ∧ n ≤ 128 ∧ nv = .int .i64 (n : Int) ∧ Hid (l.take n = List.replicate n x0) ∧ Hid (Below w.heap.size w wr ∧ Blk wr w.heap.size [.int .u64 0, .int .i64 0])) (fun nv _ => l.length - (intOf nv).toNat)
  case atStart => exact ⟨1, Nat.le_refl _, hpos1, by omega, rfl, by
    show _ = _
    rw [List.take_one, List.head?_eq_getElem?, HX.out]; rfl, HB1.out, HK1.out⟩
  case round =>
    obtain ⟨n, h1, h2, h3, rfl, HA, HBK⟩ := hrel
    have hcw : wr.cell? ⟨b, off, none⟩ = some (.int .u64 (x0 : Int)) := (HBK.out.1.cell (World.block_lt_of_cell? w _ HC0.out)).trans HC0.out
    have hK0 : wr.cell? ⟨w.heap.size, 0, none⟩ = some (.int .u64 0) := by rw [HBK.out.2.cell]; rfl
    have hF0 := HBK.out.2.free 0
    have hK1 : wr.cell? ⟨w.heap.size, 1, none⟩ = some (.int .i64 0) := by rw [HBK.out.2.cell]; rfl
    have hF1 := HBK.out.2.free 1
    have hn128 : (n : Int) ≤ 128 := by omega
    by_cases hlt : n < l.length
    · have hlt' : (n : Int) < (l.length : Int) := by omega
      obtain ⟨y, hy⟩ : ∃ y, l[n]? = some y := ⟨_, List.getElem?_eq_getElem hlt⟩
      have hcn : wr.cell? ⟨b, off + n, none⟩ = some (.int .u64 (y : Int)) := (HBK.out.1.cell (p := ⟨b, off + n, none⟩) (World.block_lt_of_cell? w ⟨b, off + n, none⟩ (HCl.out n y hy))).trans (HCl.out n y hy)
      have HY := Lib.hid hy
      clear hy
      by_cases hm : n < 128
      · have hm' : (n : Int) < 128 := by omega
        by_cases he : y = x0
        · subst he
          go_wp2_with fail
          go_quiet (fail)
          have HBK2 : Hid (Below w.heap.size w (wr.drewN nq) ∧ Blk (wr.drewN nq) w.heap.size [.int .u64 0, .int .i64 0]) := ⟨HBK.out.1.trans ⟨rfl, rfl, rfl, Nat.le_refl _, fun _ _ => rfl⟩, HBK.out.2⟩
          have HA2 : Hid (l.take (n + 1) = List.replicate (n + 1) y) := by
            show _ = _
            rw [List.take_add_one, HY.out, HA.out, List.replicate_succ']; rfl
          clear HBK HA hcw hK0 hF0 hK1 hF1 hcn
          generalize wr.drewN nq = wn at *
          go_wp2_with fail
          go_round
          case rel => exact ⟨n + 1, by omega, by omega, by omega, by go_num, HA2.out, HBK2.out⟩
          case measure => simp [intOf]; omega
        · have hb1 : ((y : Int) == (x0 : Int)) = false := by rw [beq_eq_false_iff_ne]; omega
          have hb2 : ¬ (y : Int) = (x0 : Int) := by omega
          have HR : Hid (HeadR l x0 n) := ⟨h1, h3, h2, HA.out, fun z hz h => by rw [HY.out] at hz; cases hz; exact he h.1.symm⟩
          clear he
          go_wp2_with fail
          go_quiet (fail)
          have HBK2 : Hid (Below w.heap.size w (wr.drewN nq) ∧ Blk (wr.drewN nq) w.heap.size [.int .u64 0, .int .i64 0]) := ⟨HBK.out.1.trans ⟨rfl, rfl, rfl, Nat.le_refl _, fun _ _ => rfl⟩, HBK.out.2⟩
          have hcw2 : (wr.drewN nq).cell? ⟨b, off, none⟩ = some (.int .u64 (x0 : Int)) := hcw
          have hK02 : (wr.drewN nq).cell? ⟨w.heap.size, 0, none⟩ = some (.int .u64 0) := hK0
          have hF02 : (wr.drewN nq).frozen? ⟨w.heap.size, 0, none⟩ = false := hF0
          have hK12 : (wr.drewN nq).cell? ⟨w.heap.size, 1, none⟩ = some (.int .i64 0) := hK1
          have hF12 : (wr.drewN nq).frozen? ⟨w.heap.size, 1, none⟩ = false := hF1
          clear HBK HA hcw hK0 hF0 hK1 hF1 hcn
          generalize wr.drewN nq = wn at *
          go_wp2_with fail
          refine bodyPost_ret (resultsS (p := 2) strRun (by kernel_rfl) _ w.heap.size rfl [.int .u64 (x0 : Int), .int .i64 (n : Int)] ?_ rfl) rfl ⟨x0, n, HR.out, rfl, ?_⟩
          · simpa using (HBK2.out.2.set 0 (.int .u64 (x0 : Int))).set 1 (.int .i64 (n : Int))
          · exact HBK2.out.1.trans (((Mods.set (fun k => k = w.heap.size) wn ⟨w.heap.size, 0, none⟩ _ (fun _ => rfl)).trans (Mods.set (fun k => k = w.heap.size) _ ⟨w.heap.size, 1, none⟩ _ (fun _ => rfl)) (fun _ _ e => e)).below HBK2.out.1.size (fun j hj e => by omega))
      · have HR : Hid (HeadR l x0 n) := ⟨h1, h3, h2, HA.out, fun z hz h => hm h.2⟩
        obtain rfl : n = 128 := by omega
        have hd : decide ((128 : Int) < (l.length : Int)) = true := by simpa using hlt'
        go_wp2_with fail
        go_quiet (fail)
        have HBK2 : Hid (Below w.heap.size w (wr.drewN nq) ∧ Blk (wr.drewN nq) w.heap.size [.int .u64 0, .int .i64 0]) := ⟨HBK.out.1.trans ⟨rfl, rfl, rfl, Nat.le_refl _, fun _ _ => rfl⟩, HBK.out.2⟩
        have hcw2 : (wr.drewN nq).cell? ⟨b, off, none⟩ = some (.int .u64 (x0 : Int)) := hcw
        have hK02 : (wr.drewN nq).cell? ⟨w.heap.size, 0, none⟩ = some (.int .u64 0) := hK0
        have hF02 : (wr.drewN nq).frozen? ⟨w.heap.size, 0, none⟩ = false := hF0
        have hK12 : (wr.drewN nq).cell? ⟨w.heap.size, 1, none⟩ = some (.int .i64 0) := hK1
        have hF12 : (wr.drewN nq).frozen? ⟨w.heap.size, 1, none⟩ = false := hF1
        clear HBK HA hcw hK0 hF0 hK1 hF1 hcn
        generalize wr.drewN nq = wn at *
        go_wp2_with fail
        refine bodyPost_ret (resultsS (p := 2) strRun (by kernel_rfl) _ w.heap.size rfl [.int .u64 (x0 : Int), .int .i64 ((128 : Nat) : Int)] ?_ rfl) rfl ⟨x0, 128, HR.out, rfl, ?_⟩
        · simpa using (HBK2.out.2.set 0 (.int .u64 (x0 : Int))).set 1 (.int .i64 ((128 : Nat) : Int))
        · exact HBK2.out.1.trans (((Mods.set (fun k => k = w.heap.size) wn ⟨w.heap.size, 0, none⟩ _ (fun _ => rfl)).trans (Mods.set (fun k => k = w.heap.size) _ ⟨w.heap.size, 1, none⟩ _ (fun _ => rfl)) (fun _ _ e => e)).below HBK2.out.1.size (fun j hj e => by omega))
    · have hlt' : ¬ (n : Int) < (l.length : Int) := by omega
      have HR : Hid (HeadR l x0 n) := ⟨h1, h3, h2, HA.out, fun z hz h => by rw [List.getElem?_eq_none (by omega)] at hz; cases hz⟩
      go_wp2_with fail
      go_quiet (fail)
      have HBK2 : Hid (Below w.heap.size w (wr.drewN nq) ∧ Blk (wr.drewN nq) w.heap.size [.int .u64 0, .int .i64 0]) := ⟨HBK.out.1.trans ⟨rfl, rfl, rfl, Nat.le_refl _, fun _ _ => rfl⟩, HBK.out.2⟩
      have hcw2 : (wr.drewN nq).cell? ⟨b, off, none⟩ = some (.int .u64 (x0 : Int)) := hcw
      have hK02 : (wr.drewN nq).cell? ⟨w.heap.size, 0, none⟩ = some (.int .u64 0) := hK0
      have hF02 : (wr.drewN nq).frozen? ⟨w.heap.size, 0, none⟩ = false := hF0
      have hK12 : (wr.drewN nq).cell? ⟨w.heap.size, 1, none⟩ = some (.int .i64 0) := hK1
      have hF12 : (wr.drewN nq).frozen? ⟨w.heap.size, 1, none⟩ = false := hF1
      clear HBK HA hcw hK0 hF0 hK1 hF1
      generalize wr.drewN nq = wn at *
      go_wp2_with fail
      refine bodyPost_ret (resultsS (p := 2) strRun (by kernel_rfl) _ w.heap.size rfl [.int .u64 (x0 : Int), .int .i64 (n : Int)] ?_ rfl) rfl ⟨x0, n, HR.out, rfl, ?_⟩
      · simpa using (HBK2.out.2.set 0 (.int .u64 (x0 : Int))).set 1 (.int .i64 (n : Int))
      · exact HBK2.out.1.trans (((Mods.set (fun k => k = w.heap.size) wn ⟨w.heap.size, 0, none⟩ _ (fun _ => rfl)).trans (Mods.set (fun k => k = w.heap.size) _ ⟨w.heap.size, 1, none⟩ _ (fun _ => rfl)) (fun _ _ e => e)).below HBK2.out.1.size (fun j hj e => by omega))
end Go.Proofs.YtgpmoimmpbkgfaaGreatDoor

end

section
/- Layer 7: the function that yields the runs. -/
set_option linter.unusedVariables false
namespace Go.Proofs.YtgpmoimmpbkgfaaGreatDoor
open Go Go.RowKit Go.Shelf
attribute [local go_sem] Oper.semAt_some

/-- A run, with its bounds. -/
abbrev Rn : Type := { r : Nat × Nat // runOk r }
def runV (r : Rn) : Value := .agg #[.int .u64 (r.1.1 : Int), .int .i64 (r.1.2 : Int)]
def rnsOf (ys : List Rn) : List (Nat × Nat) := ys.map Subtype.val
theorem rnsOf_push (ys : List Rn) (x : Rn) : rnsOf (ys ++ [x]) = rnsOf ys ++ [x.1] := by simp [rnsOf]

/-- A variable that holds a run. -/
def IsRun (w : World) (k : Nat) : Prop := ∃ (x n : Int) (fz : Nat × Nat), w.heap[k]? = some (.cells #[.int .u64 x, .int .i64 n] 149 fz)
/-- The blocks K and the variables that hold a run are as they were. -/
def KeepRun (K : Nat → Prop) (A B : World) : Prop := KeepAt K A B ∧ ∀ k, IsRun A k → B.heap[k]? = A.heap[k]?
theorem IsRun.keep {A B : World} {k : Nat} (h : IsRun A k) (e : B.heap[k]? = A.heap[k]?) : IsRun B k := by
  obtain ⟨x, n, fz, h⟩ := h
  exact ⟨x, n, fz, e.trans h⟩
theorem keepRun_t {K : Nat → Prop} {A B C : World} (h : KeepRun K A B) (k : KeepRun K B C) : KeepRun K A C :=
  ⟨keepAt_t h.1 k.1, fun j hj => (k.2 j (hj.keep (h.2 j hj))).trans (h.2 j hj)⟩
theorem keepRun_b {K : Nat → Prop} {w : World} (hK : ∀ k, K k → k < w.heap.size) (W : World) (l : Nat) (o o' : Obj) (hl : w.heap.size ≤ l) (h : W.heap[l]? = some o) (ho : o.isCells = false) (hw : o.isWalk = false) : KeepRun K W (W.putObj l o') :=
  ⟨keepAt_b hK W l o o' hl h ho hw, fun k ⟨x, n, fz, hk⟩ => (grownBy_putObj' W l o').block k (Array.getElem?_eq_some_iff.1 hk).1 (fun e => by cases e; rw [hk] at h; cases h; cases ho)⟩
theorem keepRun_mods {K S : Nat → Prop} {w W W' : World} (hm : Mods S W W') (hs : w.heap.size ≤ W.heap.size) (hK : ∀ k, K k → k < w.heap.size) (hKS : ∀ k, K k → ¬ S k) (hR : ∀ k, S k → ¬ IsRun W k) : KeepRun K W W' :=
  ⟨fun k hk => hm.block k (by have := hK k hk; omega) (hKS k hk), fun k hk => hm.block k (by obtain ⟨_, _, _, e⟩ := hk; exact (Array.getElem?_eq_some_iff.1 e).1) (fun e => hR k e hk)⟩

theorem new_runs (p : Option Addr) (m c : Nat) (w : World) (n : Nat) :
    CallsIn Fence.wide n Tryz.prog 85 #[.slice p m c] w fun e w' => e = .returned (.func (.func 105) #[] #[.pointer (some ⟨w.heap.size, 0, none⟩)]) ∧ w' = w.alloc (.cells #[.slice p m c] 22) := by
  refine callsIn_wide.2 ?_
  go_enter Tryz.func85, Tryz.ntmps85
  go_wp2_with fail
  go_ret
  exact ⟨rfl, rfl⟩

set_option maxRecDepth 100000 in
set_option maxHeartbeats 1000000 in
theorem runs_gives (n : Nat) (hn : 1 ≤ n) (b : Nat) (lv : Value) (l : List Nat) (w : World) (hc : w.cell? ⟨b, 0, none⟩ = some lv) (hl : Rd w 1 lv l.length (u64s l)) (hok : ∀ t ∈ l, t < 18446744073709551616) :
    SeqStopsK Fence.wide n Tryz.prog 105 #[.pointer (some ⟨b, 0, none⟩)] (fun r : Rn => #[runV r]) (KeepRun (fun k => k = b ∨ (l ≠ [] ∧ lv.ownBlock = some k))) (fun ys => rnsOf ys = splitR l) (fun _ => True) (splitR l).length w := by
  intro r J Jx W hW hJ hJx hY h0
  have hb : b < w.heap.size := World.block_lt_of_cell? w _ hc
  have HKs0 : Hid (∀ k, (k = b ∨ (l ≠ [] ∧ lv.ownBlock = some k)) → k < w.heap.size) := fun k hk => by
    rcases hk with e | ⟨h1, e⟩
    · omega
    · exact hl.lt (fun e => h1 (by simpa [u64s] using e)) k e
  have HK0 : Hid (KeepAt (fun k => k = b ∨ (l ≠ [] ∧ lv.ownBlock = some k)) w W) := fun k hk => hW.block k (HKs0.out k hk)
  have HC := Lib.hid hc; have HL := Lib.hid hl; have HOk := Lib.hid hok
  have HJ := Lib.hid hJ
  have HY := Lib.hid hY
  have hmax : (l.length : Int) ≤ 9223372036854775807 := by have := hl.le; unfold maxLen at this; omega
  clear hc hJ hY hok
  obtain ⟨p, c, hv⟩ := hl.shape
  subst hv
  clear hl
  obtain ⟨K, hK⟩ : ∃ K : Nat → Prop, (fun k => k = b ∨ (l ≠ [] ∧ (Value.slice p l.length c).ownBlock = some k)) = K := ⟨_, rfl⟩
  have HKb : Hid (K b) := by rw [← hK]; exact Or.inl rfl
  have HKv : Hid (l ≠ [] → ∀ k, (Value.slice p l.length c).ownBlock = some k → K k) := by rw [← hK]; exact fun h k hk => Or.inr ⟨h, hk⟩
  have HKs : Hid (∀ k, K k → k < w.heap.size) := by rw [← hK]; exact HKs0.out
  rw [hK] at HK0 HY
  clear hK HKs0
  refine callsIn_of_wp Tryz.func105 rfl trivial ?_ rfl
  simp only [Tryz.ntmps105, List.size_toArray, List.length_cons, List.length_nil, Nat.reduceAdd, Nat.reduceSub, Array.replicate_succ, Array.replicate_zero, List.push_toArray, List.append_toArray, List.nil_append, List.cons_append]
  gi_wp2
  gi_loopw [3] (fun iv wr => ∃ (i : Nat) (pre : List Rn), i ≤ l.length ∧ iv = .int .i64 (i : Int) ∧ Hid (splitR l = rnsOf pre ++ splitR (l.drop i)) ∧ Hid (J pre wr ∧ KeepAt K w wr)) (fun iv _ => l.length - (intOf iv).toNat)
  case atStart => exact ⟨0, [], Nat.zero_le _, rfl, rfl, h0, HK0.out⟩
  case round =>
    obtain ⟨i, pre, hi, rfl, HP, HI⟩ := hrel
    have cb := (HI.out.2.cell HKb.out 0).trans HC.out
    by_cases h : i < l.length
    · have hlt : (i : Int) < (l.length : Int) := by omega
      have hle : (i : Int) ≤ (l.length : Int) := by omega
      have hne : l ≠ [] := fun e => by rw [e] at h; simp at h
      have HR := Lib.hid (HI.out.2.rd HL.out (HKv.out hne))
      have HDl : Hid ((l.drop i).length = l.length - i) := List.length_drop
      have HDn : Hid (l.drop i ≠ []) := fun e => by have := congrArg List.length e; rw [List.length_drop, List.length_nil] at this; omega
      have HDu : Hid ((u64s l).drop (i * 1) = u64s (l.drop i)) := by show _ = _; rw [Nat.mul_one, u64s, u64s, List.map_drop]
      have hci : ¬ (c = i) := by
        obtain ⟨_, _, e, _, h2, _⟩ := HR.out
        simp only [Value.slice.injEq] at e
        obtain ⟨_, _, rfl⟩ := e
        omega
      have hci2 : i < c := by
        obtain ⟨_, _, e, _, h2, _⟩ := HR.out
        simp only [Value.slice.injEq] at e
        obtain ⟨_, _, rfl⟩ := e
        omega
      clear hne
      have HRd : Hid (Rd wr 1 (.slice (Option.map (fun x : Addr => x.add i) p) (l.length - i) (c - i)) (l.drop i).length (u64s (l.drop i))) := by
        have h := HR.out.from i (by omega)
        rw [HDu.out] at h
        rw [HDl.out]
        show Rd _ _ _ _ _
        unfold sliced at h
        rw [if_neg (by omega)] at h
        simpa using h
      have HFr := Lib.hid (firstRun_any _ _ wr HRd.out HDn.out)
      clear HRd HDn HDu HR
      gi_wp2
      refine ⟨trivial, (callsIn_wide.2 HFr.out).mono ?_⟩
      rintro e w2 ⟨x, k, hH, rfl, hB⟩
      have HSp := Lib.hid (split_head hH)
      have hk1 := hH.one
      have hk3 := hH.most
      have HRo : Hid (runOk (x, k)) := by
        refine ⟨hk1, hk3, HOk.out x ?_⟩
        have : x ∈ (l.drop i).take k := by rw [hH.all]; exact List.mem_replicate.2 ⟨by omega, rfl⟩
        exact List.mem_of_mem_drop (List.mem_of_mem_take this)
      have hk2 : k ≤ l.length - i := by have := hH.le; rw [HDl.out] at this; exact this
      clear hH HFr
      have HI2 : Hid (J pre w2 ∧ KeepAt K w w2) := ⟨HJ.out pre wr _ none HI.out.1 (grown_below hB) (fun r e => by cases e), keepAt_below HI.out.2 HKs.out hB⟩
      have HI3 : Hid (J pre (w2.alloc (.cells #[.int .u64 (x : Int), .int .i64 (k : Int)] 149)) ∧ KeepAt K w (w2.alloc (.cells #[.int .u64 (x : Int), .int .i64 (k : Int)] 149))) := by
        have hB2 : Below w2.heap.size w2 (w2.alloc (.cells #[.int .u64 (x : Int), .int .i64 (k : Int)] 149)) := (Below.refl _ w2).alloc (Nat.le_refl _) _
        have hsz : W.heap.size ≤ w2.heap.size → True := fun _ => trivial
        exact ⟨HJ.out pre w2 _ none HI2.out.1 (grown_below hB2) (fun r e => by cases e), keepAt_below HI2.out.2 HKs.out hB2⟩
      obtain ⟨z, hz⟩ : ∃ z : Rn, z = ⟨(x, k), HRo.out⟩ := ⟨_, rfl⟩
      have HZ : Hid (z.1 = (x, k)) := by rw [hz]; rfl
      have hze : runV z = .agg #[.int .u64 (x : Int), .int .i64 (k : Int)] := by rw [hz]; rfl
      have hex : Hid (splitR l = rnsOf (pre ++ [z]) ++ splitR (l.drop (i + k))) := by
        show _ = _
        rw [rnsOf_push, HZ.out, HP.out, HSp.out, List.drop_drop, List.append_assoc]; rfl
      have hlen : pre.length < (splitR l).length := by
        rw [hex.out, rnsOf_push, List.length_append, List.length_append, List.length_singleton]
        have : (rnsOf pre).length = pre.length := by simp [rnsOf]
        omega
      obtain ⟨fn, tmps, assign, body, hyl, hR⟩ := HY.out pre z _ HI3.out.1 hlen
      rw [hze] at hyl
      have hRH := Lib.hid hR
      have HHx := Lib.hid hex
      clear HI cb hB hci hci2 HI2 hR hex hlen hze hz HP HSp
      gi_wp2
      refine hRH.out.mono ?_
      rintro e W3 (⟨rfl, hJ3, hk3⟩ | ⟨rfl, hJx3⟩)
      · have HI4 := Lib.hid (And.intro hJ3 (keepAt_t HI3.out.2 hk3.1))
        have hcr : W3.cell? ⟨w2.heap.size, 1, none⟩ = some (.int .i64 (k : Int)) := by
          have hb := Blk.new w2 #[.int .u64 (x : Int), .int .i64 (k : Int)] 149
          rw [(hb.of_same (hk3.2 _ ⟨_, _, _, World.alloc_heap_new w2 _⟩)).cell]; rfl
        clear hJ3 hk3
        have hkl : (k : Int) ≤ 128 := by omega
        gi_wp2
        go_roundw
        case rel => exact ⟨i + k, _, by omega, by go_num, HHx.out, HI4.out⟩
        case measure => simp [intOf]; omega
      · gi_wp2
        refine bodyPost_ret (results_none rfl _ _ _) rfl ?_
        exact ⟨⟨_, rfl⟩, .inr ⟨_, trivial, hJx3⟩⟩
    · have hlt : ¬ (i : Int) < (l.length : Int) := by omega
      have HE : Hid (rnsOf pre = splitR l) := by
        show _ = _
        rw [HP.out, List.drop_of_length_le (by omega)]
        simp [splitR, splitFrom]
      clear HP
      gi_wp2
      go_end0
      exact ⟨⟨_, rfl⟩, .inl ⟨_, HE.out, HI.out.1⟩⟩
end Go.Proofs.YtgpmoimmpbkgfaaGreatDoor

end

section
/- Layer 7: the program's Size. -/
set_option linter.unusedVariables false
namespace Go.Proofs.YtgpmoimmpbkgfaaGreatDoor
open Go Go.RowKit Go.Shelf
attribute [local go_sem] Oper.semAt_some

set_option maxRecDepth 100000 in
set_option maxHeartbeats 1000000 in
theorem runval_size (lv : Value) (l : List Nat) (w : World) (hl : Rd w 1 lv l.length (u64s l)) (hok : ∀ t ∈ l, in64u t) (hz : 71 * l.length ≤ 70368744177000) :
    Calls Tryz.prog 51 #[lv] w fun e w' => e = .returned (.int .i64 ((encR l).length : Int)) ∧ Below w.heap.size w w' := by
  obtain ⟨p, c, hv⟩ := hl.shape
  subst hv
  have HL := Lib.hid hl; have HOk := Lib.hid hok
  have HZ : Hid (71 * (splitR l).length ≤ 70368744177000) := by show _ ≤ _; have := splitR_len l; omega
  have HLT : Hid (l ≠ [] → ∀ k, (Value.slice p l.length c).ownBlock = some k → k < w.heap.size) := fun h => hl.lt (fun e => h (by simpa [u64s] using e))
  clear hl hok hz
  refine (callsIn_wide (n := 9)).1 ?_
  refine callsIn_of_wp_marks Tryz.func51 rfl trivial ?_ rfl
  simp only [Tryz.ntmps51, List.size_toArray, List.length_cons, List.length_nil, Nat.reduceAdd, Nat.reduceSub, Array.replicate_succ, Array.replicate_zero, List.push_toArray, List.append_toArray, List.nil_append, List.cons_append]
  gi_wp2_with (refine ⟨trivial, ?_⟩; gi_at_call 85; refine (new_runs p _ c _ _).mono ?_; rintro e w' ⟨rfl, rfl⟩)
  obtain ⟨W0, hW0⟩ : ∃ W0, (w.alloc (.cells #[.int .i64 0] 3)).alloc (.cells #[.slice p l.length c] 22) = W0 := ⟨_, rfl⟩
  have hs0 : W0.heap.size = w.heap.size + 2 := by rw [← hW0]; simp
  have hB0 : Below w.heap.size w W0 := by rw [← hW0]; exact ((Below.refl _ w).alloc (Nat.le_refl _) _).alloc (by simp) _
  have hn0 : Blk W0 w.heap.size [.int .i64 0] := by rw [← hW0]; exact (Blk.new w _ _).alloc _
  have hx0 : W0.cell? ⟨w.heap.size + 1, 0, none⟩ = some (.slice p l.length c) := by
    have := (Blk.new (w.alloc (.cells #[.int .i64 0] 3)) #[.slice p l.length c] 22).cell 0
    rw [hW0] at this
    simpa using this
  have hl0 := HL.out.below hB0
  have HKW : Hid (∀ k, (k = w.heap.size + 1 ∨ (l ≠ [] ∧ (Value.slice p l.length c).ownBlock = some k)) → k ≠ w.heap.size ∧ k < W0.heap.size) := fun k hk => by
    rcases hk with e | ⟨h, e⟩
    · omega
    · have := HLT.out h k e; omega
  have HGV := Lib.hid (runs_gives 8 (by omega) (w.heap.size + 1) _ l W0 hx0 hl0 HOk.out)
  rw [hW0]
  clear hW0 hx0 hl0
  obtain ⟨K, hK⟩ : ∃ K : Nat → Prop, (fun k => k = w.heap.size + 1 ∨ (l ≠ [] ∧ (Value.slice p l.length c).ownBlock = some k)) = K := ⟨_, rfl⟩
  have HKW2 : Hid (∀ k, K k → k ≠ w.heap.size ∧ k < W0.heap.size) := by rw [← hK]; exact HKW.out
  rw [hK] at HGV
  clear hK HKW
  have HE : Hid ((encR l).length = 71 * (splitR l).length) := by show _ = _; rw [encR, encRuns_len]
  generalize splitR l = rs at *
  refine wpIn_rangeFunc_ownG rfl (by omega) (gf := 105) (lb := #[.pointer (some ⟨w.heap.size + 1, 0, none⟩)]) rfl trivial (enters_of Tryz.func105 (by kernel_rfl) rfl)
    HGV.out (fun h k => keepRun_t h k) (fun W l o o' h1 h2 h3 h4 => keepRun_b (fun k hk => (HKW2.out k hk).2) W l o o' h1 h2 h3 h4) (Below.refl _ _) (fun _ => rfl)
    (fun pre W => Blk W w.heap.size [.int .i64 ((71 * pre.length : Nat) : Int)] ∧ Mods (fun k => k = w.heap.size) W0 W)
    (fun _ _ _ => False)
    (OwnFrom.and (Own.from (own_blk _ _) _) (ownFrom_mods (Nat.le_refl _)))
    (fun _ _ _ _ _ hs _ _ => hs)
    ⟨hn0, Mods.refl _ _⟩
    (fun x => { tmps := #[.slice p l.length c, undef, .int .i64 0, .pointer (some ⟨w.heap.size, 0, none⟩), .slice p l.length c, .func (.func 105) #[] #[.pointer (some ⟨w.heap.size + 1, 0, none⟩)], runV x, undef, undef, undef], defers := [] }) ?assign ?body ?done ?stop
  case assign =>
    intro l x W K hK
    simp only [List.zip_toArray, List.zip_cons_cons, List.zip_nil_right, List.foldl_toArray, List.foldl_cons, List.foldl_nil, List.setIfInBounds_toArray, List.set_cons_zero, List.set_cons_succ]
    gi_wp2
    exact hK
  case body =>
    rintro l pre x W ⟨hn, hM0⟩ hlen
    obtain ⟨Z, hZe⟩ : ∃ Z, 71 * pre.length = Z := ⟨_, rfl⟩
    have hZ : Z ≤ 70368744177000 := by have := HZ.out; omega
    have hZ2 : ((71 * (pre ++ [x]).length : Nat) : Int) = (Z : Int) + 71 := by rw [List.length_append, List.length_singleton]; omega
    have HZ2 := Lib.hid hZ2
    rw [hZe] at hn
    have c0 : W.cell? ⟨w.heap.size, 0, none⟩ = some (.int .i64 (Z : Int)) := by rw [hn.cell]; rfl
    have f0 := hn.free 0
    have HN := Lib.hid hn; have HM0 := Lib.hid hM0
    clear hn hM0 hZ2 hZe
    gi_wp2
    have hM : Mods (fun k => k = w.heap.size) W (W.setCell ⟨w.heap.size, 0, none⟩ (.int .i64 ((Z : Int) + 71))) := Mods.set (fun k => k = w.heap.size) W ⟨w.heap.size, 0, none⟩ _ (fun _ => rfl)
    refine ⟨(KeepsOthers.of_mods hM (fun k o hk ho => ?_)).from _, keepRun_mods hM HM0.out.size (fun k hk => (HKW2.out k hk).2) (fun k hk => (HKW2.out k hk).1) ?_, ?_, ?_⟩
    · subst hk
      obtain ⟨t, ht⟩ := HN.out
      rw [ht] at ho
      cases ho; rfl
    · rintro k rfl ⟨x, n, fz, e⟩
      obtain ⟨t, ht⟩ := HN.out
      rw [ht] at e
      simp at e
    · rw [HZ2.out]
      simpa using HN.out.set 0 (.int .i64 ((Z : Int) + 71))
    · exact HM0.out.trans hM (fun _ _ e => e)
  case done =>
    rintro D zs W hD hzs ⟨hn, hM0⟩ hK
    have HE2 : Hid (((71 * zs.length : Nat) : Int) = ((encR l).length : Int)) := by
      show _ = _
      have : zs.length = rs.length := by rw [← hzs]; simp [rnsOf]
      rw [HE.out, this]
    have c0 : W.cell? ⟨w.heap.size, 0, none⟩ = some (.int .i64 ((71 * zs.length : Nat) : Int)) := by rw [hn.cell]; rfl
    clear hn HGV
    have hB := hB0.trans (hM0.below (B := w.heap.size) (by omega) (fun k hk e => by omega))
    generalize ((71 * zs.length : Nat) : Int) = Z at *
    gi_wp2
    refine ⟨by simp, .inl ⟨_, _, rfl, run_takeDeferred hK, ?_⟩⟩
    exact ⟨_, results_tmp rfl _ _ _, by rw [← HE2.out]; rfl, hB.trans (belowK_b (w := w) (Nat.le_refl _) W D _ _ (by omega) hK rfl rfl)⟩
  case stop =>
    rintro D c pre W _ _ h _
    exact h.elim
end Go.Proofs.YtgpmoimmpbkgfaaGreatDoor

end
