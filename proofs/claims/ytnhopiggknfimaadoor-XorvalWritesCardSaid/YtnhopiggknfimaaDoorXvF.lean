/- Layer 6: the program writes one value. -/
import Derived.Test.YtnhopiggknfimaaDoorXvE
set_option linter.unusedVariables false
set_option maxRecDepth 20000
namespace Go.Proofs.YtnhopiggknfimaaDoor
open Go Go.RowKit

theorem step_cells (win : Option (Nat × Nat)) (last value : Nat) : advC last (value ^^^ last) (wl win) (ww win) (sL win (value ^^^ last)) (sW win (value ^^^ last)) (sN win (value ^^^ last)) = [.int .u64 (value : Int), .int .i64 (wl (nextW win (value ^^^ last)) : Int), .int .i64 (ww (nextW win (value ^^^ last)) : Int)] := by
  have e : last ^^^ (value ^^^ last) = value := by rw [Nat.xor_comm value, ← Nat.xor_assoc, Nat.xor_self, Nat.zero_xor]
  rw [advC, e, nextW, sL, sW, sN]
  by_cases h0 : value ^^^ last = 0
  · simp only [h0, if_true, Bool.false_eq_true, if_false]
  · by_cases hf : fits win (value ^^^ last) = true
    · simp only [h0, hf, if_true, Bool.false_eq_true, if_false]
    · simp only [h0, hf, if_true, Bool.false_eq_true, if_false]; rfl
theorem step_form {win : Option (Nat × Nat)} (ho : okW win) {x : Nat} (hx : x < 18446744073709551616) : ((sL win x = 0 ∧ sW win x = 0) ∨ 1 ≤ sW win x) ∧ sL win x ≤ 63 ∧ sW win x ≤ 64 ∧ sL win x + sW win x ≤ 64 := by
  rw [sL, sW]
  by_cases h0 : x = 0
  · simp only [h0, if_true]; exact ⟨Or.inl ⟨trivial, trivial⟩, by omega, by omega, by omega⟩
  · by_cases hf : fits win x = true
    · simp only [h0, hf, if_true, if_false]
      cases win with
      | none => cases hf
      | some w => obtain ⟨L, t⟩ := w; have := ho L t rfl; simp only [wl, ww]; omega
    · simp only [h0, hf, if_false, Bool.false_eq_true]
      have := window hx h0; omega
theorem step_bits {win : Option (Nat × Nat)} (ho : okW win) {x : Nat} (hx : x < 18446744073709551616) : headS (sL win x) (sW win x) (sN win x) ++ fieldBits (x / 2 ^ (64 - sL win x - sW win x)) (sW win x) = encW win x := by
  unfold sL sW sN encW
  by_cases h0 : x = 0
  · simp only [h0, if_true, headS, and_self, Nat.zero_div]; rfl
  · by_cases hf : fits win x = true
    · simp only [h0, hf, if_true, if_false]
      cases win with
      | none => cases hf
      | some w =>
        obtain ⟨L, t⟩ := w
        have := ho L t rfl
        simp only [wl, ww]
        rw [headS, if_neg (by omega), if_neg (by decide), show 64 - L - (64 - L - t) = t by omega]
    · have hff : fits win x = false := by simpa using hf
      have hw := window hx h0
      simp only [h0, hff, if_false, Bool.false_eq_true]
      rw [headS, if_neg (by omega), if_pos rfl, show 64 - leadV x - (64 - leadV x - trailV x) = trailV x by omega, show 64 - leadV x - trailV x - 1 = 63 - leadV x - trailV x by omega, List.append_assoc, List.append_assoc]
      cases win with
      | none => rfl
      | some w => obtain ⟨L, t⟩ := w; rfl

theorem headS_len (a b : Nat) (c : Bool) : (headS a b c).length ≤ 14 := by
  unfold headS
  split
  · simp
  · split
    · simp only [List.length_append, fieldBits_length, List.length_cons, List.length_nil]; omega
    · simp

/-- An encoder at g, over the writer at p. -/
structure EncIs (g p : Nat) (v : Value) (bits : List Bool) (last : Nat) (win : Option (Nat × Nat)) (w : World) : Prop where
  blk : Blk w g [.int .u64 (last : Int), .int .i64 (wl win : Int), .int .i64 (ww win : Int), .pointer (some ⟨p, 0, none⟩)]
  wr : WriterIn w p v bits
  gp : g ≠ p
  gv : v.ownBlock ≠ some g
  tab : TabZ w
  tg : 0 ≠ g
  tp : 0 ≠ p
  tv : v.ownBlock ≠ some 0
  la : last < 18446744073709551616
  ok : okW win

set_option maxHeartbeats 4000000 in
theorem put_any (g p : Nat) (v : Value) (bs : List Bool) (last value : Nat) (win : Option (Nat × Nat)) (w : World) (h : EncIs g p v bs last win w) (hv : value < 18446744073709551616) (hz : bs.length + 200 ≤ 1125899906842624) :
    Calls Tryd.prog 30 #[.pointer (some ⟨g, 0, none⟩), .int .u64 (value : Int)] w fun e w' => e = .returned (.tuple #[]) ∧ ∃ v', EncIs g p v' (bs ++ encW win (value ^^^ last)) value (nextW win (value ^^^ last)) w' ∧ Mods (fun k => k = g ∨ k = p ∨ v.ownBlock = some k) w w' ∧ Fresh w.heap.size v v' := by
  have H := Lib.hid h
  have HX : Hid (bits .xor .u64 (value : Int) (last : Int) = ((value ^^^ last : Nat) : Int)) := bits_xor_u64_nat value last hv h.la
  have hx : value ^^^ last < 18446744073709551616 := xor_lt64 hv h.la
  have c0 : w.cell? ⟨g, 0, none⟩ = some (.int .u64 (last : Int)) := by rw [h.blk.cell]; rfl
  have HSt := Lib.hid (stepFor_any g win (value ^^^ last) h.ok hx w h.tab (by rw [h.blk.cell]; rfl) (by rw [h.blk.cell]; rfl))
  have HCe := Lib.hid (step_cells win last value)
  have HFo := Lib.hid (step_form h.ok hx)
  have HBi := Lib.hid (step_bits h.ok hx)
  have HHx := Lib.hid hx
  have HZ := Lib.hid hz
  have HV := Lib.hid hv
  have HNx : Hid (okW (nextW win (value ^^^ last))) := okW_next h.ok hx
  clear h hx hz hv
  generalize value ^^^ last = x at *
  generalize sL win x = a at *
  generalize sW win x = b at *
  generalize sN win x = c at *
  generalize encW win x = E at *
  generalize nextW win x = win' at *
  go_enter Tryd.func30, Tryd.ntmps30
  go_wp2_with fail
  rw [HX.out]
  go_wp2_with fail
  refine HSt.out.mono ?_
  rintro e w2 ⟨rfl, hB2⟩
  obtain ⟨w3, hw3⟩ : ∃ w3, w2.alloc (.cells #[.int .i64 (a : Int), .int .i64 (b : Int), .bool c] 76) = w3 := ⟨_, rfl⟩
  have hK3 : Blk w3 w2.heap.size [.int .i64 (a : Int), .int .i64 (b : Int), .bool c] := by rw [← hw3]; exact Blk.new w2 _ _
  have HB3 : Hid (Below w.heap.size w w3) := by rw [← hw3]; exact hB2.alloc hB2.size _
  have HG : Hid (Blk w3 g [.int .u64 (last : Int), .int .i64 (wl win : Int), .int .i64 (ww win : Int), .pointer (some ⟨p, 0, none⟩)]) := H.out.blk.of_same (HB3.out.block _ H.out.blk.lt)
  have hsz := hB2.size
  have HSz := Lib.hid hsz
  have HH3 : Hid (HeadAt g p w2.heap.size a b c w v bs w3 v) :=
    ⟨H.out.wr.below HB3.out, Upd.of_below HB3.out _ _, by rw [HG.out.cell]; rfl, hK3.three.1.1, hK3.three.1.2.1, hK3.three.1.2.2, H.out.gp, H.out.gv, by have := H.out.wr.blk.lt; omega, fun e => by have := owns_lt H.out.wr.own _ e; omega⟩
  clear HSt HX c0 hB2 hK3 hsz
  have d0 := HH3.out.b0
  have d1 := HH3.out.b1
  have d2 := HH3.out.b2
  have HPs := Lib.hid (putStep_any g p a b c v bs w3 HH3.out.wr HH3.out.c3 HH3.out.gp HH3.out.gv HFo.out.1 HFo.out.2.1 HFo.out.2.2.1 (by have := HZ.out; omega))
  go_wp2_with fail
  refine HPs.out.mono ?_
  rintro e w4 ⟨rfl, v4, hW4, hU4⟩
  have HH4 := Lib.hid (HH3.out.next hW4 hU4).drew
  have HG4 : Hid (Blk w4.drew g [.int .u64 (last : Int), .int .i64 (wl win : Int), .int .i64 (ww win : Int), .pointer (some ⟨p, 0, none⟩)]) := (HG.out.of_same (hU4.mods.block _ HG.out.lt (fun e => e.elim H.out.gp H.out.gv)))
  clear hW4 hU4 HPs HG HH3 d0 d1 d2 hw3
  have HC : Hid (∀ w' : World, (w'.cell? ⟨g, 3, none⟩ = some (.pointer (some ⟨p, 0, none⟩)) ∧ w'.cell? ⟨w2.heap.size, 0, none⟩ = some (.int .i64 (a : Int)) ∧ w'.cell? ⟨w2.heap.size, 1, none⟩ = some (.int .i64 (b : Int))) → (w'.cell? ⟨g, 3, none⟩ = some (.pointer (some ⟨p, 0, none⟩)) ∧ w'.cell? ⟨w2.heap.size, 0, none⟩ = some (.int .i64 (a : Int)) ∧ w'.cell? ⟨w2.heap.size, 1, none⟩ = some (.int .i64 (b : Int)))) := fun _ h => h
  go_wp2_with fail
  refine wp_region_takeH (fun w' : World => w'.cell? ⟨g, 3, none⟩ = some (.pointer (some ⟨p, 0, none⟩)) ∧ w'.cell? ⟨w2.heap.size, 0, none⟩ = some (.int .i64 (a : Int)) ∧ w'.cell? ⟨w2.heap.size, 1, none⟩ = some (.int .i64 (b : Int))) [7, 12] [0, 1, 2, 3, 4, 5, 6, 9, 10, 11, 7, 8, 12] (by kernel_rfl) (by kernel_rfl) (by kernel_rfl) ?_ ?_ ?_
  · intro c a a' w hd h; exact ⟨hd ▸ h.1, h.2⟩
  · exact ⟨HH4.out.c3, HH4.out.b0, HH4.out.b1⟩
  simp only [taken, List.map_cons, List.map_nil, List.getElem?_cons_succ, List.getElem?_cons_zero, Option.getD_some]
  repeat (first
        | (refine takeH_skip rfl ?_; simp only [Act.put, List.setIfInBounds_toArray, List.set_cons_succ, List.set_cons_zero])
        | (refine takeH_blind rfl rfl ?_; apply Exists.intro; refine ⟨fun w => ?_, ?_⟩; (go_simp; try with_reducible rfl); simp only [Act.put, List.setIfInBounds_toArray, List.set_cons_succ, List.set_cons_zero])
        | (refine takeH_reads rfl rfl ?_; apply Exists.intro; refine ⟨fun w' hS => ?_, ?_⟩; (obtain ⟨d0, d1, d2⟩ := HC.out w' hS; go_simp; try with_reducible rfl); simp only [Act.put, List.setIfInBounds_toArray, List.set_cons_succ, List.set_cons_zero]))
  refine takeH_call rfl rfl (fun K' hK => ?_)
  go_wp2_with fail
  refine (trailing_any a b (by have := HFo.out.2.1; omega) (by have := HFo.out.2.2.1; omega) w4.drew).mono ?_
  rintro e w5 ⟨rfl, hB5⟩
  have HH5 := Lib.hid (HH4.out.next (HH4.out.wr.below hB5) (Upd.of_below hB5 p _))
  have HG5 := Lib.hid (HG4.out.of_same (hB5.block _ HG4.out.lt))
  refine hK _ _ ⟨HH5.out.c3, HH5.out.b0, HH5.out.b1⟩ ?_
  clear hK K' hB5 HH4 HG4
  have e1 : (64 : Int) - (a : Int) - (b : Int) = ((64 - a - b : Nat) : Int) := by have := HFo.out.2.2.2; omega
  rw [e1]
  clear e1
  have hT64 : ((64 - a - b : Nat) : Int) ≤ 64 := by omega
  generalize 64 - a - b = T at *
  repeat (first
        | (refine takeH_skip rfl ?_; simp only [Act.put, List.setIfInBounds_toArray, List.set_cons_succ, List.set_cons_zero])
        | (refine takeH_blind rfl rfl ?_; apply Exists.intro; refine ⟨fun w => ?_, ?_⟩; (go_simp; try with_reducible rfl); simp only [Act.put, List.setIfInBounds_toArray, List.set_cons_succ, List.set_cons_zero])
        | (refine takeH_reads rfl rfl ?_; apply Exists.intro; refine ⟨fun w' hS => ?_, ?_⟩; (obtain ⟨d0, d1, d2⟩ := HC.out w' hS; go_simp; try with_reducible rfl); simp only [Act.put, List.setIfInBounds_toArray, List.set_cons_succ, List.set_cons_zero]))
  have e2 : (x : Int) / 2 ^ T = ((x / 2 ^ T : Nat) : Int) := by simp
  rw [e2]
  clear e2
  have HBt := Lib.hid (HH5.out.bits (x / 2 ^ T) b (by have := HFo.out.2.2.1; omega) (by
    have h1 := HZ.out
    rw [List.length_append]
    have := headS_len a b c
    omega))
  refine takeH_call rfl rfl (fun K' hK => ?_)
  go_wp2_with fail
  refine HBt.out.mono ?_
  rintro e w6 ⟨rfl, v6, hH6, hg6⟩
  refine hK _ _ ⟨hH6.c3, hH6.b0, hH6.b1⟩ ?_
  have HH6 := Lib.hid hH6.drew
  have HG6 : Hid (Blk w6.drew g [.int .u64 (last : Int), .int .i64 (wl win : Int), .int .i64 (ww win : Int), .pointer (some ⟨p, 0, none⟩)]) := HG5.out.of_same hg6
  rw [List.append_assoc, HBi.out] at HH6
  clear hH6 hg6 HBt HH5 HG5 hK K' HC
  have HC : Hid (∀ w' : World, (w'.cell? ⟨w2.heap.size, 0, none⟩ = some (.int .i64 (a : Int)) ∧ w'.cell? ⟨w2.heap.size, 1, none⟩ = some (.int .i64 (b : Int)) ∧ w'.cell? ⟨w2.heap.size, 2, none⟩ = some (.bool c)) → (w'.cell? ⟨w2.heap.size, 0, none⟩ = some (.int .i64 (a : Int)) ∧ w'.cell? ⟨w2.heap.size, 1, none⟩ = some (.int .i64 (b : Int)) ∧ w'.cell? ⟨w2.heap.size, 2, none⟩ = some (.bool c))) := fun _ h => h
  refine takeH_nil ?_
  go_wp2_with fail
  refine wp_region_takeH (fun w' : World => w'.cell? ⟨w2.heap.size, 0, none⟩ = some (.int .i64 (a : Int)) ∧ w'.cell? ⟨w2.heap.size, 1, none⟩ = some (.int .i64 (b : Int)) ∧ w'.cell? ⟨w2.heap.size, 2, none⟩ = some (.bool c)) [5] [0, 1, 2, 3, 4, 5] (by kernel_rfl) (by kernel_rfl) (by kernel_rfl) ?_ ?_ ?_
  · intro c a a' w hd h; exact ⟨hd ▸ h.1, h.2⟩
  · exact ⟨HH6.out.b0, HH6.out.b1, HH6.out.b2⟩
  simp only [taken, List.map_cons, List.map_nil, List.getElem?_cons_succ, List.getElem?_cons_zero, Option.getD_some]
  repeat (first
        | (refine takeH_skip rfl ?_; simp only [Act.put, List.setIfInBounds_toArray, List.set_cons_succ, List.set_cons_zero])
        | (refine takeH_blind rfl rfl ?_; apply Exists.intro; refine ⟨fun w => ?_, ?_⟩; (go_simp; try with_reducible rfl); simp only [Act.put, List.setIfInBounds_toArray, List.set_cons_succ, List.set_cons_zero])
        | (refine takeH_reads rfl rfl ?_; apply Exists.intro; refine ⟨fun w' hS => ?_, ?_⟩; (obtain ⟨d0, d1, d2⟩ := HC.out w' hS; go_simp; try with_reducible rfl); simp only [Act.put, List.setIfInBounds_toArray, List.set_cons_succ, List.set_cons_zero]))
  refine takeH_call rfl rfl (fun K' hK => ?_)
  go_wp2_with fail
  refine (advance_any g last x (wl win) (ww win) a b c [.pointer (some ⟨p, 0, none⟩)] H.out.la HHx.out w6.drew HG6.out).mono ?_
  rintro e w7 ⟨rfl, hG7, hM7⟩
  have hne : w2.heap.size ≠ g := by have := HSz.out; have := H.out.blk.lt; omega
  refine hK _ _ ⟨hM7.cell HH6.out.b0 hne, hM7.cell HH6.out.b1 hne, hM7.cell HH6.out.b2 hne⟩ ?_
  refine takeH_nil ?_
  go_wp2_with fail
  go_end0
  have hU := HH6.out.upd.mods
  have hM : Mods (fun k => k = g ∨ k = p ∨ v.ownBlock = some k) w w7 := (hU.mono (fun j _ e => Or.inr e)).trans hM7 (fun j _ e => Or.inl e)
  refine ⟨rfl, v6, ⟨?_, ?_, H.out.gp, HH6.out.gv, ?_, H.out.tg, H.out.tp, ?_, ?_, HNx.out⟩, hM, HH6.out.upd.fresh⟩
  · rw [HCe.out] at hG7; exact hG7
  · exact HH6.out.wr.mods hM7 (fun e => H.out.gp e.symm) (fun k hk e => HH6.out.gv (e ▸ hk))
  · exact H.out.tab.block (hM.block _ H.out.tab.lt (fun e => e.elim H.out.tg (fun e => e.elim H.out.tp H.out.tv)))
  · intro e
    rcases HH6.out.upd.fresh _ e with e | e
    · exact H.out.tv e
    · have := H.out.tab.lt; omega
  · exact HV.out
end Go.Proofs.YtnhopiggknfimaaDoor
