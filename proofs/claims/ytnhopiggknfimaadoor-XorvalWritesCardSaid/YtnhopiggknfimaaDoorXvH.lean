/- Layer 6: the program's Size. -/
import Derived.Test.YtnhopiggknfimaaDoorXvG
set_option linter.unusedVariables false
set_option maxRecDepth 20000
namespace Go.Proofs.YtnhopiggknfimaaDoor
open Go Go.RowKit

theorem xorval_size_nil (w : World) (v : Value) (h : Rd w 1 v 0 []) : Calls Tryd.prog 18 #[v] w fun e w' => e = .returned (.int .i64 0) ∧ Below w.heap.size w w' := by
  obtain ⟨p, c, hv⟩ := h.shape
  subst hv
  go_enter Tryd.func18, Tryd.ntmps18
  go_wp2_with fail
  go_ret
  exact ⟨rfl, Below.refl _ _⟩

theorem stepN_len {win : Option (Nat × Nat)} (ho : okW win) {x : Nat} (hx : x < 18446744073709551616) : stepN (sL win x) (sW win x) (sN win x) = (encW win x).length := by
  rw [← step_bits ho hx, List.length_append, fieldBits_length, stepN, headS]
  by_cases h : sL win x = 0 ∧ sW win x = 0
  · rw [if_pos h, if_pos h, h.2]; rfl
  · rw [if_neg h, if_neg h]
    split
    · simp only [List.length_append, fieldBits_length, List.length_cons, List.length_nil]
    · rfl

/-- Where Size stands between two rounds. -/
structure SizeIn (g : Nat) (ls tl : List Nat) (lv : Value) (w : World) (k last : Nat) (win : Option (Nat × Nat)) (n : Nat) (wr : World) : Prop where
  blk : Blk wr g [.int .u64 (last : Int), .int .i64 (wl win : Int), .int .i64 (ww win : Int)]
  below : Below w.heap.size w wr
  left : (encV ls).length = n + (encFromV win last (tl.drop k)).length
  la : last < 18446744073709551616
  ok : okW win
  row : Rd wr 1 lv tl.length (u64s tl)

set_option maxHeartbeats 4000000 in
theorem xorval_size_cons (lv : Value) (ls : List Nat) (t0 : Nat) (tl : List Nat) (els : ls = t0 :: tl) (w : World) (hT : TabZ w) (hl : Rd w 1 lv ls.length (u64s ls)) (ok : ∀ t ∈ ls, in64u t) (hz : 78 * ls.length ≤ 70368744177000) :
    Calls Tryd.prog 18 #[lv] w fun e w' => e = .returned (.int .i64 ((encV ls).length : Int)) ∧ Below w.heap.size w w' := by
  obtain ⟨b0, off, c, e, hm1, hm2, hcl⟩ := hl.at (by rw [els]; simp [u64s])
  subst e
  have HT := Lib.hid hT; have HEL := Lib.hid els; have HOk := Lib.hid ok; have HZ := Lib.hid hz
  have hne : (ls.length : Int) ≠ 0 := by rw [els]; simp only [List.length_cons]; omega
  have hpos : (0 : Int) < (ls.length : Int) := by omega
  have hnb : ((ls.length : Int) == 0) = false := by rw [beq_eq_false_iff_ne]; exact hne
  have hc0 : w.cell? ⟨b0, off, none⟩ = some (.int .u64 (t0 : Int)) := by have := hcl 0 (.int .u64 (t0 : Int)) (by rw [els]; rfl); simpa using this
  have HAp : Hid (b0 < w.heap.size) := World.block_lt_of_cell? w _ hc0
  have HRd := Lib.hid hl
  have hpos1 : 1 ≤ ls.length := by omega
  have hsub : ls.length - 1 = tl.length := by rw [els]; rfl
  have HB3 : Hid (Below w.heap.size w (w.alloc (.cells #[.int .u64 (t0 : Int), .int .i64 0, .int .i64 0] 66))) := (Below.refl _ w).alloc (Nat.le_refl _) _
  have HK3 : Hid (Blk (w.alloc (.cells #[.int .u64 (t0 : Int), .int .i64 0, .int .i64 0] 66)) w.heap.size [.int .u64 (t0 : Int), .int .i64 0, .int .i64 0]) := Blk.new w _ _
  have HR3 := Lib.hid (hl.below HB3.out)
  have HL3 : Hid ((encV ls).length = 64 + (encFromV none t0 tl).length) := by show _ = _; rw [HEL.out, encV, List.length_append, fieldBits_length]
  have HLn : Hid (ls.length = tl.length + 1) := by show _ = _; rw [HEL.out]; rfl
  clear hT els ok hz hcl hl
  go_enter Tryd.func18, Tryd.ntmps18
  go_wp2_with (refine wpList_fromO Tryd.elemU64 _ _ _ 1 _ HR3.out hpos1 rfl _ _ rfl rfl rfl ?_; intro q c2 h2 hown)
  rw [hsub] at *
  have HOwn : Hid (∀ k, (Value.slice q tl.length c2).ownBlock = some k → k = b0) := fun k hk => by have := hown k hk; cases this; rfl
  have HI0 : Hid (SizeIn w.heap.size ls tl (.slice q tl.length c2) w 0 t0 none 64 (w.alloc (.cells #[.int .u64 (t0 : Int), .int .i64 0, .int .i64 0] 66))) := by
    refine ⟨HK3.out, HB3.out, HL3.out, HOk.out t0 (by rw [HEL.out]; simp), fun _ _ e => (by cases e), ?_⟩
    have : List.drop (1 * 1) (u64s ls) = u64s tl := by rw [HEL.out]; rfl
    rw [← this]; exact h2
  have hmb : (tl.length : Int) ≤ 1000000000000 := by have h1 := HLn.out; have h2 := HZ.out; omega
  generalize w.alloc (.cells #[.int .u64 (t0 : Int), .int .i64 0, .int .i64 0] 66) = w3 at *
  clear hsub h2 hown HR3 HL3 hne hpos hnb hpos1 hc0 HK3
  have HG : Hid (∃ g, g = w.heap.size) := ⟨_, rfl⟩
  obtain ⟨g, hg⟩ := HG.out
  clear HG
  rw [← hg] at HI0 ⊢
  have HGe : Hid (g = w.heap.size) := hg
  clear hg
  go_loopw [3, 6, 7, 8, 19] (fun nv vv xv pv kv wr => ∃ (k last : Nat) (win : Option (Nat × Nat)) (n : Nat), k ≤ tl.length ∧ kv = .int .i64 (k : Int) ∧ nv = .int .i64 (n : Int) ∧ Hid (SizeIn g ls tl (.slice q tl.length c2) w k last win n wr)) (fun _ _ _ _ kv _ => tl.length - (intOf kv).toNat)
  case atStart => exact ⟨0, t0, none, 64, by omega, rfl, rfl, HI0.out⟩
  case round =>
    obtain ⟨k, last, win, n, hkm, rfl, rfl, HI⟩ := hrel
    by_cases hk : k < tl.length
    · have hk' : (k : Int) < (tl.length : Int) := by omega
      have hkb : (k : Int) ≤ 1000000000000 := by omega
      have HN : Hid ((encV ls).length ≤ 78 * ls.length) := encV_len ls
      have hnb2 : (n : Int) ≤ 70368744177000 := by have h1 := HI.out.left; have h2 := HN.out; have h3 := HZ.out; omega
      obtain ⟨b1, o1, c1, e1, _, _, hcl1⟩ := HI.out.row.at (by intro e; have := congrArg List.length e; rw [u64s, List.length_map, List.length_nil] at this; omega)
      cases e1
      obtain ⟨t, ht⟩ : ∃ t, tl[k]? = some t := ⟨_, List.getElem?_eq_getElem hk⟩
      have hc1 : wr.cell? ⟨b1, o1 + k, none⟩ = some (.int .u64 (t : Int)) := hcl1 k _ (by rw [u64s, List.getElem?_map, ht]; rfl)
      have hti : in64u t := HOk.out t (by rw [HEL.out]; exact List.mem_cons_of_mem _ (List.mem_of_getElem? ht))
      have hdr : tl.drop k = t :: tl.drop (k + 1) := by rw [List.drop_eq_getElem_cons hk]; rw [List.getElem?_eq_getElem hk] at ht; cases ht; rfl
      have HX : Hid (bits .xor .u64 (t : Int) (last : Int) = ((t ^^^ last : Nat) : Int)) := bits_xor_u64_nat t last hti HI.out.la
      have hx : t ^^^ last < 18446744073709551616 := xor_lt64 hti HI.out.la
      have c0 : wr.cell? ⟨g, 0, none⟩ = some (.int .u64 (last : Int)) := by rw [HI.out.blk.cell]; rfl
      have HTr : Hid (TabZ wr) := HT.out.below HI.out.below (Nat.le_refl _)
      have HSt := Lib.hid (stepFor_any g win (t ^^^ last) HI.out.ok hx wr HTr.out (by rw [HI.out.blk.cell]; rfl) (by rw [HI.out.blk.cell]; rfl))
      have HCe := Lib.hid (step_cells win last t)
      have HFo := Lib.hid (step_form HI.out.ok hx)
      have HSz := Lib.hid (stepN_len HI.out.ok hx)
      have HNx : Hid (okW (nextW win (t ^^^ last))) := okW_next HI.out.ok hx
      have HTi := Lib.hid hti; have HD := Lib.hid hdr; have HHx := Lib.hid hx
      have HEn : Hid (encFromV win last (tl.drop k) = encW win (t ^^^ last) ++ encFromV (nextW win (t ^^^ last)) t (tl.drop (k + 1))) := by show _ = _; rw [HD.out]; rfl
      clear hcl1 ht hti hdr hx
      generalize t ^^^ last = x at *
      generalize sL win x = a at *
      generalize sW win x = b at *
      generalize sN win x = c at *
      generalize encW win x = E at *
      generalize nextW win x = win' at *
      go_wp2_with fail
      rw [HX.out]
      go_wp2_with fail
      refine HSt.out.mono ?_
      rintro e w2 ⟨rfl, hB2⟩
      obtain ⟨w4, hw4⟩ : ∃ w4, w2.alloc (.cells #[.int .i64 (a : Int), .int .i64 (b : Int), .bool c] 76) = w4 := ⟨_, rfl⟩
      have HK4 : Hid (Blk w4 w2.heap.size [.int .i64 (a : Int), .int .i64 (b : Int), .bool c]) := by rw [← hw4]; exact Blk.new w2 _ _
      have HB4 : Hid (Below wr.heap.size wr w4) := by rw [← hw4]; exact hB2.alloc hB2.size _
      have HS2 : Hid (wr.heap.size ≤ w2.heap.size) := hB2.size
      have HBk4 : Hid (Blk w4 g ([.int .u64 (last : Int), .int .i64 (wl win : Int), .int .i64 (ww win : Int)] ++ [])) := HI.out.blk.of_same (HB4.out.block _ HI.out.blk.lt)
      have hgl := HI.out.blk.lt
      have hs2 := HS2.out
      have hgB : g ≠ w2.heap.size := by omega
      obtain ⟨⟨d0, d1, d2⟩, _⟩ := HK4.out.three
      have HAd := Lib.hid (advance_any g last x (wl win) (ww win) a b c [] HI.out.la HHx.out w4 HBk4.out)
      clear HSt HX c0 hB2 hs2
      go_wp2_with fail
      refine HAd.out.mono ?_
      rintro e w5 ⟨rfl, hG5, hM5⟩
      rw [HCe.out] at hG5
      obtain ⟨⟨d0, d1, d2⟩, _⟩ := (hM5.blk HK4.out (fun e => hgB e.symm)).three
      have HG5 := Lib.hid hG5; have HM5 := Lib.hid hM5
      have hab1 := HFo.out.2.1; have hab2 := HFo.out.2.2.1
      have HSi := Lib.hid (size_any a b c HFo.out.1 (by omega) (by omega) w5)
      rw [HSz.out] at HSi
      have hEl : (E.length : Int) ≤ 70368744177000 := by have h1 := HI.out.left; have h2 := HN.out; have h3 := HZ.out; rw [HEn.out, List.length_append] at h1; omega
      clear hG5 hM5 HAd hab1 hab2
      go_wp2_with fail
      refine HSi.out.mono ?_
      rintro e w6 ⟨rfl, hB6⟩
      have HI6 : Hid (SizeIn g ls tl (.slice (some ⟨b1, o1, none⟩) tl.length c2) w (k + 1) t win' (n + E.length) w6) := by
        have hb : b1 = b0 := HOwn.out b1 rfl
        have hap := HAp.out; have hge := HGe.out
        have hMall : Mods (fun k => k = g) wr w6 := ((Mods.of_below HB4.out _).trans HM5.out (fun _ _ e => e)).trans (Mods.of_below hB6 _) (fun _ _ e => e)
        refine ⟨HG5.out.of_same (hB6.block _ HG5.out.lt), HI.out.below.trans (hMall.below HI.out.below.size (fun j hj e => by omega)), ?_, HTi.out, HNx.out, HI.out.row.mods hMall (fun j hj e => ?_)⟩
        · rw [HI.out.left, HEn.out, List.length_append]; omega
        · cases hj
          change b1 = g at e
          omega
      clear HG5 HM5 hB6 HI HSi HBk4 HB4 HK4 d0 d1 d2
      go_wp2_with fail
      go_round
      case rel => exact ⟨k + 1, _, _, _, by omega, by go_num, by go_num, HI6.out⟩
      case measure => simp [intOf]; omega
    · have hk' : ¬ (k : Int) < (tl.length : Int) := by omega
      have HLeft : Hid ((encV ls).length = n) := by
        have h := HI.out.left
        rw [List.drop_eq_nil_of_le (by omega), encFromV] at h
        exact h
      go_wp2_with fail
      go_ret
      rw [HLeft.out]
      exact ⟨rfl, HI.out.below⟩
end Go.Proofs.YtnhopiggknfimaaDoor
