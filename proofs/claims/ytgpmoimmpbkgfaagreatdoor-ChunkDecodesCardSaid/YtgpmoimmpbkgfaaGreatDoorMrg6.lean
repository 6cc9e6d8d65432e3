/- TimesPu, TimesB, Ris, TimesRd, TimesGc, TimesGt, XorQ, XorC, XvA, XvB, in one text. -/
import Derived.Test.YtgpmoimmpbkgfaaGreatDoorMrg5
import Derived.Test.YtgpmoimmpbkgfaaGreatDoorMrg4
import Derived.Test.YtgpmoimmpbkgfaaGreatDoorMrg1
import Derived.Test.YtgpmoimmpbkgfaaGreatDoorMrg3
import Derived.Shelf.Small.Bits
import Derived.Shelf.Spec.TrailingZeros
import Derived.BigQuiet

section
/- Layer 5: the program's Put. -/
set_option linter.unusedVariables false
namespace Go.Proofs.YtgpmoimmpbkgfaaGreatDoor
open Go Go.RowKit Go.Shelf
attribute [local go_sem] Oper.semAt_some

theorem encX_mark (x : Int) : encX x = fieldBits (markT (formT x)) (markLenT (formT x)) ++ fieldBits (ofI x) (widthT (formT x)) := by
  rw [mark_bits (formT_le x)]; rfl

theorem times_put_nil (p : Nat) (v lv : Value) (bits : List Bool) (w : World) (hW : WriterIn w p v bits) (h : Rd w 1 lv 0 []) :
    Calls Tryz.prog 29 #[.pointer (some ⟨p, 0, none⟩), lv] w fun e w' => e = .returned (.int .i64 0) ∧ BitsPost p v bits w w' := by
  have HW := Lib.hid hW
  clear hW
  obtain ⟨q, c, hv⟩ := h.shape
  subst hv
  go_enter Tryz.func29, Tryz.ntmps29
  go_wp2_with fail
  go_ret
  refine ⟨rfl, v, HW.out.below ((Below.refl _ _).alloc (Nat.le_refl _) _), ?_⟩
  exact ⟨Mods.alloc _ _ _, Fresh.refl _ _⟩

theorem times_put_nilw (w : World) : Calls Tryz.prog 29 #[.pointer none, .slice none 0 0] w fun e w' => e = .returned (.int .i64 1) ∧ Below w.heap.size w w' := by
  go_enter Tryz.func29, Tryz.ntmps29
  go_wp2_with fail
  go_ret
  exact ⟨rfl, (Below.refl _ _).alloc (Nat.le_refl _) _⟩

set_option maxRecDepth 100000 in
set_option maxHeartbeats 2000000 in
theorem times_put_cons (p : Nat) (v lv : Value) (bits : List Bool) (ls : List Int) (t0 : Int) (tl : List Int) (els : ls = t0 :: tl) (w : World) (hT : TabF w) (hW : WriterIn w p v bits) (hgp : 0 + 1 ≤ p) (hgv : ∀ k, v.ownBlock = some k → 0 + 1 ≤ k)
    (hl : Rd w 1 lv ls.length (i64s ls)) (hap : ∀ k, lv.ownBlock = some k → k ≠ p ∧ v.ownBlock ≠ some k) (hz : bits.length + 68 * ls.length ≤ 70368744177000) :
    Calls Tryz.prog 29 #[.pointer (some ⟨p, 0, none⟩), lv] w fun e w' => e = .returned (.int .i64 0) ∧ BitsPost p v (bits ++ encT ls) w w' := by
  have HLT := Lib.hid (i64s_lt hl)
  obtain ⟨b0, off, c, e, _, _, hcl⟩ := hl.at (by rw [els]; simp [i64s])
  subst e
  have HL := Lib.hid hl; have HT := Lib.hid hT; have HEL := Lib.hid els; have HW := Lib.hid hW
  have hne : (ls.length : Int) ≠ 0 := by rw [els]; simp only [List.length_cons]; omega
  have hpos : (0 : Int) < (ls.length : Int) := by omega
  have hnb : ((ls.length : Int) == 0) = false := by rw [beq_eq_false_iff_ne]; exact hne
  have HZ : Hid (bits.length + 68 * (changesT t0 0 tl).length + 68 ≤ 70368744177000) := by show _ ≤ _; rw [changesT_length]; rw [els, List.length_cons] at hz; omega
  have hc0 : w.cell? ⟨b0, off, none⟩ = some (.int .i64 t0) := by have := hcl 0 (.int .i64 t0) (by rw [els]; rfl); simpa using this
  have HAp : Hid (b0 ≠ p ∧ v.ownBlock ≠ some b0 ∧ b0 < w.heap.size) := ⟨(hap b0 rfl).1, (hap b0 rfl).2, World.block_lt_of_cell? w _ hc0⟩
  have HG : Hid (0 + 1 ≤ p ∧ ∀ k, v.ownBlock = some k → 0 + 1 ≤ k) := ⟨hgp, hgv⟩
  have hwr := wrap_ofI t0
  clear hl hT els hz hcl hW hap hgp hgv
  refine (callsIn_wide (n := 9)).1 ?_
  refine callsIn_of_wp_marks Tryz.func29 rfl trivial ?_ rfl
  simp only [Tryz.ntmps29, List.size_toArray, List.length_cons, List.length_nil, Nat.reduceAdd, Nat.reduceSub, Array.replicate_succ, Array.replicate_zero, List.push_toArray, List.append_toArray, List.nil_append, List.cons_append]
  gi_wp2_with fail
  obtain ⟨w1, hw1⟩ : ∃ w1, w.alloc (.cells #[.pointer (some ⟨p, 0, none⟩)] 64) = w1 := ⟨_, rfl⟩
  have hs1 : w1.heap.size = w.heap.size + 1 := by rw [← hw1]; simp
  have hB1 : Below w.heap.size w w1 := by rw [← hw1]; exact (Below.refl _ w).alloc (Nat.le_refl _) _
  have hx1 : Blk w1 w.heap.size [.pointer (some ⟨p, 0, none⟩)] := by rw [← hw1]; exact Blk.new w _ _
  rw [hw1]
  clear hw1
  have hW1 := HW.out.below hB1
  have HPl : Hid (p < w.heap.size ∧ ∀ k, v.ownBlock = some k → k < w.heap.size) := ⟨HW.out.blk.lt, owns_lt HW.out.own⟩
  have HWB := Lib.hid (wbits p v bits (ofI t0) 64 w1.drew (hW1.mods (Mods.drew (fun _ => False) w1) (fun e => e) (fun _ _ e => e)) (by omega) (by have := HZ.out; omega))
  have d0 : w1.cell? ⟨w.heap.size, 0, none⟩ = some (.pointer (some ⟨p, 0, none⟩)) := by rw [hx1.cell]; rfl
  have d1 : w1.cell? ⟨b0, off, none⟩ = some (.int .i64 t0) := (hB1.cell HAp.out.2.2).trans hc0
  have HD1 := Lib.hid d1
  have HX1 := Lib.hid hx1; have HS1 := Lib.hid hs1; have HB1 := Lib.hid hB1
  have HC : Hid (∀ w' : World, (w'.cell? ⟨w.heap.size, 0, none⟩ = some (.pointer (some ⟨p, 0, none⟩)) ∧ w'.cell? ⟨b0, off, none⟩ = some (.int .i64 t0) ∧ True) → (w'.cell? ⟨w.heap.size, 0, none⟩ = some (.pointer (some ⟨p, 0, none⟩)) ∧ w'.cell? ⟨b0, off, none⟩ = some (.int .i64 t0) ∧ True)) := fun _ h => h
  clear hW1 hx1 hs1 hB1 hc0
  refine wpIn_wide.2 (wp_normal ?_)
  have hposN : 0 < ls.length := by omega
  refine wp_region_takeH (fun w' : World => w'.cell? ⟨w.heap.size, 0, none⟩ = some (.pointer (some ⟨p, 0, none⟩)) ∧ w'.cell? ⟨b0, off, none⟩ = some (.int .i64 t0) ∧ True) [5] [0, 1, 2, 3, 4, 5] (by kernel_rfl) (by kernel_rfl) (by kernel_rfl) ?_ ?_ ?_
  · intro c a a' w hd h; cases h.1
  · exact ⟨d0, d1, trivial⟩
  clear d0 d1
  simp only [taken, List.map_cons, List.map_nil, List.getElem?_cons_succ, List.getElem?_cons_zero, Option.getD_some]
  repeat (first
        | (refine takeH_skip rfl ?_; simp only [Act.put, List.setIfInBounds_toArray, List.set_cons_succ, List.set_cons_zero])
        | (refine takeH_blind rfl rfl ?_; apply Exists.intro; refine ⟨fun w => ?_, ?_⟩; (go_simp; try with_reducible rfl); simp only [Act.put, List.setIfInBounds_toArray, List.set_cons_succ, List.set_cons_zero])
        | (refine takeH_reads rfl rfl ?_; apply Exists.intro; refine ⟨fun w' hS => ?_, ?_⟩; (obtain ⟨d0, d1, d2⟩ := HC.out w' hS; go_simp; try with_reducible rfl); simp only [Act.put, List.setIfInBounds_toArray, List.set_cons_succ, List.set_cons_zero]))
  refine takeH_call rfl rfl (fun K' hK => ?_)
  go_wp2_with fail
  refine HWB.out.mono ?_
  rintro e w2 ⟨rfl, v2, hW2, hU2⟩
  have HU2 : Hid (Upd w1 w2 p v v2) := ⟨(Mods.drew (fun k => k = p ∨ v.ownBlock = some k) w1).trans hU2.mods (fun _ _ e => e), hU2.fresh⟩
  have HW2 := Lib.hid hW2
  have hxb : ¬ (w.heap.size = p ∨ v.ownBlock = some w.heap.size) := fun e => by
    rcases e with e | e
    · have := HPl.out.1; omega
    · have := HPl.out.2 _ e; omega
  have HX2 := Lib.hid (HU2.out.mods.blk HX1.out hxb)
  have HT2 : Hid (TabF w2) := (HT.out.below HB1.out (Nat.le_refl _)).block (HU2.out.mods.block _ (by have := HT.out.lt; have := HS1.out; omega) (fun e => by
    rcases e with e | e
    · have := HG.out.1; omega
    · have := HG.out.2 _ e; omega))
  have hlb : ∀ k, (Value.slice (some ⟨b0, off, none⟩) ls.length c).ownBlock = some k → ¬ (k = p ∨ v.ownBlock = some k) := fun k hk e => by
    obtain rfl : b0 = k := by simpa [Value.ownBlock] using hk
    rcases e with e | e
    · exact HAp.out.1 e
    · exact HAp.out.2.1 e
  have HL2 := Lib.hid ((HL.out.below HB1.out).mods HU2.out.mods hlb)
  refine hK _ _ ⟨by rw [HX2.out.cell]; rfl, ?_, trivial⟩ ?_
  · exact HU2.out.mods.cell HD1.out (hlb b0 rfl)
  clear hK K' hW2 hU2 HWB hxb hlb
  refine takeH_nil ⟨rfl, ?_⟩
  gi_wp2_with (refine ⟨trivial, ?_⟩; gi_at_call 58; refine (new_changes _ _ c _ _).mono ?_; rintro e w' ⟨rfl, rfl⟩)
  obtain ⟨W0, hW0⟩ : ∃ W0, w2.alloc (.cells #[.slice (some ⟨b0, off, none⟩) ls.length c] 61) = W0 := ⟨_, rfl⟩
  have hs0 : W0.heap.size = w2.heap.size + 1 := by rw [← hW0]; simp
  have hB0 : Below w2.heap.size w2 W0 := by rw [← hW0]; exact (Below.refl _ w2).alloc (Nat.le_refl _) _
  have hx0 : W0.cell? ⟨w2.heap.size, 0, none⟩ = some (.slice (some ⟨b0, off, none⟩) ls.length c) := by
    have := (Blk.new w2 #[.slice (some ⟨b0, off, none⟩) ls.length c] 61).cell 0
    rw [hW0] at this
    simpa using this
  rw [hW0]
  clear hW0
  have HX0 := Lib.hid (HX2.out.of_same (hB0.block _ HX2.out.lt))
  have HT0 := Lib.hid (HT2.out.below hB0 (Nat.le_refl _))
  have HW0 := Lib.hid (HW2.out.below hB0)
  have HP2 : Hid (p < w2.heap.size ∧ (∀ k, v2.ownBlock = some k → k < w2.heap.size) ∧ w1.heap.size ≤ w2.heap.size) := ⟨HW2.out.blk.lt, owns_lt HW2.out.own, HU2.out.mods.size⟩
  have HV2 : Hid (∀ k, v2.ownBlock = some k → v.ownBlock = some k ∨ w1.heap.size ≤ k) := fun k hk => HU2.out.fresh k hk
  have HKW : Hid (∀ k, (k = w2.heap.size ∨ (Value.slice (some ⟨b0, off, none⟩) ls.length c).ownBlock = some k) → k ≠ p ∧ v2.ownBlock ≠ some k ∧ k < W0.heap.size) := fun k hk => by
    have h1 := HP2.out.1; have h2 := HPl.out.1; have h3 := HS1.out; have h4 := HP2.out.2.2; have h5 := HAp.out
    rcases hk with e | e
    · exact ⟨by omega, fun e2 => by have := HP2.out.2.1 k e2; omega, by omega⟩
    · obtain rfl : b0 = k := by simpa [Value.ownBlock] using e
      refine ⟨h5.1, fun e2 => ?_, by omega⟩
      rcases HV2.out b0 e2 with e3 | e3
      · exact h5.2.1 e3
      · omega
  have HXn : Hid (¬ (w.heap.size = p ∨ v2.ownBlock = some w.heap.size)) := fun e => by
    have h1 := HPl.out.1; have h3 := HS1.out
    rcases e with e | e
    · omega
    · rcases HV2.out _ e with e3 | e3
      · have := HPl.out.2 _ e3; omega
      · omega
  have HGn : Hid (¬ (0 = p ∨ v2.ownBlock = some 0)) := fun e => by
    have h1 := HG.out.1; have h3 := HS1.out; have h4 := HT.out.lt
    rcases e with e | e
    · omega
    · rcases HV2.out _ e with e3 | e3
      · have := HG.out.2 _ e3; omega
      · omega
  have HGV := Lib.hid (changes_gives 8 (by omega) w2.heap.size _ ls t0 tl HEL.out W0 hx0 (HL2.out.below hB0))
  have HS0 := Lib.hid hs0; have HB0 := Lib.hid hB0
  clear hx0 hs0 hB0
  obtain ⟨K, hK⟩ : ∃ K : Nat → Prop, (fun k => k = w2.heap.size ∨ (Value.slice (some ⟨b0, off, none⟩) ls.length c).ownBlock = some k) = K := ⟨_, rfl⟩
  have HKW2 : Hid (∀ k, K k → k ≠ p ∧ v2.ownBlock ≠ some k ∧ k < W0.heap.size) := by rw [← hK]; exact HKW.out
  rw [hK] at HGV
  clear hK HKW
  obtain ⟨ys, hys⟩ : ∃ ys, changesT t0 0 tl = ys := ⟨_, rfl⟩
  have HE : Hid (bits ++ encT ls = (bits ++ fieldBits (ofI t0) 64) ++ ys.flatMap encX) := by show _ = _; rw [HEL.out, encT_changes, hys, List.append_assoc]
  have HO : Hid ((bits ++ fieldBits (ofI t0) 64).length = bits.length + 64) := by show _ = _; rw [List.length_append, fieldBits_length]
  rw [hys] at HGV HZ
  clear hys
  generalize bits ++ fieldBits (ofI t0) 64 = out0 at *
  refine wpIn_rangeFunc_ownG rfl (by omega) (gf := 95) (lb := #[.pointer (some ⟨w2.heap.size, 0, none⟩)]) rfl trivial (enters_of Tryz.func95 (by kernel_rfl) rfl)
    HGV.out (fun h k => keepAt_t h k) (fun W l o o' h1 h2 h3 h4 => keepAt_b (fun k hk => (HKW2.out k hk).2.2) W l o o' h1 h2 h3 h4) (Below.refl _ _) (fun _ => rfl)
    (fun pre W => PutIn p v2 W0 (out0 ++ pre.flatMap encX) W)
    (fun _ _ _ => False)
    (putIn_own (Nat.le_refl _) p v2 (fun pre : List Int => out0 ++ pre.flatMap encX))
    (fun _ _ _ _ _ hs _ _ => hs)
    ⟨v2, by simpa using HW0.out, Upd.refl _ _ _⟩
    (fun x => { tmps := #[.pointer (some ⟨p, 0, none⟩), .slice (some ⟨b0, off, none⟩) ls.length c, .pointer (some ⟨w.heap.size, 0, none⟩), undef, .int .i64 0, .int .i64 x, undef, .pointer (some ⟨p, 0, none⟩), .bool false, .slice (some ⟨b0, off, none⟩) ls.length c, .int .i64 (ls.length : Int), .bool false, .pointer (some ⟨p, 0, none⟩), .slice (some ⟨b0, off, none⟩) ls.length c, .pointer (some ⟨b0, off, none⟩), .int .i64 t0, .int .u64 (ofI t0 : Int), .int .i64 0, .slice (some ⟨b0, off, none⟩) ls.length c, .func (.func 95) #[] #[.pointer (some ⟨w2.heap.size, 0, none⟩)], .int .i64 x, undef, undef, undef, undef, undef, undef, undef, undef, undef, undef, undef, undef, undef, undef], defers := [] }) ?assign ?body ?done ?stop
  case assign =>
    intro l x W K hK
    simp only [List.zip_toArray, List.zip_cons_cons, List.zip_nil_right, List.foldl_toArray, List.foldl_cons, List.foldl_nil, List.setIfInBounds_toArray, List.set_cons_zero, List.set_cons_succ]
    gi_wp2
    exact hK
  case body =>
    rintro l pre x W ⟨v', hW', hU'⟩ hlen
    have HTW := Lib.hid (HT0.out.block (hU'.mods.block _ HT0.out.lt HGn.out))
    have HXW := Lib.hid (hU'.mods.blk HX0.out HXn.out)
    have HF := Lib.hid (formOf_cells x W HTW.out)
    have h1 := markLen_le (formT x)
    have h2 := widthT_le (formT x)
    have HEx := Lib.hid (encX_mark x)
    have hwx := wrap_ofI x
    have HZ2 : Hid ((out0 ++ pre.flatMap encX).length + 136 ≤ 1125899906842624) := by show _ ≤ _; have := encX_all pre; have := HZ.out; have := HO.out; rw [List.length_append]; omega
    have HW' := Lib.hid hW'; have HU' := Lib.hid hU'
    have HPre : Hid (out0 ++ (pre ++ [x]).flatMap encX = (out0 ++ pre.flatMap encX) ++ encX x) := by show _ = _; rw [List.flatMap_append, List.flatMap_cons, List.flatMap_nil, List.append_nil, List.append_assoc]
    clear hW' hU'
    generalize encX x = EX at *
    generalize markT (formT x) = m1 at *
    generalize markLenT (formT x) = m2 at *
    generalize widthT (formT x) = m3 at *
    generalize ofI x = ux at *
    have HPw : Hid (p < W.heap.size ∧ (∀ k, v'.ownBlock = some k → k < W.heap.size) ∧ W0.heap.size ≤ W.heap.size) := ⟨HW'.out.blk.lt, owns_lt HW'.out.own, HU'.out.mods.size⟩
    have HXl : Hid (w.heap.size < W.heap.size) := HXW.out.lt
    have HXv : Hid (¬ (w.heap.size = p ∨ v'.ownBlock = some w.heap.size)) := fun e => by
      rcases e with e | e
      · exact HXn.out (Or.inl e)
      · rcases HU'.out.fresh _ e with e2 | e2
        · exact HXn.out (Or.inr e2)
        · have := HX0.out.lt; omega
    gi_wp2_with fail
    refine ⟨trivial, (CallsIn.inRound l (callsIn_wide.2 HF.out)).mono ?_⟩
    rintro e w3 ⟨rfl, hB3⟩
    have hW4 := HW'.out.below (hB3.trans (((Below.refl _ w3).alloc (Nat.le_refl _) (.cells #[.int .u64 (m1 : Int), .int .i64 (m2 : Int), .int .i64 (m3 : Int)] 104)).mono hB3.size))
    have HWB4 := Lib.hid (wbits p v' _ m1 m2 _ hW4 (by omega) (by have := HZ2.out; omega))
    have hx3 := HXW.out.of_same (hB3.block _ HXW.out.lt)
    have c0 : w3.cell? ⟨w.heap.size, 0, none⟩ = some (.pointer (some ⟨p, 0, none⟩)) := by rw [hx3.cell]; rfl
    have hlt3 := hx3.lt
    have HX4 : Hid (Blk (w3.alloc (.cells #[.int .u64 (m1 : Int), .int .i64 (m2 : Int), .int .i64 (m3 : Int)] 104)) w.heap.size [.pointer (some ⟨p, 0, none⟩)]) := hx3.alloc _
    have HF4 : Hid (Blk (w3.alloc (.cells #[.int .u64 (m1 : Int), .int .i64 (m2 : Int), .int .i64 (m3 : Int)] 104)) w3.heap.size [.int .u64 (m1 : Int), .int .i64 (m2 : Int), .int .i64 (m3 : Int)]) := Blk.new w3 _ _
    have HFl : Hid (¬ (w3.heap.size = p ∨ v'.ownBlock = some w3.heap.size)) := fun e => by
      have h1 := HPw.out; have h2 := hB3.size
      rcases e with e | e
      · omega
      · have := h1.2.1 _ e; omega
    have HM4 : Hid (Mods (fun k => k = p ∨ v'.ownBlock = some k) W (w3.alloc (.cells #[.int .u64 (m1 : Int), .int .i64 (m2 : Int), .int .i64 (m3 : Int)] 104))) := (Mods.of_below hB3 _).trans (Mods.alloc _ _ _) (fun _ _ e => e)
    clear hB3 hW4 hx3 HF
    gi_wp2_with fail
    refine ⟨trivial, (CallsIn.inRound l (callsIn_wide.2 HWB4.out)).mono ?_⟩
    rintro e w5 ⟨rfl, v5, hW5, hU5⟩
    have hx5 := hU5.mods.blk HX4.out HXv.out
    have hf5 := hU5.mods.blk HF4.out HFl.out
    have c5 : w5.cell? ⟨w.heap.size, 0, none⟩ = some (.pointer (some ⟨p, 0, none⟩)) := by rw [hx5.cell]; rfl
    have d5 : w5.cell? ⟨w3.heap.size, 2, none⟩ = some (.int .i64 (m3 : Int)) := by rw [hf5.cell]; rfl
    have HWB5 := Lib.hid (wbits p v5 _ ux m3 _ hW5 (by omega) (by have := HZ2.out; rw [List.length_append, fieldBits_length]; omega))
    have HU5 := Lib.hid hU5
    clear hx5 hf5 hU5 hW5 HWB4 c0
    gi_wp2_with fail
    refine ⟨trivial, (CallsIn.inRound l (callsIn_wide.2 HWB5.out)).mono ?_⟩
    rintro e w6 ⟨rfl, v6, hW6, hU6⟩
    have hU : Upd W w6 p v' v6 := Upd.trans (⟨HM4.out, Fresh.refl _ _⟩ : Upd W (w3.alloc (.cells #[.int .u64 (m1 : Int), .int .i64 (m2 : Int), .int .i64 (m3 : Int)] 104)) p v' v') (HU5.out.trans hU6)
    have HUf := Lib.hid hU; have HWf := Lib.hid hW6
    clear hU hW6 hU6 HWB5 HU5 HM4 HX4 HF4
    gi_wp2_with fail
    refine ⟨(putIn_keeps HW'.out HUf.out.mods).from _, fun k hk => ?_, v6, ?_, HU'.out.trans HUf.out⟩
    · have h1 := HKW2.out k hk
      refine HUf.out.mods.block k (by have := HPw.out.2.2; omega) (fun e => ?_)
      rcases e with e | e
      · exact h1.1 e
      · rcases HU'.out.fresh k e with e2 | e2
        · exact h1.2.1 e2
        · omega
    · have h := HWf.out
      rw [List.append_assoc] at h
      rw [HPre.out, HEx.out]
      exact h
  case done =>
    rintro D zs W hD rfl hI hK
    have HI := Lib.hid hI
    clear hI HGV
    gi_wp2
    refine ⟨by simp, .inl ⟨_, _, rfl, run_takeDeferred hK, ?_⟩⟩
    refine ⟨_, results_tmp rfl _ _ _, rfl, ?_⟩
    obtain ⟨v', hW', hU'⟩ := putIn_own (β := Unit) (Nat.le_refl W0.heap.size) p v2 (fun _ => out0 ++ zs.flatMap encX) () W (W.putObj D (.deferred none)) (some D) HI.out (grownBy_putObj' _ _ _) (fun r e => by cases e; exact ⟨hD, _, hK, rfl⟩)
    have u1 : Upd w w1 p v v := ⟨Mods.of_below HB1.out _, Fresh.refl _ _⟩
    have u2 : Upd w2 W0 p v2 v2 := ⟨Mods.of_below HB0.out _, Fresh.refl _ _⟩
    rw [HE.out]
    exact ⟨v', hW', u1.trans (HU2.out.trans (u2.trans hU'))⟩
  case stop =>
    rintro D c pre W _ _ h _
    exact h.elim
end Go.Proofs.YtgpmoimmpbkgfaaGreatDoor

end

section
/- Layer 5: the reading of times, step by step. No program in sight. -/
namespace Go.Proofs.YtgpmoimmpbkgfaaGreatDoor
open Go.RowKit

/-- What has been read, ahead of what is still to be read. -/
def ext (acc : List Int) (s : Res (List Int)) : Res (List Int) := if s.e ≠ 0 then ⟨s.e, [], s.r⟩ else ⟨0, acc ++ s.x, s.r⟩
def GetAt (n : Nat) (bs : List Bool) (j : Nat) (acc : List Int) (d : Int) (bits : List Bool) : Prop :=
  (j = 0 ∧ acc = [] ∧ d = 0 ∧ bits = bs) ∨ ∃ k last, j = k + 1 ∧ acc.length = j ∧ acc[k]? = some last ∧ decT n bs = ext acc (decFrom (n - j) last d bits)

theorem getAt_first_eof {n : Nat} {bs : List Bool} (hn : 0 < n) (h : bs.length < 64) : decT n bs = ⟨3, [], bs⟩ := by
  obtain ⟨m, rfl⟩ : ∃ m, n = m + 1 := ⟨n - 1, by omega⟩
  have hf : field 64 bs = ⟨3, 0, bs⟩ := by rw [field, if_pos h]
  rw [decT, hf]; rfl
theorem getAt_first {n : Nat} {bs : List Bool} (hn : 0 < n) (h : ¬ bs.length < 64) : GetAt n bs 1 [toI (numOf (bs.take 64))] 0 (bs.drop 64) := by
  obtain ⟨m, rfl⟩ : ∃ m, n = m + 1 := ⟨n - 1, by omega⟩
  have hf : field 64 bs = ⟨0, numOf (bs.take 64), bs.drop 64⟩ := by rw [field, if_neg h]
  refine Or.inr ⟨0, _, rfl, rfl, rfl, ?_⟩
  rw [decT, hf]
  simp only [ne_eq, not_true_eq_false, if_false]
  rfl
theorem getAt_bad {n j : Nat} {bs bits : List Bool} {acc : List Int} {d last : Int} (hj : j < n) (h : decT n bs = ext acc (decFrom (n - j) last d bits)) {e : Nat} {r : List Bool} (he : e ≠ 0) (hx : decX bits = ⟨e, 0, r⟩) : decT n bs = ⟨e, [], r⟩ := by
  obtain ⟨m, hm⟩ : ∃ m, n - j = m + 1 := ⟨n - j - 1, by omega⟩
  rw [h, hm, decFrom, hx]
  simp only [ne_eq, he, not_false_eq_true, if_true, ext]
theorem getAt_next {n j : Nat} {bs bits : List Bool} {acc : List Int} {d last : Int} (hj : j < n) (hl : acc.length = j) (h : decT n bs = ext acc (decFrom (n - j) last d bits)) {x : Int} {r : List Bool} (hx : decX bits = ⟨0, x, r⟩) :
    GetAt n bs (j + 1) (acc ++ [wrap64 (last + wrap64 (d + x))]) (wrap64 (d + x)) r := by
  obtain ⟨m, hm⟩ : ∃ m, n - j = m + 1 := ⟨n - j - 1, by omega⟩
  have hm' : n - (j + 1) = m := by omega
  refine Or.inr ⟨j, wrap64 (last + wrap64 (d + x)), rfl, by simp [hl], by rw [List.getElem?_append_right (by omega), hl]; simp, ?_⟩
  rw [h, hm, hm', decFrom, hx]
  generalize wrap64 (last + wrap64 (d + x)) = t
  generalize wrap64 (d + x) = d'
  simp only [ne_eq, not_true_eq_false, if_false, ext]
  by_cases he : (decFrom m t d' r).e = 0
  · simp only [he, not_true_eq_false, if_false, List.append_assoc, List.cons_append, List.nil_append]
  · simp only [he, not_false_eq_true, if_true]
theorem getAt_done {n : Nat} {bs bits : List Bool} {acc : List Int} {d : Int} (h : GetAt n bs n acc d bits) : decT n bs = ⟨0, acc, bits⟩ := by
  rcases h with ⟨rfl, rfl, _, rfl⟩ | ⟨k, last, _, _, _, h⟩
  · rfl
  · rw [h, Nat.sub_self, decFrom]
    simp [ext]
theorem decX_of {b r : List Bool} {K : Nat} (h : ones 4 b = ⟨0, K, r⟩) : decX b = if (field (widthT K) r).e ≠ 0 then ⟨(field (widthT K) r).e, 0, (field (widthT K) r).r⟩ else
    if formT (signT (field (widthT K) r).x (widthT K)) ≠ K then ⟨8, 0, (field (widthT K) r).r⟩ else ⟨0, signT (field (widthT K) r).x (widthT K), (field (widthT K) r).r⟩ := by
  simp only [decX, h, ne_eq, not_true_eq_false, if_false]
theorem decX_bad {b r : List Bool} {e K : Nat} (he : e ≠ 0) (h : ones 4 b = ⟨e, K, r⟩) : decX b = ⟨e, 0, r⟩ := by
  simp only [decX, h, ne_eq, he, not_false_eq_true, if_true]
theorem decX_eof {b r : List Bool} {K : Nat} (h : ones 4 b = ⟨0, K, r⟩) (hl : r.length < widthT K) : decX b = ⟨3, 0, r⟩ := by
  rw [decX_of h, field, if_pos hl]; rfl
theorem decX_wrong {b r : List Bool} {K : Nat} (h : ones 4 b = ⟨0, K, r⟩) (hl : ¬ r.length < widthT K) (hf : formT (signT (numOf (r.take (widthT K))) (widthT K)) ≠ K) : decX b = ⟨8, 0, r.drop (widthT K)⟩ := by
  rw [decX_of h, field, if_neg hl]
  simp only [ne_eq, not_true_eq_false, if_false]
  rw [if_pos hf]
theorem decX_right {b r : List Bool} {K : Nat} (h : ones 4 b = ⟨0, K, r⟩) (hl : ¬ r.length < widthT K) (hf : formT (signT (numOf (r.take (widthT K))) (widthT K)) = K) : decX b = ⟨0, signT (numOf (r.take (widthT K))) (widthT K), r.drop (widthT K)⟩ := by
  rw [decX_of h, field, if_neg hl]
  simp only [ne_eq, not_true_eq_false, if_false]
  rw [if_neg (fun h => h hf)]
/-- A zero of no bits. -/
theorem decX_zero {b r : List Bool} (h : ones 4 b = ⟨0, 0, r⟩) : decX b = ⟨0, 0, r⟩ := by
  have h1 := decX_right h (Nat.not_lt_zero _) (show formT (signT (numOf []) 0) = 0 by decide)
  exact h1

/-- Ones read so far. -/
def OnesAt (b : List Bool) (k : Nat) (c : List Bool) : Prop := ones 4 b = ⟨(ones (4 - k) c).e, k + (ones (4 - k) c).x, (ones (4 - k) c).r⟩
theorem onesAt_zero (b : List Bool) : OnesAt b 0 b := by show ones 4 b = ⟨_, 0 + _, _⟩; rw [Nat.zero_add]
theorem onesAt_eof {b : List Bool} {k : Nat} (hk : k < 4) (h : OnesAt b k []) : decX b = ⟨3, 0, []⟩ := by
  obtain ⟨m, hm⟩ : ∃ m, 4 - k = m + 1 := ⟨3 - k, by omega⟩
  rw [OnesAt, hm] at h
  exact decX_bad (by decide) h
theorem onesAt_stop {b c : List Bool} {k : Nat} (hk : k < 4) (h : OnesAt b k (false :: c)) : ones 4 b = ⟨0, k, c⟩ := by
  obtain ⟨m, hm⟩ : ∃ m, 4 - k = m + 1 := ⟨3 - k, by omega⟩
  rw [OnesAt, hm] at h
  exact h
theorem onesAt_next {b c : List Bool} {k : Nat} (hk : k < 4) (h : OnesAt b k (true :: c)) : OnesAt b (k + 1) c := by
  obtain ⟨m, hm⟩ : ∃ m, 4 - k = m + 1 := ⟨3 - k, by omega⟩
  rw [OnesAt, hm] at h
  rw [OnesAt, h, show 4 - (k + 1) = m by omega, ones]
  simp only [Res.mk.injEq, true_and, and_true]
  omega
theorem onesAt_four {b c : List Bool} (h : OnesAt b 4 c) : ones 4 b = ⟨0, 4, c⟩ := h
end Go.Proofs.YtgpmoimmpbkgfaaGreatDoor

end

section
/- A reader as the bits that are left. -/
set_option linter.unusedVariables false
namespace Go.Proofs.YtgpmoimmpbkgfaaGreatDoor
open Go Go.RowKit

/-- A reader of bs that has the bits r left. -/
def RIs (p : Nat) (v : Value) (bs : List Nat) (r : List Bool) (w : World) : Prop := ReaderIn w p v (8 * bs.length - r.length) bs ∧ r = (unpack bs).drop (8 * bs.length - r.length)
theorem ris_of {p : Nat} {v : Value} {bs : List Nat} {i : Nat} {w : World} (h : ReaderIn w p v i bs) : RIs p v bs ((unpack bs).drop i) w := by
  have hle := h.le
  have e : 8 * bs.length - ((unpack bs).drop i).length = i := by rw [List.length_drop, unpack_length]; omega
  unfold RIs
  rw [e]
  exact ⟨h, rfl⟩
theorem RIs.len {p : Nat} {v : Value} {bs : List Nat} {r : List Bool} {w : World} (h : RIs p v bs r w) : r.length ≤ 8 * bs.length := by
  have := congrArg List.length h.2
  rw [List.length_drop, unpack_length] at this
  omega
theorem RIs.mods {S : Nat → Prop} {p : Nat} {v : Value} {bs : List Nat} {r : List Bool} {w w' : World} (h : RIs p v bs r w) (hm : Mods S w w') (hp : ¬ S p) (hv : ∀ k, v.ownBlock = some k → ¬ S k) : RIs p v bs r w' := ⟨h.1.mods hm hp hv, h.2⟩
theorem RIs.below {p : Nat} {v : Value} {bs : List Nat} {r : List Bool} {w w' : World} (h : RIs p v bs r w) (hb : Below w.heap.size w w') : RIs p v bs r w' := h.mods (Mods.of_below hb (fun _ => False)) (fun e => e) (fun _ _ e => e)
/-- What a read leaves. -/
def RP (p : Nat) (v : Value) (bs : List Nat) (r : List Bool) (w w' : World) : Prop := RIs p v bs r w' ∧ Mods (fun k => k = p) w w'

theorem rfield (p : Nat) (v : Value) (bs : List Nat) (r : List Bool) (n : Nat) (w : World) (h : RIs p v bs r w) (hn : n ≤ 64) :
    Calls Tryz.prog 63 #[.pointer (some ⟨p, 0, none⟩), .int .i64 (n : Int)] w fun e w' => e = .returned (.tuple #[.int .u64 ((field n r).x : Int), .int .i64 ((field n r).e : Int)]) ∧ RP p v bs (field n r).r w w' := by
  have hl := h.len
  by_cases hs : r.length < n
  · have hf : field n r = ⟨3, 0, r⟩ := by rw [field, if_pos hs]
    rw [hf]
    refine (rbits_eof p v _ n bs w h.1 hn (by omega)).mono ?_
    rintro e w' ⟨rfl, d, rfl⟩
    exact ⟨rfl, ⟨h.1.drewN d, h.2⟩, Mods.drewN _ _ _⟩
  · have hf : field n r = ⟨0, numOf (r.take n), r.drop n⟩ := by rw [field, if_neg hs]
    rw [hf]
    refine (rbits p v _ n bs w h.1 hn (by omega)).mono ?_
    rintro e w' ⟨rfl, hp⟩
    have he : 8 * bs.length - (r.drop n).length = 8 * bs.length - r.length + n := by rw [List.length_drop]; omega
    refine ⟨?_, ⟨by rw [he]; exact hp.rd, ?_⟩, hp.mods⟩
    · show _ = Ending.returned (.tuple #[.int .u64 ((numOf (r.take n) : Nat) : Int), .int .i64 0])
      rw [seg, ← h.2]
    · rw [he, ← List.drop_drop, ← h.2]

theorem field_lt (n : Nat) (r : List Bool) : (field n r).x < 2 ^ n := by
  rw [field]; split
  · exact Nat.two_pow_pos _
  · have := numOf_lt (r.take n)
    rw [List.length_take, Nat.min_eq_left (by omega)] at this
    exact this

theorem field_one (b : Bool) (c : List Bool) : field 1 (b :: c) = ⟨0, b.toNat, c⟩ := by cases b <;> rfl
theorem field_none : field 1 [] = ⟨3, 0, []⟩ := rfl

theorem rp_trans {p : Nat} {v : Value} {bs : List Nat} {r r' : List Bool} {a b c : World} (h : RP p v bs r a b) (k : RP p v bs r' b c) : RP p v bs r' a c := ⟨k.1, h.2.trans k.2 (fun _ _ e => e)⟩
theorem RP.below {p : Nat} {v : Value} {bs : List Nat} {r : List Bool} {a b c : World} (h : RP p v bs r a b) (k : Below b.heap.size b c) : RP p v bs r a c := ⟨h.1.below k, h.2.trans (Mods.of_below k _) (fun _ _ e => e)⟩
theorem RIs.start {p : Nat} {v : Value} {bs : List Nat} {r : List Bool} {w : World} (h : RIs p v bs r w) : RP p v bs r w w := ⟨h, Mods.refl _ _⟩

theorem rp_more {S : Nat → Prop} {p : Nat} {v : Value} {bs : List Nat} {r0 r : List Bool} {w w2 w3 : World} (h0 : RIs p v bs r0 w) (h : RP p v bs r w w2) (hm : Mods S w2 w3) (hS : ∀ k, S k → w.heap.size ≤ k) : RP p v bs r w w3 := by
  have hlt := h0.1.blk.lt
  have hM : Mods (fun k => k = p) w w3 := h.2.trans hm (fun j hj e => by have := hS j e; omega)
  refine ⟨⟨⟨?_, h0.1.rd.mods hM (fun k hk e => h0.1.ne (by rw [hk, e])), h0.1.ne, h.1.1.le, h0.1.small, h0.1.byte⟩, h.1.2⟩, hM⟩
  exact h.1.1.blk.of_same (hm.block _ h.1.1.blk.lt (fun e => by have := hS p e; omega))
end Go.Proofs.YtgpmoimmpbkgfaaGreatDoor

end

section
/- Layer 5: the program's reading of numbers and forms. -/
set_option linter.unusedVariables false
namespace Go.Proofs.YtgpmoimmpbkgfaaGreatDoor
open Go Go.RowKit

theorem get_number (p : Nat) (v : Value) (bs : List Nat) (r : List Bool) (k : Nat) (hk : k ≤ 4) (w : World) (h : RIs p v bs r w) :
    Calls Tryz.prog 64 #[.pointer (some ⟨p, 0, none⟩), .int .i64 (widthT k : Int)] w fun e w' => e = .returned (.tuple #[.int .i64 (signT (field (widthT k) r).x (widthT k)), .int .i64 ((field (widthT k) r).e : Int)]) ∧ RP p v bs (field (widthT k) r).r w w' := by
  have hw := widthT_le k
  have hlt := field_lt (widthT k) r
  have h64 : (field (widthT k) r).x < 18446744073709551616 := Nat.lt_of_lt_of_le hlt (by
    have : 2 ^ widthT k ≤ 2 ^ 64 := Nat.pow_le_pow_right (by omega) hw
    simpa using this)
  have HR := Lib.hid (rfield p v bs r (widthT k) w h hw)
  have HS := fun w => Lib.hid (signed_any (field (widthT k) r).x k hk h64 w)
  have HM : Hid ((field (widthT k) r).x % 2 ^ widthT k = (field (widthT k) r).x) := Nat.mod_eq_of_lt hlt
  rw [HM.out] at HS
  clear h hlt h64 HM
  generalize signT (field (widthT k) r).x (widthT k) = s at *
  generalize (field (widthT k) r).x = x at *
  generalize (field (widthT k) r).e = e0 at *
  go_enter Tryz.func64, Tryz.ntmps64
  go_wp2_with fail
  refine HR.out.mono ?_
  rintro e w2 ⟨rfl, hP⟩
  have HP := Lib.hid hP
  clear hP
  go_wp2_with fail
  refine (HS w2).out.mono ?_
  rintro e w3 ⟨rfl, rfl⟩
  go_wp2_with fail
  go_ret2
  exact ⟨rfl, HP.out⟩

theorem onesAt_short {b : List Bool} {k : Nat} (hk : k < 4) (h : OnesAt b k []) : ∃ K, ones 4 b = ⟨3, K, []⟩ := by
  obtain ⟨m, hm⟩ : ∃ m, 4 - k = m + 1 := ⟨3 - k, by omega⟩
  rw [OnesAt, hm] at h
  exact ⟨_, h⟩
/-- A variable of the call's own is stored into behind the reads. -/
theorem rp_out {p : Nat} {v : Value} {bs : List Nat} {r0 r : List Bool} {w w1 w2 : World} (h0 : RIs p v bs r0 w) (hB : Below w.heap.size w w1) (h : RP p v bs r w1 w2) (hg : w.heap.size ≠ p) (x y z : Value) :
    RP p v bs r w (((w2.setCell ⟨w.heap.size, 0, none⟩ x).setCell ⟨w.heap.size, 1, none⟩ y).setCell ⟨w.heap.size, 2, none⟩ z) := by
  have hM : Mods (fun k => k = p) w (((w2.setCell ⟨w.heap.size, 0, none⟩ x).setCell ⟨w.heap.size, 1, none⟩ y).setCell ⟨w.heap.size, 2, none⟩ z) :=
    ((Mods.of_below hB _).trans h.2 (fun _ _ e => e)).trans (mods_set3 w2 w.heap.size x y z) (fun j hj e => by omega)
  refine ⟨⟨⟨?_, h0.1.rd.mods hM (fun k hk e => h0.1.ne (by rw [hk, e])), h0.1.ne, h.1.1.le, h0.1.small, h0.1.byte⟩, h.1.2⟩, hM⟩
  exact h.1.1.blk.of_same ((mods_set3 w2 w.heap.size x y z).block _ h.1.1.blk.lt (fun e => hg e.symm))

/-- What reading a form gives. -/
def FormR (r : List Bool) (fv : Value) (e : Int) (r' : List Bool) : Prop :=
  (∃ K, K ≤ 4 ∧ ones 4 r = ⟨0, K, r'⟩ ∧ fv = .agg #[.int .u64 (markT K : Int), .int .i64 (markLenT K : Int), .int .i64 (widthT K : Int)] ∧ e = 0) ∨
  (∃ K, ones 4 r = ⟨3, K, r'⟩ ∧ fv = .agg #[.int .u64 0, .int .i64 0, .int .i64 0] ∧ e = 3)

set_option maxHeartbeats 1000000 in
theorem get_form (p : Nat) (v : Value) (bs : List Nat) (r : List Bool) (w : World) (h : RIs p v bs r w) (hT : TabF w) (hgp : 0 ≠ p) :
    Calls Tryz.prog 98 #[.pointer (some ⟨p, 0, none⟩)] w fun e w' => ∃ fv en r', e = .returned (.tuple #[fv, .int .i64 en]) ∧ FormR r fv en r' ∧ RP p v bs r' w w' := by
  have HT := Lib.hid hT; have H := Lib.hid h
  clear hT h
  go_enter Tryz.func98, Tryz.ntmps98
  go_wp2_with fail
  obtain ⟨w1, hw1⟩ : ∃ w1, w.alloc (.cells #[.int .u64 0, .int .i64 0, .int .i64 0] 104) = w1 := ⟨_, rfl⟩
  have HK1 : Hid (Blk w1 w.heap.size [.int .u64 0, .int .i64 0, .int .i64 0]) := by rw [← hw1]; exact Blk.new w _ _
  have HB1 : Hid (Below w.heap.size w w1) := by rw [← hw1]; exact (Below.refl _ w).alloc (Nat.le_refl _) _
  have HT1 := Lib.hid (HT.out.below HB1.out (Nat.le_refl _))
  have HR1 := Lib.hid (H.out.below HB1.out)
  have HPl : Hid (w.heap.size ≠ p) := fun e => by have := H.out.1.blk.lt; omega
  rw [hw1]
  clear hw1
  go_loopw [4, 7] (fun i c wr => ∃ (k : Nat) (cur : List Bool), k ≤ 4 ∧ c = .int .i64 (k : Int) ∧ Hid (OnesAt r k cur) ∧ Hid (RP p v bs cur w1 wr)) (fun _ c _ => 4 - (intOf c).toNat)
  case atStart => exact ⟨0, r, by omega, rfl, onesAt_zero _, HR1.out, Mods.refl _ _⟩
  case round =>
    obtain ⟨k, cur, hk4, rfl, HO, HP⟩ := hrel
    have HTr : Hid (TabF wr) := HT1.out.block (HP.out.2.block _ HT1.out.lt hgp)
    have HK2 : Hid (Blk wr w.heap.size [.int .u64 0, .int .i64 0, .int .i64 0]) := HP.out.2.blk HK1.out HPl.out
    by_cases hlt : k < 4
    · have hlt' : (k : Int) < 4 := by omega
      have hlt5 : (k : Int) < 5 := by omega
      have HF := Lib.hid (rfield p v bs cur 1 wr HP.out.1 (by decide))
      cases cur with
      | nil =>
        rw [field_none] at HF
        go_wp2_with fail
        refine HF.out.mono ?_
        rintro e w2 ⟨rfl, hP2⟩
        have HK3 : Hid (Blk w2 w.heap.size [.int .u64 0, .int .i64 0, .int .i64 0]) := hP2.2.blk HK2.out HPl.out
        obtain ⟨⟨c0, c1, c2⟩, f0, f1, f2⟩ := HK3.out.three
        have HP2 := Lib.hid hP2
        clear hP2
        go_wp2_with fail
        obtain ⟨K, hK⟩ := onesAt_short hlt HO.out
        refine bodyPost_ret (resultsS2 (p := 2) (u := 3) strForm (by kernel_rfl) _ w.heap.size rfl _ (HK3.out.set3 _ _ _) rfl) rfl ⟨_, 3, [], rfl, Or.inr ⟨K, hK, rfl, rfl⟩, ?_⟩
        exact rp_out H.out HB1.out ⟨HP2.out.1, HP.out.2.trans HP2.out.2 (fun _ _ e => e)⟩ HPl.out _ _ _
      | cons bit cur =>
        rw [field_one] at HF
        cases bit with
        | false =>
          have HOn := Lib.hid (onesAt_stop hlt HO.out)
          obtain ⟨t0, t1, t2⟩ := HTr.out k (by omega)
          clear t0 t1 t2
          go_wp2_with fail
          refine HF.out.mono ?_
          rintro e w2 ⟨he, hP2⟩
          have he' : e = .returned (.tuple #[.int .u64 0, .int .i64 0]) := he
          subst he'
          have HK3 : Hid (Blk w2 w.heap.size [.int .u64 0, .int .i64 0, .int .i64 0]) := hP2.2.blk HK2.out HPl.out
          have HT3 : Hid (TabF w2) := HTr.out.block (hP2.2.block _ HTr.out.lt hgp)
          obtain ⟨⟨c0, c1, c2⟩, f0, f1, f2⟩ := HK3.out.three
          obtain ⟨t0, t1, t2⟩ := HT3.out k (by omega)
          have HP2 := Lib.hid hP2
          clear hP2 he
          go_wp2_with fail
          refine bodyPost_ret (resultsS2 (p := 2) (u := 3) strForm (by kernel_rfl) _ w.heap.size rfl _ (HK3.out.set3 _ _ _) rfl) rfl ⟨_, 0, cur, rfl, Or.inl ⟨k, by omega, HOn.out, rfl, rfl⟩, ?_⟩
          exact rp_out H.out HB1.out ⟨HP2.out.1, HP.out.2.trans HP2.out.2 (fun _ _ e => e)⟩ HPl.out _ _ _
        | true =>
          go_wp2_with fail
          refine HF.out.mono ?_
          rintro e w2 ⟨he, hP2⟩
          have he' : e = .returned (.tuple #[.int .u64 1, .int .i64 0]) := he
          subst he'
          have HP2 : Hid (RP p v bs cur w1 w2) := ⟨hP2.1, HP.out.2.trans hP2.2 (fun _ _ e => e)⟩
          clear hP2 he HF
          go_wp2_with fail
          go_round
          case rel => exact ⟨k + 1, cur, by omega, by go_num, onesAt_next hlt HO.out, HP2.out⟩
          case measure => simp [intOf]; omega
    · have hlt' : ¬ (k : Int) < 4 := by omega
      have HE : Hid (k = 4) := by show _ = _; omega
      have t0 : wr.cell? ⟨0, 12, none⟩ = some (.int .u64 15) := (HTr.out 4 (by omega)).1
      have t1 : wr.cell? ⟨0, 13, none⟩ = some (.int .i64 4) := (HTr.out 4 (by omega)).2.1
      have t2 : wr.cell? ⟨0, 14, none⟩ = some (.int .i64 64) := (HTr.out 4 (by omega)).2.2
      obtain ⟨⟨c0, c1, c2⟩, f0, f1, f2⟩ := HK2.out.three
      go_wp2_with fail
      refine bodyPost_ret (resultsS2 (p := 2) (u := 3) strForm (by kernel_rfl) _ w.heap.size rfl _ (HK2.out.set3 _ _ _) rfl) rfl ⟨_, 0, rfl, cur, Or.inl ⟨4, by omega, ?_, rfl, rfl⟩, ?_⟩
      · have h4 := HO.out
        rw [HE.out] at h4
        exact onesAt_four h4
      · exact rp_out H.out HB1.out HP.out HPl.out _ _ _
end Go.Proofs.YtgpmoimmpbkgfaaGreatDoor

end

section
/- Layer 5: the program's reading of a number with its form. -/
set_option linter.unusedVariables false
set_option maxRecDepth 100000
namespace Go.Proofs.YtgpmoimmpbkgfaaGreatDoor
open Go Go.RowKit

theorem mark_ne {a b : Nat} (ha : a ≤ 4) (hb : b ≤ 4) (h : a ≠ b) : (markT a : Int) ≠ (markT b : Int) := by
  unfold markT
  split <;> split <;> simp_all <;> omega

set_option maxHeartbeats 1000000 in
theorem get_change (p : Nat) (v : Value) (bs : List Nat) (r : List Bool) (w : World) (h : RIs p v bs r w) (hT : TabF w) (hgp : 0 ≠ p) :
    Calls Tryz.prog 65 #[.pointer (some ⟨p, 0, none⟩)] w fun e w' => e = .returned (.tuple #[.int .i64 (decX r).x, .int .i64 ((decX r).e : Int)]) ∧ RP p v bs (decX r).r w w' := by
  have HT := Lib.hid hT; have H := Lib.hid h
  have HF := Lib.hid (get_form p v bs r w h hT hgp)
  have HDx := Lib.hid (rfl : decX r = decX r)
  generalize hq : decX r = q at *
  have HQ := Lib.hid hq
  clear hT h hq HDx
  go_enter Tryz.func65, Tryz.ntmps65
  go_wp2_with fail
  refine HF.out.mono ?_
  rintro e w2 ⟨fv, en, r', rfl, hfr, hP2⟩
  have HP2 := Lib.hid hP2
  have HT2 : Hid (TabF w2) := HT.out.block (hP2.2.block _ HT.out.lt hgp)
  clear hP2 HF
  rcases hfr with ⟨K, hK4, hones, rfl, rfl⟩ | ⟨K, hones, rfl, rfl⟩
  · have HO := Lib.hid hones
    clear hones
    have hB3 : Below w2.heap.size w2 (w2.alloc (.cells #[.int .u64 (markT K : Int), .int .i64 (markLenT K : Int), .int .i64 (widthT K : Int)] 104)) := (Below.refl _ _).alloc (Nat.le_refl _) _
    have HP3 := Lib.hid (HP2.out.below hB3)
    have HT3 := Lib.hid (HT2.out.below hB3 (Nat.le_refl _))
    have HN := Lib.hid (get_number p v bs r' K hK4 _ HP3.out.1)
    have HB3 : Hid (Blk (w2.alloc (.cells #[.int .u64 (markT K : Int), .int .i64 (markLenT K : Int), .int .i64 (widthT K : Int)] 104)) w2.heap.size [.int .u64 (markT K : Int), .int .i64 (markLenT K : Int), .int .i64 (widthT K : Int)]) := Blk.new w2 _ _
    have HPl : Hid (w2.heap.size ≠ p) := fun e => by have := HP2.out.1.1.blk.lt; omega
    clear hB3
    by_cases hs : r'.length < widthT K
    · have hf : field (widthT K) r' = ⟨3, 0, r'⟩ := by rw [field, if_pos hs]
      have hd := decX_eof HO.out hs
      rw [HQ.out] at hd
      have HD := Lib.hid hd
      rw [hf] at HN
      clear hd hf hs
      go_wp2_with fail
      refine HN.out.mono ?_
      rintro e w4 ⟨rfl, hP4⟩
      have HP4 := Lib.hid (rp_trans HP3.out hP4)
      clear hP4 HN
      go_wp2_with fail
      go_ret2
      rw [HD.out]
      exact ⟨rfl, HP4.out⟩
    · have hf : field (widthT K) r' = ⟨0, numOf (r'.take (widthT K)), r'.drop (widthT K)⟩ := by rw [field, if_neg hs]
      have HDx := Lib.hid (fun h => decX_wrong HO.out hs h)
      have HDr := Lib.hid (fun h => decX_right HO.out hs h)
      rw [HQ.out] at HDx HDr
      rw [hf] at HN
      clear hf hs
      simp only at HN
      obtain ⟨s, hse⟩ : ∃ s, signT (numOf (r'.take (widthT K))) (widthT K) = s := ⟨_, rfl⟩
      rw [hse] at HN HDx HDr
      clear hse
      go_wp2_with fail
      refine HN.out.mono ?_
      rintro e w4 ⟨rfl, hP4⟩
      have HP4 := Lib.hid (rp_trans HP3.out hP4)
      have HB4 : Hid (Blk w4 w2.heap.size [.int .u64 (markT K : Int), .int .i64 (markLenT K : Int), .int .i64 (widthT K : Int)]) := hP4.2.blk HB3.out HPl.out
      have HT4 : Hid (TabF w4) := HT3.out.block (hP4.2.block _ HT3.out.lt hgp)
      have HFo := Lib.hid (formOf_cells s w4.drew (HT4.out.block rfl))
      clear hP4 HN
      go_wp2_with fail
      have HC : Hid (∀ w' : World, (w'.cell? ⟨w2.heap.size, 0, none⟩ = some (.int .u64 (markT K : Int)) ∧ w'.cell? ⟨w2.heap.size, 1, none⟩ = some (.int .i64 (markLenT K : Int)) ∧ w'.cell? ⟨w2.heap.size, 2, none⟩ = some (.int .i64 (widthT K : Int))) → (w'.cell? ⟨w2.heap.size, 0, none⟩ = some (.int .u64 (markT K : Int)) ∧ w'.cell? ⟨w2.heap.size, 1, none⟩ = some (.int .i64 (markLenT K : Int)) ∧ w'.cell? ⟨w2.heap.size, 2, none⟩ = some (.int .i64 (widthT K : Int)))) := fun _ h => h
      refine wp_normal ?_
      refine wp_region_takeH (fun w' : World => w'.cell? ⟨w2.heap.size, 0, none⟩ = some (.int .u64 (markT K : Int)) ∧ w'.cell? ⟨w2.heap.size, 1, none⟩ = some (.int .i64 (markLenT K : Int)) ∧ w'.cell? ⟨w2.heap.size, 2, none⟩ = some (.int .i64 (widthT K : Int))) [1] [0, 2, 1, 3] (by kernel_rfl) (by kernel_rfl) (by kernel_rfl) ?_ ?_ ?_
      · intro c a a' w hd h; cases h.1
      · exact HB4.out.three.1
      simp only [taken, List.map_cons, List.map_nil, List.getElem?_cons_succ, List.getElem?_cons_zero, Option.getD_some]
      repeat (first
        | (refine takeH_skip rfl ?_; simp only [Act.put, List.setIfInBounds_toArray, List.set_cons_succ, List.set_cons_zero])
        | (refine takeH_blind rfl rfl ?_; apply Exists.intro; refine ⟨fun w => ?_, ?_⟩; (go_simp; try with_reducible rfl); simp only [Act.put, List.setIfInBounds_toArray, List.set_cons_succ, List.set_cons_zero])
        | (refine takeH_reads rfl rfl ?_; apply Exists.intro; refine ⟨fun w' hS => ?_, ?_⟩; (obtain ⟨d0, d1, d2⟩ := HC.out w' hS; go_simp; try with_reducible rfl); simp only [Act.put, List.setIfInBounds_toArray, List.set_cons_succ, List.set_cons_zero]))
      refine takeH_call rfl rfl (fun K' hK => ?_)
      go_wp2_with fail
      refine HFo.out.mono ?_
      rintro e w5 ⟨rfl, hB5⟩
      have HP5 := Lib.hid ((show RP p v bs _ w w4.drew from ⟨HP4.out.1.mods (Mods.drew (fun _ => False) w4) (fun e => e) (fun _ _ e => e), HP4.out.2.trans (Mods.drew (fun k => k = p) w4) (fun _ _ e => e)⟩).below hB5)
      have hB4 := HB4.out.of_same (hB5.block _ HB4.out.lt)
      refine hK _ _ hB4.three.1 ?_
      clear hK K' hB5 hB4
      by_cases hk : formT s = K
      · have HD := Lib.hid (HDr.out hk)
        rw [hk]
        clear hk
        repeat (first
        | (refine takeH_skip rfl ?_; simp only [Act.put, List.setIfInBounds_toArray, List.set_cons_succ, List.set_cons_zero])
        | (refine takeH_blind rfl rfl ?_; apply Exists.intro; refine ⟨fun w => ?_, ?_⟩; (go_simp; try with_reducible rfl); simp only [Act.put, List.setIfInBounds_toArray, List.set_cons_succ, List.set_cons_zero])
        | (refine takeH_reads rfl rfl ?_; apply Exists.intro; refine ⟨fun w' hS => ?_, ?_⟩; (obtain ⟨d0, d1, d2⟩ := HC.out w' hS; go_simp; try with_reducible rfl); simp only [Act.put, List.setIfInBounds_toArray, List.set_cons_succ, List.set_cons_zero]))
        refine takeH_nil ⟨rfl, ?_⟩
        go_wp2_with fail
        go_ret2
        rw [HD.out]
        exact ⟨rfl, HP5.out⟩
      · have HD := Lib.hid (HDx.out hk)
        have hm := mark_ne (formT_le s) hK4 hk
        clear hk
        repeat (first
        | (refine takeH_skip rfl ?_; simp only [Act.put, List.setIfInBounds_toArray, List.set_cons_succ, List.set_cons_zero])
        | (refine takeH_blind rfl rfl ?_; apply Exists.intro; refine ⟨fun w => ?_, ?_⟩; (go_simp; try with_reducible rfl); simp only [Act.put, List.setIfInBounds_toArray, List.set_cons_succ, List.set_cons_zero])
        | (refine takeH_reads rfl rfl ?_; apply Exists.intro; refine ⟨fun w' hS => ?_, ?_⟩; (obtain ⟨d0, d1, d2⟩ := HC.out w' hS; go_simp; try with_reducible rfl); simp only [Act.put, List.setIfInBounds_toArray, List.set_cons_succ, List.set_cons_zero]))
        refine takeH_nil ⟨rfl, ?_⟩
        go_wp2_with fail
        go_ret2
        rw [HD.out]
        exact ⟨rfl, HP5.out⟩
  · have hd := decX_bad (by decide) hones
    rw [HQ.out] at hd
    have HD := Lib.hid hd
    clear hones hd
    go_wp2_with fail
    go_ret2
    rw [HD.out]
    exact ⟨rfl, HP2.out.below ((Below.refl _ _).alloc (Nat.le_refl _) _)⟩
end Go.Proofs.YtgpmoimmpbkgfaaGreatDoor

end

section
/- Layer 5: the program's Get. -/
set_option linter.unusedVariables false
namespace Go.Proofs.YtgpmoimmpbkgfaaGreatDoor
open Go Go.RowKit

theorem sign_64 {u : Nat} (h : u < 18446744073709551616) : signT u 64 = toI u := by
  simp only [signT, toI]
  split <;> split <;> omega
theorem decX_err {b : List Bool} (h : (decX b).e ≠ 0) : decX b = ⟨(decX b).e, 0, (decX b).r⟩ := by
  revert h
  simp only [decX]
  split
  · intro _; rfl
  · split
    · intro _; rfl
    · split
      · intro _; rfl
      · intro h; exact absurd rfl h
theorem RP.q {p : Nat} {v : Value} {bs : List Nat} {o : Res (List Int)} {w w' : World} {e : Ending} (h : RP p v bs o.r w w') (hr : ∃ r, e = .returned (.tuple #[r, .int .i64 (o.e : Int)]) ∧ Rd w' 1 r o.x.length (i64s o.x) ∧ (∀ k, r.ownBlock = some k → w.heap.size ≤ k)) : GetQ p v bs w o e w' :=
  ⟨hr, h.1.1, h.2⟩
theorem RP.fails {p : Nat} {v : Value} {bs : List Nat} {r : List Bool} {o : Res (List Int)} {w w' : World} {en : Nat} (h : RP p v bs r w w') (ho : o = ⟨en, [], r⟩) : GetQ p v bs w o (.returned (.tuple #[.slice none 0 0, .int .i64 (en : Int)])) w' := by
  subst ho
  exact h.q ⟨_, rfl, Rd.nil _ _, fun k e => by cases e⟩

/-- Where Get stands between two rounds. -/
structure GetIn (p : Nat) (v : Value) (bs : List Nat) (w : World) (n : Nat) (bits : List Bool) (k : Nat) (acc : List Int) (last d : Int) (cur : List Bool) (lv : Value) (wr : World) : Prop where
  len : acc.length = k + 1
  lst : acc[k]? = some last
  dec : decT n bits = ext acc (decFrom (n - (k + 1)) last d cur)
  row : wr.ownsRow w.heap.size 2 1 lv acc.length (i64s acc)
  rp : RP p v bs cur w wr

theorem times_get_neg (p : Nat) (v : Value) (i : Nat) (n : Int) (bs : List Nat) (w : World) (h : ReaderIn w p v i bs) (hn : n < 0) (hm : -9223372036854775808 ≤ n) :
    Calls Tryz.prog 36 #[.pointer (some ⟨p, 0, none⟩), .int .i64 n] w fun e w' => (∃ r, e = .returned (.tuple #[r, .int .i64 2]) ∧ Rd w' 1 r 0 []) ∧ RBitsPost p v i bs w w' := by
  have H := Lib.hid h
  clear h
  go_enter Tryz.func36, Tryz.ntmps36
  go_wp2_with fail
  go_ret2
  exact ⟨⟨_, rfl, Rd.nil _ _⟩, H.out, Mods.refl _ _⟩

set_option maxRecDepth 10000 in
set_option maxHeartbeats 4000000 in
theorem times_get (p : Nat) (v : Value) (n : Nat) (bs : List Nat) (bits : List Bool) (w : World) (h : RIs p v bs bits w) (hT : TabF w) (hgp : 0 ≠ p) (hn : n ≤ 1000000) :
    Calls Tryz.prog 36 #[.pointer (some ⟨p, 0, none⟩), .int .i64 (n : Int)] w (GetQ p v bs w (decT n bits)) := by
  have HT := Lib.hid hT; have H := Lib.hid h
  clear hT h
  by_cases h0 : n = 0
  · subst h0
    go_enter Tryz.func36, Tryz.ntmps36
    go_wp2_with fail
    go_ret2
    exact H.out.start.fails (o := decT 0 bits) rfl
  · obtain ⟨m, hm⟩ : ∃ m, n = m + 1 := ⟨n - 1, by omega⟩
    have hn1 : (n : Int) - 1 = (m : Int) := by omega
    have hnb : ((n : Int) == 0) = false := by rw [beq_eq_false_iff_ne]; omega
    have hnn : ¬ (n : Int) < 0 := by omega
    have hmb : (m : Int) ≤ 1000000 := by omega
    have HNM : Hid (n = m + 1) := hm
    have HN : Hid (Calls Tryz.prog 64 #[.pointer (some ⟨p, 0, none⟩), .int .i64 64] w fun e w' => e = .returned (.tuple #[.int .i64 (signT (field 64 bits).x 64), .int .i64 ((field 64 bits).e : Int)]) ∧ RP p v bs (field 64 bits).r w w') := get_number p v bs bits 4 (by decide) w H.out
    have HPl : Hid (p < w.heap.size) := H.out.1.blk.lt
    clear hm
    by_cases h64 : bits.length < 64
    · have hf : field 64 bits = ⟨3, 0, bits⟩ := by rw [field, if_pos h64]
      rw [hf] at HN
      have HD := Lib.hid (getAt_first_eof (n := n) (by omega) h64)
      clear hf h64
      go_enter Tryz.func36, Tryz.ntmps36
      go_wp2_with fail
      refine HN.out.mono ?_
      rintro e w2 ⟨rfl, hP⟩
      have HP := Lib.hid hP
      clear hP
      go_wp2_with fail
      go_ret2
      exact HP.out.fails HD.out
    · have hf : field 64 bits = ⟨0, numOf (bits.take 64), bits.drop 64⟩ := by rw [field, if_neg h64]
      have hlt := numOf_lt (bits.take 64)
      rw [List.length_take, Nat.min_eq_left (by omega)] at hlt
      have HG1 := Lib.hid (getAt_first (n := n) (by omega) h64)
      rw [hf] at HN
      simp only at HN
      rw [sign_64 hlt] at HN
      generalize toI (numOf (bits.take 64)) = t at *
      clear hf hlt h64
      generalize bits.drop 64 = cur1 at *
      go_enter Tryz.func36, Tryz.ntmps36
      go_wp2_with fail
      refine HN.out.mono ?_
      rintro e w2 ⟨rfl, hP⟩
      have HP := Lib.hid hP
      clear hP HN
      go_wp2_with fail
      have HG0 : Hid (GetIn p v bs w n bits 0 [t] t 0 cur1 (.slice (some ⟨w2.heap.size, 0, none⟩) 1 1) (w2.alloc (.cells #[.int .i64 t] 2))) := by
        refine ⟨rfl, rfl, ?_, World.ownsRow_lit (base := w.heap.size) w2 #[.int .i64 t] 1 HP.out.2.size (by simp [maxLen]) (by simp), HP.out.below ((Below.refl _ w2).alloc (Nat.le_refl _) _)⟩
        rcases HG1.out with ⟨h, _⟩ | ⟨k', last', hk', _, hl', hd⟩
        · cases h
        · obtain rfl : k' = 0 := by omega
          obtain rfl : t = last' := by simpa using hl'
          exact hd
      clear HP HG1
      generalize w2.alloc (.cells #[.int .i64 t] 2) = w3 at *
      go_loopw [6, 8, 9, 30] (fun tv lv dv kv wr => ∃ (k : Nat) (acc : List Int) (last d : Int) (cur : List Bool), k ≤ m ∧ kv = .int .i64 (k : Int) ∧ tv = .int .i64 last ∧ dv = .int .i64 d ∧ Hid (GetIn p v bs w n bits k acc last d cur lv wr)) (fun _ _ _ kv _ => m - (intOf kv).toNat)
      case atStart => exact ⟨0, [t], t, 0, cur1, by omega, rfl, rfl, rfl, HG0.out⟩
      case round =>
        obtain ⟨k, acc, last, d, cur, hkm, rfl, rfl, rfl, HG⟩ := hrel
        obtain ⟨pa, ca, hva⟩ := (Rd.of_owns HG.out.row).shape
        rw [HG.out.len] at hva
        subst hva
        by_cases hk : k < m
        · have hk' : (k : Int) < (m : Int) := by omega
          have HTr : Hid (TabF wr) := HT.out.block (HG.out.rp.2.block _ HT.out.lt hgp)
          have HC := Lib.hid (get_change p v bs cur wr HG.out.rp.1 HTr.out hgp)
          by_cases he : (decX cur).e = 0
          · have HX : Hid (decX cur = ⟨0, (decX cur).x, (decX cur).r⟩) := by show _ = _; rw [← he]
            have HNx := Lib.hid (getAt_next (n := n) (by have := HNM.out; omega) HG.out.len HG.out.dec HX.out)
            rw [he] at HC
            clear HX he
            generalize (decX cur).x = x at *
            generalize (decX cur).r = cur2 at *
            go_wp2_with fail
            refine HC.out.mono ?_
            rintro e w4 ⟨rfl, hP⟩
            have HO4 := Lib.hid (hP.2.owns HG.out.row (fun j hj e => by have := (HG.out.row.lt j hj).1; have := HPl.out; omega))
            have HP4 := Lib.hid (rp_trans HG.out.rp hP)
            have HLb : Hid ((k + 1 + 1) * 8 ≤ 140737488355328 ∧ k + 1 + 1 ≤ maxLen) := by show _ ∧ _; unfold maxLen; omega
            have HLen := Lib.hid HG.out.len
            have HO5 : Hid (w4.ownsRow 0 2 1 (.slice pa (k + 1) ca) (k + 1) (i64s acc)) := by
              have h := owns_rebase HO4.out (base' := 0) (fun _ _ => Nat.zero_le _)
              rw [HLen.out] at h
              exact h
            clear hP HC
            go_wp2_with (at_builtin; refine wpList_push Tryz.elemI64 w4 #[.int .i64 (wrap64 (last + wrap64 (d + x)))] _ _ _ HO5.out rfl (one_cell _ rfl) HLb.out rfl _ _ rfl rfl rfl ?_)
            intro v8 w8 hown hmods hfr
            have HG8 : Hid (GetIn p v bs w n bits (k + 1) (acc ++ [wrap64 (last + wrap64 (d + x))]) (wrap64 (last + wrap64 (d + x))) (wrap64 (d + x)) cur2 v8 w8) := by
              refine ⟨by rw [List.length_append, HLen.out]; rfl, by rw [List.getElem?_append_right (by rw [HLen.out]; omega), HLen.out]; simp, ?_, ?_, ?_⟩
              · rcases HNx.out with ⟨h, _⟩ | ⟨k', last', hk', _, hl', hd⟩
                · omega
                · obtain rfl : k' = k + 1 := by omega
                  rw [List.getElem?_append_right (by rw [HLen.out]; omega), HLen.out, Nat.sub_self] at hl'
                  have hl2 : wrap64 (last + wrap64 (d + x)) = last' := by simpa using hl'
                  rw [hl2] at hd ⊢
                  exact hd
              · rw [List.length_append, i64s_append, HLen.out]
                refine owns_rebase hown (fun j hj => ?_)
                rcases hfr j hj with e | e
                · exact (HO4.out.lt j e).1
                · have := HP4.out.2.size; omega
              · exact rp_more H.out HP4.out hmods (fun j e => (HO4.out.lt j e).1)
            obtain ⟨p8, c8, hv8⟩ : ∃ p c, v8 = .slice p (k + 2) c := by have := (Rd.of_owns HG8.out.row).shape; rwa [List.length_append, HLen.out] at this
            subst hv8
            clear hown hmods hfr HO5 HO4 HP4 HNx
            go_wp2_with fail
            go_round
            case rel => exact ⟨k + 1, _, _, _, cur2, by omega, by go_num, rfl, rfl, HG8.out⟩
            case measure => simp [intOf]; omega
          · have HB := Lib.hid (getAt_bad (n := n) (by have := HNM.out; omega) HG.out.dec he (decX_err he))
            have hne : ((decX cur).e : Int) ≠ 0 := by omega
            have hneb : (((decX cur).e : Int) == 0) = false := by rw [beq_eq_false_iff_ne]; exact hne
            clear he
            generalize (decX cur).x = x at *
            generalize (decX cur).r = cur2 at *
            generalize (decX cur).e = en at *
            go_wp2_with fail
            refine HC.out.mono ?_
            rintro e w4 ⟨rfl, hP⟩
            have HP4 := Lib.hid (rp_trans HG.out.rp hP)
            clear hP HC
            go_wp2_with fail
            go_ret2
            exact HP4.out.fails HB.out
        · have hk' : ¬ (k : Int) < (m : Int) := by omega
          have HD : Hid (decT n bits = ⟨0, acc, cur⟩) := by
            show _ = _
            have h := HG.out.dec
            rw [show n - (k + 1) = 0 by have := HNM.out; omega, decFrom] at h
            rw [h]
            simp [ext]
          go_wp2_with fail
          go_ret2
          rw [HD.out]
          exact HG.out.rp.q ⟨_, rfl, Rd.of_owns (by have := HG.out.row; exact this), fun j hj => (HG.out.row.lt j hj).1⟩
end Go.Proofs.YtgpmoimmpbkgfaaGreatDoor

end

section
/- Layer 6: what Get leaves. -/
set_option linter.unusedVariables false
namespace Go.Proofs.YtgpmoimmpbkgfaaGreatDoor
open Go Go.RowKit

theorem below_drewV (w : World) : Below w.heap.size w w.drew := ⟨rfl, rfl, rfl, Nat.le_refl _, fun _ _ => rfl⟩
/-- What Get leaves. -/
structure GetQV (p : Nat) (v : Value) (bs : List Nat) (w : World) (o : Res (List Nat)) (e : Ending) (w' : World) : Prop where
  res : ∃ r, e = .returned (.tuple #[r, .int .i64 (o.e : Int)]) ∧ Rd w' 1 r o.x.length (u64s o.x) ∧ (∀ k, r.ownBlock = some k → w.heap.size ≤ k)
  rd : RBitsPost p v (8 * bs.length - o.r.length) bs w w'
end Go.Proofs.YtgpmoimmpbkgfaaGreatDoor

end

section
/- Layer 6: the reading of values, step by step. No program in sight. -/
namespace Go.Proofs.YtgpmoimmpbkgfaaGreatDoor

/-- What has been read, ahead of what is still to be read. -/
def extV (acc : List Nat) (s : Res (List Nat)) : Res (List Nat) := if s.e ≠ 0 then ⟨s.e, [], s.r⟩ else ⟨0, acc ++ s.x, s.r⟩
def GetAtV (n : Nat) (bs : List Bool) (j : Nat) (acc : List Nat) (win : Option (Nat × Nat)) (bits : List Bool) : Prop :=
  (j = 0 ∧ acc = [] ∧ win = none ∧ bits = bs) ∨ ∃ k last, j = k + 1 ∧ acc.length = j ∧ acc[k]? = some last ∧ last < 18446744073709551616 ∧ okW win ∧ decV n bs = extV acc (decFromV (n - j) win last bits)

theorem getV_first_eof {n : Nat} {bs : List Bool} (hn : 0 < n) (h : bs.length < 64) : decV n bs = ⟨3, [], bs⟩ := by
  obtain ⟨m, rfl⟩ : ∃ m, n = m + 1 := ⟨n - 1, by omega⟩
  rw [decV, field_short h]; rfl
theorem getV_first {n : Nat} {bs : List Bool} (hn : 0 < n) (h : ¬ bs.length < 64) : GetAtV n bs 1 [numOf (bs.take 64)] none (bs.drop 64) := by
  obtain ⟨m, rfl⟩ : ∃ m, n = m + 1 := ⟨n - 1, by omega⟩
  refine Or.inr ⟨0, _, rfl, rfl, rfl, by simpa using take_lt h, (fun _ _ e => by cases e), ?_⟩
  rw [decV, field_full h]
  simp only [ne_eq, not_true_eq_false, if_false]
  rfl
theorem getV_bad {n j : Nat} {bs bits : List Bool} {acc : List Nat} {win : Option (Nat × Nat)} {last : Nat} (hj : j < n) (h : decV n bs = extV acc (decFromV (n - j) win last bits)) {e : Nat} {x : Nat × Option (Nat × Nat)} {r : List Bool} (he : e ≠ 0) (hx : decW win bits = ⟨e, x, r⟩) : decV n bs = ⟨e, [], r⟩ := by
  obtain ⟨m, hm⟩ : ∃ m, n - j = m + 1 := ⟨n - j - 1, by omega⟩
  rw [h, hm, decFromV, hx]
  simp only [ne_eq, he, not_false_eq_true, if_true, extV]
theorem getV_next {n j : Nat} {bs bits : List Bool} {acc : List Nat} {win win' : Option (Nat × Nat)} {last : Nat} (hj : j < n) (hl : acc.length = j) (hla : last < 18446744073709551616) (ho : okW win) (h : decV n bs = extV acc (decFromV (n - j) win last bits)) {x : Nat} {r : List Bool} (hx : decW win bits = ⟨0, (x, win'), r⟩) :
    GetAtV n bs (j + 1) (acc ++ [last ^^^ x]) win' r := by
  obtain ⟨m, hm⟩ : ∃ m, n - j = m + 1 := ⟨n - j - 1, by omega⟩
  have hm' : n - (j + 1) = m := by omega
  obtain ⟨i1, i2, _⟩ := decW_inv ho (bs := bits) (by rw [hx])
  rw [hx] at i1 i2
  refine Or.inr ⟨j, last ^^^ x, rfl, by simp [hl], by rw [List.getElem?_append_right (by omega), hl]; simp, xor_lt64 hla i1, ?_, ?_⟩
  · have i3 : win' = nextW win x := i2
    rw [i3]; exact okW_next ho i1
  · rw [h, hm, hm', decFromV, hx]
    generalize last ^^^ x = t
    simp only [ne_eq, not_true_eq_false, if_false, extV]
    by_cases he : (decFromV m win' t r).e = 0
    · simp only [he, not_true_eq_false, if_false, List.append_assoc, List.cons_append, List.nil_append]
    · simp only [he, not_false_eq_true, if_true]
theorem getV_done {n : Nat} {bs bits : List Bool} {acc : List Nat} {win : Option (Nat × Nat)} (h : GetAtV n bs n acc win bits) : decV n bs = ⟨0, acc, bits⟩ := by
  rcases h with ⟨rfl, rfl, _, rfl⟩ | ⟨k, last, _, _, _, _, _, h⟩
  · rfl
  · rw [h, Nat.sub_self, decFromV]
    simp [extV]

theorem decW_same (win : Option (Nat × Nat)) (c : List Bool) : decW win (false :: c) = ⟨0, (0, win), c⟩ := by simp only [decW]
theorem decW_none (c : List Bool) : decW none (true :: false :: c) = ⟨8, (0, none), c⟩ := by simp only [decW]
theorem decW_nil (win : Option (Nat × Nat)) : decW win [] = ⟨3, (0, none), []⟩ := by simp only [decW]
theorem decW_half (win : Option (Nat × Nat)) : decW win [true] = ⟨3, (0, none), []⟩ := by simp only [decW]
theorem decOld_short {L t : Nat} {c : List Bool} (h : c.length < 64 - L - t) : decW (some (L, t)) (true :: false :: c) = ⟨3, (0, none), c⟩ := by
  rw [decW_old, decOld, field_short h]; rfl
theorem decOld_zero {L t : Nat} {c : List Bool} (h : ¬ c.length < 64 - L - t) (hx : numOf (c.take (64 - L - t)) * 2 ^ t = 0) : decW (some (L, t)) (true :: false :: c) = ⟨8, (0, none), c.drop (64 - L - t)⟩ := by
  rw [decW_old, decOld, field_full h]
  simp only [ne_eq, not_true_eq_false, if_false, hx, if_true]
theorem decOld_right {L t : Nat} {c : List Bool} (h : ¬ c.length < 64 - L - t) (hx : numOf (c.take (64 - L - t)) * 2 ^ t ≠ 0) : decW (some (L, t)) (true :: false :: c) = ⟨0, (numOf (c.take (64 - L - t)) * 2 ^ t, some (L, t)), c.drop (64 - L - t)⟩ := by
  rw [decW_old, decOld, field_full h]
  simp only [ne_eq, not_true_eq_false, if_false, hx]
theorem decNew_short1 {win : Option (Nat × Nat)} {c : List Bool} (h : c.length < 6) : decW win (true :: true :: c) = ⟨3, (0, none), c⟩ := by
  rw [decW_new, decNew, field_short h]; rfl
theorem decNew_short2 {win : Option (Nat × Nat)} {c c1 : List Bool} {a : Nat} (h1 : field 6 c = ⟨0, a, c1⟩) (h : c1.length < 6) : decW win (true :: true :: c) = ⟨3, (0, none), c1⟩ := by
  rw [decW_new, decNew, h1]
  simp only [field_short h, ne_eq, not_true_eq_false, if_false]
  rfl
theorem decNew_wide {win : Option (Nat × Nat)} {c c1 c2 : List Bool} {a y : Nat} (h1 : field 6 c = ⟨0, a, c1⟩) (h2 : field 6 c1 = ⟨0, y, c2⟩) (h : 63 < a + y) : decW win (true :: true :: c) = ⟨8, (0, none), c2⟩ := by
  rw [decW_new, decNew, h1]
  simp only [h2, ne_eq, not_true_eq_false, if_false, h, if_true]
theorem decNew_short3 {win : Option (Nat × Nat)} {c c1 c2 : List Bool} {a y : Nat} (h1 : field 6 c = ⟨0, a, c1⟩) (h2 : field 6 c1 = ⟨0, y, c2⟩) (h : ¬ 63 < a + y) (h3 : c2.length < 64 - a - (63 - a - y)) : decW win (true :: true :: c) = ⟨3, (0, none), c2⟩ := by
  rw [decW_new, decNew, h1]
  simp only [h2, ne_eq, not_true_eq_false, if_false, h, field_short h3]
  rfl
theorem decNew_zero {win : Option (Nat × Nat)} {c c1 c2 c3 : List Bool} {a y u : Nat} (h1 : field 6 c = ⟨0, a, c1⟩) (h2 : field 6 c1 = ⟨0, y, c2⟩) (h : ¬ 63 < a + y) (h3 : field (64 - a - (63 - a - y)) c2 = ⟨0, u, c3⟩) (hx : u * 2 ^ (63 - a - y) = 0) : decW win (true :: true :: c) = ⟨8, (0, none), c3⟩ := by
  rw [decW_new, decNew, h1]
  simp only [h2, ne_eq, not_true_eq_false, if_false, h, h3, hx, if_true]
theorem decNew_wrong {win : Option (Nat × Nat)} {c c1 c2 c3 : List Bool} {a y u : Nat} (h1 : field 6 c = ⟨0, a, c1⟩) (h2 : field 6 c1 = ⟨0, y, c2⟩) (h : ¬ 63 < a + y) (h3 : field (64 - a - (63 - a - y)) c2 = ⟨0, u, c3⟩) (hx : u * 2 ^ (63 - a - y) ≠ 0)
    (hw : leadV (u * 2 ^ (63 - a - y)) ≠ a ∨ trailV (u * 2 ^ (63 - a - y)) ≠ 63 - a - y ∨ fits win (u * 2 ^ (63 - a - y)) = true) : decW win (true :: true :: c) = ⟨8, (0, none), c3⟩ := by
  rw [decW_new, decNew, h1]
  simp only [h2, ne_eq, not_true_eq_false, if_false, h, h3, hx]
  rw [if_pos hw]
theorem decNew_right {win : Option (Nat × Nat)} {c c1 c2 c3 : List Bool} {a y u : Nat} (h1 : field 6 c = ⟨0, a, c1⟩) (h2 : field 6 c1 = ⟨0, y, c2⟩) (h : ¬ 63 < a + y) (h3 : field (64 - a - (63 - a - y)) c2 = ⟨0, u, c3⟩) (hx : u * 2 ^ (63 - a - y) ≠ 0)
    (hw : ¬ (leadV (u * 2 ^ (63 - a - y)) ≠ a ∨ trailV (u * 2 ^ (63 - a - y)) ≠ 63 - a - y ∨ fits win (u * 2 ^ (63 - a - y)) = true)) : decW win (true :: true :: c) = ⟨0, (u * 2 ^ (63 - a - y), some (a, 63 - a - y)), c3⟩ := by
  rw [decW_new, decNew, h1]
  simp only [h2, ne_eq, not_true_eq_false, if_false, h, h3, hx]
  rw [if_neg hw]
end Go.Proofs.YtgpmoimmpbkgfaaGreatDoor

end

section
/- Layer 6: the library's counts of leading and trailing zeros, as the program calls them. -/
set_option linter.unusedVariables false
set_option maxRecDepth 20000
namespace Go.Proofs.YtgpmoimmpbkgfaaGreatDoor
open Go Go.RowKit

theorem bitLen_log {f x : Nat} (h0 : x ≠ 0) (h : x < 2 ^ f) : Lib.bitLenAux f x = Nat.log2 x + 1 := by
  induction f generalizing x with
  | zero => simp at h; omega
  | succ f ih =>
    rw [Lib.bitLenAux, if_neg h0]
    by_cases h1 : x / 2 = 0
    · have : x = 1 := by omega
      subst this
      cases f <;> rfl
    · have hl : Nat.log2 x = Nat.log2 (x / 2) + 1 := by rw [Nat.log2_def x, if_pos (by omega)]
      rw [ih h1 (by rw [Nat.pow_succ] at h; omega), hl]; omega
theorem lead_bitLen {x : Nat} (h0 : x ≠ 0) (h : x < 18446744073709551616) : (64 : Int) - (Lib.bitLen x : Int) = (leadV x : Int) := by
  have h1 : Nat.log2 x < 64 := (Nat.log2_lt h0).2 (by simpa using h)
  rw [Lib.bitLen, bitLen_log h0 (by simpa using h), leadV]; omega
theorem trail_ctz (f x : Nat) : Lib.ctzFrom f x = tz f x := by
  induction f generalizing x with
  | zero => rfl
  | succ f ih =>
    rw [Lib.ctzFrom, tz, ih]
    by_cases h : x % 2 = 1
    · rw [if_pos h, if_neg (by omega)]
    · rw [if_neg h, if_pos (by omega)]
theorem trail_lib {x : Nat} (h0 : x ≠ 0) : Lib.ctz 64 x = trailV x := by rw [Lib.ctz, if_neg h0, trail_ctz]; rfl

def renL : Go.Shelf.Ren := ⟨fun | 129 => 119 | 134 => 114 | n => n, fun | 3 => 3 | 4 => 4 | 5 => 5 | 9 => 9 | 46 => 161 | 53 => 31 | n => n, fun n => n⟩
theorem laysL : Go.Proofs.Lays.n134 Tryz.prog renL := { mixed := by kernel_rfl, f129 := Tryz.func119.trans (congrArg some (by kernel_rfl)), f134 := Tryz.func114.trans (congrArg some (by kernel_rfl)), t3 := Tryz.underlying3, a3 := Tryz.isAgg3, z3 := Tryz.sizeOf3, v3 := Tryz.zeroValue3, t4 := Tryz.underlying4, a4 := Tryz.isAgg4, z4 := Tryz.sizeOf4, v4 := Tryz.zeroValue4, t5 := Tryz.underlying5, a5 := Tryz.isAgg5, z5 := Tryz.sizeOf5, v5 := Tryz.zeroValue5, t9 := Tryz.underlying9, a9 := Tryz.isAgg9, z9 := Tryz.sizeOf9, v9 := Tryz.zeroValue9, t46 := Tryz.underlying161, a46 := Tryz.isAgg161, z46 := Tryz.sizeOf161, v46 := Tryz.zeroValue161, t53 := Tryz.underlying31, a53 := Tryz.isAgg31, z53 := Tryz.sizeOf31, v53 := Tryz.zeroValue31 }
def renT : Go.Shelf.Ren := ⟨fun | 29 => 115 | n => n, fun | 0 => 0 | 3 => 3 | 4 => 4 | 5 => 5 | 22 => 31 | 25 => 161 | 54 => 192 | n => n, fun | 1 => 1 | n => n⟩
theorem laysT : Go.Proofs.Lays7.n29 Tryz.prog renT := { mixed := by kernel_rfl, f29 := Tryz.func115.trans (congrArg some (by kernel_rfl)), t0 := Tryz.underlying0, a0 := Tryz.isAgg0, z0 := Tryz.sizeOf0, v0 := Tryz.zeroValue0, i0 := by kernel_rfl, t3 := Tryz.underlying3, a3 := Tryz.isAgg3, z3 := Tryz.sizeOf3, v3 := Tryz.zeroValue3, i3 := by kernel_rfl, t4 := Tryz.underlying4, a4 := Tryz.isAgg4, z4 := Tryz.sizeOf4, v4 := Tryz.zeroValue4, i4 := by kernel_rfl, t5 := Tryz.underlying5, a5 := Tryz.isAgg5, z5 := Tryz.sizeOf5, v5 := Tryz.zeroValue5, i5 := by kernel_rfl, t22 := Tryz.underlying31, a22 := Tryz.isAgg31, z22 := Tryz.sizeOf31, v22 := Tryz.zeroValue31, i22 := by kernel_rfl, t25 := Tryz.underlying161, a25 := Tryz.isAgg161, z25 := Tryz.sizeOf161, v25 := Tryz.zeroValue161, i25 := by kernel_rfl, t54 := Tryz.underlying192, a54 := Tryz.isAgg192, z54 := Tryz.sizeOf192, g1 := by kernel_rfl }

/-- The library's table of 64 bytes. -/
def TabZ (w : World) : Prop := TabAt 1 Lib.deBruijn64tab w
theorem TabZ.lt {w : World} (h : TabZ w) : 1 < w.heap.size := World.block_lt_of_cell? w _ (h 0 (by decide))
theorem TabZ.block {w w' : World} (h : TabZ w) (hb : w'.heap[1]? = w.heap[1]?) : TabZ w' := fun j hj => by
  have := h j hj
  unfold World.cell? at this ⊢
  rw [hb]
  exact this
theorem TabZ.below {w w' : World} {B : Nat} (h : TabZ w) (hb : Below B w w') (hB : w.heap.size ≤ B) : TabZ w' := h.block (hb.block _ (Nat.lt_of_lt_of_le h.lt hB))

theorem lz64 (x : Nat) (hx : x < 18446744073709551616) (h0 : x ≠ 0) (w : World) : Calls Tryz.prog 114 #[.int .u64 (x : Int)] w fun e w' => e = .returned (.int .i64 (leadV x : Int)) ∧ w' = w :=
  (Any.bits_LeadingZeros64 laysL (x : Int) w (by omega) (by omega)).mono fun e w' h => by
    rw [Int.toNat_natCast, lead_bitLen h0 hx] at h
    exact h
theorem tz64 (x : Nat) (hx : x < 18446744073709551616) (h0 : x ≠ 0) (w : World) (hT : TabZ w) : Calls Tryz.prog 115 #[.int .u64 (x : Int)] w fun e w' => e = .returned (.int .i64 (trailV x : Int)) ∧ w' = w :=
  (Any7.bits_TrailingZeros64 laysT x hx w (fun _ => hT)).mono fun e w' h => by
    rw [trail_lib h0] at h
    exact h
end Go.Proofs.YtgpmoimmpbkgfaaGreatDoor

end

section
/- Layer 6: the program's windows and steps. -/
set_option linter.unusedVariables false
set_option maxRecDepth 20000
namespace Go.Proofs.YtgpmoimmpbkgfaaGreatDoor
open Go Go.RowKit

/-- The window in force, as the program holds it: leading bits and width, none of them where there is none. -/
def wl (win : Option (Nat × Nat)) : Nat := match win with | none => 0 | some (L, _) => L
def ww (win : Option (Nat × Nat)) : Nat := match win with | none => 0 | some (L, t) => 64 - L - t
/-- How a word is written. -/
def sL (win : Option (Nat × Nat)) (x : Nat) : Nat := if x = 0 then 0 else if fits win x then wl win else leadV x
def sW (win : Option (Nat × Nat)) (x : Nat) : Nat := if x = 0 then 0 else if fits win x then ww win else 64 - leadV x - trailV x
def sN (win : Option (Nat × Nat)) (x : Nat) : Bool := if x = 0 then false else if fits win x then false else true

theorem strWin : Str Tryz.prog 132 2 [.int .i64 0, .int .i64 0] := Str.mk' Tryz.underlying132 rfl (by kernel_rfl) rfl
theorem strStep : Str Tryz.prog 136 3 [.int .i64 0, .int .i64 0, .bool false] := Str.mk' Tryz.underlying136 rfl (by kernel_rfl) rfl

theorem trailing_any (a b : Nat) (ha : a ≤ 1000) (hb : b ≤ 1000) (w : World) :
    Calls Tryz.prog 103 #[.agg #[.int .i64 (a : Int), .int .i64 (b : Int)]] w fun e w' => e = .returned (.int .i64 ((64 : Int) - (a : Int) - (b : Int))) ∧ Below w.heap.size w w' := by
  have ha' : (a : Int) ≤ 1000 := by omega
  have hb' : (b : Int) ≤ 1000 := by omega
  go_enter Tryz.func103, Tryz.ntmps103
  go_wp2_with fail
  go_ret
  exact ⟨rfl, (Below.refl _ _).alloc (Nat.le_refl _) _⟩

theorem windowOf_any (x : Nat) (hx : x < 18446744073709551616) (h0 : x ≠ 0) (w : World) (hT : TabZ w) :
    Calls Tryz.prog 101 #[.int .u64 (x : Int)] w fun e w' => e = .returned (.agg #[.int .i64 (leadV x : Int), .int .i64 ((64 - leadV x - trailV x : Nat) : Int)]) ∧ Below w.heap.size w w' := by
  have HW := Lib.hid (window hx h0)
  have HL := fun w => Lib.hid (lz64 x hx h0 w)
  have HTz := fun w hT => Lib.hid (tz64 x hx h0 w hT)
  have HT := Lib.hid hT
  have e1 : (64 : Int) - (leadV x : Int) - (trailV x : Int) = ((64 - leadV x - trailV x : Nat) : Int) := by have := HW.out; omega
  have HE := Lib.hid e1
  clear e1 hT hx h0
  have hl : (leadV x : Int) ≤ 63 := by have := HW.out; omega
  have ht : (trailV x : Int) ≤ 63 := by have := HW.out; omega
  generalize leadV x = L at *
  generalize trailV x = t at *
  go_enter Tryz.func101, Tryz.ntmps101
  go_wp2_with fail
  obtain ⟨w1, hw1⟩ : ∃ w1, w.alloc (.cells #[.int .i64 0, .int .i64 0] 132) = w1 := ⟨_, rfl⟩
  have hK1 : Blk w1 w.heap.size [.int .i64 0, .int .i64 0] := by rw [← hw1]; exact Blk.new w _ _
  have HB1 : Hid (Below w.heap.size w w1) := by rw [← hw1]; exact (Below.refl _ w).alloc (Nat.le_refl _) _
  rw [hw1]
  clear hw1
  refine (HL _).out.mono ?_
  rintro e w2 ⟨rfl, hww⟩
  subst hww
  go_wp2_with fail
  refine (HTz _ (HT.out.below HB1.out (Nat.le_refl _))).out.mono ?_
  rintro e w2 ⟨rfl, hww⟩
  subst hww
  have c0 : w2.cell? ⟨w.heap.size, 0, none⟩ = some (.int .i64 0) := by rw [hK1.cell]; rfl
  have c1 : w2.cell? ⟨w.heap.size, 1, none⟩ = some (.int .i64 0) := by rw [hK1.cell]; rfl
  have f0 := hK1.free 0
  have f1 := hK1.free 1
  have HK1 := Lib.hid hK1
  clear hK1
  go_wp2_with fail
  rw [HE.out]
  refine bodyPost_ret (resultsS (p := 2) strWin (by kernel_rfl) _ w.heap.size rfl [.int .i64 (L : Int), .int .i64 ((64 - L - t : Nat) : Int)] ?_ rfl) rfl ⟨rfl, ?_⟩
  · simpa using (HK1.out.set 0 (.int .i64 (L : Int))).set 1 (.int .i64 ((64 - L - t : Nat) : Int))
  · exact HB1.out.trans (((Mods.set (fun k => k = w.heap.size) w2 ⟨w.heap.size, 0, none⟩ _ (fun _ => rfl)).trans (Mods.set (fun k => k = w.heap.size) _ ⟨w.heap.size, 1, none⟩ _ (fun _ => rfl)) (fun _ _ e => e)).below HB1.out.size (fun j hj e => by omega))

theorem fits_any (L wd x : Nat) (hw : L + wd ≤ 64) (hx : x < 18446744073709551616) (h0 : x ≠ 0) (w : World) (hT : TabZ w) :
    Calls Tryz.prog 100 #[.agg #[.int .i64 (L : Int), .int .i64 (wd : Int)], .int .u64 (x : Int)] w fun e w' => e = .returned (.bool (decide (L ≤ leadV x) && decide (64 - L - wd ≤ trailV x))) ∧ Below w.heap.size w w' := by
  have HL := fun w => Lib.hid (lz64 x hx h0 w)
  have HTz := fun w hT => Lib.hid (tz64 x hx h0 w hT)
  have HTr := fun w => Lib.hid (trailing_any L wd (by omega) (by omega) w)
  have HWin := Lib.hid (window hx h0)
  have HT := Lib.hid hT; have HWd := Lib.hid hw
  clear hT hx h0
  generalize leadV x = ld at *
  generalize trailV x = tr at *
  go_enter Tryz.func100, Tryz.ntmps100
  go_wp2_with fail
  obtain ⟨w1, hw1⟩ : ∃ w1, w.alloc (.cells #[.int .i64 (L : Int), .int .i64 (wd : Int)] 132) = w1 := ⟨_, rfl⟩
  have HK1 : Hid (Blk w1 w.heap.size [.int .i64 (L : Int), .int .i64 (wd : Int)]) := by rw [← hw1]; exact Blk.new w _ _
  have HB1 : Hid (Below w.heap.size w w1) := by rw [← hw1]; exact (Below.refl _ w).alloc (Nat.le_refl _) _
  rw [hw1]
  clear hw1
  have HC : Hid (∀ w' : World, (w'.cell? ⟨w.heap.size, 0, none⟩ = some (.int .i64 (L : Int)) ∧ w'.cell? ⟨w.heap.size, 1, none⟩ = some (.int .i64 (wd : Int)) ∧ True) → (w'.cell? ⟨w.heap.size, 0, none⟩ = some (.int .i64 (L : Int)) ∧ w'.cell? ⟨w.heap.size, 1, none⟩ = some (.int .i64 (wd : Int)) ∧ True)) := fun _ h => h
  refine wp_region_takeH (fun w' : World => w'.cell? ⟨w.heap.size, 0, none⟩ = some (.int .i64 (L : Int)) ∧ w'.cell? ⟨w.heap.size, 1, none⟩ = some (.int .i64 (wd : Int)) ∧ True) [1, 7, 9] [0, 2, 3, 1, 4, 5, 6, 8, 7, 9, 10, 11, 12] (by kernel_rfl) (by kernel_rfl) (by kernel_rfl) ?_ ?_ ?_
  · intro c a a' w hd h; exact ⟨hd ▸ h.1, h.2⟩
  · exact ⟨by rw [World.cell?_drew, HK1.out.cell]; rfl, by rw [World.cell?_drew, HK1.out.cell]; rfl, trivial⟩
  simp only [taken, List.map_cons, List.map_nil, List.getElem?_cons_succ, List.getElem?_cons_zero, Option.getD_some]
  repeat (first
        | (refine takeH_skip rfl ?_; simp only [Act.put, List.setIfInBounds_toArray, List.set_cons_succ, List.set_cons_zero])
        | (refine takeH_blind rfl rfl ?_; apply Exists.intro; refine ⟨fun w => ?_, ?_⟩; (go_simp; try with_reducible rfl); simp only [Act.put, List.setIfInBounds_toArray, List.set_cons_succ, List.set_cons_zero])
        | (refine takeH_reads rfl rfl ?_; apply Exists.intro; refine ⟨fun w' hS => ?_, ?_⟩; (obtain ⟨d0, d1, d2⟩ := HC.out w' hS; go_simp; try with_reducible rfl); simp only [Act.put, List.setIfInBounds_toArray, List.set_cons_succ, List.set_cons_zero]))
  refine takeH_call rfl rfl (fun K' hK => ?_)
  go_wp2_with fail
  refine (HL _).out.mono ?_
  rintro e w2 ⟨rfl, hww⟩
  have HW2 : Hid (w2 = w1.drew) := hww
  have HS2 : Hid (w2.cell? ⟨w.heap.size, 0, none⟩ = some (.int .i64 (L : Int)) ∧ w2.cell? ⟨w.heap.size, 1, none⟩ = some (.int .i64 (wd : Int)) ∧ True) := by show _ ∧ _; rw [hww]; exact ⟨by rw [World.cell?_drew, HK1.out.cell]; rfl, by rw [World.cell?_drew, HK1.out.cell]; rfl, trivial⟩
  have HT2 : Hid (TabZ w2) := by show TabZ _; rw [hww]; exact (HT.out.below HB1.out (Nat.le_refl _)).block rfl
  have HB2 : Hid (Below w.heap.size w w2) := by show Below _ _ _; rw [hww]; exact HB1.out.drew
  refine hK _ _ HS2.out ?_
  clear hK K' hww HW2 HB1 HK1
  have hl63 : (ld : Int) ≤ 63 := by have := HWin.out; omega
  have ht63 : (tr : Int) ≤ 63 := by have := HWin.out; omega
  by_cases hle : L ≤ ld
  · have hle' : (L : Int) ≤ (ld : Int) := by omega
    have hd1 : decide (L ≤ ld) = true := by simpa using hle
    have hd1' : decide ((L : Int) ≤ (ld : Int)) = true := by simpa using hle'
    have HD1 := Lib.hid hd1
    clear hle hd1
    repeat (first
        | (refine takeH_skip rfl ?_; simp only [Act.put, List.setIfInBounds_toArray, List.set_cons_succ, List.set_cons_zero])
        | (refine takeH_blind rfl rfl ?_; apply Exists.intro; refine ⟨fun w => ?_, ?_⟩; (go_simp; try with_reducible rfl); simp only [Act.put, List.setIfInBounds_toArray, List.set_cons_succ, List.set_cons_zero])
        | (refine takeH_reads rfl rfl ?_; apply Exists.intro; refine ⟨fun w' hS => ?_, ?_⟩; (obtain ⟨d0, d1, d2⟩ := HC.out w' hS; go_simp; try with_reducible rfl); simp only [Act.put, List.setIfInBounds_toArray, List.set_cons_succ, List.set_cons_zero]))
    refine takeH_call rfl rfl (fun K' hK => ?_)
    go_wp2_with fail
    refine (HTz _ HT2.out).out.mono ?_
    rintro e w3 ⟨rfl, hww⟩
    subst hww
    refine hK _ _ HS2.out ?_
    clear hK K'
    repeat (first
        | (refine takeH_skip rfl ?_; simp only [Act.put, List.setIfInBounds_toArray, List.set_cons_succ, List.set_cons_zero])
        | (refine takeH_blind rfl rfl ?_; apply Exists.intro; refine ⟨fun w => ?_, ?_⟩; (go_simp; try with_reducible rfl); simp only [Act.put, List.setIfInBounds_toArray, List.set_cons_succ, List.set_cons_zero])
        | (refine takeH_reads rfl rfl ?_; apply Exists.intro; refine ⟨fun w' hS => ?_, ?_⟩; (obtain ⟨d0, d1, d2⟩ := HC.out w' hS; go_simp; try with_reducible rfl); simp only [Act.put, List.setIfInBounds_toArray, List.set_cons_succ, List.set_cons_zero]))
    refine takeH_call rfl rfl (fun K' hK => ?_)
    go_wp2_with fail
    refine (HTr _).out.mono ?_
    rintro e w4 ⟨rfl, hB4⟩
    have HB4 : Hid (Below w.heap.size w w4) := HB2.out.trans (hB4.mono HB2.out.size)
    refine hK _ _ ⟨(hB4.cell (World.block_lt_of_cell? w3 _ HS2.out.1)).trans HS2.out.1, (hB4.cell (World.block_lt_of_cell? w3 _ HS2.out.2.1)).trans HS2.out.2.1, trivial⟩ ?_
    clear hK K' hB4
    have e2 : (64 : Int) - (L : Int) - (wd : Int) = ((64 - L - wd : Nat) : Int) := by have := HWd.out; omega
    have HD2 : Hid (decide (64 - L - wd ≤ tr) = decide (((64 - L - wd : Nat) : Int) ≤ (tr : Int))) := by show _ = _; rw [decide_eq_decide]; omega
    rw [e2]
    clear e2
    generalize ((64 - L - wd : Nat) : Int) = T at *
    repeat (first
        | (refine takeH_skip rfl ?_; simp only [Act.put, List.setIfInBounds_toArray, List.set_cons_succ, List.set_cons_zero])
        | (refine takeH_blind rfl rfl ?_; apply Exists.intro; refine ⟨fun w => ?_, ?_⟩; (go_simp; try with_reducible rfl); simp only [Act.put, List.setIfInBounds_toArray, List.set_cons_succ, List.set_cons_zero])
        | (refine takeH_reads rfl rfl ?_; apply Exists.intro; refine ⟨fun w' hS => ?_, ?_⟩; (obtain ⟨d0, d1, d2⟩ := HC.out w' hS; go_simp; try with_reducible rfl); simp only [Act.put, List.setIfInBounds_toArray, List.set_cons_succ, List.set_cons_zero]))
    refine takeH_nil ?_
    go_wp2_with fail
    go_ret
    exact ⟨by rw [HD1.out, HD2.out]; rfl, HB4.out⟩
  · have hle' : ¬ (L : Int) ≤ (ld : Int) := by omega
    have hd1 : decide (L ≤ ld) = false := by simpa using hle
    have hd1' : decide ((L : Int) ≤ (ld : Int)) = false := by simpa using hle'
    have HD1 := Lib.hid hd1
    clear hle hd1
    repeat (first
        | (refine takeH_skip rfl ?_; simp only [Act.put, List.setIfInBounds_toArray, List.set_cons_succ, List.set_cons_zero])
        | (refine takeH_blind rfl rfl ?_; apply Exists.intro; refine ⟨fun w => ?_, ?_⟩; (go_simp; try with_reducible rfl); simp only [Act.put, List.setIfInBounds_toArray, List.set_cons_succ, List.set_cons_zero])
        | (refine takeH_reads rfl rfl ?_; apply Exists.intro; refine ⟨fun w' hS => ?_, ?_⟩; (obtain ⟨d0, d1, d2⟩ := HC.out w' hS; go_simp; try with_reducible rfl); simp only [Act.put, List.setIfInBounds_toArray, List.set_cons_succ, List.set_cons_zero]))
    refine takeH_nil ?_
    go_wp2_with fail
    go_ret
    exact ⟨by rw [HD1.out]; rfl, HB2.out⟩
end Go.Proofs.YtgpmoimmpbkgfaaGreatDoor

end
