/- Layer 5: the program's Put. -/
import Derived.Test.YtjgiaibpipgjjaaDoorTimesSz
import Derived.Test.YtjgiaibpipgjjaaDoorTakeR
set_option linter.unusedVariables false
namespace Go.Proofs.YtjgiaibpipgjjaaDoor
open Go Go.RowKit Go.Shelf
attribute [local go_sem] Oper.semAt_some

theorem encX_mark (x : Int) : encX x = fieldBits (markT (formT x)) (markLenT (formT x)) ++ fieldBits (ofI x) (widthT (formT x)) := by
  rw [mark_bits (formT_le x)]; rfl

/-- Where Put stands between two rounds. -/
def PutIn (p : Nat) (v : Value) (W0 : World) (out : List Bool) (W : World) : Prop := ∃ v', WriterIn W p v' out ∧ Upd W0 W p v v'
theorem putIn_own {β : Type} {B : Nat} {W0 : World} (hB : W0.heap.size ≤ B) (p : Nat) (v : Value) (f : β → List Bool) : OwnFrom B (fun s W => PutIn p v W0 (f s) W) := by
  rintro s W W' row ⟨v', h1, h2⟩ hg hr
  have hr' : ∀ r, row = some r → ∃ o : Obj, W.heap[r]? = some o ∧ o.isCells = false := fun r e => (hr r e).2
  exact ⟨v', ⟨own_blk p (fun _ : Unit => [.int .i64 (f s).length, v']) () W W' row h1.blk hg hr', owns_abides h1.own hg hr', h1.ne⟩, ⟨ownFrom_mods hB () W W' row h2.mods hg hr, h2.fresh⟩⟩
/-- A stretch of the body: the writer's own blocks alone may turn. -/
theorem putIn_keeps {p : Nat} {v' : Value} {W W' : World} {out : List Bool} (h : WriterIn W p v' out) (hm : Mods (fun k => k = p ∨ v'.ownBlock = some k) W W') : KeepsOthers W W' := by
  refine KeepsOthers.of_mods hm (fun k o hk ho => ?_)
  rcases hk with rfl | hk
  · obtain ⟨t, ht⟩ := h.blk
    rw [ht] at ho
    cases ho; rfl
  · exact owns_isCells h.own k o hk ho

theorem times_put_nil (p : Nat) (v lv : Value) (bits : List Bool) (w : World) (hW : WriterIn w p v bits) (h : Rd w 1 lv 0 []) :
    Calls Tryd.prog 12 #[.pointer (some ⟨p, 0, none⟩), lv] w fun e w' => e = .returned (.int .i64 0) ∧ BitsPost p v bits w w' := by
  have HW := Lib.hid hW
  clear hW
  obtain ⟨q, c, hv⟩ := h.shape
  subst hv
  go_enter Tryd.func12, Tryd.ntmps12
  go_wp2_with fail
  go_ret
  refine ⟨rfl, v, HW.out.below ((Below.refl _ _).alloc (Nat.le_refl _) _), ?_⟩
  exact ⟨Mods.alloc _ _ _, Fresh.refl _ _⟩

theorem times_put_nilw (w : World) : Calls Tryd.prog 12 #[.pointer none, .slice none 0 0] w fun e w' => e = .returned (.int .i64 1) ∧ Below w.heap.size w w' := by
  go_enter Tryd.func12, Tryd.ntmps12
  go_wp2_with fail
  go_ret
  exact ⟨rfl, (Below.refl _ _).alloc (Nat.le_refl _) _⟩

set_option maxRecDepth 100000 in
set_option maxHeartbeats 2000000 in
theorem times_put_cons (p : Nat) (v lv : Value) (bits : List Bool) (ls : List Int) (t0 : Int) (tl : List Int) (els : ls = t0 :: tl) (w : World) (hT : TabF w) (hW : WriterIn w p v bits) (hgp : 0 + 1 ≤ p) (hgv : ∀ k, v.ownBlock = some k → 0 + 1 ≤ k)
    (hl : Rd w 1 lv ls.length (i64s ls)) (hap : ∀ k, lv.ownBlock = some k → k ≠ p ∧ v.ownBlock ≠ some k) (hz : bits.length + 68 * ls.length ≤ 70368744177000) :
    Calls Tryd.prog 12 #[.pointer (some ⟨p, 0, none⟩), lv] w fun e w' => e = .returned (.int .i64 0) ∧ BitsPost p v (bits ++ encT ls) w w' := by
  have HLT := Lib.hid (i64s_lt hl)
  obtain ⟨b0, off, c, e, _, _, hcl⟩ := hl.at (by rw [els]; simp [i64s])
  subst e
  have HL := Lib.hid hl; have HT := Lib.hid hT; have HEL := Lib.hid els; have HW := Lib.hid hW
  have hne : (ls.length : Int) ≠ 0 := by rw [els]; simp only [List.length_cons]; omega
  have hpos : (0 : Int) < (ls.length : Int) := by omega
  have hnb : ((ls.length : Int) == 0) = false := by rw [beq_eq_false_iff_ne]; exact hne
  have HZ : Hid (bits.length + 68 * (changesT t0 0 tl).length + 68 ≤ 70368744177000) := by show _ ≤ _; rw [changesT_length]; rw [els, List.length_cons] at hz; omega
  have hc0 : w.cell? ⟨b0, off, none⟩ = some (.int .i64 t0) := by have := hcl 0 (.int .i64 t0) (by rw [els]; rfl); simpa using this
  have HAp : Hid (b0 ≠ p ∧ v.ownBlock ≠ some b0 ∧ b0 < w.heap.size) := ⟨(hap b0 rfl).1, (hap b0 rfl).2, World.block_lt_of_cell? w _ hc0⟩
  have HG : Hid (0 + 1 ≤ p ∧ ∀ k, v.ownBlock = some k → 0 + 1 ≤ k) := ⟨hgp, hgv⟩
  have hwr := wrap_ofI t0
  clear hl hT els hz hcl hW hap hgp hgv
  refine (callsIn_wide (n := 9)).1 ?_
  refine callsIn_of_wp_marks Tryd.func12 rfl trivial ?_ rfl
  simp only [Tryd.ntmps12, List.size_toArray, List.length_cons, List.length_nil, Nat.reduceAdd, Nat.reduceSub, Array.replicate_succ, Array.replicate_zero, List.push_toArray, List.append_toArray, List.nil_append, List.cons_append]
  gi_wp2_with fail
  obtain ⟨w1, hw1⟩ : ∃ w1, w.alloc (.cells #[.pointer (some ⟨p, 0, none⟩)] 24) = w1 := ⟨_, rfl⟩
  have hs1 : w1.heap.size = w.heap.size + 1 := by rw [← hw1]; simp
  have hB1 : Below w.heap.size w w1 := by rw [← hw1]; exact (Below.refl _ w).alloc (Nat.le_refl _) _
  have hx1 : Blk w1 w.heap.size [.pointer (some ⟨p, 0, none⟩)] := by rw [← hw1]; exact Blk.new w _ _
  rw [hw1]
  clear hw1
  have hW1 := HW.out.below hB1
  have HPl : Hid (p < w.heap.size ∧ ∀ k, v.ownBlock = some k → k < w.heap.size) := ⟨HW.out.blk.lt, owns_lt HW.out.own⟩
  have HWB := Lib.hid (wbits p v bits (ofI t0) 64 w1.drew (hW1.mods (Mods.drew (fun _ => False) w1) (fun e => e) (fun _ _ e => e)) (by omega) (by have := HZ.out; omega))
  have d0 : w1.cell? ⟨w.heap.size, 0, none⟩ = some (.pointer (some ⟨p, 0, none⟩)) := by rw [hx1.cell]; rfl
  have d1 : w1.cell? ⟨b0, off, none⟩ = some (.int .i64 t0) := (hB1.cell HAp.out.2.2).trans hc0
  have HD1 := Lib.hid d1
  have HX1 := Lib.hid hx1; have HS1 := Lib.hid hs1; have HB1 := Lib.hid hB1
  have HC : Hid (∀ w' : World, (w'.cell? ⟨w.heap.size, 0, none⟩ = some (.pointer (some ⟨p, 0, none⟩)) ∧ w'.cell? ⟨b0, off, none⟩ = some (.int .i64 t0) ∧ True) → (w'.cell? ⟨w.heap.size, 0, none⟩ = some (.pointer (some ⟨p, 0, none⟩)) ∧ w'.cell? ⟨b0, off, none⟩ = some (.int .i64 t0) ∧ True)) := fun _ h => h
  clear hW1 hx1 hs1 hB1 hc0
  refine wpIn_wide.2 (wp_normal ?_)
  have hposN : 0 < ls.length := by omega
  refine wp_region_takeH (fun w' : World => w'.cell? ⟨w.heap.size, 0, none⟩ = some (.pointer (some ⟨p, 0, none⟩)) ∧ w'.cell? ⟨b0, off, none⟩ = some (.int .i64 t0) ∧ True) [5] [0, 1, 2, 3, 4, 5] (by kernel_rfl) (by kernel_rfl) (by kernel_rfl) ?_ ?_ ?_
  · intro c a a' w hd h; cases h.1
  · exact ⟨d0, d1, trivial⟩
  clear d0 d1
  simp only [taken, List.map_cons, List.map_nil, List.getElem?_cons_succ, List.getElem?_cons_zero, Option.getD_some]
  repeat (first
        | (refine takeH_skip rfl ?_; simp only [Act.put, List.setIfInBounds_toArray, List.set_cons_succ, List.set_cons_zero])
        | (refine takeH_blind rfl rfl ?_; apply Exists.intro; refine ⟨fun w => ?_, ?_⟩; (go_simp; try with_reducible rfl); simp only [Act.put, List.setIfInBounds_toArray, List.set_cons_succ, List.set_cons_zero])
        | (refine takeH_reads rfl rfl ?_; apply Exists.intro; refine ⟨fun w' hS => ?_, ?_⟩; (obtain ⟨d0, d1, d2⟩ := HC.out w' hS; go_simp; try with_reducible rfl); simp only [Act.put, List.setIfInBounds_toArray, List.set_cons_succ, List.set_cons_zero]))
  refine takeH_call rfl rfl (fun K' hK => ?_)
  go_wp2_with fail
  refine HWB.out.mono ?_
  rintro e w2 ⟨rfl, v2, hW2, hU2⟩
  have HU2 : Hid (Upd w1 w2 p v v2) := ⟨(Mods.drew (fun k => k = p ∨ v.ownBlock = some k) w1).trans hU2.mods (fun _ _ e => e), hU2.fresh⟩
  have HW2 := Lib.hid hW2
  have hxb : ¬ (w.heap.size = p ∨ v.ownBlock = some w.heap.size) := fun e => by
    rcases e with e | e
    · have := HPl.out.1; omega
    · have := HPl.out.2 _ e; omega
  have HX2 := Lib.hid (HU2.out.mods.blk HX1.out hxb)
  have HT2 : Hid (TabF w2) := (HT.out.below HB1.out (Nat.le_refl _)).block (HU2.out.mods.block _ (by have := HT.out.lt; have := HS1.out; omega) (fun e => by
    rcases e with e | e
    · have := HG.out.1; omega
    · have := HG.out.2 _ e; omega))
  have hlb : ∀ k, (Value.slice (some ⟨b0, off, none⟩) ls.length c).ownBlock = some k → ¬ (k = p ∨ v.ownBlock = some k) := fun k hk e => by
    obtain rfl : b0 = k := by simpa [Value.ownBlock] using hk
    rcases e with e | e
    · exact HAp.out.1 e
    · exact HAp.out.2.1 e
  have HL2 := Lib.hid ((HL.out.below HB1.out).mods HU2.out.mods hlb)
  refine hK _ _ ⟨by rw [HX2.out.cell]; rfl, ?_, trivial⟩ ?_
  · exact HU2.out.mods.cell HD1.out (hlb b0 rfl)
  clear hK K' hW2 hU2 HWB hxb hlb
  refine takeH_nil ⟨rfl, ?_⟩
  gi_wp2_with (refine ⟨trivial, ?_⟩; gi_at_call 29; refine (new_changes _ _ c _ _).mono ?_; rintro e w' ⟨rfl, rfl⟩)
  obtain ⟨W0, hW0⟩ : ∃ W0, w2.alloc (.cells #[.slice (some ⟨b0, off, none⟩) ls.length c] 22) = W0 := ⟨_, rfl⟩
  have hs0 : W0.heap.size = w2.heap.size + 1 := by rw [← hW0]; simp
  have hB0 : Below w2.heap.size w2 W0 := by rw [← hW0]; exact (Below.refl _ w2).alloc (Nat.le_refl _) _
  have hx0 : W0.cell? ⟨w2.heap.size, 0, none⟩ = some (.slice (some ⟨b0, off, none⟩) ls.length c) := by
    have := (Blk.new w2 #[.slice (some ⟨b0, off, none⟩) ls.length c] 22).cell 0
    rw [hW0] at this
    simpa using this
  rw [hW0]
  clear hW0
  have HX0 := Lib.hid (HX2.out.of_same (hB0.block _ HX2.out.lt))
  have HT0 := Lib.hid (HT2.out.below hB0 (Nat.le_refl _))
  have HW0 := Lib.hid (HW2.out.below hB0)
  have HP2 : Hid (p < w2.heap.size ∧ (∀ k, v2.ownBlock = some k → k < w2.heap.size) ∧ w1.heap.size ≤ w2.heap.size) := ⟨HW2.out.blk.lt, owns_lt HW2.out.own, HU2.out.mods.size⟩
  have HV2 : Hid (∀ k, v2.ownBlock = some k → v.ownBlock = some k ∨ w1.heap.size ≤ k) := fun k hk => HU2.out.fresh k hk
  have HKW : Hid (∀ k, (k = w2.heap.size ∨ (Value.slice (some ⟨b0, off, none⟩) ls.length c).ownBlock = some k) → k ≠ p ∧ v2.ownBlock ≠ some k ∧ k < W0.heap.size) := fun k hk => by
    have h1 := HP2.out.1; have h2 := HPl.out.1; have h3 := HS1.out; have h4 := HP2.out.2.2; have h5 := HAp.out
    rcases hk with e | e
    · exact ⟨by omega, fun e2 => by have := HP2.out.2.1 k e2; omega, by omega⟩
    · obtain rfl : b0 = k := by simpa [Value.ownBlock] using e
      refine ⟨h5.1, fun e2 => ?_, by omega⟩
      rcases HV2.out b0 e2 with e3 | e3
      · exact h5.2.1 e3
      · omega
  have HXn : Hid (¬ (w.heap.size = p ∨ v2.ownBlock = some w.heap.size)) := fun e => by
    have h1 := HPl.out.1; have h3 := HS1.out
    rcases e with e | e
    · omega
    · rcases HV2.out _ e with e3 | e3
      · have := HPl.out.2 _ e3; omega
      · omega
  have HGn : Hid (¬ (0 = p ∨ v2.ownBlock = some 0)) := fun e => by
    have h1 := HG.out.1; have h3 := HS1.out; have h4 := HT.out.lt
    rcases e with e | e
    · omega
    · rcases HV2.out _ e with e3 | e3
      · have := HG.out.2 _ e3; omega
      · omega
  have HGV := Lib.hid (changes_gives 8 (by omega) w2.heap.size _ ls t0 tl HEL.out W0 hx0 (HL2.out.below hB0))
  have HS0 := Lib.hid hs0; have HB0 := Lib.hid hB0
  clear hx0 hs0 hB0
  obtain ⟨K, hK⟩ : ∃ K : Nat → Prop, (fun k => k = w2.heap.size ∨ (Value.slice (some ⟨b0, off, none⟩) ls.length c).ownBlock = some k) = K := ⟨_, rfl⟩
  have HKW2 : Hid (∀ k, K k → k ≠ p ∧ v2.ownBlock ≠ some k ∧ k < W0.heap.size) := by rw [← hK]; exact HKW.out
  rw [hK] at HGV
  clear hK HKW
  obtain ⟨ys, hys⟩ : ∃ ys, changesT t0 0 tl = ys := ⟨_, rfl⟩
  have HE : Hid (bits ++ encT ls = (bits ++ fieldBits (ofI t0) 64) ++ ys.flatMap encX) := by show _ = _; rw [HEL.out, encT_changes, hys, List.append_assoc]
  have HO : Hid ((bits ++ fieldBits (ofI t0) 64).length = bits.length + 64) := by show _ = _; rw [List.length_append, fieldBits_length]
  rw [hys] at HGV HZ
  clear hys
  generalize bits ++ fieldBits (ofI t0) 64 = out0 at *
  refine wpIn_rangeFunc_ownG rfl (by omega) (gf := 40) (lb := #[.pointer (some ⟨w2.heap.size, 0, none⟩)]) rfl trivial (enters_of Tryd.func40 (by kernel_rfl) rfl)
    HGV.out (fun h k => keepAt_t h k) (fun W l o o' h1 h2 h3 h4 => keepAt_b (fun k hk => (HKW2.out k hk).2.2) W l o o' h1 h2 h3 h4) (Below.refl _ _) (fun _ => rfl)
    (fun pre W => PutIn p v2 W0 (out0 ++ pre.flatMap encX) W)
    (fun _ _ _ => False)
    (putIn_own (Nat.le_refl _) p v2 (fun pre : List Int => out0 ++ pre.flatMap encX))
    (fun _ _ _ _ _ hs _ _ => hs)
    ⟨v2, by simpa using HW0.out, Upd.refl _ _ _⟩
    (fun x => { tmps := #[.pointer (some ⟨p, 0, none⟩), .slice (some ⟨b0, off, none⟩) ls.length c, .pointer (some ⟨w.heap.size, 0, none⟩), undef, .int .i64 0, .int .i64 x, undef, .pointer (some ⟨p, 0, none⟩), .bool false, .slice (some ⟨b0, off, none⟩) ls.length c, .int .i64 (ls.length : Int), .bool false, .pointer (some ⟨p, 0, none⟩), .slice (some ⟨b0, off, none⟩) ls.length c, .pointer (some ⟨b0, off, none⟩), .int .i64 t0, .int .u64 (ofI t0 : Int), .int .i64 0, .slice (some ⟨b0, off, none⟩) ls.length c, .func (.func 40) #[] #[.pointer (some ⟨w2.heap.size, 0, none⟩)], .int .i64 x, undef, undef, undef, undef, undef, undef, undef, undef, undef, undef, undef, undef, undef, undef], defers := [] }) ?assign ?body ?done ?stop
  case assign =>
    intro l x W K hK
    simp only [List.zip_toArray, List.zip_cons_cons, List.zip_nil_right, List.foldl_toArray, List.foldl_cons, List.foldl_nil, List.setIfInBounds_toArray, List.set_cons_zero, List.set_cons_succ]
    gi_wp2
    exact hK
  case body =>
    rintro l pre x W ⟨v', hW', hU'⟩ hlen
    have HTW := Lib.hid (HT0.out.block (hU'.mods.block _ HT0.out.lt HGn.out))
    have HXW := Lib.hid (hU'.mods.blk HX0.out HXn.out)
    have HF := Lib.hid (formOf_cells x W HTW.out)
    have h1 := markLen_le (formT x)
    have h2 := widthT_le (formT x)
    have HEx := Lib.hid (encX_mark x)
    have hwx := wrap_ofI x
    have HZ2 : Hid ((out0 ++ pre.flatMap encX).length + 136 ≤ 1125899906842624) := by show _ ≤ _; have := encX_all pre; have := HZ.out; have := HO.out; rw [List.length_append]; omega
    have HW' := Lib.hid hW'; have HU' := Lib.hid hU'
    have HPre : Hid (out0 ++ (pre ++ [x]).flatMap encX = (out0 ++ pre.flatMap encX) ++ encX x) := by show _ = _; rw [List.flatMap_append, List.flatMap_cons, List.flatMap_nil, List.append_nil, List.append_assoc]
    clear hW' hU'
    generalize encX x = EX at *
    generalize markT (formT x) = m1 at *
    generalize markLenT (formT x) = m2 at *
    generalize widthT (formT x) = m3 at *
    generalize ofI x = ux at *
    have HPw : Hid (p < W.heap.size ∧ (∀ k, v'.ownBlock = some k → k < W.heap.size) ∧ W0.heap.size ≤ W.heap.size) := ⟨HW'.out.blk.lt, owns_lt HW'.out.own, HU'.out.mods.size⟩
    have HXl : Hid (w.heap.size < W.heap.size) := HXW.out.lt
    have HXv : Hid (¬ (w.heap.size = p ∨ v'.ownBlock = some w.heap.size)) := fun e => by
      rcases e with e | e
      · exact HXn.out (Or.inl e)
      · rcases HU'.out.fresh _ e with e2 | e2
        · exact HXn.out (Or.inr e2)
        · have := HX0.out.lt; omega
    gi_wp2_with fail
    refine ⟨trivial, (CallsIn.inRound l (callsIn_wide.2 HF.out)).mono ?_⟩
    rintro e w3 ⟨rfl, hB3⟩
    have hW4 := HW'.out.below (hB3.trans (((Below.refl _ w3).alloc (Nat.le_refl _) (.cells #[.int .u64 (m1 : Int), .int .i64 (m2 : Int), .int .i64 (m3 : Int)] 67)).mono hB3.size))
    have HWB4 := Lib.hid (wbits p v' _ m1 m2 _ hW4 (by omega) (by have := HZ2.out; omega))
    have hx3 := HXW.out.of_same (hB3.block _ HXW.out.lt)
    have c0 : w3.cell? ⟨w.heap.size, 0, none⟩ = some (.pointer (some ⟨p, 0, none⟩)) := by rw [hx3.cell]; rfl
    have hlt3 := hx3.lt
    have HX4 : Hid (Blk (w3.alloc (.cells #[.int .u64 (m1 : Int), .int .i64 (m2 : Int), .int .i64 (m3 : Int)] 67)) w.heap.size [.pointer (some ⟨p, 0, none⟩)]) := hx3.alloc _
    have HF4 : Hid (Blk (w3.alloc (.cells #[.int .u64 (m1 : Int), .int .i64 (m2 : Int), .int .i64 (m3 : Int)] 67)) w3.heap.size [.int .u64 (m1 : Int), .int .i64 (m2 : Int), .int .i64 (m3 : Int)]) := Blk.new w3 _ _
    have HFl : Hid (¬ (w3.heap.size = p ∨ v'.ownBlock = some w3.heap.size)) := fun e => by
      have h1 := HPw.out; have h2 := hB3.size
      rcases e with e | e
      · omega
      · have := h1.2.1 _ e; omega
    have HM4 : Hid (Mods (fun k => k = p ∨ v'.ownBlock = some k) W (w3.alloc (.cells #[.int .u64 (m1 : Int), .int .i64 (m2 : Int), .int .i64 (m3 : Int)] 67))) := (Mods.of_below hB3 _).trans (Mods.alloc _ _ _) (fun _ _ e => e)
    clear hB3 hW4 hx3 HF
    gi_wp2_with fail
    refine ⟨trivial, (CallsIn.inRound l (callsIn_wide.2 HWB4.out)).mono ?_⟩
    rintro e w5 ⟨rfl, v5, hW5, hU5⟩
    have hx5 := hU5.mods.blk HX4.out HXv.out
    have hf5 := hU5.mods.blk HF4.out HFl.out
    have c5 : w5.cell? ⟨w.heap.size, 0, none⟩ = some (.pointer (some ⟨p, 0, none⟩)) := by rw [hx5.cell]; rfl
    have d5 : w5.cell? ⟨w3.heap.size, 2, none⟩ = some (.int .i64 (m3 : Int)) := by rw [hf5.cell]; rfl
    have HWB5 := Lib.hid (wbits p v5 _ ux m3 _ hW5 (by omega) (by have := HZ2.out; rw [List.length_append, fieldBits_length]; omega))
    have HU5 := Lib.hid hU5
    clear hx5 hf5 hU5 hW5 HWB4 c0
    gi_wp2_with fail
    refine ⟨trivial, (CallsIn.inRound l (callsIn_wide.2 HWB5.out)).mono ?_⟩
    rintro e w6 ⟨rfl, v6, hW6, hU6⟩
    have hU : Upd W w6 p v' v6 := Upd.trans (⟨HM4.out, Fresh.refl _ _⟩ : Upd W (w3.alloc (.cells #[.int .u64 (m1 : Int), .int .i64 (m2 : Int), .int .i64 (m3 : Int)] 67)) p v' v') (HU5.out.trans hU6)
    have HUf := Lib.hid hU; have HWf := Lib.hid hW6
    clear hU hW6 hU6 HWB5 HU5 HM4 HX4 HF4
    gi_wp2_with fail
    refine ⟨(putIn_keeps HW'.out HUf.out.mods).from _, fun k hk => ?_, v6, ?_, HU'.out.trans HUf.out⟩
    · have h1 := HKW2.out k hk
      refine HUf.out.mods.block k (by have := HPw.out.2.2; omega) (fun e => ?_)
      rcases e with e | e
      · exact h1.1 e
      · rcases HU'.out.fresh k e with e2 | e2
        · exact h1.2.1 e2
        · omega
    · have h := HWf.out
      rw [List.append_assoc] at h
      rw [HPre.out, HEx.out]
      exact h
  case done =>
    rintro D zs W hD rfl hI hK
    have HI := Lib.hid hI
    clear hI HGV
    gi_wp2
    refine ⟨by simp, .inl ⟨_, _, rfl, run_takeDeferred hK, ?_⟩⟩
    refine ⟨_, results_tmp rfl _ _ _, rfl, ?_⟩
    obtain ⟨v', hW', hU'⟩ := putIn_own (β := Unit) (Nat.le_refl W0.heap.size) p v2 (fun _ => out0 ++ zs.flatMap encX) () W (W.putObj D (.deferred none)) (some D) HI.out (grownBy_putObj' _ _ _) (fun r e => by cases e; exact ⟨hD, _, hK, rfl⟩)
    have u1 : Upd w w1 p v v := ⟨Mods.of_below HB1.out _, Fresh.refl _ _⟩
    have u2 : Upd w2 W0 p v2 v2 := ⟨Mods.of_below HB0.out _, Fresh.refl _ _⟩
    rw [HE.out]
    exact ⟨v', hW', u1.trans (HU2.out.trans (u2.trans hU'))⟩
  case stop =>
    rintro D c pre W _ _ h _
    exact h.elim
end Go.Proofs.YtjgiaibpipgjjaaDoor
