/- Layer 5: the program's Size. -/
import Derived.Test.YtjgiaibpipgjjaaDoorTimesCh
import Derived.Test.YtjgiaibpipgjjaaDoorTimesI
set_option linter.unusedVariables false
namespace Go.Proofs.YtjgiaibpipgjjaaDoor
open Go Go.RowKit Go.Shelf
attribute [local go_sem] Oper.semAt_some

theorem headT_length {k : Nat} (hk : k ≤ 4) : (headT k).length = markLenT k := by
  match k, hk with
  | 0, _ => rfl
  | 1, _ => rfl
  | 2, _ => rfl
  | 3, _ => rfl
  | 4, _ => rfl
theorem encX_length (x : Int) : (encX x).length = markLenT (formT x) + widthT (formT x) := by
  rw [encX, List.length_append, fieldBits_length, headT_length (formT_le x)]
theorem encT_changes (t0 : Int) (tl : List Int) : encT (t0 :: tl) = fieldBits (ofI t0) 64 ++ (changesT t0 0 tl).flatMap encX := by rw [encT, encFrom_changes]
theorem flat_take_le {pre ys : List Int} (h : pre.length ≤ ys.length) : True := trivial
theorem encX_all (ys : List Int) : (ys.flatMap encX).length ≤ 68 * ys.length := by
  induction ys with
  | nil => exact Nat.le_refl _
  | cons y ys ih => rw [List.flatMap_cons, List.length_append, List.length_cons]; have := encX_len y; omega

theorem times_size_nil (w : World) (v : Value) (h : Rd w 1 v 0 []) : Calls Tryd.prog 18 #[v] w fun e w' => e = .returned (.int .i64 0) ∧ Below w.heap.size w w' := by
  obtain ⟨p, c, hv⟩ := h.shape
  subst hv
  go_enter Tryd.func18, Tryd.ntmps18
  go_wp2_with fail
  go_ret
  exact ⟨rfl, Below.refl _ _⟩

set_option maxRecDepth 100000 in
set_option maxHeartbeats 1000000 in
theorem times_size_cons (lv : Value) (ls : List Int) (t0 : Int) (tl : List Int) (els : ls = t0 :: tl) (w : World) (hT : TabF w) (hl : Rd w 1 lv ls.length (i64s ls)) (hz : 68 * ls.length ≤ 70368744177000) :
    Calls Tryd.prog 18 #[lv] w fun e w' => e = .returned (.int .i64 ((encT ls).length : Int)) ∧ Below w.heap.size w w' := by
  obtain ⟨p, c, hv⟩ := hl.shape
  subst hv
  have HL := Lib.hid hl; have HT := Lib.hid hT; have HEL := Lib.hid els
  have hne : (ls.length : Int) ≠ 0 := by rw [els]; simp only [List.length_cons]; omega
  have hnb : ((ls.length : Int) == 0) = false := by rw [beq_eq_false_iff_ne]; exact hne
  have HZ : Hid (68 * (changesT t0 0 tl).length + 68 ≤ 70368744177000) := by show _ ≤ _; rw [changesT_length]; rw [els, List.length_cons] at hz; omega
  have HLT := Lib.hid (i64s_lt hl)
  clear hl hT els hz
  refine (callsIn_wide (n := 9)).1 ?_
  refine callsIn_of_wp_marks Tryd.func18 rfl trivial ?_ rfl
  simp only [Tryd.ntmps18, List.size_toArray, List.length_cons, List.length_nil, Nat.reduceAdd, Nat.reduceSub, Array.replicate_succ, Array.replicate_zero, List.push_toArray, List.append_toArray, List.nil_append, List.cons_append]
  gi_wp2_with (refine ⟨trivial, ?_⟩; gi_at_call 29; refine (new_changes p _ c _ _).mono ?_; rintro e w' ⟨rfl, rfl⟩)
  obtain ⟨W0, hW0⟩ : ∃ W0, (w.alloc (.cells #[.int .i64 64] 3)).alloc (.cells #[.slice p ls.length c] 22) = W0 := ⟨_, rfl⟩
  have hs0 : W0.heap.size = w.heap.size + 2 := by rw [← hW0]; simp
  have hB0 : Below w.heap.size w W0 := by rw [← hW0]; exact ((Below.refl _ w).alloc (Nat.le_refl _) _).alloc (by simp) _
  have hn0 : Blk W0 w.heap.size [.int .i64 64] := by rw [← hW0]; exact (Blk.new w _ _).alloc _
  have hx0 : W0.cell? ⟨w.heap.size + 1, 0, none⟩ = some (.slice p ls.length c) := by
    have := (Blk.new (w.alloc (.cells #[.int .i64 64] 3)) #[.slice p ls.length c] 22).cell 0
    rw [hW0] at this
    simpa using this
  have hl0 := HL.out.below hB0
  have HKW : Hid (∀ k, (k = w.heap.size + 1 ∨ (Value.slice p ls.length c).ownBlock = some k) → k ≠ w.heap.size ∧ k < W0.heap.size) := fun k hk => by
    rcases hk with e | e
    · omega
    · have := HLT.out (by rw [HEL.out]; simp) k e; omega
  have HGV := Lib.hid (changes_gives 8 (by omega) (w.heap.size + 1) _ ls t0 tl HEL.out W0 hx0 hl0)
  rw [hW0]
  clear hW0 hx0 hl0
  obtain ⟨K, hK⟩ : ∃ K : Nat → Prop, (fun k => k = w.heap.size + 1 ∨ (Value.slice p ls.length c).ownBlock = some k) = K := ⟨_, rfl⟩
  have HKW2 : Hid (∀ k, K k → k ≠ w.heap.size ∧ k < W0.heap.size) := by rw [← hK]; exact HKW.out
  rw [hK] at HGV
  clear hK HKW
  obtain ⟨ys, hys⟩ : ∃ ys, changesT t0 0 tl = ys := ⟨_, rfl⟩
  have HE : Hid (encT ls = fieldBits (ofI t0) 64 ++ ys.flatMap encX) := by show _ = _; rw [HEL.out, encT_changes, hys]
  rw [hys] at HGV HZ
  clear hys
  refine wpIn_rangeFunc_ownG rfl (by omega) (gf := 40) (lb := #[.pointer (some ⟨w.heap.size + 1, 0, none⟩)]) rfl trivial (enters_of Tryd.func40 (by kernel_rfl) rfl)
    HGV.out (fun h k => keepAt_t h k) (fun W l o o' h1 h2 h3 h4 => keepAt_b (fun k hk => (HKW2.out k hk).2) W l o o' h1 h2 h3 h4) (Below.refl _ _) (fun _ => rfl)
    (fun pre W => Blk W w.heap.size [.int .i64 ((64 + (pre.flatMap encX).length : Nat) : Int)] ∧ Mods (fun k => k = w.heap.size) W0 W)
    (fun _ _ _ => False)
    (OwnFrom.and (Own.from (own_blk _ _) _) (ownFrom_mods (Nat.le_refl _)))
    (fun _ _ _ _ _ hs _ _ => hs)
    ⟨hn0, Mods.refl _ _⟩
    (fun x => { tmps := #[.slice p ls.length c, undef, .int .i64 0, .pointer (some ⟨w.heap.size, 0, none⟩), .int .i64 x, undef, .slice p ls.length c, .int .i64 (ls.length : Int), .bool false, .slice p ls.length c, .func (.func 40) #[] #[.pointer (some ⟨w.heap.size + 1, 0, none⟩)], .int .i64 x, undef, undef, undef, undef, undef, undef, undef, undef, undef, undef], defers := [] }) ?assign ?body ?done ?stop
  case assign =>
    intro l x W K hK
    simp only [List.zip_toArray, List.zip_cons_cons, List.zip_nil_right, List.foldl_toArray, List.foldl_cons, List.foldl_nil, List.setIfInBounds_toArray, List.set_cons_zero, List.set_cons_succ]
    gi_wp2
    exact hK
  case body =>
    rintro l pre x W ⟨hn, hM0⟩ hlen
    have hB := hB0.trans (hM0.below (by omega) (fun k hk e => by omega))
    have hTW := Lib.hid (HT.out.below hB (Nat.le_refl _))
    have HF := Lib.hid (formOf_cells x W hTW.out)
    have h1 := markLen_le (formT x)
    have h2 := widthT_le (formT x)
    have HL2 := Lib.hid (encX_length x)
    have hZ : 64 + (pre.flatMap encX).length ≤ 70368744177000 := by have := encX_all pre; have := HZ.out; omega
    generalize markT (formT x) = m1 at *
    generalize markLenT (formT x) = m2 at *
    generalize widthT (formT x) = m3 at *
    obtain ⟨Z, hZe⟩ : ∃ Z, 64 + (pre.flatMap encX).length = Z := ⟨_, rfl⟩
    rw [hZe] at hn hZ
    have HZe := Lib.hid hZe
    clear hZe
    have HN := Lib.hid hn; have HM0 := Lib.hid hM0
    clear hn hB hM0
    gi_wp2_with (refine ⟨trivial, ?_⟩; gi_at_call 30; refine (CallsIn.inRound l (callsIn_wide.2 HF.out)).mono ?_; rintro e w2 ⟨rfl, hB2⟩; have hn2 := HN.out.of_same (hB2.block _ HN.out.lt); have c0 : w2.cell? ⟨w.heap.size, 0, none⟩ = some (.int .i64 (Z : Int)) := (by rw [hn2.cell]; rfl); have f0 := hn2.free 0; have hlt2 := hn2.lt; have HN2 := Lib.hid hn2; clear hn2; have HB2 := Lib.hid hB2; clear hB2)
    have hne2 : w.heap.size ≠ w2.heap.size := by omega
    have hn3 := (HN2.out.set 0 (.int .i64 ((Z : Int) + ((m2 : Int) + (m3 : Int))))).alloc (.cells #[.int .u64 (m1 : Int), .int .i64 (m2 : Int), .int .i64 (m3 : Int)] 67)
    have hZ2 : (64 + ((pre ++ [x]).flatMap encX).length : Nat) = Z + (m2 + m3) := by
      rw [List.flatMap_append, List.length_append, List.flatMap_cons, List.flatMap_nil, List.append_nil, HL2.out, ← Nat.add_assoc, HZe.out]
    have hM : Mods (fun k => k = w.heap.size) W ((w2.setCell ⟨w.heap.size, 0, none⟩ (.int .i64 ((Z : Int) + ((m2 : Int) + (m3 : Int))))).alloc (.cells #[.int .u64 (m1 : Int), .int .i64 (m2 : Int), .int .i64 (m3 : Int)] 67)) :=
      ((Mods.of_below HB2.out _).trans (Mods.set (fun k => k = w.heap.size) w2 ⟨w.heap.size, 0, none⟩ _ (fun _ => rfl)) (fun _ _ e => e)).trans (Mods.alloc (fun k => k = w.heap.size) _ _) (fun _ _ e => e)
    refine ⟨(KeepsOthers.of_mods hM (fun k o hk ho => ?_)).from _, fun k hk => ?_, ?_, ?_⟩
    · subst hk
      obtain ⟨t, ht⟩ := HN.out
      rw [ht] at ho
      cases ho; rfl
    · have := HKW2.out k hk
      exact hM.block k (by have := HM0.out.size; omega) this.1
    · rw [hZ2]
      have hc : ((Z + (m2 + m3) : Nat) : Int) = (Z : Int) + ((m2 : Int) + (m3 : Int)) := by omega
      rw [hc]
      simpa using hn3
    · exact HM0.out.trans hM (fun _ _ e => e)
  case done =>
    rintro D zs W hD rfl ⟨hn, hM0⟩ hK
    have c0 : W.cell? ⟨w.heap.size, 0, none⟩ = some (.int .i64 ((64 + (zs.flatMap encX).length : Nat) : Int)) := by rw [hn.cell]; rfl
    clear hn HGV
    have hB := hB0.trans (hM0.below (B := w.heap.size) (by omega) (fun k hk e => by omega))
    have HE2 : Hid ((64 + (zs.flatMap encX).length : Nat) = (encT ls).length) := by show _ = _; rw [HE.out, List.length_append, fieldBits_length]
    generalize (64 + (zs.flatMap encX).length : Nat) = Z at *
    gi_wp2
    refine ⟨by simp, .inl ⟨_, _, rfl, run_takeDeferred hK, ?_⟩⟩
    exact ⟨_, results_tmp rfl _ _ _, by rw [← HE2.out]; rfl, hB.trans (belowK_b (w := w) (Nat.le_refl _) W D _ _ (by omega) hK rfl rfl)⟩
  case stop =>
    rintro D c pre W _ _ h _
    exact h.elim
end Go.Proofs.YtjgiaibpipgjjaaDoor
