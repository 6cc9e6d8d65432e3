/- Layer 7: the program's Put. -/
import Derived.Test.YtnjdjmfjkjpelaaRnB
import Derived.Test.YtnjdjmfjkjpelaaPutIn
set_option linter.unusedVariables false
namespace Go.Proofs.Ytnjdjmfjkjpelaa
open Go Go.RowKit Go.Shelf
attribute [local go_sem] Oper.semAt_some

theorem isRun_of {W : World} {b : Nat} {x n : Int} {fz : Nat × Nat} (h : W.heap[b]? = some (.cells #[.int .u64 x, .int .i64 n] 31 fz)) : IsRun W b := ⟨x, n, fz, h⟩
theorem owns_not_run {W : World} {base : Nat} {e : TypeId} {sz : Nat} {v : Value} {n : Nat} {xs : List Value} (h : W.ownsRow base e sz v n xs) (he : e ≠ 31) {k : Nat} (hk : v.ownBlock = some k) : ¬ IsRun W k := by
  rintro ⟨x, m, fz, hr⟩
  rcases h.2 with ⟨rfl, _⟩ | ⟨g, cap, cur, rfl, _, hgb, _⟩
  · simp [Value.ownBlock] at hk
  · obtain rfl : g = k := by simpa [Value.ownBlock] using hk
    rw [hgb] at hr
    simp at hr
    exact he hr.2.1
theorem writer_not_run {W : World} {p : Nat} {v : Value} {out : List Bool} (h : WriterIn W p v out) : ∀ k, (k = p ∨ v.ownBlock = some k) → ¬ IsRun W k := by
  rintro k (rfl | hk)
  · rintro ⟨x, n, fz, hr⟩
    obtain ⟨t, ht⟩ := h.blk
    rw [ht] at hr
    simp at hr
  · exact owns_not_run h.own (by decide) hk
/-- Some values are put into an activation. -/
def RunBox (W : World) (b : Nat) (r : Rn) : Prop := W.heap[b]? = some (.cells #[.int .u64 (r.1.1 : Int), .int .i64 (r.1.2 : Int)] 31 (0, 0))
theorem RunBox.blk {W : World} {b : Nat} {r : Rn} (h : RunBox W b r) : Blk W b [.int .u64 (r.1.1 : Int), .int .i64 (r.1.2 : Int)] := ⟨_, h⟩
theorem RunBox.is {W : World} {b : Nat} {r : Rn} (h : RunBox W b r) : IsRun W b := isRun_of h
theorem runBox_own {β : Type} {B : Nat} (b : Nat) (r : Rn) : OwnFrom B (fun (_ : β) W => RunBox W b r) := fun _ W W' row h hg hr => (hg.block b (Array.getElem?_eq_some_iff.1 h).1 (row_other h (fun j e => (hr j e).2))).trans h

theorem runval_put_nilw (lv : Value) (l : List Nat) (w : World) (h : Rd w 1 lv l.length (u64s l)) : Calls Try.prog 17 #[.pointer none, lv] w fun e w' => e = .returned (.int .i64 1) ∧ Below w.heap.size w w' := by
  go_enter Try.func17, Try.ntmps17
  go_wp2_with fail
  go_ret
  exact ⟨rfl, (Below.refl _ _).alloc (Nat.le_refl _) _⟩

set_option maxRecDepth 100000 in
set_option maxHeartbeats 2000000 in
theorem runval_put (p : Nat) (v lv : Value) (bits : List Bool) (l : List Nat) (w : World) (hW : WriterIn w p v bits)
    (hl : Rd w 1 lv l.length (u64s l)) (hok : ∀ t ∈ l, in64u t) (hap : l ≠ [] → ∀ k, lv.ownBlock = some k → k ≠ p ∧ v.ownBlock ≠ some k) (hz : bits.length + 71 * l.length ≤ 70368744177000) :
    Calls Try.prog 17 #[.pointer (some ⟨p, 0, none⟩), lv] w fun e w' => e = .returned (.int .i64 0) ∧ BitsPost p v (bits ++ encR l) w w' := by
  obtain ⟨q, c, hv⟩ := hl.shape
  subst hv
  have HL := Lib.hid hl; have HOk := Lib.hid hok; have HW := Lib.hid hW; have HAp := Lib.hid hap
  have HZ : Hid (bits.length + 71 * (splitR l).length ≤ 70368744177000) := by show _ ≤ _; have := splitR_len l; omega
  have HLT : Hid (l ≠ [] → ∀ k, (Value.slice q l.length c).ownBlock = some k → k < w.heap.size) := fun h => hl.lt (fun e => h (by simpa [u64s] using e))
  clear hl hok hz hW hap
  refine (callsIn_wide (n := 9)).1 ?_
  refine callsIn_of_wp_marks Try.func17 rfl trivial ?_ rfl
  simp only [Try.ntmps17, List.size_toArray, List.length_cons, List.length_nil, Nat.reduceAdd, Nat.reduceSub, Array.replicate_succ, Array.replicate_zero, List.push_toArray, List.append_toArray, List.nil_append, List.cons_append]
  gi_wp2_with (refine ⟨trivial, ?_⟩; gi_at_call 33; refine (new_runs q _ c _ _).mono ?_; rintro e w' ⟨rfl, rfl⟩)
  obtain ⟨w1, hw1⟩ : ∃ w1, w.alloc (.cells #[.pointer (some ⟨p, 0, none⟩)] 39) = w1 := ⟨_, rfl⟩
  have hs1 : w1.heap.size = w.heap.size + 1 := by rw [← hw1]; simp
  have hB1 : Below w.heap.size w w1 := by rw [← hw1]; exact (Below.refl _ w).alloc (Nat.le_refl _) _
  have hx1 : Blk w1 w.heap.size [.pointer (some ⟨p, 0, none⟩)] := by rw [← hw1]; exact Blk.new w _ _
  rw [hw1]
  clear hw1
  obtain ⟨W0, hW0⟩ : ∃ W0, w1.alloc (.cells #[.slice q l.length c] 22) = W0 := ⟨_, rfl⟩
  have hs0 : W0.heap.size = w.heap.size + 2 := by rw [← hW0]; simp [hs1]
  have hB0 : Below w.heap.size w W0 := by rw [← hW0]; exact hB1.alloc (by omega) _
  have hX0 : Blk W0 w.heap.size [.pointer (some ⟨p, 0, none⟩)] := by rw [← hW0]; exact hx1.alloc _
  have hx0 : W0.cell? ⟨w.heap.size + 1, 0, none⟩ = some (.slice q l.length c) := by
    have := (Blk.new w1 #[.slice q l.length c] 22).cell 0
    rw [hW0, hs1] at this
    simpa using this
  rw [hW0]
  clear hW0
  have HPl : Hid (p < w.heap.size ∧ ∀ k, v.ownBlock = some k → k < w.heap.size) := ⟨HW.out.blk.lt, owns_lt HW.out.own⟩
  have HX0 := Lib.hid hX0; have HB0 := Lib.hid hB0; have HS0 := Lib.hid hs0
  have HW0 := Lib.hid (HW.out.below hB0)
  have HKW : Hid (∀ k, (k = w.heap.size + 1 ∨ (l ≠ [] ∧ (Value.slice q l.length c).ownBlock = some k)) → k ≠ p ∧ v.ownBlock ≠ some k ∧ k < W0.heap.size) := fun k hk => by
    have h1 := HPl.out.1
    rcases hk with e | ⟨h, e⟩
    · exact ⟨by omega, fun e2 => by have := HPl.out.2 _ e2; omega, by omega⟩
    · have := HLT.out h k e
      exact ⟨(HAp.out h k e).1, (HAp.out h k e).2, by omega⟩
  have HGV := Lib.hid (runs_gives 8 (by omega) (w.heap.size + 1) _ l W0 hx0 (HL.out.below hB0) HOk.out)
  clear hx0 hX0 hx1 hB1 hB0 hs0 hs1
  obtain ⟨K, hK⟩ : ∃ K : Nat → Prop, (fun k => k = w.heap.size + 1 ∨ (l ≠ [] ∧ (Value.slice q l.length c).ownBlock = some k)) = K := ⟨_, rfl⟩
  have HKW2 : Hid (∀ k, K k → k ≠ p ∧ v.ownBlock ≠ some k ∧ k < W0.heap.size) := by rw [← hK]; exact HKW.out
  rw [hK] at HGV
  clear hK HKW
  have HXn : Hid (¬ (w.heap.size = p ∨ v.ownBlock = some w.heap.size)) := fun e => by
    have h1 := HPl.out
    rcases e with e | e
    · omega
    · have := h1.2 _ e; omega
  have HE : Hid (encR l = (splitR l).flatMap encRun) := rfl
  generalize splitR l = rs at *
  refine wpIn_rangeFunc_ownH rfl (by omega) (gf := 43) (lb := #[.pointer (some ⟨w.heap.size + 1, 0, none⟩)]) rfl trivial (enters_of Try.func43 (by kernel_rfl) rfl)
    HGV.out (fun h k => keepRun_t h k) (fun W l o o' h1 h2 h3 h4 => keepRun_b (fun k hk => (HKW2.out k hk).2.2) W l o o' h1 h2 h3 h4) (Below.refl _ _) (fun _ => rfl)
    (fun pre W => PutIn p v W0 (bits ++ (rnsOf pre).flatMap encRun) W)
    (fun _ _ _ => False)
    (putIn_own (Nat.le_refl _) p v (fun pre : List Rn => bits ++ (rnsOf pre).flatMap encRun))
    (fun _ _ _ _ _ hs _ _ => hs)
    ⟨v, by simpa [rnsOf] using HW0.out, Upd.refl _ _ _⟩
    (fun x a' W => ∃ b, a' = { tmps := #[.pointer (some ⟨p, 0, none⟩), .slice q l.length c, .pointer (some ⟨w.heap.size, 0, none⟩), undef, .int .i64 0, .pointer (some ⟨b, 0, none⟩), .pointer (some ⟨p, 0, none⟩), .bool false, .slice q l.length c, .func (.func 43) #[] #[.pointer (some ⟨w.heap.size + 1, 0, none⟩)], runV x, undef, undef, undef, undef, undef, undef, undef, undef, undef, undef], defers := [] } ∧ RunBox W b x)
    ?ax ?assign ?body ?done ?stop
  case ax =>
    rintro x a' s W W' row ⟨b, h1, h2⟩ hg hr
    exact ⟨b, h1, runBox_own (β := Unit) b x () W W' row h2 hg hr⟩
  case assign =>
    intro l pre x W K hI hK
    obtain ⟨⟨xv, xn⟩, hx⟩ := x
    simp only [runV, List.zip_toArray, List.zip_cons_cons, List.zip_nil_right, List.foldl_toArray, List.foldl_cons, List.foldl_nil, List.setIfInBounds_toArray, List.set_cons_zero, List.set_cons_succ]
    gi_wp2
    obtain ⟨v', hW', hU'⟩ := hI
    have hB : Below W.heap.size W (W.alloc (.cells #[.int .u64 (xv : Int), .int .i64 (xn : Int)] 31)) := (Below.refl _ W).alloc (Nat.le_refl _) _
    refine hK _ _ ((KeepsOthers.alloc W _).from _) (keepRun_mods (Mods.alloc (fun _ => False) W _) hU'.mods.size (fun k hk => (HKW2.out k hk).2.2) (fun _ _ e => e) (fun _ e => e.elim)) ⟨v', hW'.below hB, hU'.trans ⟨Mods.of_below hB _, Fresh.refl _ _⟩⟩ ⟨W.heap.size, rfl, World.alloc_heap_new W _⟩
  case body =>
    rintro l pre x a' W hlw hrec ⟨v', hW', hU'⟩ ⟨b, rfl, hRB⟩ hlen
    obtain ⟨⟨xv, xn⟩, hx⟩ := x
    obtain ⟨m, rfl⟩ : ∃ m, xn = m + 1 := ⟨xn - 1, by have := hx.1; simp at this; omega⟩
    have hm : m ≤ 127 := by have := hx.2.1; simp at this; omega
    have hxv : xv < 18446744073709551616 := hx.2.2
    have hm' : (m : Int) ≤ 127 := by omega
    have hm0 : (0 : Int) ≤ (m : Int) := by omega
    have HPre : Hid (bits ++ (rnsOf (pre ++ [⟨(xv, m + 1), hx⟩])).flatMap encRun = (bits ++ (rnsOf pre).flatMap encRun) ++ fieldBits xv 64 ++ fieldBits m 7) := by
      show _ = _
      rw [rnsOf_push, List.flatMap_append, List.flatMap_cons, List.flatMap_nil, List.append_nil, encRun]; simp
    have hol : (bits ++ (rnsOf pre).flatMap encRun).length + 200 ≤ 1125899906842624 := by
      rw [List.length_append, encRuns_len]
      have : (rnsOf pre).length = pre.length := by simp [rnsOf]
      have := HZ.out
      omega
    generalize bits ++ (rnsOf pre).flatMap encRun = out0 at *
    have HW' := Lib.hid hW'; have HU' := Lib.hid hU'; have HRB := Lib.hid hRB
    have hXW := hU'.mods.blk HX0.out HXn.out
    have HXW := Lib.hid hXW
    have c0 : W.cell? ⟨w.heap.size, 0, none⟩ = some (.pointer (some ⟨p, 0, none⟩)) := by rw [hXW.cell]; rfl
    have d0 : W.cell? ⟨b, 0, none⟩ = some (.int .u64 (xv : Int)) := by rw [hRB.blk.cell]; rfl
    have HWB := Lib.hid (wbits p v' _ xv 64 W hW' (by omega) (by omega))
    have HNr := Lib.hid (writer_not_run hW')
    have HXv : Hid (¬ (w.heap.size = p ∨ v'.ownBlock = some w.heap.size)) := fun e => by
      rcases e with e | e
      · exact HXn.out (Or.inl e)
      · rcases hU'.fresh _ e with e2 | e2
        · exact HXn.out (Or.inr e2)
        · have := HX0.out.lt; omega
    clear hW' hU' hRB hXW
    gi_wp2_with fail
    refine ⟨trivial, (CallsIn.inRound l (callsIn_wide.2 HWB.out)).mono ?_⟩
    rintro e w5 ⟨rfl, v5, hW5, hU5⟩
    have hR5 : RunBox w5 b ⟨(xv, m + 1), hx⟩ := (hU5.mods.block b (Array.getElem?_eq_some_iff.1 HRB.out).1 (fun e => HNr.out b e HRB.out.is)).trans HRB.out
    have hX5 := hU5.mods.blk HXW.out HXv.out
    have c5 : w5.cell? ⟨w.heap.size, 0, none⟩ = some (.pointer (some ⟨p, 0, none⟩)) := by rw [hX5.cell]; rfl
    have d5 : w5.cell? ⟨b, 1, none⟩ = some (.int .i64 ((m : Int) + 1)) := by rw [hR5.blk.cell]; rfl
    have HWB5 := Lib.hid (wbits p v5 _ m 7 w5 hW5 (by omega) (by rw [List.length_append, fieldBits_length]; omega))
    have HU5 := Lib.hid hU5
    clear hW5 hU5 hR5 hX5 HWB c0 d0
    gi_wp2_with fail
    refine ⟨trivial, (CallsIn.inRound l (callsIn_wide.2 HWB5.out)).mono ?_⟩
    rintro e w6 ⟨rfl, v6, hW6, hU6⟩
    have HUf : Hid (Upd W w6 p v' v6) := HU5.out.trans hU6
    have HWf := Lib.hid hW6
    clear hW6 hU6 HWB5 HU5
    gi_wp2_with fail
    refine ⟨(putIn_keeps HW'.out HUf.out.mods).from _, keepRun_mods HUf.out.mods HU'.out.mods.size (fun k hk => (HKW2.out k hk).2.2) (fun k hk e => ?_) HNr.out, v6, ?_, HU'.out.trans HUf.out⟩
    · have h1 := HKW2.out k hk
      rcases e with e | e
      · exact h1.1 e
      · rcases HU'.out.fresh k e with e2 | e2
        · exact h1.2.1 e2
        · omega
    · rw [HPre.out]
      exact HWf.out
  case done =>
    rintro D zs W hD hzs hI hK
    have HI := Lib.hid hI
    have HE2 : Hid (encR l = (rnsOf zs).flatMap encRun) := by show _ = _; rw [HE.out, hzs]
    clear hI HGV hzs
    gi_wp2
    refine ⟨by simp, .inl ⟨_, _, rfl, run_takeDeferred hK, ?_⟩⟩
    refine ⟨_, results_tmp rfl _ _ _, rfl, ?_⟩
    obtain ⟨v', hW', hU'⟩ := putIn_own (β := Unit) (Nat.le_refl W0.heap.size) p v (fun _ => bits ++ (rnsOf zs).flatMap encRun) () W (W.putObj D (.deferred none)) (some D) HI.out (grownBy_putObj' _ _ _) (fun r e => by cases e; exact ⟨hD, _, hK, rfl⟩)
    have u1 : Upd w W0 p v v := ⟨Mods.of_below HB0.out _, Fresh.refl _ _⟩
    rw [HE2.out]
    exact ⟨v', hW', u1.trans hU'⟩
  case stop =>
    rintro D c pre W _ _ h _
    exact h.elim
end Go.Proofs.Ytnjdjmfjkjpelaa
