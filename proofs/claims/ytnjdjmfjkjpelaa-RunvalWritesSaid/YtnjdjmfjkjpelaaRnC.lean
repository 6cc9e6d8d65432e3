/- Layer 7: the program's Size. -/
import Derived.Test.YtnjdjmfjkjpelaaRnB
set_option linter.unusedVariables false
namespace Go.Proofs.Ytnjdjmfjkjpelaa
open Go Go.RowKit Go.Shelf
attribute [local go_sem] Oper.semAt_some

set_option maxRecDepth 100000 in
set_option maxHeartbeats 1000000 in
theorem runval_size (lv : Value) (l : List Nat) (w : World) (hl : Rd w 1 lv l.length (u64s l)) (hok : ∀ t ∈ l, in64u t) (hz : 71 * l.length ≤ 70368744177000) :
    Calls Try.prog 23 #[lv] w fun e w' => e = .returned (.int .i64 ((encR l).length : Int)) ∧ Below w.heap.size w w' := by
  obtain ⟨p, c, hv⟩ := hl.shape
  subst hv
  have HL := Lib.hid hl; have HOk := Lib.hid hok
  have HZ : Hid (71 * (splitR l).length ≤ 70368744177000) := by show _ ≤ _; have := splitR_len l; omega
  have HLT : Hid (l ≠ [] → ∀ k, (Value.slice p l.length c).ownBlock = some k → k < w.heap.size) := fun h => hl.lt (fun e => h (by simpa [u64s] using e))
  clear hl hok hz
  refine (callsIn_wide (n := 9)).1 ?_
  refine callsIn_of_wp_marks Try.func23 rfl trivial ?_ rfl
  simp only [Try.ntmps23, List.size_toArray, List.length_cons, List.length_nil, Nat.reduceAdd, Nat.reduceSub, Array.replicate_succ, Array.replicate_zero, List.push_toArray, List.append_toArray, List.nil_append, List.cons_append]
  gi_wp2_with (refine ⟨trivial, ?_⟩; gi_at_call 33; refine (new_runs p _ c _ _).mono ?_; rintro e w' ⟨rfl, rfl⟩)
  obtain ⟨W0, hW0⟩ : ∃ W0, (w.alloc (.cells #[.int .i64 0] 3)).alloc (.cells #[.slice p l.length c] 22) = W0 := ⟨_, rfl⟩
  have hs0 : W0.heap.size = w.heap.size + 2 := by rw [← hW0]; simp
  have hB0 : Below w.heap.size w W0 := by rw [← hW0]; exact ((Below.refl _ w).alloc (Nat.le_refl _) _).alloc (by simp) _
  have hn0 : Blk W0 w.heap.size [.int .i64 0] := by rw [← hW0]; exact (Blk.new w _ _).alloc _
  have hx0 : W0.cell? ⟨w.heap.size + 1, 0, none⟩ = some (.slice p l.length c) := by
    have := (Blk.new (w.alloc (.cells #[.int .i64 0] 3)) #[.slice p l.length c] 22).cell 0
    rw [hW0] at this
    simpa using this
  have hl0 := HL.out.below hB0
  have HKW : Hid (∀ k, (k = w.heap.size + 1 ∨ (l ≠ [] ∧ (Value.slice p l.length c).ownBlock = some k)) → k ≠ w.heap.size ∧ k < W0.heap.size) := fun k hk => by
    rcases hk with e | ⟨h, e⟩
    · omega
    · have := HLT.out h k e; omega
  have HGV := Lib.hid (runs_gives 8 (by omega) (w.heap.size + 1) _ l W0 hx0 hl0 HOk.out)
  rw [hW0]
  clear hW0 hx0 hl0
  obtain ⟨K, hK⟩ : ∃ K : Nat → Prop, (fun k => k = w.heap.size + 1 ∨ (l ≠ [] ∧ (Value.slice p l.length c).ownBlock = some k)) = K := ⟨_, rfl⟩
  have HKW2 : Hid (∀ k, K k → k ≠ w.heap.size ∧ k < W0.heap.size) := by rw [← hK]; exact HKW.out
  rw [hK] at HGV
  clear hK HKW
  have HE : Hid ((encR l).length = 71 * (splitR l).length) := by show _ = _; rw [encR, encRuns_len]
  generalize splitR l = rs at *
  refine wpIn_rangeFunc_ownG rfl (by omega) (gf := 43) (lb := #[.pointer (some ⟨w.heap.size + 1, 0, none⟩)]) rfl trivial (enters_of Try.func43 (by kernel_rfl) rfl)
    HGV.out (fun h k => keepRun_t h k) (fun W l o o' h1 h2 h3 h4 => keepRun_b (fun k hk => (HKW2.out k hk).2) W l o o' h1 h2 h3 h4) (Below.refl _ _) (fun _ => rfl)
    (fun pre W => Blk W w.heap.size [.int .i64 ((71 * pre.length : Nat) : Int)] ∧ Mods (fun k => k = w.heap.size) W0 W)
    (fun _ _ _ => False)
    (OwnFrom.and (Own.from (own_blk _ _) _) (ownFrom_mods (Nat.le_refl _)))
    (fun _ _ _ _ _ hs _ _ => hs)
    ⟨hn0, Mods.refl _ _⟩
    (fun x => { tmps := #[.slice p l.length c, undef, .int .i64 0, .pointer (some ⟨w.heap.size, 0, none⟩), .slice p l.length c, .func (.func 43) #[] #[.pointer (some ⟨w.heap.size + 1, 0, none⟩)], runV x, undef, undef, undef], defers := [] }) ?assign ?body ?done ?stop
  case assign =>
    intro l x W K hK
    simp only [List.zip_toArray, List.zip_cons_cons, List.zip_nil_right, List.foldl_toArray, List.foldl_cons, List.foldl_nil, List.setIfInBounds_toArray, List.set_cons_zero, List.set_cons_succ]
    gi_wp2
    exact hK
  case body =>
    rintro l pre x W ⟨hn, hM0⟩ hlen
    obtain ⟨Z, hZe⟩ : ∃ Z, 71 * pre.length = Z := ⟨_, rfl⟩
    have hZ : Z ≤ 70368744177000 := by have := HZ.out; omega
    have hZ2 : ((71 * (pre ++ [x]).length : Nat) : Int) = (Z : Int) + 71 := by rw [List.length_append, List.length_singleton]; omega
    have HZ2 := Lib.hid hZ2
    rw [hZe] at hn
    have c0 : W.cell? ⟨w.heap.size, 0, none⟩ = some (.int .i64 (Z : Int)) := by rw [hn.cell]; rfl
    have f0 := hn.free 0
    have HN := Lib.hid hn; have HM0 := Lib.hid hM0
    clear hn hM0 hZ2 hZe
    gi_wp2
    have hM : Mods (fun k => k = w.heap.size) W (W.setCell ⟨w.heap.size, 0, none⟩ (.int .i64 ((Z : Int) + 71))) := Mods.set (fun k => k = w.heap.size) W ⟨w.heap.size, 0, none⟩ _ (fun _ => rfl)
    refine ⟨(KeepsOthers.of_mods hM (fun k o hk ho => ?_)).from _, keepRun_mods hM HM0.out.size (fun k hk => (HKW2.out k hk).2) (fun k hk => (HKW2.out k hk).1) ?_, ?_, ?_⟩
    · subst hk
      obtain ⟨t, ht⟩ := HN.out
      rw [ht] at ho
      cases ho; rfl
    · rintro k rfl ⟨x, n, fz, e⟩
      obtain ⟨t, ht⟩ := HN.out
      rw [ht] at e
      simp at e
    · rw [HZ2.out]
      simpa using HN.out.set 0 (.int .i64 ((Z : Int) + 71))
    · exact HM0.out.trans hM (fun _ _ e => e)
  case done =>
    rintro D zs W hD hzs ⟨hn, hM0⟩ hK
    have HE2 : Hid (((71 * zs.length : Nat) : Int) = ((encR l).length : Int)) := by
      show _ = _
      have : zs.length = rs.length := by rw [← hzs]; simp [rnsOf]
      rw [HE.out, this]
    have c0 : W.cell? ⟨w.heap.size, 0, none⟩ = some (.int .i64 ((71 * zs.length : Nat) : Int)) := by rw [hn.cell]; rfl
    clear hn HGV
    have hB := hB0.trans (hM0.below (B := w.heap.size) (by omega) (fun k hk e => by omega))
    generalize ((71 * zs.length : Nat) : Int) = Z at *
    gi_wp2
    refine ⟨by simp, .inl ⟨_, _, rfl, run_takeDeferred hK, ?_⟩⟩
    exact ⟨_, results_tmp rfl _ _ _, by rw [← HE2.out]; rfl, hB.trans (belowK_b (w := w) (Nat.le_refl _) W D _ _ (by omega) hK rfl rfl)⟩
  case stop =>
    rintro D c pre W _ _ h _
    exact h.elim
end Go.Proofs.Ytnjdjmfjkjpelaa
