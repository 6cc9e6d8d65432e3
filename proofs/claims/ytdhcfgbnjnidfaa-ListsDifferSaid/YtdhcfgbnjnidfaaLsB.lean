/- Layer 14: what the program chooses of two sorted lists. -/
import Derived.Test.YtdhcfgbnjnidfaaLsA
import Derived.Test.YtdhcfgbnjnidfaaRef14H
set_option linter.unusedVariables false
set_option maxRecDepth 100000
namespace Go.Proofs.Ytdhcfgbnjnidfaa
open Go Go.RowKit Go.Shelf
attribute [local go_sem] Oper.semAt_some

/-- Where the choice stands between two rounds: x is the wanted origins' block, g the list's; sn is what is chosen. -/
def ChZ (x g : Nat) (O : Int) (w : World) (sn : List Int) (W : World) : Prop :=
  ∃ v', Blk W x [.int .i64 O] ∧ Blk W g [v'] ∧ W.ownsRow (g + 3) 3 1 v' sn.length (i64s sn) ∧ v'.ownBlock ≠ some g ∧ Below x w W ∧ x < g ∧ g + 3 ≤ W.heap.size
theorem chZ_own {B x g : Nat} {O : Int} {w : World} (hB : g ≤ B) : OwnFrom B (fun (pre : List (Int × Og)) W => ChZ x g O w (selZ O pre) W) := by
  rintro s W W' row ⟨v', h0, h1, h2, h3, h4, h5, h6⟩ hg hr
  have hr' : ∀ r, row = some r → ∃ o : Obj, W.heap[r]? = some o ∧ o.isCells = false := fun r e => (hr r e).2
  exact ⟨v', own_blk x (fun _ : Unit => [.int .i64 O]) () W W' row h0 hg hr', own_blk g (fun _ : Unit => [v']) () W W' row h1 hg hr', owns_abides h2 hg hr', h3, h4.grown hg (by have := h1.lt; omega) (fun j e => Nat.le_trans (by omega) (hr j e).1), h5, Nat.le_trans h6 hg.size⟩

theorem bits_want {O : Int} (h : O = 1 ∨ O = 4 ∨ O = 7) (o : Og) : (bits .and .i64 o.z O != 0) = wantZ O o := by
  rcases h with rfl | rfl | rfl <;> cases o <;> rfl

set_option maxHeartbeats 4000000 in
theorem choose_any (av bv : Value) (a b : List Int) (O : Int) (hO : O = 1 ∨ O = 4 ∨ O = 7) (w : World) (ha : Rd w 1 av a.length (i64s a)) (hb : Rd w 1 bv b.length (i64s b)) (hn : a.length + b.length ≤ 1000000) :
    Calls Try.prog 28 #[av, bv, .int .i64 O] w fun e w' => ∃ r, e = .returned r ∧ OwnI w w' (selZ O (mrgZ a b)) r := by
  obtain ⟨p, c, hv⟩ := ha.shape
  subst hv
  obtain ⟨q, d, hv⟩ := hb.shape
  subst hv
  have HA := Lib.hid ha; have HB := Lib.hid hb; have HN := Lib.hid hn; have HO := Lib.hid hO
  clear ha hb hn hO
  refine (callsIn_wide (n := 9)).1 ?_
  refine callsIn_of_wp_marks Try.func28 rfl trivial ?_ rfl
  simp only [Try.ntmps28, List.size_toArray, List.length_cons, List.length_nil, Nat.reduceAdd, Nat.reduceSub, Array.replicate_succ, Array.replicate_zero, List.push_toArray, List.append_toArray, List.nil_append, List.cons_append]
  gi_wp2_with (refine ⟨trivial, ?_⟩; gi_at_call 32; refine (new_merge p q _ _ c d _ _).mono ?_; rintro e w' ⟨rfl, rfl⟩)
  obtain ⟨W0, hW0⟩ : ∃ W0, (((w.alloc (.cells #[.int .i64 O] 41)).alloc (.cells #[.slice none 0 0] 22)).alloc (.cells #[.slice p a.length c] 22)).alloc (.cells #[.slice q b.length d] 22) = W0 := ⟨_, rfl⟩
  have hs0 : W0.heap.size = w.heap.size + 4 := by rw [← hW0]; simp
  have hB0 : Below w.heap.size w W0 := by rw [← hW0]; exact ((((Below.refl _ w).alloc (Nat.le_refl _) _).alloc (by simp) _).alloc (by simp; omega) _).alloc (by simp; omega) _
  have hX0 : Blk W0 w.heap.size [.int .i64 O] := by rw [← hW0]; exact (((Blk.new w _ _).alloc _).alloc _).alloc _
  have hX1 : Blk W0 (w.heap.size + 1) [.slice none 0 0] := by rw [← hW0]; have h := ((Blk.new (w.alloc (.cells #[.int .i64 O] 41)) #[.slice none 0 0] 22).alloc (.cells #[.slice p a.length c] 22)).alloc (.cells #[.slice q b.length d] 22); simpa using h
  have hX2 : W0.cell? ⟨w.heap.size + 1 + 1, 0, none⟩ = some (.slice p a.length c) := by
    have h := ((Blk.new ((w.alloc (.cells #[.int .i64 O] 41)).alloc (.cells #[.slice none 0 0] 22)) #[.slice p a.length c] 22).alloc (.cells #[.slice q b.length d] 22)).cell 0
    rw [hW0] at h
    simpa using h
  have hX3 : W0.cell? ⟨w.heap.size + 1 + 1 + 1, 0, none⟩ = some (.slice q b.length d) := by
    have h := (Blk.new (((w.alloc (.cells #[.int .i64 O] 41)).alloc (.cells #[.slice none 0 0] 22)).alloc (.cells #[.slice p a.length c] 22)) #[.slice q b.length d] 22).cell 0
    rw [hW0] at h
    simpa using h
  rw [hW0]
  clear hW0
  have HGV := Lib.hid (merge_gives 8 (by omega) (w.heap.size + 1 + 1) (w.heap.size + 1 + 1 + 1) _ _ a b W0 hX2 hX3 (HA.out.below hB0) (HB.out.below hB0))
  have HKW : Hid (∀ k, KeepZ (w.heap.size + 1 + 1) (w.heap.size + 1 + 1 + 1) (.slice p a.length c) (.slice q b.length d) a b k → k < W0.heap.size ∧ k ≠ w.heap.size ∧ k ≠ w.heap.size + 1) := fun k hk => by
    rcases hk with (e | ⟨h, e⟩) | (e | ⟨h, e⟩)
    · omega
    · have := HA.out.lt (fun e => h (by have := congrArg List.length e; rw [i64s_length] at this; exact List.eq_nil_of_length_eq_zero this)) k e; omega
    · omega
    · have := HB.out.lt (fun e => h (by have := congrArg List.length e; rw [i64s_length] at this; exact List.eq_nil_of_length_eq_zero this)) k e; omega
  have HKO : Hid (∀ k, KeepZ (w.heap.size + 1 + 1) (w.heap.size + 1 + 1 + 1) (.slice p a.length c) (.slice q b.length d) a b k → k < w.heap.size + 4) := fun k hk => by have := HKW.out k hk; omega
  have HS0 := Lib.hid hs0
  have HI0 : Hid (ChZ w.heap.size (w.heap.size + 1) O w (selZ O []) W0) := ⟨_, hX0, hX1, World.ownsRow_nil _ _ _ _, fun e => by simp [Value.ownBlock] at e, hB0, by omega, by omega⟩
  clear hX0 hX1 hX2 hX3 hB0 hs0
  obtain ⟨K, hK⟩ : ∃ K : Nat → Prop, KeepZ (w.heap.size + 1 + 1) (w.heap.size + 1 + 1 + 1) (.slice p a.length c) (.slice q b.length d) a b = K := ⟨_, rfl⟩
  rw [hK] at HGV HKW HKO
  clear hK
  refine wpIn_rangeFunc_ownG rfl (by omega) (gf := 33) (lb := #[.pointer (some ⟨w.heap.size + 1 + 1, 0, none⟩), .pointer (some ⟨w.heap.size + 1 + 1 + 1, 0, none⟩)]) rfl trivial (enters_of Try.func33 (by kernel_rfl) rfl)
    HGV.out (fun h k => keepAt_t h k) (fun W l o o' h1 h2 h3 h4 => keepAt_b (w := W0) (fun k hk => (HKW.out k hk).1) W l o o' h1 h2 h3 h4) (Below.refl _ _) (fun _ => rfl)
    (fun pre W => ChZ w.heap.size (w.heap.size + 1) O w (selZ O pre) W)
    (fun _ _ _ => False)
    (chZ_own (by have := HS0.out; omega))
    (fun _ _ _ _ _ hs _ _ => hs)
    HI0.out
    (fun x => { tmps := #[.slice p a.length c, .slice q b.length d, .int .i64 O, undef, undef, .pointer (some ⟨w.heap.size, 0, none⟩), .slice none 0 0, .pointer (some ⟨w.heap.size + 1, 0, none⟩), .int .i64 x.1, .int .i64 x.2.z, .slice p a.length c, .slice q b.length d, .func (.func 33) #[] #[.pointer (some ⟨w.heap.size + 1 + 1, 0, none⟩), .pointer (some ⟨w.heap.size + 1 + 1 + 1, 0, none⟩)], .int .i64 x.1, .int .i64 x.2.z, undef, undef, undef, undef, undef, undef, undef, undef, undef], defers := [] })
    ?assign ?body ?done ?stop
  case assign =>
    intro l x W K hK
    simp only [List.zip_toArray, List.zip_cons_cons, List.zip_nil_right, List.foldl_toArray, List.foldl_cons, List.foldl_nil, List.setIfInBounds_toArray, List.set_cons_zero, List.set_cons_succ]
    gi_wp2
    exact hK
  case body =>
    rintro l' pre x W ⟨v', hx, h1, h2, h4, h5, h6, h7⟩ hlen
    obtain ⟨z, o⟩ := x
    have HT : Hid ((bits .and .i64 o.z O != 0) = wantZ O o) := bits_want HO.out o
    have c0 : W.cell? ⟨w.heap.size, 0, none⟩ = some (.int .i64 O) := by rw [hx.cell]; rfl
    have c1 : W.cell? ⟨w.heap.size + 1, 0, none⟩ = some v' := by rw [h1.cell]; rfl
    have f1 := h1.free 0
    have hlm : (selZ O pre).length ≤ 1000000 := by
      have e1 := selZ_len O pre
      have e2 := mrgZ_len a b
      have e3 := HN.out
      omega
    have HPre := selZ_push O pre (z, o)
    have HOw : Hid (W.ownsRow 0 3 1 v' (selZ O pre).length (i64s (selZ O pre))) := owns_rebase h2 (fun _ _ => Nat.zero_le _)
    obtain ⟨p1, k1, hv1⟩ := (Rd.of_owns h2).shape
    subst hv1
    have HX := Lib.hid hx; have H1 := Lib.hid h1; have H2 := Lib.hid h2; have H4 := Lib.hid h4; have H5 := Lib.hid h5; have H6 := Lib.hid h6; have H7 := Lib.hid h7
    have HPr := Lib.hid HPre
    clear hx h1 h2 h4 h5 h6 h7 hlen HPre
    generalize o.z = oz at *
    refine wpIn_block ?_
    refine wpIn_seq ?_
    refine wpIn_region_list ?_
    refine wpListIn_round (by rintro ⟨_, _, h⟩; exact h) _ _ _ (by simp) ?_
    go_wp2_with fail
    by_cases hw : wantZ O o = true
    · rw [HT.out, hw]
      refine wpIn_cond_true rfl ?_
      rw [if_pos hw] at HPr
      have HB : Hid (((selZ O pre).length + 1) * 8 ≤ 140737488355328 ∧ (selZ O pre).length + 1 ≤ maxLen) := by show _ ∧ _; unfold maxLen; omega
      have HPl : Hid ((selZ O (pre ++ [(z, o)])).length = (selZ O pre).length + 1 ∧ i64s (selZ O (pre ++ [(z, o)])) = i64s (selZ O pre) ++ [.int .i64 z]) := by
        show _ ∧ _
        rw [HPr.out]
        exact ⟨by simp, by rw [i64s_append]; rfl⟩
      clear HPr
      generalize hpl : selZ O (pre ++ [(z, o)]) = sn at *
      have HPL := Lib.hid hpl
      clear hpl
      refine wpIn_region_list ?_
      refine wpListIn_round not_letsOut_body _ _ _ (by simp) ?_
      go_wp2_with (at_builtin; refine wpList_push elemInt14 W #[.int .i64 z] _ _ _ HOw.out rfl (one_cell _ rfl) HB.out rfl _ _ rfl rfl rfl ?_)
      intro v2 w1 m1 m2 m3
      have b1 := m2.blk H1.out (fun e => H4.out e)
      have c1' : w1.cell? ⟨w.heap.size + 1, 0, none⟩ = some (.slice p1 (selZ O pre).length k1) := by rw [b1.cell]; rfl
      have f1' := b1.free 0
      have hne : v2.ownBlock ≠ some (w.heap.size + 1) := fun e => by
        rcases m3 _ e with e | e
        · exact H4.out e
        · have := H1.out.lt; omega
      have hlo : ∀ k, v2.ownBlock = some k → w.heap.size + 4 ≤ k := fun k hk => by
        rcases m3 k hk with e | e
        · exact (H2.out.lt k e).1
        · have := H7.out; omega
      obtain ⟨p2, k2, hv2⟩ := (Rd.of_owns m1).shape
      subst hv2
      have HF : Hid (KeepsOthers W (w1.setCell ⟨w.heap.size + 1, 0, none⟩ (.slice p2 ((selZ O pre).length + 1) k2)) ∧ KeepAt K W (w1.setCell ⟨w.heap.size + 1, 0, none⟩ (.slice p2 ((selZ O pre).length + 1) k2)) ∧ ChZ w.heap.size (w.heap.size + 1) O w sn (w1.setCell ⟨w.heap.size + 1, 0, none⟩ (.slice p2 ((selZ O pre).length + 1) k2))) := by
        have hs : Mods (fun k => k = w.heap.size + 1) w1 (w1.setCell ⟨w.heap.size + 1, 0, none⟩ (.slice p2 ((selZ O pre).length + 1) k2)) := Mods.set _ _ _ _ (fun _ => rfl)
        have hM : Mods (fun k => k = w.heap.size + 1 ∨ (Value.slice p1 (selZ O pre).length k1).ownBlock = some k) W (w1.setCell ⟨w.heap.size + 1, 0, none⟩ (.slice p2 ((selZ O pre).length + 1) k2)) :=
          (m2.mono (fun _ _ e => Or.inr e)).trans hs (fun _ _ e => Or.inl e)
        have hlow : ∀ k, (k = w.heap.size + 1 ∨ (Value.slice p1 (selZ O pre).length k1).ownBlock = some k) → w.heap.size + 1 ≤ k := fun k e => by
          rcases e with e | e
          · omega
          · have := (H2.out.lt k e).1; omega
        have hnk : ∀ k, K k → ¬ (k = w.heap.size + 1 ∨ (Value.slice p1 (selZ O pre).length k1).ownBlock = some k) := fun k hk e => by
          have h := HKW.out k hk
          have h0 := HS0.out
          rcases e with e | e
          · exact h.2.2 e
          · have := (H2.out.lt k e).1; omega
        refine ⟨KeepsOthers.of_mods hM (fun k o e ho => ?_), fun k hk => hM.block k (by have := HKW.out k hk; have := H7.out; have := HS0.out; omega) (hnk k hk), .slice p2 ((selZ O pre).length + 1) k2, ?_, ?_, ?_, hne, ?_, H6.out, Nat.le_trans H7.out hM.size⟩
        · rcases e with rfl | e
          · obtain ⟨t, ht⟩ := H1.out
            rw [ht] at ho; cases ho; rfl
          · exact owns_isCells H2.out k o e ho
        · exact hM.blk HX.out (fun e => by have := hlow _ e; omega)
        · simpa using b1.set 0 (.slice p2 ((selZ O pre).length + 1) k2)
        · rw [HPl.out.1, HPl.out.2]
          exact owns_rebase (hs.owns m1 (fun k hk e => hne (by rw [hk, e]))) hlo
        · exact H5.out.trans (hM.below (by have := H1.out.lt; omega) (fun k hk e => by have := hlow k e; omega))
      clear m1 m2 m3 hne hlo b1 c0 c1 f1
      go_wp2_with fail
      refine ⟨HF.out.1.from _, HF.out.2.1, ?_⟩
      show ChZ _ _ _ _ (selZ O (pre ++ [(z, o)])) _
      rw [HPL.out]
      exact HF.out.2.2
    · have hw' : wantZ O o = false := by simpa using hw
      rw [HT.out, hw']
      rw [if_neg hw] at HPr
      refine wpIn_cond_false rfl ?_
      gi_wp2_with fail
      refine ⟨(KeepsOthers.refl _).from _, fun _ _ => rfl, ?_⟩
      show ChZ _ _ _ _ (selZ O (pre ++ [(z, o)])) _
      rw [HPr.out]
      exact ⟨_, HX.out, H1.out, H2.out, H4.out, H5.out, H6.out, H7.out⟩
  case done =>
    rintro D zs W hD rfl ⟨v', hx, h1, h2, h4, h5, h6, h7⟩ hK
    have c1 : W.cell? ⟨w.heap.size + 1, 0, none⟩ = some v' := by rw [h1.cell]; rfl
    obtain ⟨p1, k1, hv1⟩ := (Rd.of_owns h2).shape
    subst hv1
    have H2 := Lib.hid h2; have H5 := Lib.hid h5
    clear hx h1 h2 h4 h5 h6 h7 HGV
    gi_wp2
    refine ⟨by simp, .inl ⟨_, _, rfl, run_takeDeferred hK, ?_⟩⟩
    refine ⟨_, results_tmp rfl _ _ _, _, rfl, ⟨?_, H5.out.trans (belowK_b (w := w) (Nat.le_refl _) W D _ _ (by have := HS0.out; omega) hK rfl rfl)⟩⟩
    have h := ownsRow_putObj H2.out (.deferred none) hK rfl
    exact owns_rebase h (fun k hk => by have := (H2.out.lt k hk).1; omega)
  case stop =>
    rintro D c pre W _ _ h _
    exact h.elim
end Go.Proofs.Ytdhcfgbnjnidfaa
