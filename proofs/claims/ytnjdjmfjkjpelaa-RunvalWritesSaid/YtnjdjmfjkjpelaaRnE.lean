/- Layer 7: the program's Split. -/
import Derived.Test.YtnjdjmfjkjpelaaRnD
import Derived.Test.YtnjdjmfjkjpelaaAppR
set_option linter.unusedVariables false
namespace Go.Proofs.Ytnjdjmfjkjpelaa
open Go Go.RowKit Go.Shelf
attribute [local go_sem] Oper.semAt_some

theorem elemRn : Elem Try.prog 27 31 2 16 := Elem.mk' (z := .agg #[.int .u64 0, .int .i64 0]) Try.underlying27 (by kernel_rfl) rfl (by decide)
def rnCells (rs : List (Nat × Nat)) : List Value := rs.flatMap fun r => [.int .u64 (r.1 : Int), .int .i64 (r.2 : Int)]
theorem rnCells_eq (rs : List (Nat × Nat)) : rnCells rs = runCells (runsI rs) := by simp [rnCells, runCells, runsI, List.flatMap_map]
theorem rnCells_push (rs : List (Nat × Nat)) (r : Nat × Nat) : rnCells (rs ++ [r]) = rnCells rs ++ [.int .u64 (r.1 : Int), .int .i64 (r.2 : Int)] := by simp [rnCells]

/-- Where Collect stands between two rounds: g is the variable's block. -/
def ColIn (g : Nat) (w : World) (k : Nat) (rs : List (Nat × Nat)) (W : World) : Prop :=
  ∃ v', Blk W g [v'] ∧ W.ownsRow g 31 2 v' k (rnCells rs) ∧ (k = 0 → v' = .slice none 0 0) ∧ v'.ownBlock ≠ some g ∧ Below g w W
theorem colIn_own {β : Type} {B g : Nat} {w : World} (hB : g ≤ B) (k : β → Nat) (f : β → List (Nat × Nat)) : OwnFrom B (fun s W => ColIn g w (k s) (f s) W) := by
  rintro s W W' row ⟨v', h1, h2, h3, h4, h5⟩ hg hr
  have hr' : ∀ r, row = some r → ∃ o : Obj, W.heap[r]? = some o ∧ o.isCells = false := fun r e => (hr r e).2
  exact ⟨v', own_blk g (fun _ : Unit => [v']) () W W' row h1 hg hr', owns_abides h2 hg hr', h3, h4, h5.grown hg (by have := h1.lt; omega) (fun j e => Nat.le_trans hB (hr j e).1)⟩
/-- A row of runs into which an append may still write is no variable that holds a run. -/
theorem row_not_run {W : World} {base : Nat} {v' : Value} {n : Nat} {xs : List Value} (h : W.ownsRow base 31 2 v' n xs) (h0 : n = 0 → v' = .slice none 0 0) : ∀ k, (v'.ownBlock = some k ∧ ∃ p c, v' = .slice p n c ∧ n + 1 ≤ c) → ¬ IsRun W k := by
  rintro k ⟨hk, p, c, hv, hc⟩ ⟨x, m, fz, hr⟩
  rcases h.2 with ⟨rfl, _⟩ | ⟨g, cap, cur, rfl, _, hgb, h1, h2, h3, _⟩
  · simp [Value.ownBlock] at hk
  · obtain rfl : g = k := by simpa [Value.ownBlock] using hk
    obtain ⟨_, rfl⟩ : some (⟨g, 0, none⟩ : Addr) = p ∧ cap = c := by simpa using hv
    rw [hgb] at hr
    simp only [Option.some.injEq, Obj.cells.injEq] at hr
    have hs := congrArg Array.size hr.1
    rw [h3] at hs
    simp at hs
    have : n = 0 := by omega
    have := h0 this
    simp at this

set_option maxRecDepth 100000 in
set_option maxHeartbeats 2000000 in
theorem appendSeq_runs (b : Nat) (lv : Value) (l : List Nat) (w : World) (hc : w.cell? ⟨b, 0, none⟩ = some lv) (hl : Rd w 1 lv l.length (u64s l)) (hok : ∀ t ∈ l, in64u t) (hn : l.length ≤ 1000000) :
    Calls Try.prog 42 #[.slice none 0 0, .func (.func 43) #[] #[.pointer (some ⟨b, 0, none⟩)]] w fun e w' => ∃ r, e = .returned r ∧ Rd w' 2 r (splitR l).length (rnCells (splitR l)) ∧ Below w.heap.size w w' := by
  have hb : b < w.heap.size := World.block_lt_of_cell? w _ hc
  have HN : Hid ((splitR l).length ≤ 1000000) := by show _ ≤ _; have := splitR_len l; omega
  have HKW : Hid (∀ k, (k = b ∨ (l ≠ [] ∧ lv.ownBlock = some k)) → k < w.heap.size) := fun k hk => by
    rcases hk with e | ⟨h, e⟩
    · omega
    · exact hl.lt (fun e => h (by simpa [u64s] using e)) k e
  have HC := Lib.hid hc; have HL := Lib.hid hl; have HOk := Lib.hid hok
  clear hc hl hok hn
  refine (callsIn_wide (n := 9)).1 ?_
  refine callsIn_of_wp_marks Try.func42 rfl trivial ?_ rfl
  simp only [Try.ntmps42, List.size_toArray, List.length_cons, List.length_nil, Nat.reduceAdd, Nat.reduceSub, Array.replicate_succ, Array.replicate_zero, List.push_toArray, List.append_toArray, List.nil_append, List.cons_append]
  gi_wp2
  obtain ⟨W0, hW0⟩ : ∃ W0, w.alloc (.cells #[.slice none 0 0] 27) = W0 := ⟨_, rfl⟩
  have hs0 : W0.heap.size = w.heap.size + 1 := by rw [← hW0]; simp
  have hB0 : Below w.heap.size w W0 := by rw [← hW0]; exact (Below.refl _ w).alloc (Nat.le_refl _) _
  have hX0 : Blk W0 w.heap.size [.slice none 0 0] := by rw [← hW0]; exact Blk.new w _ _
  rw [hW0]
  clear hW0
  have HI0 : Hid (ColIn w.heap.size w 0 [] W0) := ⟨_, hX0, World.ownsRow_nil _ _ _ _, fun _ => rfl, fun e => by simp [Value.ownBlock] at e, hB0⟩
  have HGV := Lib.hid (runs_gives 8 (by omega) b lv l W0 ((hB0.cell hb).trans HC.out) (HL.out.below hB0) HOk.out)
  have HS0 := Lib.hid hs0
  clear hX0 hB0 hs0
  obtain ⟨K, hK⟩ : ∃ K : Nat → Prop, (fun k => k = b ∨ (l ≠ [] ∧ lv.ownBlock = some k)) = K := ⟨_, rfl⟩
  have HKW2 : Hid (∀ k, K k → k < w.heap.size) := by rw [← hK]; exact HKW.out
  rw [hK] at HGV
  clear hK HKW
  obtain ⟨rs, hrs⟩ : ∃ rs, splitR l = rs := ⟨_, rfl⟩
  have HRs := Lib.hid hrs
  rw [hrs] at HGV HN
  clear hrs
  have HKb : Hid (∀ (W : World) (l : Nat) (o o' : Obj), W0.heap.size ≤ l → W.heap[l]? = some o → o.isCells = false → o.isWalk = false → KeepRun K W (W.putObj l o')) := fun W l o o' h1 h2 h3 h4 => keepRun_b (w := W0) (fun k hk => by have := HKW2.out k hk; have := HS0.out; omega) W l o o' h1 h2 h3 h4
  refine wpIn_rangeFunc_ownH rfl (by omega) (gf := 43) (lb := #[.pointer (some ⟨b, 0, none⟩)]) rfl trivial (enters_of Try.func43 (by kernel_rfl) rfl)
    HGV.out (fun h k => keepRun_t h k) HKb.out (Below.refl _ _) (fun _ => rfl)
    (fun pre W => ColIn w.heap.size w pre.length (rnsOf pre) W)
    (fun _ _ _ => False)
    (colIn_own (by have := HS0.out; omega) (fun pre : List Rn => pre.length) rnsOf)
    (fun _ _ _ _ _ hs _ _ => hs)
    HI0.out
    (fun x a' W => ∃ g, a' = { tmps := #[.slice none 0 0, .func (.func 43) #[] #[.pointer (some ⟨b, 0, none⟩)], .pointer (some ⟨w.heap.size, 0, none⟩), undef, .slice none 0 0, .pointer (some ⟨g, 0, none⟩), .func (.func 43) #[] #[.pointer (some ⟨b, 0, none⟩)], runV x, undef, undef, undef, undef, undef], defers := [] } ∧ RunBox W g x)
    ?ax ?assign ?body ?done ?stop
  case ax =>
    rintro x a' s W W' row ⟨g, h1, h2⟩ hg hr
    exact ⟨g, h1, runBox_own (β := Unit) g x () W W' row h2 hg hr⟩
  case assign =>
    intro l pre x W K hI hK
    obtain ⟨⟨xv, xn⟩, hx⟩ := x
    simp only [runV, List.zip_toArray, List.zip_cons_cons, List.zip_nil_right, List.foldl_toArray, List.foldl_cons, List.foldl_nil, List.setIfInBounds_toArray, List.set_cons_zero, List.set_cons_succ]
    gi_wp2
    have hB : Below W.heap.size W (W.alloc (.cells #[.int .u64 (xv : Int), .int .i64 (xn : Int)] 31)) := (Below.refl _ W).alloc (Nat.le_refl _) _
    have hI' := hI
    obtain ⟨v', h1, h2, h3, h4, h5⟩ := hI'
    refine hK _ _ ((KeepsOthers.alloc W _).from _) (keepRun_mods (Mods.alloc (fun _ => False) W _) h5.size HKW2.out (fun _ _ e => e) (fun _ e => e.elim)) ⟨v', h1.alloc _, h2.alloc _, h3, h4, h5.trans (hB.mono (by have := h1.lt; omega))⟩ ⟨W.heap.size, rfl, World.alloc_heap_new W _⟩
  case body =>
    rintro l pre x a' W hlw hrec ⟨v', h1, h2, h3, h4, h5⟩ ⟨g, rfl, hRB⟩ hlen
    obtain ⟨⟨xv, xn⟩, hx⟩ := x
    have HPre : Hid ((pre ++ [(⟨(xv, xn), hx⟩ : Rn)]).length = pre.length + 1 ∧ rnCells (rnsOf (pre ++ [(⟨(xv, xn), hx⟩ : Rn)])) = rnCells (rnsOf pre) ++ [.int .u64 (xv : Int), .int .i64 (xn : Int)]) := by
      refine ⟨by simp, ?_⟩
      rw [rnsOf_push, rnCells_push]
    have hlm : pre.length ≤ 1000000 := by have := HN.out; omega
    have c0 : W.cell? ⟨w.heap.size, 0, none⟩ = some v' := by rw [h1.cell]; rfl
    have f0 := h1.free 0
    have d0 : W.cell? ⟨g, 0, none⟩ = some (.int .u64 (xv : Int)) := by rw [hRB.blk.cell]; rfl
    have d1 : W.cell? ⟨g, 1, none⟩ = some (.int .i64 (xn : Int)) := by rw [hRB.blk.cell]; rfl
    have HOw : Hid (W.ownsRow 0 31 2 v' pre.length (rnCells (rnsOf pre))) := owns_rebase h2 (fun _ _ => Nat.zero_le _)
    have HNr := Lib.hid (row_not_run h2 h3)
    obtain ⟨p1, c1, hv1⟩ := (Rd.of_owns h2).shape
    subst hv1
    have HB : Hid ((pre.length + 1) * 16 ≤ 140737488355328 ∧ pre.length + 1 ≤ maxLen) := by show _ ∧ _; unfold maxLen; omega
    have H1 := Lib.hid h1; have H2 := Lib.hid h2; have H4 := Lib.hid h4; have H5 := Lib.hid h5
    clear h1 h2 h3 h4 h5 hRB hlen
    generalize hpl : pre.length = pl at *
    clear hpl
    refine wpIn_block ?_
    refine wpIn_region_list ?_
    refine wpListIn_round not_letsOut_body _ _ _ (by simp) ?_
    go_wp2_with (at_builtin; refine wpList_pushR elemRn W #[.int .u64 (xv : Int), .int .i64 (xn : Int)] _ _ _ HOw.out rfl (by simp [Value.oneCell']) HB.out rfl _ _ rfl rfl rfl ?_)
    intro v2 w1 k1 k2 k3
    have k2' : Mods (fun k => (Value.slice p1 pl c1).ownBlock = some k ∧ ∃ p c, Value.slice p1 pl c1 = .slice p pl c ∧ pl + 1 ≤ c) W w1 := k2.mono (fun k _ ⟨e, p, c, ⟨e1, e2⟩, e3⟩ => ⟨e, p, c, by rw [e1, e2], e3⟩)
    have b1 := k2'.blk H1.out (fun e => H4.out e.1)
    have c1' : w1.cell? ⟨w.heap.size, 0, none⟩ = some (.slice p1 pl c1) := by rw [b1.cell]; rfl
    have f1' := b1.free 0
    have hne : v2.ownBlock ≠ some w.heap.size := fun e => by
      rcases k3 _ e with e | e
      · exact H4.out e
      · have := H1.out.lt; omega
    have hlo : ∀ k, v2.ownBlock = some k → w.heap.size ≤ k := fun k hk => by
      rcases k3 k hk with e | e
      · exact (H2.out.lt k e).1
      · have := H1.out.lt; omega
    obtain ⟨p2, c2, hv2⟩ := (Rd.of_owns k1).shape
    subst hv2
    have HF : Hid (KeepsOthers W (w1.setCell ⟨w.heap.size, 0, none⟩ (.slice p2 (pl + 1) c2)) ∧ KeepRun K W (w1.setCell ⟨w.heap.size, 0, none⟩ (.slice p2 (pl + 1) c2)) ∧ ColIn w.heap.size w (pl + 1) (rnsOf (pre ++ [(⟨(xv, xn), hx⟩ : Rn)])) (w1.setCell ⟨w.heap.size, 0, none⟩ (.slice p2 (pl + 1) c2))) := by
      have hs : Mods (fun k => k = w.heap.size) w1 (w1.setCell ⟨w.heap.size, 0, none⟩ (.slice p2 (pl + 1) c2)) := Mods.set _ _ _ _ (fun _ => rfl)
      have hM : Mods (fun k => k = w.heap.size ∨ ((Value.slice p1 pl c1).ownBlock = some k ∧ ∃ p c, Value.slice p1 pl c1 = .slice p pl c ∧ pl + 1 ≤ c)) W (w1.setCell ⟨w.heap.size, 0, none⟩ (.slice p2 (pl + 1) c2)) :=
        (k2'.mono (fun _ _ e => Or.inr e)).trans hs (fun _ _ e => Or.inl e)
      have hlow : ∀ k, (k = w.heap.size ∨ ((Value.slice p1 pl c1).ownBlock = some k ∧ ∃ p c, Value.slice p1 pl c1 = .slice p pl c ∧ pl + 1 ≤ c)) → w.heap.size ≤ k := fun k e => by
        rcases e with e | e
        · omega
        · exact (H2.out.lt k e.1).1
      refine ⟨KeepsOthers.of_mods hM (fun k o e ho => ?_), keepRun_mods hM H5.out.size HKW2.out (fun k hk e => by have := HKW2.out k hk; have := hlow k e; omega) (fun k e => ?_), .slice p2 (pl + 1) c2, ?_, ?_, fun e => by omega, hne, ?_⟩
      · rcases e with rfl | e
        · obtain ⟨t, ht⟩ := H1.out
          rw [ht] at ho; cases ho; rfl
        · exact owns_isCells H2.out k o e.1 ho
      · rcases e with rfl | e
        · rintro ⟨x, n, fz, hr⟩
          obtain ⟨t, ht⟩ := H1.out
          rw [ht] at hr
          simp at hr
        · exact HNr.out k e
      · simpa using b1.set 0 (.slice p2 (pl + 1) c2)
      · rw [HPre.out.2]
        exact owns_rebase (hs.owns k1 (fun k hk e => hne (by rw [hk, e]))) hlo
      · exact H5.out.trans (hM.below (by have := H1.out.lt; omega) (fun k hk e => by have := hlow k e; omega))
    clear k1 k2 k2' k3 hne hlo b1 c0 f0 d0 d1
    go_wp2_with fail
    refine ⟨HF.out.1.from _, HF.out.2.1, ?_⟩
    show ColIn _ _ _ _ _
    rw [HPre.out.1]
    exact HF.out.2.2
  case done =>
    rintro D zs W hD hzs ⟨v', h1, h2, h3, h4, h5⟩ hK
    have c0 : W.cell? ⟨w.heap.size, 0, none⟩ = some v' := by rw [h1.cell]; rfl
    obtain ⟨p1, c1, hv1⟩ := (Rd.of_owns h2).shape
    subst hv1
    have HLn : Hid (zs.length = rs.length) := by show _ = _; rw [← hzs]; simp [rnsOf]
    have HZs := Lib.hid hzs
    have H2 := Lib.hid h2; have H5 := Lib.hid h5
    clear h1 h2 h3 h4 h5 hzs HGV
    gi_wp2
    refine ⟨by simp, .inl ⟨_, _, rfl, run_takeDeferred hK, ?_⟩⟩
    refine ⟨_, results_tmp rfl _ _ _, _, rfl, ?_, H5.out.trans (belowK_b (w := w) (Nat.le_refl _) W D _ _ (by have := HS0.out; omega) hK rfl rfl)⟩
    have := Rd.of_owns (ownsRow_putObj H2.out (.deferred none) hK rfl)
    rw [HZs.out] at this
    rw [HRs.out, ← HLn.out]
    exact this
  case stop =>
    rintro D c pre W _ _ h _
    exact h.elim

theorem runval_split (lv : Value) (l : List Nat) (w : World) (hl : Rd w 1 lv l.length (u64s l)) (hok : ∀ t ∈ l, in64u t) (hn : l.length ≤ 1000000) :
    Calls Try.prog 11 #[lv] w fun e w' => ∃ r, e = .returned r ∧ Rd w' 2 r (splitR l).length (runCells (runsI (splitR l))) ∧ Below w.heap.size w w' := by
  obtain ⟨p, c, hv⟩ := hl.shape
  subst hv
  have HL := Lib.hid hl; have HOk := Lib.hid hok; have HN := Lib.hid hn
  clear hl hok hn
  go_enter Try.func11, Try.ntmps11
  go_wp2_with fail
  refine (callsIn_wide.1 (new_runs p _ c w 9)).mono ?_
  rintro e w1 ⟨rfl, rfl⟩
  have hB0 : Below w.heap.size w (w.alloc (.cells #[.slice p l.length c] 22)) := (Below.refl _ w).alloc (Nat.le_refl _) _
  have hx0 : (w.alloc (.cells #[.slice p l.length c] 22)).cell? ⟨w.heap.size, 0, none⟩ = some (.slice p l.length c) := by rw [(Blk.new w #[.slice p l.length c] 22).cell]; rfl
  have HA := Lib.hid (appendSeq_runs w.heap.size _ l _ hx0 (HL.out.below hB0) HOk.out HN.out)
  have HB0 := Lib.hid hB0
  clear hx0 hB0
  generalize w.alloc (.cells #[.slice p l.length c] 22) = w1 at *
  go_wp2_with fail
  go_enter Try.func32, Try.ntmps32
  go_wp2_with fail
  refine HA.out.mono ?_
  rintro e w2 ⟨r, rfl, hR, hB⟩
  obtain ⟨pr, cr, hv⟩ := hR.shape
  subst hv
  have HR := Lib.hid hR
  have HB2 : Hid (Below w.heap.size w w2) := HB0.out.trans (hB.mono HB0.out.size)
  clear hR hB HA
  go_wp2_with fail
  go_ret
  rw [rnCells_eq] at HR
  exact ⟨_, rfl, HR.out, HB2.out⟩
end Go.Proofs.Ytnjdjmfjkjpelaa
