/- SyC, SyB, VarintA, AppStr, in one text. -/
import Derived.Test.YteiffpninifjlaaMrg8
import Derived.Test.YteiffpninifjlaaMrg2
import Derived.Test.YteiffpninifjlaaMrg4
import Derived.Laws.ResultCell
import Derived.Test.YteiffpninifjlaaMrg7
import Derived.Test.YteiffpninifjlaaMrg1
import Derived.Test.YteiffpninifjlaaMrg3

section
/- Layer 10: Table. -/
set_option linter.unusedVariables false
set_option maxRecDepth 100000
namespace Go.Proofs.Yteiffpninifjlaa
open Go Go.RowKit Go.Shelf
attribute [local go_sem] Oper.semAt_some

/-- Where AppendSeq stands between two rounds: g is the variable's block. -/
def ColS (g : Nat) (w : World) (pre : List ByteArray) (W : World) : Prop :=
  ∃ v', Blk W g [v'] ∧ W.ownsRow g 9 1 v' pre.length (strs pre) ∧ v'.ownBlock ≠ some g ∧ Below g w W
theorem colS_own {B g : Nat} {w : World} (hB : g ≤ B) : OwnFrom B (fun (pre : List ByteArray) W => ColS g w pre W) := by
  rintro s W W' row ⟨v', h1, h2, h3, h4⟩ hg hr
  have hr' : ∀ r, row = some r → ∃ o : Obj, W.heap[r]? = some o ∧ o.isCells = false := fun r e => (hr r e).2
  exact ⟨v', own_blk g (fun _ : Unit => [v']) () W W' row h1 hg hr', owns_abides h2 hg hr', h3, h4.grown hg (by have := h1.lt; omega) (fun j e => Nat.le_trans hB (hr j e).1)⟩

set_option maxHeartbeats 2000000 in
theorem appendSeq_strs (b : Nat) (lv : Value) (l : List ByteArray) (w : World) (hc : w.cell? ⟨b, 0, none⟩ = some lv) (hl : Rd w 1 lv l.length (strs l)) (hn : l.length ≤ 1000000) :
    Calls Try.prog 58 #[.slice none 0 0, .func (.func 46) #[] #[.pointer (some ⟨b, 0, none⟩)]] w fun e w' => ∃ r, e = .returned r ∧ w'.ownsRow w.heap.size 9 1 r l.length (strs l) ∧ Below w.heap.size w w' := by
  have hb : b < w.heap.size := World.block_lt_of_cell? w _ hc
  have HKW := Lib.hid (keepB_lt hb hl)
  have HC := Lib.hid hc; have HL := Lib.hid hl; have HN := Lib.hid hn
  clear hc hl hn
  refine (callsIn_wide (n := 9)).1 ?_
  refine callsIn_of_wp_marks Try.func58 rfl trivial ?_ rfl
  simp only [Try.ntmps58, List.size_toArray, List.length_cons, List.length_nil, Nat.reduceAdd, Nat.reduceSub, Array.replicate_succ, Array.replicate_zero, List.push_toArray, List.append_toArray, List.nil_append, List.cons_append]
  gi_wp2
  obtain ⟨W0, hW0⟩ : ∃ W0, w.alloc (.cells #[.slice none 0 0] 22) = W0 := ⟨_, rfl⟩
  have hs0 : W0.heap.size = w.heap.size + 1 := by rw [← hW0]; simp
  have hB0 : Below w.heap.size w W0 := by rw [← hW0]; exact (Below.refl _ w).alloc (Nat.le_refl _) _
  have hX0 : Blk W0 w.heap.size [.slice none 0 0] := by rw [← hW0]; exact Blk.new w _ _
  rw [hW0]
  clear hW0
  have HI0 : Hid (ColS w.heap.size w [] W0) := ⟨_, hX0, World.ownsRow_nil _ _ _ _, fun e => by simp [Value.ownBlock] at e, hB0⟩
  have HGV := Lib.hid (values_gives 8 (by omega) b lv l W0 ((hB0.cell hb).trans HC.out) (HL.out.below hB0))
  have HS0 := Lib.hid hs0
  clear hX0 hB0 hs0
  obtain ⟨K, hK⟩ : ∃ K : Nat → Prop, KeepB b lv l = K := ⟨_, rfl⟩
  rw [hK] at HGV HKW
  clear hK
  refine wpIn_rangeFunc_ownG rfl (by omega) (gf := 46) (lb := #[.pointer (some ⟨b, 0, none⟩)]) rfl trivial (enters_of Try.func46 (by kernel_rfl) rfl)
    HGV.out (fun h k => keepAt_t h k) (fun W l o o' h1 h2 h3 h4 => keepAt_b (w := W0) (fun k hk => by have := HKW.out k hk; have := HS0.out; omega) W l o o' h1 h2 h3 h4) (Below.refl _ _) (fun _ => rfl)
    (fun pre W => ColS w.heap.size w pre W)
    (fun _ _ _ => False)
    (colS_own (by have := HS0.out; omega))
    (fun _ _ _ _ _ hs _ _ => hs)
    HI0.out
    (fun x => { tmps := #[.slice none 0 0, .func (.func 46) #[] #[.pointer (some ⟨b, 0, none⟩)], .pointer (some ⟨w.heap.size, 0, none⟩), undef, .slice none 0 0, .string x, .func (.func 46) #[] #[.pointer (some ⟨b, 0, none⟩)], .string x, undef, undef, undef, undef, undef], defers := [] })
    ?assign ?body ?done ?stop
  case assign =>
    intro l x W K hK
    simp only [List.zip_toArray, List.zip_cons_cons, List.zip_nil_right, List.foldl_toArray, List.foldl_cons, List.foldl_nil, List.setIfInBounds_toArray, List.set_cons_zero, List.set_cons_succ]
    gi_wp2
    exact hK
  case body =>
    rintro l' pre x W ⟨v', h1, h2, h4, h5⟩ hlen
    have hlm : pre.length ≤ 1000000 := by have := HN.out; omega
    have c0 : W.cell? ⟨w.heap.size, 0, none⟩ = some v' := by rw [h1.cell]; rfl
    have f0 := h1.free 0
    have HOw : Hid (W.ownsRow 0 9 1 v' pre.length (strs pre)) := owns_rebase h2 (fun _ _ => Nat.zero_le _)
    have HPre : Hid ((pre ++ [x]).length = pre.length + 1 ∧ strs (pre ++ [x]) = strs pre ++ [.string x]) := ⟨by simp, by rw [strs_append]; rfl⟩
    obtain ⟨p1, c1, hv1⟩ := (Rd.of_owns h2).shape
    subst hv1
    have HB : Hid ((pre.length + 1) * 16 ≤ 140737488355328 ∧ pre.length + 1 ≤ maxLen) := by show _ ∧ _; unfold maxLen; omega
    have H1 := Lib.hid h1; have H2 := Lib.hid h2; have H4 := Lib.hid h4; have H5 := Lib.hid h5
    clear h1 h2 h4 h5 hlen
    generalize hpl : pre.length = pl at *
    clear hpl
    refine wpIn_block ?_
    refine wpIn_region_list ?_
    refine wpListIn_round not_letsOut_body _ _ _ (by simp) ?_
    go_wp2_with (at_builtin; refine wpList_push Try.elemStr W #[.string x] _ _ _ HOw.out rfl (by simp [Value.oneCell']) HB.out rfl _ _ rfl rfl rfl ?_)
    intro v2 w1 k1 k2 k3
    have b1 := k2.blk H1.out (fun e => H4.out e)
    have c1' : w1.cell? ⟨w.heap.size, 0, none⟩ = some (.slice p1 pl c1) := by rw [b1.cell]; rfl
    have f1' := b1.free 0
    have hne : v2.ownBlock ≠ some w.heap.size := fun e => by
      rcases k3 _ e with e | e
      · exact H4.out e
      · have := H1.out.lt; omega
    have hlo : ∀ k, v2.ownBlock = some k → w.heap.size ≤ k := fun k hk => by
      rcases k3 k hk with e | e
      · exact (H2.out.lt k e).1
      · have := H1.out.lt; omega
    obtain ⟨p2, c2, hv2⟩ := (Rd.of_owns k1).shape
    subst hv2
    have HF : Hid (KeepsOthers W (w1.setCell ⟨w.heap.size, 0, none⟩ (.slice p2 (pl + 1) c2)) ∧ KeepAt K W (w1.setCell ⟨w.heap.size, 0, none⟩ (.slice p2 (pl + 1) c2)) ∧ ColS w.heap.size w (pre ++ [x]) (w1.setCell ⟨w.heap.size, 0, none⟩ (.slice p2 (pl + 1) c2))) := by
      have hs : Mods (fun k => k = w.heap.size) w1 (w1.setCell ⟨w.heap.size, 0, none⟩ (.slice p2 (pl + 1) c2)) := Mods.set _ _ _ _ (fun _ => rfl)
      have hM : Mods (fun k => k = w.heap.size ∨ (Value.slice p1 pl c1).ownBlock = some k) W (w1.setCell ⟨w.heap.size, 0, none⟩ (.slice p2 (pl + 1) c2)) :=
        (k2.mono (fun _ _ e => Or.inr e)).trans hs (fun _ _ e => Or.inl e)
      have hlow : ∀ k, (k = w.heap.size ∨ (Value.slice p1 pl c1).ownBlock = some k) → w.heap.size ≤ k := fun k e => by
        rcases e with e | e
        · omega
        · exact (H2.out.lt k e).1
      refine ⟨KeepsOthers.of_mods hM (fun k o e ho => ?_), fun k hk => hM.block k (by have := HKW.out k hk; have := H5.out.size; omega) (fun e => by have := HKW.out k hk; have := hlow k e; omega), .slice p2 (pl + 1) c2, ?_, ?_, hne, ?_⟩
      · rcases e with rfl | e
        · obtain ⟨t, ht⟩ := H1.out
          rw [ht] at ho; cases ho; rfl
        · exact owns_isCells H2.out k o e ho
      · simpa using b1.set 0 (.slice p2 (pl + 1) c2)
      · rw [HPre.out.1, HPre.out.2]
        exact owns_rebase (hs.owns k1 (fun k hk e => hne (by rw [hk, e]))) hlo
      · exact H5.out.trans (hM.below (by have := H1.out.lt; omega) (fun k hk e => by have := hlow k e; omega))
    clear k1 k2 k3 hne hlo b1 c0 f0
    go_wp2_with fail
    exact ⟨HF.out.1.from _, HF.out.2.1, HF.out.2.2⟩
  case done =>
    rintro D zs W hD rfl ⟨v', h1, h2, h4, h5⟩ hK
    have c0 : W.cell? ⟨w.heap.size, 0, none⟩ = some v' := by rw [h1.cell]; rfl
    obtain ⟨p1, c1, hv1⟩ := (Rd.of_owns h2).shape
    subst hv1
    have H2 := Lib.hid h2; have H5 := Lib.hid h5
    clear h1 h2 h4 h5 HGV
    gi_wp2
    refine ⟨by simp, .inl ⟨_, _, rfl, run_takeDeferred hK, ?_⟩⟩
    refine ⟨_, results_tmp rfl _ _ _, _, rfl, ?_, H5.out.trans (belowK_b (w := w) (Nat.le_refl _) W D _ _ (by have := HS0.out; omega) hK rfl rfl)⟩
    exact ownsRow_putObj H2.out (.deferred none) hK rfl
  case stop =>
    rintro D c pre W _ _ h _
    exact h.elim

theorem sorted_strs (b : Nat) (lv : Value) (l : List ByteArray) (w : World) (hc : w.cell? ⟨b, 0, none⟩ = some lv) (hl : Rd w 1 lv l.length (strs l)) (hn : l.length ≤ 1000000) :
    Calls Try.prog 24 #[.func (.func 46) #[] #[.pointer (some ⟨b, 0, none⟩)]] w fun e w' => ∃ r, e = .returned r ∧ w'.ownsRow w.heap.size 9 1 r l.length ((srt l).map encStr) ∧ Below w.heap.size w w' := by
  have HA := Lib.hid (appendSeq_strs b lv l w hc hl hn)
  have HN := Lib.hid hn
  clear hc hl hn
  go_enter Try.func24, Try.ntmps24
  go_wp2_with fail
  go_enter Try.func44, Try.ntmps44
  go_wp2_with fail
  refine HA.out.mono ?_
  rintro e w1 ⟨r, rfl, hO, hB⟩
  obtain ⟨p1, c1, hv⟩ := (Rd.of_owns hO).shape
  subst hv
  have HS := Lib.hid (srt_row w1 _ _ l hO HN.out)
  have HLo : Hid (∀ k, (Value.slice p1 l.length c1).ownBlock = some k → w.heap.size ≤ k) := fun k hk => (hO.lt k hk).1
  have HB := Lib.hid hB
  clear hO hB HA
  go_wp2_with fail
  go_wp2_with fail
  refine HS.out.mono ?_
  rintro e w2 ⟨rfl, hO, hM⟩
  have HO := Lib.hid hO
  have HB2 : Hid (Below w.heap.size w w2) := HB.out.trans (hM.below HB.out.size (fun k hk e => by have := HLo.out k e; omega))
  clear hO hM HS
  go_wp2_with fail
  go_ret
  exact ⟨_, rfl, HO.out, HB2.out⟩

theorem table_met (lv : Value) (l : List ByteArray) (w : World) (hl : Rd w 1 lv l.length (strs l)) (hn : l.length ≤ 1000000) :
    Calls Try.prog 13 #[lv] w fun e w' => ∃ r, e = .returned r ∧ GotL w (tabS l) r w' := by
  obtain ⟨p, c, hv⟩ := hl.shape
  subst hv
  have HL := Lib.hid hl; have HN := Lib.hid hn
  clear hl hn
  go_enter Try.func13, Try.ntmps13
  go_wp2_with fail
  refine (callsIn_wide.1 (new_values p _ c w 9)).mono ?_
  rintro e w1 ⟨rfl, rfl⟩
  have hB0 : Below w.heap.size w (w.alloc (.cells #[.slice p l.length c] 22)) := (Below.refl _ w).alloc (Nat.le_refl _) _
  have hx0 : (w.alloc (.cells #[.slice p l.length c] 22)).cell? ⟨w.heap.size, 0, none⟩ = some (.slice p l.length c) := by rw [(Blk.new w #[.slice p l.length c] 22).cell]; rfl
  have HA := Lib.hid (sorted_strs w.heap.size _ l _ hx0 (HL.out.below hB0) HN.out)
  have HB0 := Lib.hid hB0
  clear hx0 hB0
  generalize w.alloc (.cells #[.slice p l.length c] 22) = w1 at *
  go_wp2_with fail
  refine HA.out.mono ?_
  rintro e w2 ⟨r, rfl, hO, hB⟩
  have hlen : l.length = (srt l).length := (srt_length l).symm
  obtain ⟨pr, cr, hv⟩ := (Rd.of_owns hO).shape
  subst hv
  have hO2 : w2.ownsRow w.heap.size 9 1 (.slice pr l.length cr) (srt l).length ((srt l).map encStr) := by rw [← hlen]; exact owns_rebase hO (fun k hk => Nat.le_trans HB0.out.size (hO.lt k hk).1)
  have HC := Lib.hid (compact_row w2 _ _ (srt l) hO2 (by rw [← hlen]; exact HN.out))
  have HLo : Hid (∀ k, (Value.slice pr l.length cr).ownBlock = some k → w.heap.size ≤ k) := fun k hk => (hO2.lt k hk).1
  have HB2 : Hid (Below w.heap.size w w2) := HB0.out.trans (hB.mono HB0.out.size)
  clear hO hO2 hB HA hlen
  go_wp2_with fail
  refine HC.out.mono ?_
  rintro e w3 ⟨r, rfl, hO, hM⟩
  rw [enc_ofK, srt_length, compact_tab] at hO
  have hln : (Lib.compactUpTo (srt l).toArray l.length).length = (tabS l).length := by rw [← compact_tab l, List.length_map]
  rw [hln] at hO
  obtain ⟨pc, cc, hv⟩ := (Rd.of_owns hO).shape
  subst hv
  have HO := Lib.hid hO
  have HB3 : Hid (Below w.heap.size w w3) := HB2.out.trans (hM.below HB2.out.size (fun k hk e => by have := HLo.out k e; omega))
  clear hO hM HC hln
  go_wp2_with fail
  go_ret
  exact ⟨_, rfl, Rd.of_owns HO.out, fun k hk => (HO.out.lt k hk).1, HB3.out⟩
end Go.Proofs.Yteiffpninifjlaa

end

section
/- Layer 10: whether each string is greater than the one before. -/
set_option linter.unusedVariables false
set_option maxRecDepth 100000
namespace Go.Proofs.Yteiffpninifjlaa
open Go Go.RowKit Go.Shelf
attribute [local go_sem] Oper.semAt_some

theorem neighS_cons (a b : ByteArray) (l : List ByteArray) : neighS (a :: b :: l) = (a, b) :: neighS (b :: l) := rfl
theorem asc_neigh (t : List ByteArray) : AscB ltS t ↔ ∀ x ∈ neighS t, ltS x.1 x.2 = true := by
  induction t with
  | nil => exact ⟨(fun _ x h => by cases h), fun _ => List.Pairwise.nil⟩
  | cons a l ih =>
    cases l with
    | nil => exact ⟨(fun _ x h => by cases h), fun _ => List.pairwise_singleton _ _⟩
    | cons b l =>
      rw [neighS_cons]
      constructor
      · intro h x hx
        obtain ⟨h1, h2⟩ := List.pairwise_cons.1 h
        rcases List.mem_cons.1 hx with rfl | hx
        · exact h1 b (by simp)
        · exact ih.1 h2 x hx
      · intro h
        have h2 := ih.2 (fun x hx => h x (List.mem_cons_of_mem _ hx))
        have hab : ltS a b = true := h (a, b) (by simp)
        refine List.pairwise_cons.2 ⟨fun y hy => ?_, h2⟩
        rcases List.mem_cons.1 hy with rfl | hy
        · exact hab
        · exact ltS_ok.tr _ _ _ hab ((List.pairwise_cons.1 h2).1 y hy)
theorem leq_S (T : TypeId) (s b : ByteArray) : binOp .leq T (.string s) (.string b) = pure (.bool (!ltS b s)) := by
  have h : (Op.bytesLess s.toList b.toList || s.toList == b.toList) = !ltS b s := by
    rw [eqS]
    show (ltS s b || decide (s = b)) = !ltS b s
    by_cases e : s = b
    · subst e; simp [ltS_ok.irr]
    · rw [decide_eq_false e, Bool.or_false]
      rcases Bool.eq_false_or_eq_true (ltS s b) with h1 | h1
      · rw [h1, ltS_ok.asy h1]; rfl
      · rcases Bool.eq_false_or_eq_true (ltS b s) with h2 | h2
        · rw [h1, h2]; rfl
        · exact absurd (ltS_ok.tot _ _ h1 h2) e
  rw [← h]
  simp [binOp, Op.stringOp]

theorem own_asc {β : Type} {B r : Nat} {w : World} (hB : w.heap.size ≤ B) (p : β → Prop) (u : Value) : OwnFrom B (fun s W => Blk W r [u] ∧ Below w.heap.size w W ∧ p s) := by
  rintro s W W' row ⟨h1, h2, h3⟩ hg hr
  have hr' : ∀ r, row = some r → ∃ o : Obj, W.heap[r]? = some o ∧ o.isCells = false := fun r e => (hr r e).2
  exact ⟨own_blk r (fun _ : Unit => [u]) () W W' row h1 hg hr', h2.grown hg h2.size (fun j e => Nat.le_trans hB (hr j e).1), h3⟩

set_option maxHeartbeats 2000000 in
theorem is_ascending (tv : Value) (t : List ByteArray) (w : World) (h : Rd w 1 tv t.length (strs t)) :
    Calls Try.prog 29 #[tv] w fun e w' => e = .returned (.bool (decide (AscB ltS t))) ∧ Below w.heap.size w w' := by
  have H := Lib.hid h
  obtain ⟨p, c, hv⟩ := h.shape
  subst hv
  clear h
  refine (callsIn_wide (n := 9)).1 ?_
  refine callsIn_of_wp_marks Try.func29 rfl trivial ?_ rfl
  simp only [Try.ntmps29, List.size_toArray, List.length_cons, List.length_nil, Nat.reduceAdd, Nat.reduceSub, Array.replicate_succ, Array.replicate_zero, List.push_toArray, List.append_toArray, List.nil_append, List.cons_append]
  gi_wp2_with (refine ⟨trivial, ?_⟩; gi_at_call 50; refine (new_neighbors _ _ c _ _).mono ?_; rintro e w' ⟨rfl, rfl⟩)
  obtain ⟨w1, hw1⟩ : ∃ w1, w.alloc (.cells #[.bool false] 4) = w1 := ⟨_, rfl⟩
  have hs1 : w1.heap.size = w.heap.size + 1 := by rw [← hw1]; simp
  have hB1 : Below w.heap.size w w1 := by rw [← hw1]; exact (Below.refl _ w).alloc (Nat.le_refl _) _
  have hx1 : Blk w1 w.heap.size [.bool false] := by rw [← hw1]; exact Blk.new w _ _
  rw [hw1]
  clear hw1
  obtain ⟨W0, hW0⟩ : ∃ W0, w1.alloc (.cells #[.slice p t.length c] 22) = W0 := ⟨_, rfl⟩
  have hs0 : W0.heap.size = w1.heap.size + 1 := by rw [← hW0]; simp
  have hB0 : Below w1.heap.size w1 W0 := by rw [← hW0]; exact (Below.refl _ w1).alloc (Nat.le_refl _) _
  have hx0 : W0.cell? ⟨w1.heap.size, 0, none⟩ = some (.slice p t.length c) := by
    have := (Blk.new w1 #[.slice p t.length c] 22).cell 0
    rw [hW0] at this
    simpa using this
  rw [hs1] at hx0
  rw [hW0]
  clear hW0
  have hBB : Below w.heap.size w W0 := hB1.trans (hB0.mono hB1.size)
  have hR0 := H.out.below hBB
  have HX0 : Hid (Blk W0 w.heap.size [.bool false]) := hx1.of_same (hB0.block _ hx1.lt)
  have HKW : Hid (∀ k, KeepB (w.heap.size + 1) (.slice p t.length c) t k → k < W0.heap.size ∧ k ≠ w.heap.size) := fun k hk => by
    rcases hk with e | ⟨hne, e⟩
    · omega
    · have := H.out.lt (fun e => hne (by have := congrArg List.length e; rw [strs_length] at this; exact List.eq_nil_of_length_eq_zero this)) k e
      omega
  have HGV := Lib.hid (neighbors_gives 8 (by omega) (w.heap.size + 1) _ t W0 hx0 hR0)
  have HS0 : Hid (W0.heap.size = w.heap.size + 2) := by show _ = _; omega
  have HBB := Lib.hid hBB
  clear hx0 hs0 hB0 hs1 hB1 hx1 hBB hR0
  obtain ⟨K, hK⟩ : ∃ K : Nat → Prop, KeepB (w.heap.size + 1) (.slice p t.length c) t = K := ⟨_, rfl⟩
  rw [hK] at HGV HKW
  clear hK
  have HAN := Lib.hid (asc_neigh t)
  obtain ⟨ys, hys⟩ : ∃ ys, neighS t = ys := ⟨_, rfl⟩
  rw [hys] at HGV HAN
  clear hys
  refine wpIn_rangeFunc_ownG rfl (by omega) (gf := 62) (lb := #[.pointer (some ⟨w.heap.size + 1, 0, none⟩)]) rfl trivial (enters_of Try.func62 (by kernel_rfl) rfl)
    HGV.out (fun h k => keepAt_t h k) (fun W l o o' h1 h2 h3 h4 => keepAt_b (fun k hk => (HKW.out k hk).1) W l o o' h1 h2 h3 h4) (Below.refl _ _) (fun _ => rfl)
    (fun pre W => Blk W w.heap.size [.bool false] ∧ Below w.heap.size w W ∧ ∀ x ∈ pre, ltS x.1 x.2 = true)
    (fun c pre W => Blk W w.heap.size [.bool false] ∧ Below w.heap.size w W ∧ (c = .ret ∧ ∃ x ∈ pre, ltS x.1 x.2 = false))
    (own_asc (by have := HS0.out; omega) (fun pre : List (ByteArray × ByteArray) => ∀ x ∈ pre, ltS x.1 x.2 = true) _)
    (fun c => own_asc (by have := HS0.out; omega) (fun pre : List (ByteArray × ByteArray) => c = .ret ∧ ∃ x ∈ pre, ltS x.1 x.2 = false) _)
    ⟨HX0.out, HBB.out, fun x hx => by cases hx⟩
    (fun x => { tmps := #[.slice p t.length c, undef, .pointer (some ⟨w.heap.size, 0, none⟩), .string x.1, .string x.2, .slice p t.length c, .func (.func 62) #[] #[.pointer (some ⟨w.heap.size + 1, 0, none⟩)], .string x.1, .string x.2, undef, undef, undef], defers := [] }) ?assign ?body ?done ?stop
  case assign =>
    intro l x W K hK
    simp only [List.zip_toArray, List.zip_cons_cons, List.zip_nil_right, List.foldl_toArray, List.foldl_cons, List.foldl_nil, List.setIfInBounds_toArray, List.set_cons_zero, List.set_cons_succ]
    gi_wp2
    exact hK
  case body =>
    rintro l pre ⟨b, s⟩ W ⟨h1, h2, h3⟩ hlen
    have hle := leq_S 9 s b
    have H1 := Lib.hid h1; have H2 := Lib.hid h2; have H3 := Lib.hid h3
    clear h1 h2 h3 hlen
    cases hlt : ltS b s with
    | true =>
      rw [hlt] at hle
      have HL := Lib.hid hlt
      clear hlt
      gi_wp2_with fail
      exact ⟨KeepsFrom.refl _ _, fun _ _ => rfl, H1.out, H2.out, fun x hx => by
        rcases List.mem_append.1 hx with e | e
        · exact H3.out x e
        · rw [List.mem_singleton.1 e]; exact HL.out⟩
    | false =>
      rw [hlt] at hle
      have HL := Lib.hid hlt
      clear hlt
      have c0 : W.cell? ⟨w.heap.size, 0, none⟩ = some (.bool false) := by rw [H1.out.cell]; rfl
      have f0 := H1.out.free 0
      have HM : Hid (Mods (fun k => k = w.heap.size) W (W.setCell ⟨w.heap.size, 0, none⟩ (.bool false))) := Mods.set _ _ _ _ (fun _ => rfl)
      have HX : Hid (Blk (W.setCell ⟨w.heap.size, 0, none⟩ (.bool false)) w.heap.size [.bool false]) := Lib.hid (by simpa using H1.out.set 0 (.bool false))
      gi_wp2_with fail
      refine ⟨(KeepsOthers.of_mods HM.out (fun k o e ho => ?_)).from _, HX.out, H2.out.trans (HM.out.below (by have := H2.out.size; omega) (fun k hk e => by omega)), ?_⟩
      · subst e
        obtain ⟨t, ht⟩ := H1.out
        rw [ht] at ho; cases ho; rfl
      · exact ⟨rfl, (b, s), by simp, HL.out⟩
  case done =>
    rintro D zs W hD rfl ⟨h1, h2, h3⟩ hK
    have HAs : Hid (decide (AscB ltS t) = true) := decide_eq_true (HAN.out.2 h3)
    have c0 : W.cell? ⟨w.heap.size, 0, none⟩ = some (.bool false) := by rw [h1.cell]; rfl
    have f0 := h1.free 0
    have HM : Hid (Mods (fun k => k = w.heap.size) W (W.setCell ⟨w.heap.size, 0, none⟩ (.bool true))) := Mods.set _ _ _ _ (fun _ => rfl)
    have HX : Hid (Blk (W.setCell ⟨w.heap.size, 0, none⟩ (.bool true)) w.heap.size [.bool true]) := Lib.hid (by simpa using h1.set 0 (.bool true))
    have HKo : Hid ((W.setCell ⟨w.heap.size, 0, none⟩ (.bool true)).heap[D]? = some (.deferred (some []))) := (HM.out.block D (Array.getElem?_eq_some_iff.1 hK).1 (by have := HS0.out; omega)).trans hK
    have H2 := Lib.hid h2
    clear h1 h2 h3 hK HGV
    gi_wp2
    refine ⟨by simp, .inl ⟨_, _, rfl, run_takeDeferred HKo.out, ?_⟩⟩
    have hg := grownBy_putObj' (W.setCell ⟨w.heap.size, 0, none⟩ (.bool true)) D (.deferred none)
    have hx5 : Blk ((W.setCell ⟨w.heap.size, 0, none⟩ (.bool true)).putObj D (.deferred none)) w.heap.size [.bool true] := HX.out.of_same (hg.block _ HX.out.lt (by have := HS0.out; simp; omega))
    have hc5 : ((W.setCell ⟨w.heap.size, 0, none⟩ (.bool true)).putObj D (.deferred none)).cell? ⟨w.heap.size, 0, none⟩ = some (.bool true) := by rw [hx5.cell]; rfl
    refine ⟨.bool true, ?_, by rw [HAs.out], ?_⟩
    · simp [results, Try.f29, go_sem, hc5]
    · exact (H2.out.trans (HM.out.below (by have := H2.out.size; omega) (fun k hk e => by omega))).trans (belowK_b (w := w) (Nat.le_refl _) _ D _ _ (by have := HS0.out; omega) HKo.out rfl rfl)
  case stop =>
    rintro D c pre W hD hpre ⟨h1, h2, rfl, x, hx, hlt⟩ hK
    have HAs : Hid (decide (AscB ltS t) = false) := decide_eq_false (fun h => by
      obtain ⟨i, hi⟩ := hpre
      have := HAN.out.1 h x (by rw [hi] at hx; exact List.mem_of_mem_take hx)
      rw [hlt] at this
      cases this)
    have H1 := Lib.hid h1; have H2 := Lib.hid h2; have HK := Lib.hid hK
    clear h1 h2 hpre hx hlt hK HGV
    gi_wp2
    refine ⟨by simp, .inl ⟨_, _, rfl, run_takeDeferred HK.out, ?_⟩⟩
    have hg := grownBy_putObj' W D (.deferred none)
    have hx5 : Blk (W.putObj D (.deferred none)) w.heap.size [.bool false] := H1.out.of_same (hg.block _ H1.out.lt (by have := HS0.out; simp; omega))
    have hc5 : (W.putObj D (.deferred none)).cell? ⟨w.heap.size, 0, none⟩ = some (.bool false) := by rw [hx5.cell]; rfl
    refine ⟨.bool false, ?_, by rw [HAs.out], ?_⟩
    · simp [results, Try.f29, go_sem, hc5]
    · exact H2.out.trans (belowK_b (w := w) (Nat.le_refl _) _ D _ _ (by have := HS0.out; omega) HK.out rfl rfl)
end Go.Proofs.Yteiffpninifjlaa

end

section
/- Layer 2: the function that yields groups; Append. -/
set_option linter.unusedVariables false
namespace Go.Proofs.Yteiffpninifjlaa
open Go Go.RowKit Go.Shelf
attribute [local go_sem] Oper.semAt_some

theorem new_groups (x : Nat) (w : World) (n : Nat) :
    CallsIn Fence.wide n Try.prog 51 #[.int .u64 x] w fun e w' => e = .returned (.func (.func 63) #[] #[.pointer (some ⟨w.heap.size, 0, none⟩)]) ∧ w' = w.alloc (.cells #[.int .u64 x] 52) := by
  refine callsIn_wide.2 ?_
  go_enter Try.func51, Try.ntmps51
  go_wp2
  go_ret
  exact ⟨rfl, rfl⟩

set_option maxRecDepth 100000 in
set_option maxHeartbeats 1000000 in
theorem groups_gives (n : Nat) (hn : 1 ≤ n) (b x : Nat) (hx : x < 18446744073709551616) (w : World) (hb : b < w.heap.size) (hc : w.cell? ⟨b, 0, none⟩ = some (.int .u64 x)) :
    SeqStopsK Fence.wide n Try.prog 63 #[.pointer (some ⟨b, 0, none⟩)] (fun c : Nat => #[.int .u8 (c : Int)]) KeepsWalks (fun ys => ys = groups x) (fun _ => True) (groups x).length w := by
  intro l J Jx W hW hJ hJx hY h0
  have hc' : W.cell? ⟨b, 0, none⟩ = some (.int .u64 x) := (hW.cell (p := ⟨b, 0, none⟩) hb).trans hc
  refine callsIn_of_wp Try.func63 rfl trivial ?_ rfl
  simp only [Try.ntmps63, List.size_toArray, List.length_cons, List.length_nil, Nat.reduceAdd, Nat.reduceSub, Array.replicate_succ, Array.replicate_zero, List.push_toArray, List.append_toArray, List.nil_append, List.cons_append]
  gi_wp2
  gi_loopw [3] (fun r wr => ∃ (pre : List Nat) (y : Nat), y < 18446744073709551616 ∧ r = .int .u64 y ∧ groups x = pre ++ groups y ∧ J pre wr) (fun r _ => (intOf r).toNat)
  case atStart => exact ⟨[], x, hx, rfl, rfl, h0⟩
  case round =>
    obtain ⟨pre, y, hy, rfl, hg, hJs⟩ := hrel
    by_cases h : y < 128
    · have hlt : (y : Int) < 128 := by omega
      obtain ⟨fn, tmps, assign, body, hyl, hR⟩ := hY pre y wr hJs (by rw [hg, groups_small h]; simp)
      rw [groups_small h] at hg
      gi_wp2
      refine hR.mono ?_
      rintro e W3 (⟨rfl, hJ3, hk3⟩ | ⟨rfl, hJx3⟩)
      · gi_wp2
        go_end0
        exact ⟨⟨_, rfl⟩, .inl ⟨_, hg.symm, hJ3⟩⟩
      · gi_wp2
        go_end0
        exact ⟨⟨_, rfl⟩, .inr ⟨_, trivial, hJx3⟩⟩
    · have hlt : ¬ (y : Int) < 128 := by omega
      obtain ⟨fn, tmps, assign, body, hyl, hR⟩ := hY pre (y % 128 + 128) wr hJs (by rw [hg, groups_big h]; simp)
      rw [show ((y % 128 + 128 : Nat) : Int) = (y : Int) % 128 + 128 from by omega] at hyl
      rw [groups_big h] at hg
      gi_wp2
      refine hR.mono ?_
      rintro e W3 (⟨rfl, hJ3, hk3⟩ | ⟨rfl, hJx3⟩)
      · gi_wp2
        go_roundw
        case rel => exact ⟨pre ++ [y % 128 + 128], y / 128, by omega, by go_num, by rw [hg]; simp, hJ3⟩
        case measure => simp [intOf]; omega
      · gi_wp2
        refine bodyPost_ret (results_none rfl _ _ _) rfl ?_
        exact ⟨⟨_, rfl⟩, .inr ⟨_, trivial, hJx3⟩⟩

/-- What an append to a row of bytes leaves behind. -/
structure AppPost (v : Value) (n : Nat) (out : List Nat) (w : World) (v' : Value) (w' : World) : Prop where
  own : w'.ownsRow 0 5 1 v' n (u8s out)
  mods : Mods (fun k => v.ownBlock = some k) w w'
  fresh : Fresh w.heap.size v v'

/-- What an append to a row that the call has made leaves behind. -/
theorem AppPost.below {v : Value} {n : Nat} {out : List Nat} {w : World} {v' : Value} {w' : World} (h : AppPost v n out w v' w') {B : Nat} (hB : B ≤ w.heap.size) (hv : ∀ k, v.ownBlock = some k → B ≤ k) : Below B w w' :=
  h.mods.below hB (fun k hk e => by have := hv k e; omega)
theorem AppPost.made {v : Value} {n : Nat} {out : List Nat} {w : World} {v' : Value} {w' : World} (h : AppPost v n out w v' w') {B : Nat} (hB : B ≤ w.heap.size) (hv : ∀ k, v.ownBlock = some k → B ≤ k) : w'.ownsRow B 5 1 v' n (u8s out) :=
  owns_rebase h.own (fun k hk => by
    rcases h.fresh k hk with e | e
    · exact hv k e
    · omega)
theorem nil_block {B : Nat} : ∀ k, (Value.slice none 0 0).ownBlock = some k → B ≤ k := fun k e => by simp [Value.ownBlock] at e

set_option maxRecDepth 100000 in
set_option maxHeartbeats 1000000 in
theorem append_any (v : Value) (n : Nat) (l : List Nat) (x : Nat) (hx : x < 18446744073709551616) (w : World) (h : w.ownsRow 0 5 1 v n (u8s l)) (hn : n + 10 ≤ 140737488355328) :
    Calls Try.prog 30 #[v, .int .u64 x] w fun e w' => ∃ v', e = .returned v' ∧ AppPost v (n + (groups x).length) (l ++ groups x) w v' w' := by
  have hten := groups_ten hx
  obtain ⟨p, c, hv⟩ := (Rd.of_owns h).shape
  subst hv
  refine (callsIn_wide (n := 9)).1 ?_
  refine callsIn_of_wp_marks Try.func30 rfl trivial ?_ rfl
  simp only [Try.ntmps30, List.size_toArray, List.length_cons, List.length_nil, Nat.reduceAdd, Nat.reduceSub, Array.replicate_succ, Array.replicate_zero, List.push_toArray, List.append_toArray, List.nil_append, List.cons_append]
  have H := Lib.hid h; clear h
  gi_wp2_with (refine ⟨trivial, ?_⟩; gi_at_call 51; refine (new_groups x _ _).mono ?_; rintro e w' ⟨rfl, rfl⟩)
  obtain ⟨W0, hW0⟩ : ∃ W0, (w.alloc (.cells #[.slice p n c] 33)).alloc (.cells #[.int .u64 x] 52) = W0 := ⟨_, rfl⟩
  have hs0 : W0.heap.size = w.heap.size + 2 := by rw [← hW0]; simp
  have hx0 : W0.cell? ⟨w.heap.size + 1, 0, none⟩ = some (.int .u64 x) := by
    have := (Blk.new (w.alloc (.cells #[.slice p n c] 33)) #[.int .u64 x] 52).cell 0
    rw [hW0] at this
    simpa using this
  have hI0 : Holds 5 1 w.heap.size (.slice p n c) (n + 0) (u8s (l ++ [])) w W0 := by
    have hm : Mods (fun k => (Value.slice p n c).ownBlock = some k) w W0 := by rw [← hW0]; exact (Mods.alloc _ _ _).trans (Mods.alloc (fun _ => False) _ _) (fun _ _ e => e.elim)
    refine ⟨_, ?_, ?_, Fresh.refl _ _, fun e => by have := owns_lt H.out _ e; omega, hm⟩
    · rw [← hW0]; exact (Blk.new w _ _).alloc _
    · rw [← hW0, List.append_nil]; exact (H.out.alloc _).alloc _
  rw [hW0]
  clear hW0
  refine wpIn_rangeFunc_ownG rfl (by omega) (gf := 63) (lb := #[.pointer (some ⟨w.heap.size + 1, 0, none⟩)]) rfl trivial (enters_of Try.func63 (by kernel_rfl) rfl)
    (groups_gives _ (by omega) (w.heap.size + 1) x hx W0 (by omega) hx0) walksK_t walksK_b (Below.refl _ _) (fun _ => rfl)
    (fun pre W => Holds 5 1 w.heap.size (.slice p n c) (n + pre.length) (u8s (l ++ pre)) w W)
    (fun _ _ _ => False)
    (ownFrom_holds (by omega) _ _ _ _ _ _)
    (fun _ _ _ _ _ hs _ _ => hs)
    hI0
    (fun k => { tmps := #[.slice p n c, .int .u64 x, .pointer (some ⟨w.heap.size, 0, none⟩), undef, .slice none 0 0, .int .u8 (k : Int), .int .u64 x, .func (.func 63) #[] #[.pointer (some ⟨w.heap.size + 1, 0, none⟩)], .int .u8 (k : Int), undef, undef, undef, undef, undef], defers := [] }) ?assign ?body ?done ?stop
  case assign =>
    intro l k W K hK
    simp only [List.zip_toArray, List.zip_cons_cons, List.zip_nil_right, List.foldl_toArray, List.foldl_cons, List.foldl_nil, List.setIfInBounds_toArray, List.set_cons_zero, List.set_cons_succ]
    gi_wp2
    exact hK
  case body =>
    rintro r pre k W ⟨v1, h1, h2, h3, h4, h5⟩ hlen
    have c0 : W.cell? ⟨w.heap.size, 0, none⟩ = some v1 := by rw [h1.cell]; rfl
    have f0 := h1.free 0
    have hb : (n + pre.length + 1) * 1 ≤ 140737488355328 ∧ n + pre.length + 1 ≤ maxLen := by unfold maxLen; omega
    have H2 := Lib.hid h2; have HB := Lib.hid hb
    obtain ⟨p1, c1, hv1⟩ := (Rd.of_owns h2).shape
    subst hv1
    clear h2 hb
    refine wpIn_block ?_
    refine wpIn_region_list ?_
    refine wpListIn_round not_letsOut_body _ _ _ (by simp) ?_
    go_wp2_with (at_builtin; refine wpList_push Try.elemU8 W #[.int .u8 (k : Int)] _ _ _ H2.out rfl (one_cell _ rfl) HB.out rfl _ _ rfl rfl rfl ?_)
    intro v2 w1 k1 k2 k3
    obtain ⟨q1, q2⟩ := Holds.pushed (Nat.le_refl _) h1 H2.out h3 h4 h5 k1 k2 k3
    have b1 := k2.blk h1 h4
    have c1' : w1.cell? ⟨w.heap.size, 0, none⟩ = some (.slice p1 (n + pre.length) c1) := by rw [b1.cell]; rfl
    have f1' := b1.free 0
    obtain ⟨p2, c2, hv2⟩ := (Rd.of_owns k1).shape
    subst hv2
    have Q1 := Lib.hid q1; have Q2 := Lib.hid q2
    clear k1 k2 k3 q1 q2
    go_wp2
    refine ⟨Q2.out.from _, Q2.out.walks, ?_⟩
    have q := Q1.out
    simpa [u8s, Nat.add_assoc] using q
  case done =>
    rintro D ys W hD rfl ⟨v1, h1, h2, h3, h4, h5⟩ hK
    have c0 : W.cell? ⟨w.heap.size, 0, none⟩ = some v1 := by rw [h1.cell]; rfl
    obtain ⟨p1, c1, hv1⟩ := (Rd.of_owns h2).shape
    subst hv1
    have H2 := Lib.hid h2; clear h2
    gi_wp2
    refine ⟨by simp, .inl ⟨_, _, rfl, run_takeDeferred hK, ?_⟩⟩
    refine ⟨_, results_tmp rfl _ _ _, ?_⟩
    exact ⟨.slice p1 (n + (groups x).length) c1, rfl, ⟨ownsRow_putObj H2.out _ hK rfl, h5.putObj (by omega) _, h3⟩⟩
  case stop =>
    rintro D c pre W _ _ h _
    exact h.elim
end Go.Proofs.Yteiffpninifjlaa

end

section
/- Layer 4: AppendBytes. -/
set_option linter.unusedVariables false
set_option maxRecDepth 20000
namespace Go.Proofs.Yteiffpninifjlaa
open Go Go.RowKit


set_option maxHeartbeats 1000000 in
theorem append_bytes (v : Value) (n : Nat) (l : List Nat) (s : ByteArray) (w : World) (h : w.ownsRow 0 5 1 v n (u8s l)) (hn : n + s.size ≤ 140737488350100) :
    Calls Try.prog 31 #[v, .string s] w fun en w' => ∃ v', en = .returned v' ∧ AppPost v (n + (bytesOf (numsOf s)).length) (l ++ bytesOf (numsOf s)) w v' w' := by
  have hten := groups_ten (x := s.size) (by omega)
  have HL : Hid ((n + (groups s.size).length + s.size) * 1 ≤ 140737488355328 ∧ n + (groups s.size).length + s.size ≤ maxLen) := by show _ ∧ _; unfold maxLen; omega
  have HW : Hid (bytesOf (numsOf s) = groups s.size ++ numsOf s) := by show _ = _; rw [bytesOf, numsOf_length]
  have hw : IntKind.u64.wrap (s.size : Int) = (s.size : Int) := by rw [IntKind.wrap_u64]; omega
  have H := Lib.hid h
  obtain ⟨q0, c0, hv⟩ := (Rd.of_owns h).shape
  subst hv
  clear h
  go_enter Try.func31, Try.ntmps31
  go_wp2_with fail
  refine (append_any _ _ l s.size (by omega) _ H.out (by omega)).mono ?_
  rintro e w1 ⟨r, rfl, hP⟩
  obtain ⟨p, c, hr⟩ := (Rd.of_owns hP.own).shape
  subst hr
  have HO := Lib.hid hP.own
  have HM := Lib.hid hP.mods
  have HF := Lib.hid hP.fresh
  clear hP
  go_wp2_with (at_builtin; refine wpList_extendStr Try.elemU8 Try.underlying9 _ _ _ _ HO.out s HL.out rfl _ _ rfl rfl rfl ?_)
  intro v2 w2 hown hmods hfr
  have HP2 : Hid (AppPost (.slice q0 n c0) (n + (bytesOf (numsOf s)).length) (l ++ bytesOf (numsOf s)) w v2 w2) := by
    refine ⟨?_, HM.out.trans hmods (fun j hj e => ?_), fun k hk => ?_⟩
    · rw [HW.out, List.length_append, numsOf_length, ← Nat.add_assoc, ← List.append_assoc, u8s_append]
      exact hown
    · rcases HF.out j e with h | h
      · exact h
      · omega
    · rcases hfr k hk with h | h
      · exact HF.out k h
      · have := HM.out.size; exact Or.inr (by omega)
  clear hown hmods hfr
  go_wp2_with fail
  go_ret
  exact ⟨_, rfl, HP2.out⟩
end Go.Proofs.Yteiffpninifjlaa

end
