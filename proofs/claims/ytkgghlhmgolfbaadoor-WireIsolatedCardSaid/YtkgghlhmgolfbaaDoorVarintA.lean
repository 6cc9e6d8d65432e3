/- Layer 2: the function that yields groups; Append. -/
import Derived.Test.YtkgghlhmgolfbaaDoorBytes
import Derived.Test.YtkgghlhmgolfbaaDoorGroups
import Derived.Test.YtkgghlhmgolfbaaDoorRange
set_option linter.unusedVariables false
namespace Go.Proofs.YtkgghlhmgolfbaaDoor
open Go Go.RowKit Go.Shelf
attribute [local go_sem] Oper.semAt_some

theorem new_groups (x : Nat) (w : World) (n : Nat) :
    CallsIn Fence.wide n Tryd.prog 53 #[.int .u64 x] w fun e w' => e = .returned (.func (.func 60) #[] #[.pointer (some ⟨w.heap.size, 0, none⟩)]) ∧ w' = w.alloc (.cells #[.int .u64 x] 39) := by
  refine callsIn_wide.2 ?_
  go_enter Tryd.func53, Tryd.ntmps53
  go_wp2
  go_ret
  exact ⟨rfl, rfl⟩

set_option maxRecDepth 100000 in
set_option maxHeartbeats 1000000 in
theorem groups_gives (n : Nat) (hn : 1 ≤ n) (b x : Nat) (hx : x < 18446744073709551616) (w : World) (hb : b < w.heap.size) (hc : w.cell? ⟨b, 0, none⟩ = some (.int .u64 x)) :
    SeqStopsK Fence.wide n Tryd.prog 60 #[.pointer (some ⟨b, 0, none⟩)] (fun c : Nat => #[.int .u8 (c : Int)]) KeepsWalks (fun ys => ys = groups x) (fun _ => True) (groups x).length w := by
  intro l J Jx W hW hJ hJx hY h0
  have hc' : W.cell? ⟨b, 0, none⟩ = some (.int .u64 x) := (hW.cell (p := ⟨b, 0, none⟩) hb).trans hc
  refine callsIn_of_wp Tryd.func60 rfl trivial ?_ rfl
  simp only [Tryd.ntmps60, List.size_toArray, List.length_cons, List.length_nil, Nat.reduceAdd, Nat.reduceSub, Array.replicate_succ, Array.replicate_zero, List.push_toArray, List.append_toArray, List.nil_append, List.cons_append]
  gi_wp2
  gi_loopw [3] (fun r wr => ∃ (pre : List Nat) (y : Nat), y < 18446744073709551616 ∧ r = .int .u64 y ∧ groups x = pre ++ groups y ∧ J pre wr) (fun r _ => (intOf r).toNat)
  case atStart => exact ⟨[], x, hx, rfl, rfl, h0⟩
  case round =>
    obtain ⟨pre, y, hy, rfl, hg, hJs⟩ := hrel
    by_cases h : y < 128
    · have hlt : (y : Int) < 128 := by omega
      obtain ⟨fn, tmps, assign, body, hyl, hR⟩ := hY pre y wr hJs (by rw [hg, groups_small h]; simp)
      rw [groups_small h] at hg
      gi_wp2
      refine hR.mono ?_
      rintro e W3 (⟨rfl, hJ3, hk3⟩ | ⟨rfl, hJx3⟩)
      · gi_wp2
        go_end0
        exact ⟨⟨_, rfl⟩, .inl ⟨_, hg.symm, hJ3⟩⟩
      · gi_wp2
        go_end0
        exact ⟨⟨_, rfl⟩, .inr ⟨_, trivial, hJx3⟩⟩
    · have hlt : ¬ (y : Int) < 128 := by omega
      obtain ⟨fn, tmps, assign, body, hyl, hR⟩ := hY pre (y % 128 + 128) wr hJs (by rw [hg, groups_big h]; simp)
      rw [show ((y % 128 + 128 : Nat) : Int) = (y : Int) % 128 + 128 from by omega] at hyl
      rw [groups_big h] at hg
      gi_wp2
      refine hR.mono ?_
      rintro e W3 (⟨rfl, hJ3, hk3⟩ | ⟨rfl, hJx3⟩)
      · gi_wp2
        go_roundw
        case rel => exact ⟨pre ++ [y % 128 + 128], y / 128, by omega, by go_num, by rw [hg]; simp, hJ3⟩
        case measure => simp [intOf]; omega
      · gi_wp2
        refine bodyPost_ret (results_none rfl _ _ _) rfl ?_
        exact ⟨⟨_, rfl⟩, .inr ⟨_, trivial, hJx3⟩⟩

/-- What an append to a row of bytes leaves behind. -/
structure AppPost (v : Value) (n : Nat) (out : List Nat) (w : World) (v' : Value) (w' : World) : Prop where
  own : w'.ownsRow 0 5 1 v' n (u8s out)
  mods : Mods (fun k => v.ownBlock = some k) w w'
  fresh : Fresh w.heap.size v v'

/-- What an append to a row that the call has made leaves behind. -/
theorem AppPost.below {v : Value} {n : Nat} {out : List Nat} {w : World} {v' : Value} {w' : World} (h : AppPost v n out w v' w') {B : Nat} (hB : B ≤ w.heap.size) (hv : ∀ k, v.ownBlock = some k → B ≤ k) : Below B w w' :=
  h.mods.below hB (fun k hk e => by have := hv k e; omega)
theorem AppPost.made {v : Value} {n : Nat} {out : List Nat} {w : World} {v' : Value} {w' : World} (h : AppPost v n out w v' w') {B : Nat} (hB : B ≤ w.heap.size) (hv : ∀ k, v.ownBlock = some k → B ≤ k) : w'.ownsRow B 5 1 v' n (u8s out) :=
  owns_rebase h.own (fun k hk => by
    rcases h.fresh k hk with e | e
    · exact hv k e
    · omega)
theorem nil_block {B : Nat} : ∀ k, (Value.slice none 0 0).ownBlock = some k → B ≤ k := fun k e => by simp [Value.ownBlock] at e

set_option maxRecDepth 100000 in
set_option maxHeartbeats 1000000 in
theorem append_any (v : Value) (n : Nat) (l : List Nat) (x : Nat) (hx : x < 18446744073709551616) (w : World) (h : w.ownsRow 0 5 1 v n (u8s l)) (hn : n + 10 ≤ 140737488355328) :
    Calls Tryd.prog 30 #[v, .int .u64 x] w fun e w' => ∃ v', e = .returned v' ∧ AppPost v (n + (groups x).length) (l ++ groups x) w v' w' := by
  have hten := groups_ten hx
  obtain ⟨p, c, hv⟩ := (Rd.of_owns h).shape
  subst hv
  refine (callsIn_wide (n := 9)).1 ?_
  refine callsIn_of_wp_marks Tryd.func30 rfl trivial ?_ rfl
  simp only [Tryd.ntmps30, List.size_toArray, List.length_cons, List.length_nil, Nat.reduceAdd, Nat.reduceSub, Array.replicate_succ, Array.replicate_zero, List.push_toArray, List.append_toArray, List.nil_append, List.cons_append]
  have H := Lib.hid h; clear h
  gi_wp2_with (refine ⟨trivial, ?_⟩; gi_at_call 53; refine (new_groups x _ _).mono ?_; rintro e w' ⟨rfl, rfl⟩)
  obtain ⟨W0, hW0⟩ : ∃ W0, (w.alloc (.cells #[.slice p n c] 22)).alloc (.cells #[.int .u64 x] 39) = W0 := ⟨_, rfl⟩
  have hs0 : W0.heap.size = w.heap.size + 2 := by rw [← hW0]; simp
  have hx0 : W0.cell? ⟨w.heap.size + 1, 0, none⟩ = some (.int .u64 x) := by
    have := (Blk.new (w.alloc (.cells #[.slice p n c] 22)) #[.int .u64 x] 39).cell 0
    rw [hW0] at this
    simpa using this
  have hI0 : Holds 5 1 w.heap.size (.slice p n c) (n + 0) (u8s (l ++ [])) w W0 := by
    have hm : Mods (fun k => (Value.slice p n c).ownBlock = some k) w W0 := by rw [← hW0]; exact (Mods.alloc _ _ _).trans (Mods.alloc (fun _ => False) _ _) (fun _ _ e => e.elim)
    refine ⟨_, ?_, ?_, Fresh.refl _ _, fun e => by have := owns_lt H.out _ e; omega, hm⟩
    · rw [← hW0]; exact (Blk.new w _ _).alloc _
    · rw [← hW0, List.append_nil]; exact (H.out.alloc _).alloc _
  rw [hW0]
  clear hW0
  refine wpIn_rangeFunc_ownG rfl (by omega) (gf := 60) (lb := #[.pointer (some ⟨w.heap.size + 1, 0, none⟩)]) rfl trivial (enters_of Tryd.func60 (by kernel_rfl) rfl)
    (groups_gives _ (by omega) (w.heap.size + 1) x hx W0 (by omega) hx0) walksK_t walksK_b (Below.refl _ _) (fun _ => rfl)
    (fun pre W => Holds 5 1 w.heap.size (.slice p n c) (n + pre.length) (u8s (l ++ pre)) w W)
    (fun _ _ _ => False)
    (ownFrom_holds (by omega) _ _ _ _ _ _)
    (fun _ _ _ _ _ hs _ _ => hs)
    hI0
    (fun k => { tmps := #[.slice p n c, .int .u64 x, .pointer (some ⟨w.heap.size, 0, none⟩), undef, .slice none 0 0, .int .u8 (k : Int), .int .u64 x, .func (.func 60) #[] #[.pointer (some ⟨w.heap.size + 1, 0, none⟩)], .int .u8 (k : Int), undef, undef, undef, undef, undef], defers := [] }) ?assign ?body ?done ?stop
  case assign =>
    intro l k W K hK
    simp only [List.zip_toArray, List.zip_cons_cons, List.zip_nil_right, List.foldl_toArray, List.foldl_cons, List.foldl_nil, List.setIfInBounds_toArray, List.set_cons_zero, List.set_cons_succ]
    gi_wp2
    exact hK
  case body =>
    rintro r pre k W ⟨v1, h1, h2, h3, h4, h5⟩ hlen
    have c0 : W.cell? ⟨w.heap.size, 0, none⟩ = some v1 := by rw [h1.cell]; rfl
    have f0 := h1.free 0
    have hb : (n + pre.length + 1) * 1 ≤ 140737488355328 ∧ n + pre.length + 1 ≤ maxLen := by unfold maxLen; omega
    have H2 := Lib.hid h2; have HB := Lib.hid hb
    obtain ⟨p1, c1, hv1⟩ := (Rd.of_owns h2).shape
    subst hv1
    clear h2 hb
    refine wpIn_block ?_
    refine wpIn_region_list ?_
    refine wpListIn_round not_letsOut_body _ _ _ (by simp) ?_
    go_wp2_with (at_builtin; refine wpList_push Tryd.elemU8 W #[.int .u8 (k : Int)] _ _ _ H2.out rfl (one_cell _ rfl) HB.out rfl _ _ rfl rfl rfl ?_)
    intro v2 w1 k1 k2 k3
    obtain ⟨q1, q2⟩ := Holds.pushed (Nat.le_refl _) h1 H2.out h3 h4 h5 k1 k2 k3
    have b1 := k2.blk h1 h4
    have c1' : w1.cell? ⟨w.heap.size, 0, none⟩ = some (.slice p1 (n + pre.length) c1) := by rw [b1.cell]; rfl
    have f1' := b1.free 0
    obtain ⟨p2, c2, hv2⟩ := (Rd.of_owns k1).shape
    subst hv2
    have Q1 := Lib.hid q1; have Q2 := Lib.hid q2
    clear k1 k2 k3 q1 q2
    go_wp2
    refine ⟨Q2.out.from _, Q2.out.walks, ?_⟩
    have q := Q1.out
    simpa [u8s, Nat.add_assoc] using q
  case done =>
    rintro D ys W hD rfl ⟨v1, h1, h2, h3, h4, h5⟩ hK
    have c0 : W.cell? ⟨w.heap.size, 0, none⟩ = some v1 := by rw [h1.cell]; rfl
    obtain ⟨p1, c1, hv1⟩ := (Rd.of_owns h2).shape
    subst hv1
    have H2 := Lib.hid h2; clear h2
    gi_wp2
    refine ⟨by simp, .inl ⟨_, _, rfl, run_takeDeferred hK, ?_⟩⟩
    refine ⟨_, results_tmp rfl _ _ _, ?_⟩
    exact ⟨.slice p1 (n + (groups x).length) c1, rfl, ⟨ownsRow_putObj H2.out _ hK rfl, h5.putObj (by omega) _, h3⟩⟩
  case stop =>
    rintro D c pre W _ _ h _
    exact h.elim
end Go.Proofs.YtkgghlhmgolfbaaDoor
