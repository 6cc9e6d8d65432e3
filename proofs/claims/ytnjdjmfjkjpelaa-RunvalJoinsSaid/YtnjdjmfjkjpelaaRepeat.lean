/- slices.Repeat of a list of one element. -/
import Derived.Test.YtnjdjmfjkjpelaaMul
import Derived.Test.YtnjdjmfjkjpelaaU64
import Derived.Test.YtnjdjmfjkjpelaaTakeR
import Derived.Test.YtnjdjmfjkjpelaaStruct
import Derived.Laws.CopyOwn
import Derived.OwnWalk
set_option linter.unusedVariables false
set_option maxRecDepth 20000
namespace Go.Proofs.Ytnjdjmfjkjpelaa
open Go Go.RowKit

/-- A row that is full of x up to k. -/
def filled (x n k : Nat) : List Value := List.replicate k (.int .u64 (x : Int)) ++ List.replicate (n - k) (.int .u64 0)
theorem filled_length {x n k : Nat} (h : k ≤ n) : (filled x n k).length = n := by simp [filled]; omega
theorem filled_copy {x n k m : Nat} (hk : k + m ≤ n) : (filled x n k).take k ++ (List.replicate m (.int .u64 (x : Int)) ++ (filled x n k).drop (k + m)) = filled x n (k + m) := by
  have h1 : (filled x n k).take k = List.replicate k (.int .u64 (x : Int)) := by
    rw [filled, List.take_append_of_le_length (by simp), List.take_of_length_le (by simp)]
  have h2 : (filled x n k).drop (k + m) = List.replicate (n - (k + m)) (.int .u64 0) := by
    rw [filled, List.drop_append, List.drop_of_length_le (by simp), List.nil_append, List.length_replicate, Nat.add_sub_cancel_left, List.drop_replicate]
    congr 1
    omega
  rw [h1, h2, ← List.append_assoc, List.replicate_append_replicate, filled]

theorem filled_copy2 {x n k m : Nat} (hk : k + m ≤ n) : (filled x n k).take k ++ (List.replicate m (Value.int .u64 (x : Int)) ++ (filled x n k).drop (k + (List.replicate m (Value.int .u64 (x : Int))).length)) = filled x n (k + m) := by
  rw [List.length_replicate]; exact filled_copy hk
theorem filled_all (x n : Nat) : filled x n n = u64s (List.replicate n x) := by simp [filled, u64s]
theorem exec_copy {P : Program} {w : World} {o : Oper} {a : Act} (d s : Operand) (dT sT : TypeId)
    (ho : o.op = .call { callee := .builtin .copy, args := #[d, s], argTypes := #[dT, sT] }) (elem : TypeId) (hu : P.underlying dT = some (.slice elem)) (hsz : (P.info? elem).map (·.size) = some 1)
    (g off dLen dCap : Nat) (ad : Addr) (sLen sCap : Nat) (hd : a.eval d = .slice (some ⟨g, off, none⟩) dLen dCap) (hs : a.eval s = .slice (some ad) sLen sCap)
    (cur : Array Value) (t : TypeId) (hg : w.heap[g]? = some (.cells cur t (0, 0))) (cs : List Value) (hn : cs.length = Nat.min sLen dLen)
    (hsrc : ∀ j v, cs[j]? = some v → w.cell? (ad.add j) = some v) (hfit : off + cs.length ≤ cur.size) (h1 : ∀ v ∈ cs, v.oneCell' = true) :
    (execOp a.eval o).run P w = .ok (.value (goInt cs.length)) (w.setRow g (cur.toList.take off ++ (cs ++ cur.toList.drop (off + cs.length))).toArray) := by
  have hrun := run_copy_row (P := P) w dT sT o.type elem g off dLen dCap ad sLen sCap cur t cs hu hsz hg hn hsrc hfit h1
  simp [execOp, ho, resolve, invoke, builtin, hd, hs, hrun, Result.andThen]
theorem row_of_full {w : World} {base g n : Nat} {t : TypeId} {xs : List Value} (h : w.ownsRow base t 1 (.slice (some ⟨g, 0, none⟩) n n) n xs) : w.heap[g]? = some (.cells xs.toArray t (0, 0)) := by
  rcases h.2 with ⟨e, _⟩ | ⟨g', cap, cur, e, _, hg, _, _, hs, ht⟩
  · cases e
  · simp only [Value.slice.injEq, Option.some.injEq, Addr.mk.injEq, and_true, true_and] at e
    obtain ⟨rfl, rfl⟩ := e
    rw [hg, ← ht, List.take_of_length_le (by simp [hs])]
theorem full_of_row {w : World} {base g n : Nat} {t : TypeId} {xs : List Value} (h : w.heap[g]? = some (.cells xs.toArray t (0, 0))) (hb : base ≤ g) (hl : xs.length = n) (hn : n ≤ maxLen) : w.ownsRow base t 1 (.slice (some ⟨g, 0, none⟩) n n) n xs :=
  ⟨by omega, Or.inr ⟨g, n, xs.toArray, rfl, hb, h, Nat.le_refl _, hn, by simp [hl], by simp [← hl]⟩⟩
theorem filled_cell {w : World} {g x n k j : Nat} {t : TypeId} (h : w.heap[g]? = some (.cells (filled x n k).toArray t (0, 0))) (hj : j < k) : w.cell? ⟨g, j, none⟩ = some (.int .u64 (x : Int)) := by
  rw [cell_of_row w g j _ t (0, 0) h]
  simp [filled, List.getElem?_append, hj]
theorem add_zero_off (g j : Nat) : (⟨g, 0, none⟩ : Addr).add j = ⟨g, j, none⟩ := by unfold Addr.add; split <;> simp_all
theorem below_row {B g : Nat} {w0 w : World} (hb : Below B w0 w) (hg : B ≤ g) (cs : Array Value) : Below B w0 (w.setRow g cs) :=
  hb.trans ⟨rfl, rfl, rfl, by simp [World.setRow], fun k hk => setRow_other w g k cs (by omega)⟩

set_option maxHeartbeats 2000000 in
theorem repeat_one (v : Value) (x n : Nat) (hn : n ≤ 100000) (w : World) (h : Rd w 1 v 1 (u64s [x])) :
    Calls Try.prog 14 #[v, .int .i64 (n : Int)] w fun e w' => ∃ r, e = .returned r ∧ Made w w' 29 1 r n (u64s (List.replicate n x)) := by
  obtain ⟨b, off, c, e, hm1, hm2, hcl⟩ := h.at (by simp [u64s])
  subst e
  have hc0 : w.cell? ⟨b, off, none⟩ = some (.int .u64 (x : Int)) := by have := hcl 0 (.int .u64 (x : Int)) rfl; simpa using this
  have hnn : ¬ (n : Int) < 0 := by omega
  have hni : (n : Int) ≤ 100000 := by omega
  have HM := Lib.hid (mul_one n (by omega) w)
  have HN : Hid (n ≤ 100000) := hn
  obtain ⟨i0, hi, hz0, hz1, hz2⟩ := info_parts Try.infoU64
  have HI := Lib.hid hi; have HZ := Lib.hid hz0; have HZ1 := Lib.hid hz1
  have HZ2 : Hid (i0.bytes * n ≤ 281474976710656 ∧ n ≤ maxLen) := by show _ ∧ _; unfold maxLen; rw [hz2]; omega
  have hwn : IntKind.u64.wrap (n : Int) = (n : Int) := by rw [IntKind.wrap_u64]; omega
  have hgt : ¬ (9223372036854775807 : Int) < (n : Int) := by omega
  have HCl := Lib.hid hcl
  clear hi hz0 hz1 hz2 hcl hn h
  go_enter Try.func14, Try.ntmps14
  go_wp2_with fail
  refine HM.out.mono ?_
  rintro e w2 ⟨rfl, rfl⟩
  go_wp2_with (refine wpList_make_full _ rfl _ _ _ rfl w.heap.size 29 i0 (.int .u64 0) 1 Try.underlying22 HI.out HZ.out HZ1.out _ _ _ _ n rfl rfl rfl rfl HZ2.out.1 HZ2.out.2 (Nat.le_refl _) ?_)
  intro w4 hown hgr
  have HR4 : Hid (w4.heap[w.heap.size]? = some (.cells (filled x n 0).toArray 29 (0, 0))) := by
    show _ = _
    rw [row_of_full hown]
    rw [toList_madeCells_one]
    rfl
  have hB4 : Below w.heap.size w w4 := (Mods.of_grown hgr).below (Nat.le_refl _) (fun k _ e => by cases e)
  have HB4 := Lib.hid hB4
  have hc4 : w4.cell? ⟨b, off, none⟩ = some (.int .u64 (x : Int)) := (hB4.cell (World.block_lt_of_cell? w _ hc0)).trans hc0
  have HC4 := Lib.hid hc4
  have HSz : Hid ((Try.prog.info? 29).map (·.size) = some 1) := by show _ = _; rw [HI.out]; simp [HZ1.out]
  clear hown hgr hB4 hc4 hc0
  by_cases h0 : n = 0
  · subst h0
    have hrun := run_copy_none (P := Try.prog) w4 22 22 3 29 (some ⟨w.heap.size, 0, none⟩) (some ⟨b, off, none⟩) 0 0 1 c Try.underlying22 HSz.out rfl
    go_wp2_with fail
    go_loop [8] (fun i => i = .int .i64 0) (fun _ => 0)
    case atStart => rfl
    case round =>
      subst hrel
      go_wp2_with fail
      go_ret
      exact ⟨_, rfl, full_of_row HR4.out (Nat.le_refl _) rfl (by unfold maxLen; omega), HB4.out⟩
  · have hpos : 0 < n := by omega
    have hrun := run_copy_row (P := Try.prog) w4 22 22 3 29 w.heap.size 0 n n ⟨b, off, none⟩ 1 c _ _ [.int .u64 (x : Int)] Try.underlying22 HSz.out HR4.out (by simp [Nat.min_def]; omega)
      (fun j v hj => by
        match j, hj with
        | 0, hj =>
          obtain rfl : Value.int .u64 (x : Int) = v := by simpa using hj
          have : (⟨b, off, none⟩ : Addr).add 0 = ⟨b, off, none⟩ := by unfold Addr.add; split <;> simp_all
          rw [this]; exact HC4.out) (by simp [filled_length (Nat.zero_le n)]; omega) (fun v hv => by rw [List.mem_singleton.1 hv]; rfl)
    have HPos := Lib.hid hpos
    clear h0 hpos
    generalize hw5 : w4.setRow _ _ = w5 at hrun
    have HR5 : Hid (w5.heap[w.heap.size]? = some (.cells (filled x n 1).toArray 29 (0, 0))) := by
      show _ = _
      rw [← hw5, setRow_heap w4 w.heap.size _ _ _ _ HR4.out]
      have := filled_copy2 (x := x) (n := n) (k := 0) (m := 1) (by have := HPos.out; omega)
      simp only [List.append_assoc]
      rw [show [Value.int IntKind.u64 (x : Int)] = List.replicate 1 (Value.int IntKind.u64 (x : Int)) from rfl, this]
    have HB5 : Hid (Below w.heap.size w w5) := by rw [← hw5]; exact below_row HB4.out (Nat.le_refl _) _
    clear hw5
    go_wp2_with fail
    go_loopw [8] (fun i wr => ∃ k : Nat, 1 ≤ k ∧ k ≤ n ∧ i = .int .i64 (k : Int) ∧ Hid (wr.heap[w.heap.size]? = some (.cells (filled x n k).toArray 29 (0, 0))) ∧ Hid (Below w.heap.size w wr)) (fun i _ => n - (intOf i).toNat)
    case atStart => exact ⟨1, by omega, HPos.out, rfl, HR5.out, HB5.out⟩
    case round =>
      obtain ⟨k, hk1, hkn, rfl, HRk, HBk⟩ := hrel
      by_cases hlt : k < n
      · have hlt' : (k : Int) < (n : Int) := by omega
        have HK : Hid (1 ≤ k ∧ k < n) := ⟨hk1, hlt⟩
        obtain ⟨m, hm⟩ : ∃ m, m = Nat.min k (n - k) := ⟨_, rfl⟩
        have HM1 : Hid (1 ≤ m ∧ k + m ≤ n ∧ m ≤ k) := by
          show _ ∧ _ ∧ _
          have h1 : m ≤ k := hm ▸ Nat.min_le_left _ _
          have h2 : m ≤ n - k := hm ▸ Nat.min_le_right _ _
          have h3 : 1 ≤ m := by rw [hm]; exact Nat.le_min.2 ⟨hk1, by omega⟩
          omega
        have HMin : Hid ((List.replicate m (Value.int .u64 (x : Int))).length = Nat.min k (n - k)) := by show _ = _; rw [List.length_replicate]; exact hm
        have HSl : Hid (sliced (some ⟨w.heap.size, 0, none⟩) k n n 1 = .slice (some ⟨w.heap.size, k, none⟩) (n - k) (n - k)) := by
          show _ = _
          unfold sliced
          rw [if_neg (by omega), Option.map_some, add_zero_off, Nat.mul_one]
        have HRd : Hid (wr.drew.heap[w.heap.size]? = some (.cells (filled x n k).toArray 29 (0, 0))) := HRk.out
        have HBd : Hid (Below w.heap.size w wr.drew) := HBk.out.trans ⟨rfl, rfl, rfl, Nat.le_refl _, fun _ _ => rfl⟩
        have HU : Hid (k ≤ n ∧ n ≤ n) := ⟨hkn, Nat.le_refl _⟩
        clear hlt hk1 hkn hm
        go_wp2_with fail
        refine wp_normal ?_
        refine wp_region_takeH (fun _ => True) [7] [0, 1, 2, 3, 4, 5, 6, 7, 8, 9] (by kernel_rfl) (by kernel_rfl) (by kernel_rfl) ?_ trivial ?_
        · intro c a a' w hd h; cases h.1
        simp only [taken, List.map_cons, List.map_nil, List.getElem?_cons_succ, List.getElem?_cons_zero, Option.getD_some]
        generalize wr.drew = wd at *
        refine takeH_blind rfl rfl ?_; apply Exists.intro; refine ⟨fun w => ?_, ?_⟩; (go_simp; try with_reducible rfl); simp only [Act.put, List.setIfInBounds_toArray, List.set_cons_succ, List.set_cons_zero]
        refine takeH_blind rfl rfl ?_; apply Exists.intro; refine ⟨fun w => ?_, ?_⟩; (go_simp; try with_reducible rfl); simp only [Act.put, List.setIfInBounds_toArray, List.set_cons_succ, List.set_cons_zero]
        refine takeH_blind rfl rfl ?_; apply Exists.intro; refine ⟨fun w => ?_, ?_⟩; (go_simp; try with_reducible rfl); simp only [Act.put, List.setIfInBounds_toArray, List.set_cons_succ, List.set_cons_zero]
        refine takeH_read rfl rfl (.slice (some ⟨w.heap.size, k, none⟩) (n - k) (n - k)) (fun w' _ => (exec_from Try.elemU64 w' (some ⟨w.heap.size, 0, none⟩) n n k HU.out.1 (.tmp 39) (.tmp 40) rfl rfl rfl).trans (by rw [HSl.out])) ?_
        simp only [Act.put, List.setIfInBounds_toArray, List.set_cons_succ, List.set_cons_zero]
        refine takeH_blind rfl rfl ?_; apply Exists.intro; refine ⟨fun w => ?_, ?_⟩; (go_simp; try with_reducible rfl); simp only [Act.put, List.setIfInBounds_toArray, List.set_cons_succ, List.set_cons_zero]
        refine takeH_blind rfl rfl ?_; apply Exists.intro; refine ⟨fun w => ?_, ?_⟩; (go_simp; try with_reducible rfl); simp only [Act.put, List.setIfInBounds_toArray, List.set_cons_succ, List.set_cons_zero]
        refine takeH_read rfl rfl (.slice (some ⟨w.heap.size, 0, none⟩) k n) (fun w' _ => exec_upto Try.elemU64 w' (some ⟨w.heap.size, 0, none⟩) n n k HU.out.1 HU.out.2 (.tmp 42) (.tmp 43) rfl rfl rfl) ?_
        simp only [Act.put, List.setIfInBounds_toArray, List.set_cons_succ, List.set_cons_zero]
        refine takeH_run rfl rfl (goInt (List.replicate m (Value.int .u64 (x : Int))).length) _ (exec_copy (.tmp 41) (.tmp 44) 22 22 rfl 29 Try.underlying22 HSz.out w.heap.size k (n - k) (n - k) ⟨w.heap.size, 0, none⟩ k n rfl rfl _ _ HRd.out (List.replicate m (.int .u64 (x : Int))) HMin.out (fun j v hj => ?_) ?_ (fun v hv => ?_)) trivial ?_
        · obtain ⟨hj1, hj2⟩ := List.getElem?_eq_some_iff.1 hj
          rw [List.length_replicate] at hj1
          rw [List.getElem_replicate] at hj2
          subst hj2
          rw [add_zero_off]
          exact filled_cell HRd.out (by have := HM1.out; omega)
        · rw [List.length_replicate]; simp [filled_length HU.out.1]; have := HM1.out; omega
        · rw [List.eq_of_mem_replicate hv]; rfl
        simp only [Act.put, List.setIfInBounds_toArray, List.set_cons_succ, List.set_cons_zero]
        have HRn : Hid ((wd.setRow w.heap.size ((filled x n k).toArray.toList.take k ++ (List.replicate m (Value.int .u64 (x : Int)) ++ (filled x n k).toArray.toList.drop (k + (List.replicate m (Value.int .u64 (x : Int))).length))).toArray).heap[w.heap.size]? = some (.cells (filled x n (k + m)).toArray 29 (0, 0))) := by
          show _ = _
          rw [setRow_heap wd w.heap.size _ _ _ _ HRd.out, filled_copy2 HM1.out.2.1]
        have HBn := Lib.hid (below_row HBd.out (Nat.le_refl _) ((filled x n k).toArray.toList.take k ++ (List.replicate m (Value.int .u64 (x : Int)) ++ (filled x n k).toArray.toList.drop (k + (List.replicate m (Value.int .u64 (x : Int))).length))).toArray)
        generalize wd.setRow w.heap.size _ = wn at *
        have hgi : goInt (List.replicate m (Value.int .u64 (x : Int))).length = .int .i64 (m : Int) := by rw [List.length_replicate]; rfl
        rw [hgi]
        have hmb : (m : Int) ≤ 100000 := by have := HM1.out; omega
        have hkb : (k : Int) ≤ 100000 := by have := HK.out; omega
        have hwk : IntKind.i64.wrap ((k : Int) + (m : Int)) = (k : Int) + (m : Int) := IntWalk.i64_in _ (by omega)
        have HWk := Lib.hid hwk
        clear hgi HRd HBd HRk HBk HMin HSl hwk
        repeat (first
        | (refine takeH_skip rfl ?_; simp only [Act.put, List.setIfInBounds_toArray, List.set_cons_succ, List.set_cons_zero])
        | (refine takeH_blind rfl rfl ?_; apply Exists.intro; refine ⟨fun w => ?_, ?_⟩; (go_simp; try with_reducible rfl); simp only [Act.put, List.setIfInBounds_toArray, List.set_cons_succ, List.set_cons_zero]))
        rw [HWk.out]
        refine takeH_nil ⟨rfl, ?_⟩
        go_wp2_with fail
        go_round
        case rel => exact ⟨k + m, by have := HM1.out; omega, HM1.out.2.1, by go_num, HRn.out, HBn.out⟩
        case measure => have := HM1.out; have := HK.out; simp [intOf]; omega
      · have hlt' : ¬ (k : Int) < (n : Int) := by omega
        obtain rfl : k = n := by omega
        go_wp2_with fail
        go_ret
        refine ⟨_, rfl, ?_, HBk.out⟩
        have h := HRk.out
        rw [filled_all] at h
        exact full_of_row h (Nat.le_refl _) (by simp [u64s]) (by have := HN.out; unfold maxLen; omega)
end Go.Proofs.Ytnjdjmfjkjpelaa
