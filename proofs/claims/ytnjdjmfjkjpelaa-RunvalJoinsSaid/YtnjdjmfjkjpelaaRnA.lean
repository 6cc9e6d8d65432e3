/- Layer 7: the first run of some values; the function that yields the runs. -/
import Derived.Test.YtnjdjmfjkjpelaaRunI
import Derived.Test.YtnjdjmfjkjpelaaRange
import Derived.Test.YtnjdjmfjkjpelaaStruct
set_option linter.unusedVariables false
namespace Go.Proofs.Ytnjdjmfjkjpelaa
open Go Go.RowKit Go.Shelf
attribute [local go_sem] Oper.semAt_some

/-- The first run of l: n times x. -/
structure HeadR (l : List Nat) (x n : Nat) : Prop where
  one : 1 ≤ n
  most : n ≤ 128
  le : n ≤ l.length
  all : l.take n = List.replicate n x
  stop : ∀ y, l[n]? = some y → ¬ (x = y ∧ n < 128)

theorem addR_front (ps rs : List (Nat × Nat)) (h : rs ≠ []) (x : Nat) : addR (ps ++ rs) x = ps ++ addR rs x ∧ addR rs x ≠ [] := by
  rcases cases_last rs with rfl | ⟨p, v, c, rfl⟩
  · exact absurd rfl h
  · rw [← List.append_assoc, addR_last, addR_last]
    split <;> simp
theorem splitFrom_front (ps : List (Nat × Nat)) (l : List Nat) : ∀ (rs : List (Nat × Nat)), rs ≠ [] → splitFrom (ps ++ rs) l = ps ++ splitFrom rs l := by
  induction l with
  | nil => intro rs _; rfl
  | cons x l ih =>
    intro rs h
    obtain ⟨h1, h2⟩ := addR_front ps rs h x
    show splitFrom (addR (ps ++ rs) x) l = ps ++ splitFrom (addR rs x) l
    rw [h1, ih _ h2]
theorem split_head {l : List Nat} {x n : Nat} (h : HeadR l x n) : splitR l = (x, n) :: splitR (l.drop n) := by
  have e : splitR l = splitFrom (splitFrom [] (l.take n)) (l.drop n) := by rw [← splitFrom_append, List.take_append_drop]; rfl
  obtain ⟨k, hk⟩ : ∃ k, n = k + 1 := ⟨n - 1, by have := h.one; omega⟩
  have e2 : splitFrom [] (l.take n) = [(x, n)] := by
    rw [h.all, hk, split_run [] x k (by have := h.most; omega) (fun _ _ e => by cases e)]; rfl
  rw [e, e2]
  cases hd : l.drop n with
  | nil => rfl
  | cons y r =>
    have hy : l[n]? = some y := by
      have : (l.drop n)[0]? = some y := by rw [hd]; rfl
      rwa [List.getElem?_drop] at this
    have ha : addR [(x, n)] y = [(x, n)] ++ [(y, 1)] := by
      rw [show [(x, n)] = [] ++ [(x, n)] from rfl, addR_last, if_neg (h.stop y hy)]
    show splitFrom (addR [(x, n)] y) r = (x, n) :: splitFrom (addR [] y) r
    rw [ha, splitFrom_front _ _ _ (by simp)]
    rfl

theorem strRun : Str Try.prog 31 2 [.int .u64 0, .int .i64 0] := Str.mk' Try.underlying31 rfl (by kernel_rfl) rfl

set_option maxRecDepth 20000 in
set_option maxHeartbeats 2000000 in
theorem firstRun_any (lv : Value) (l : List Nat) (w : World) (hl : Rd w 1 lv l.length (u64s l)) (hne : l ≠ []) :
    Calls Try.prog 44 #[lv] w fun e w' => ∃ x n, HeadR l x n ∧ e = .returned (.agg #[.int .u64 (x : Int), .int .i64 (n : Int)]) ∧ Below w.heap.size w w' := by
  obtain ⟨x0, tl, hx0⟩ := List.exists_cons_of_ne_nil hne
  obtain ⟨b, off, c, e, hnc, hncm, hcell⟩ := hl.at (by rw [hx0]; simp [u64s])
  subst e
  have HCl : Hid (∀ (i t : Nat), l[i]? = some t → w.cell? ⟨b, off + i, none⟩ = some (.int .u64 (t : Int))) := fun i t h => hcell i _ (by rw [u64s, List.getElem?_map, h]; rfl)
  have HLe := Lib.hid hl.le
  have hc0 : w.cell? ⟨b, off, none⟩ = some (.int .u64 (x0 : Int)) := by have := HCl.out 0 x0 (by rw [hx0]; rfl); simpa using this
  have HX : Hid (l[0]? = some x0) := by show _ = _; rw [hx0]; rfl
  have hpos : (0 : Int) < (l.length : Int) := by rw [hx0]; simp only [List.length_cons]; omega
  have hpos1 : 1 ≤ l.length := by omega
  have hlm : (l.length : Int) ≤ 9223372036854775807 := by have := HLe.out; unfold maxLen at this; omega
  clear hl hne hx0 hnc hncm hcell
  have HC0 := Lib.hid hc0
  clear hc0
  go_enter Try.func44, Try.ntmps44
  go_wp2_with fail
  obtain ⟨w1, hw1⟩ : ∃ w1, w.alloc (.cells #[.int .u64 0, .int .i64 0] 31) = w1 := ⟨_, rfl⟩
  have HK1 : Hid (Blk w1 w.heap.size [.int .u64 0, .int .i64 0]) := by rw [← hw1]; exact Blk.new w _ _
  have HB1 : Hid (Below w.heap.size w w1) := by rw [← hw1]; exact (Below.refl _ w).alloc (Nat.le_refl _) _
  rw [hw1]
  clear hw1
  go_loopw [3] (fun nv wr => ∃ (n : Nat), 1 ≤ n ∧ n ≤ l.length ∧ n ≤ 128 ∧ nv = .int .i64 (n : Int) ∧ Hid (l.take n = List.replicate n x0) ∧ Hid (Below w.heap.size w wr ∧ Blk wr w.heap.size [.int .u64 0, .int .i64 0])) (fun nv _ => l.length - (intOf nv).toNat)
  case atStart => exact ⟨1, Nat.le_refl _, hpos1, by omega, rfl, by
    show _ = _
    rw [List.take_one, List.head?_eq_getElem?, HX.out]; rfl, HB1.out, HK1.out⟩
  case round =>
    obtain ⟨n, h1, h2, h3, rfl, HA, HBK⟩ := hrel
    have hcw : wr.cell? ⟨b, off, none⟩ = some (.int .u64 (x0 : Int)) := (HBK.out.1.cell (World.block_lt_of_cell? w _ HC0.out)).trans HC0.out
    have hK0 : wr.cell? ⟨w.heap.size, 0, none⟩ = some (.int .u64 0) := by rw [HBK.out.2.cell]; rfl
    have hF0 := HBK.out.2.free 0
    have hK1 : wr.cell? ⟨w.heap.size, 1, none⟩ = some (.int .i64 0) := by rw [HBK.out.2.cell]; rfl
    have hF1 := HBK.out.2.free 1
    have hn128 : (n : Int) ≤ 128 := by omega
    by_cases hlt : n < l.length
    · have hlt' : (n : Int) < (l.length : Int) := by omega
      obtain ⟨y, hy⟩ : ∃ y, l[n]? = some y := ⟨_, List.getElem?_eq_getElem hlt⟩
      have hcn : wr.cell? ⟨b, off + n, none⟩ = some (.int .u64 (y : Int)) := (HBK.out.1.cell (p := ⟨b, off + n, none⟩) (World.block_lt_of_cell? w ⟨b, off + n, none⟩ (HCl.out n y hy))).trans (HCl.out n y hy)
      have HY := Lib.hid hy
      clear hy
      by_cases hm : n < 128
      · have hm' : (n : Int) < 128 := by omega
        by_cases he : y = x0
        · subst he
          go_wp2_with fail
          go_quiet (fail)
          have HBK2 : Hid (Below w.heap.size w (wr.drewN nq) ∧ Blk (wr.drewN nq) w.heap.size [.int .u64 0, .int .i64 0]) := ⟨HBK.out.1.trans ⟨rfl, rfl, rfl, Nat.le_refl _, fun _ _ => rfl⟩, HBK.out.2⟩
          have HA2 : Hid (l.take (n + 1) = List.replicate (n + 1) y) := by
            show _ = _
            rw [List.take_add_one, HY.out, HA.out, List.replicate_succ']; rfl
          clear HBK HA hcw hK0 hF0 hK1 hF1 hcn
          generalize wr.drewN nq = wn at *
          go_wp2_with fail
          go_round
          case rel => exact ⟨n + 1, by omega, by omega, by omega, by go_num, HA2.out, HBK2.out⟩
          case measure => simp [intOf]; omega
        · have hb1 : ((y : Int) == (x0 : Int)) = false := by rw [beq_eq_false_iff_ne]; omega
          have hb2 : ¬ (y : Int) = (x0 : Int) := by omega
          have HR : Hid (HeadR l x0 n) := ⟨h1, h3, h2, HA.out, fun z hz h => by rw [HY.out] at hz; cases hz; exact he h.1.symm⟩
          clear he
          go_wp2_with fail
          go_quiet (fail)
          have HBK2 : Hid (Below w.heap.size w (wr.drewN nq) ∧ Blk (wr.drewN nq) w.heap.size [.int .u64 0, .int .i64 0]) := ⟨HBK.out.1.trans ⟨rfl, rfl, rfl, Nat.le_refl _, fun _ _ => rfl⟩, HBK.out.2⟩
          have hcw2 : (wr.drewN nq).cell? ⟨b, off, none⟩ = some (.int .u64 (x0 : Int)) := hcw
          have hK02 : (wr.drewN nq).cell? ⟨w.heap.size, 0, none⟩ = some (.int .u64 0) := hK0
          have hF02 : (wr.drewN nq).frozen? ⟨w.heap.size, 0, none⟩ = false := hF0
          have hK12 : (wr.drewN nq).cell? ⟨w.heap.size, 1, none⟩ = some (.int .i64 0) := hK1
          have hF12 : (wr.drewN nq).frozen? ⟨w.heap.size, 1, none⟩ = false := hF1
          clear HBK HA hcw hK0 hF0 hK1 hF1 hcn
          generalize wr.drewN nq = wn at *
          go_wp2_with fail
          refine bodyPost_ret (resultsS (p := 2) strRun (by kernel_rfl) _ w.heap.size rfl [.int .u64 (x0 : Int), .int .i64 (n : Int)] ?_ rfl) rfl ⟨x0, n, HR.out, rfl, ?_⟩
          · simpa using (HBK2.out.2.set 0 (.int .u64 (x0 : Int))).set 1 (.int .i64 (n : Int))
          · exact HBK2.out.1.trans (((Mods.set (fun k => k = w.heap.size) wn ⟨w.heap.size, 0, none⟩ _ (fun _ => rfl)).trans (Mods.set (fun k => k = w.heap.size) _ ⟨w.heap.size, 1, none⟩ _ (fun _ => rfl)) (fun _ _ e => e)).below HBK2.out.1.size (fun j hj e => by omega))
      · have HR : Hid (HeadR l x0 n) := ⟨h1, h3, h2, HA.out, fun z hz h => hm h.2⟩
        obtain rfl : n = 128 := by omega
        have hd : decide ((128 : Int) < (l.length : Int)) = true := by simpa using hlt'
        go_wp2_with fail
        go_quiet (fail)
        have HBK2 : Hid (Below w.heap.size w (wr.drewN nq) ∧ Blk (wr.drewN nq) w.heap.size [.int .u64 0, .int .i64 0]) := ⟨HBK.out.1.trans ⟨rfl, rfl, rfl, Nat.le_refl _, fun _ _ => rfl⟩, HBK.out.2⟩
        have hcw2 : (wr.drewN nq).cell? ⟨b, off, none⟩ = some (.int .u64 (x0 : Int)) := hcw
        have hK02 : (wr.drewN nq).cell? ⟨w.heap.size, 0, none⟩ = some (.int .u64 0) := hK0
        have hF02 : (wr.drewN nq).frozen? ⟨w.heap.size, 0, none⟩ = false := hF0
        have hK12 : (wr.drewN nq).cell? ⟨w.heap.size, 1, none⟩ = some (.int .i64 0) := hK1
        have hF12 : (wr.drewN nq).frozen? ⟨w.heap.size, 1, none⟩ = false := hF1
        clear HBK HA hcw hK0 hF0 hK1 hF1 hcn
        generalize wr.drewN nq = wn at *
        go_wp2_with fail
        refine bodyPost_ret (resultsS (p := 2) strRun (by kernel_rfl) _ w.heap.size rfl [.int .u64 (x0 : Int), .int .i64 ((128 : Nat) : Int)] ?_ rfl) rfl ⟨x0, 128, HR.out, rfl, ?_⟩
        · simpa using (HBK2.out.2.set 0 (.int .u64 (x0 : Int))).set 1 (.int .i64 ((128 : Nat) : Int))
        · exact HBK2.out.1.trans (((Mods.set (fun k => k = w.heap.size) wn ⟨w.heap.size, 0, none⟩ _ (fun _ => rfl)).trans (Mods.set (fun k => k = w.heap.size) _ ⟨w.heap.size, 1, none⟩ _ (fun _ => rfl)) (fun _ _ e => e)).below HBK2.out.1.size (fun j hj e => by omega))
    · have hlt' : ¬ (n : Int) < (l.length : Int) := by omega
      have HR : Hid (HeadR l x0 n) := ⟨h1, h3, h2, HA.out, fun z hz h => by rw [List.getElem?_eq_none (by omega)] at hz; cases hz⟩
      go_wp2_with fail
      go_quiet (fail)
      have HBK2 : Hid (Below w.heap.size w (wr.drewN nq) ∧ Blk (wr.drewN nq) w.heap.size [.int .u64 0, .int .i64 0]) := ⟨HBK.out.1.trans ⟨rfl, rfl, rfl, Nat.le_refl _, fun _ _ => rfl⟩, HBK.out.2⟩
      have hcw2 : (wr.drewN nq).cell? ⟨b, off, none⟩ = some (.int .u64 (x0 : Int)) := hcw
      have hK02 : (wr.drewN nq).cell? ⟨w.heap.size, 0, none⟩ = some (.int .u64 0) := hK0
      have hF02 : (wr.drewN nq).frozen? ⟨w.heap.size, 0, none⟩ = false := hF0
      have hK12 : (wr.drewN nq).cell? ⟨w.heap.size, 1, none⟩ = some (.int .i64 0) := hK1
      have hF12 : (wr.drewN nq).frozen? ⟨w.heap.size, 1, none⟩ = false := hF1
      clear HBK HA hcw hK0 hF0 hK1 hF1
      generalize wr.drewN nq = wn at *
      go_wp2_with fail
      refine bodyPost_ret (resultsS (p := 2) strRun (by kernel_rfl) _ w.heap.size rfl [.int .u64 (x0 : Int), .int .i64 (n : Int)] ?_ rfl) rfl ⟨x0, n, HR.out, rfl, ?_⟩
      · simpa using (HBK2.out.2.set 0 (.int .u64 (x0 : Int))).set 1 (.int .i64 (n : Int))
      · exact HBK2.out.1.trans (((Mods.set (fun k => k = w.heap.size) wn ⟨w.heap.size, 0, none⟩ _ (fun _ => rfl)).trans (Mods.set (fun k => k = w.heap.size) _ ⟨w.heap.size, 1, none⟩ _ (fun _ => rfl)) (fun _ _ e => e)).below HBK2.out.1.size (fun j hj e => by omega))
end Go.Proofs.Ytnjdjmfjkjpelaa
